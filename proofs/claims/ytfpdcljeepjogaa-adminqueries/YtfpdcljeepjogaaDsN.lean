/- Walks of desc.Name and of the document's own, and of what tells the signs. -/
import Derived.Test.YtfpdcljeepjogaaDsA
namespace Go.Proofs.Ytfpdcljeepjogaa
open Go.RowKit

theorem nm_long {l : List UInt8} (h : 64 < l.length) : D.nm l = false := by
  unfold D.nm
  have : decide (l.length ≤ 64) = false := by simp; omega
  rw [this]; simp
theorem nm_bad {l : List UInt8} {j : Nat} {c : UInt8} (h : l[j]? = some c) (hc : D.vis c = false) : D.nm l = false := by
  unfold D.nm
  have : l.all D.vis = false := by
    rw [List.all_eq_false]
    exact ⟨c, List.mem_of_getElem? h, by simp [hc]⟩
  rw [this]; simp
theorem nm_good {l : List UInt8} (h0 : l ≠ []) (h1 : l.length ≤ 64) (h : ∀ c ∈ l, D.vis c = true) : D.nm l = true := by
  unfold D.nm
  have e1 : 1 ≤ l.length := List.length_pos_iff.2 h0
  have e2 : l.all D.vis = true := List.all_eq_true.2 h
  rw [e2]; simp [h1, e1]
theorem vis_yes {c : UInt8} (h : D.vis c = true) : 33 ≤ c.toNat ∧ c.toNat ≤ 126 := of_decide_eq_true h
theorem vis_no {c : UInt8} (h : D.vis c = false) : ¬ (33 ≤ c.toNat ∧ c.toNat ≤ 126) := of_decide_eq_false h
theorem take_vis {l : List UInt8} {k : Nat} {c : UInt8} (h : l[k]? = some c) (hd : ∀ d ∈ l.take k, D.vis d = true) (hc : D.vis c = true) : ∀ d ∈ l.take (k + 1), D.vis d = true := by
  intro d hm
  rw [List.take_add_one, h] at hm
  rcases List.mem_append.1 hm with h1 | h1
  · exact hd d h1
  · have : d = c := by simpa using h1
    rw [this]; exact hc

end Go.Proofs.Ytfpdcljeepjogaa
