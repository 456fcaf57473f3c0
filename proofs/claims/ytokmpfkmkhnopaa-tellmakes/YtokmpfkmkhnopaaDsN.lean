/- Walks of desc.Name and of the document's own, and of what tells the signs. -/
import Derived.Test.YtokmpfkmkhnopaaDsA
namespace Go.Proofs.Ytokmpfkmkhnopaa
open Go.RowKit

theorem nm_long {l : List UInt8} (h : 64 < l.length) : D.nm l = false := by
  unfold D.nm
  have : decide (l.length ≤ 64) = false := by simp; omega
  rw [this]; simp
theorem nm_bad {l : List UInt8} {j : Nat} {c : UInt8} (h : l[j]? = some c) (hc : D.vis c = false) : D.nm l = false := by
  unfold D.nm
  have : l.all D.vis = false := by
    rw [List.all_eq_false]
    exact ⟨c, List.mem_of_getElem? h, by simp [hc]⟩
  rw [this]; simp
theorem nm_good {l : List UInt8} (h0 : l ≠ []) (h1 : l.length ≤ 64) (h : ∀ c ∈ l, D.vis c = true) : D.nm l = true := by
  unfold D.nm
  have e1 : 1 ≤ l.length := List.length_pos_iff.2 h0
  have e2 : l.all D.vis = true := List.all_eq_true.2 h
  rw [e2]; simp [h1, e1]
theorem vis_yes {c : UInt8} (h : D.vis c = true) : 33 ≤ c.toNat ∧ c.toNat ≤ 126 := of_decide_eq_true h
theorem vis_no {c : UInt8} (h : D.vis c = false) : ¬ (33 ≤ c.toNat ∧ c.toNat ≤ 126) := of_decide_eq_false h
theorem take_vis {l : List UInt8} {k : Nat} {c : UInt8} (h : l[k]? = some c) (hd : ∀ d ∈ l.take k, D.vis d = true) (hc : D.vis c = true) : ∀ d ∈ l.take (k + 1), D.vis d = true := by
  intro d hm
  rw [List.take_add_one, h] at hm
  rcases List.mem_append.1 hm with h1 | h1
  · exact hd d h1
  · have : d = c := by simpa using h1
    rw [this]; exact hc

set_option maxHeartbeats 800000 in
theorem name_any (l : List UInt8) (hl : l.length ≤ maxLen) (w : World) :
    Calls Try.prog 47 #[.string ⟨l.toArray⟩] w fun e w' => e = .returned (.bool (D.nm l)) ∧ Below w.heap.size w w' := by
  unfold maxLen at hl
  cases l with
  | nil =>
    go_enter Try.func47, Try.ntmps47
    go_wp2
    go_ret
    exact ret_b (by decide) (Below.refl _ _)
  | cons c0 l0 =>
    obtain ⟨l, hL⟩ : ∃ l, l = c0 :: l0 := ⟨_, rfl⟩
    rw [← hL] at hl ⊢
    have hne : l.isEmpty = false := by rw [hL]; rfl
    have hne2 : ¬ l = [] := by rw [hL]; simp
    clear hL
    have hsz := str_size l
    by_cases hlen : l.length ≤ 64
    · have HLN := Lib.hid hlen
      obtain ⟨L, hLI⟩ : ∃ L : Nat, l.length = L := ⟨_, rfl⟩
      have hl9 : L ≤ 64 := by omega
      rw [hLI] at hsz
      obtain ⟨W, cap, hcv, hbw, hcell⟩ := bytes_of l w
      rw [hLI] at hcv
      have HB := Lib.hid hbw
      have HC := Lib.hid hcell
      have HL := Lib.hid hLI
      clear hbw hcell hl hlen hLI
      go_enter Try.func47, Try.ntmps47
      go_wp2
      go_loop [15] (fun i => ∃ (k : Nat), k ≤ L ∧ i = .int .i64 (k : Int) ∧ Hid (∀ d ∈ l.take k, D.vis d = true)) (fun i => L - (intOf i).toNat)
      case atStart => exact ⟨0, Nat.zero_le _, rfl, by show ∀ _, _; simp⟩
      case round =>
        obtain ⟨k, hk, rfl, HD⟩ := hrel
        by_cases hlt : k < L
        · obtain ⟨c, hc⟩ : ∃ c, l[k]? = some c := ⟨l[k]'(by have := HL.out; omega), List.getElem?_eq_getElem _⟩
          have hcl := HC.out k c hc
          have hub := c.toNat_lt
          have HCC := Lib.hid hc
          obtain ⟨z, hz⟩ : ∃ z : Int, (c.toNat : Int) = z := ⟨_, rfl⟩
          rw [hz] at hcl
          have hz0 : 0 ≤ z := by omega
          have hz1 : z < 256 := by omega
          clear hc
          cases hd : D.vis c
          · have hno := vis_no hd
            have E := Lib.hid (nm_bad HCC.out hd)
            have h3 : z < 33 ∨ (¬ z < 33 ∧ 126 < z) := by omega
            clear hd hno hz hub
            rcases h3 with h3 | ⟨h3, h4⟩
            all_goals
              go_wp2
              go_ret
              exact ret_b E.out.symm HB.out
          · obtain ⟨h1, h2⟩ := vis_yes hd
            have HD2 := Lib.hid (take_vis HCC.out HD.out hd)
            have h3 : ¬ z < 33 := by omega
            have h4 : ¬ 126 < z := by omega
            clear hd h1 h2 hz hub
            go_wp2
            go_round
            case rel => exact ⟨k + 1, by omega, by go_num, HD2.out⟩
            case measure => simp [intOf]; omega
        · have E := Lib.hid (nm_good hne2 HLN.out (by
            have h1 := HD.out; have h2 := HL.out
            rw [List.take_of_length_le (by omega)] at h1
            exact h1))
          go_wp2
          go_ret
          exact ret_b E.out.symm HB.out
    · have E := Lib.hid (nm_long (l := l) (by omega))
      go_enter Try.func47, Try.ntmps47
      go_wp2
      go_ret
      exact ret_b E.out.symm (Below.refl _ _)

set_option maxHeartbeats 800000 in
theorem rname_any (l : List UInt8) (hl : l.length ≤ maxLen) (w : World) :
    Calls Try.prog 29 #[.string ⟨l.toArray⟩] w fun e w' => e = .returned (.bool (D.nm l)) ∧ w' = w := by
  unfold maxLen at hl
  cases l with
  | nil =>
    go_enter Try.func29, Try.ntmps29
    go_wp2
    go_ret
    exact ret_b (by decide) rfl
  | cons c0 l0 =>
    obtain ⟨l, hL⟩ : ∃ l, l = c0 :: l0 := ⟨_, rfl⟩
    rw [← hL] at hl ⊢
    have hne2 : ¬ l = [] := by rw [hL]; simp
    have hpos : 1 ≤ l.length := by rw [hL]; simp
    clear hL
    have hsz := str_size l
    by_cases hlen : l.length ≤ 64
    · have HLN := Lib.hid hlen
      obtain ⟨L, hLI⟩ : ∃ L : Nat, l.length = L := ⟨_, rfl⟩
      have hl9 : L ≤ 64 := by omega
      have hl1 : 1 ≤ L := by omega
      rw [hLI] at hsz
      have HL := Lib.hid hLI
      clear hl hlen hLI hpos
      go_enter Try.func29, Try.ntmps29
      go_wp2
      go_loop [3] (fun i => ∃ (k : Nat), k ≤ L ∧ i = .int .i64 (k : Int) ∧ Hid (∀ d ∈ l.take k, D.vis d = true)) (fun i => L - (intOf i).toNat)
      case atStart => exact ⟨0, Nat.zero_le _, rfl, by show ∀ _, _; simp⟩
      case round =>
        obtain ⟨k, hk, rfl, HD⟩ := hrel
        by_cases hlt : k < L
        · obtain ⟨c, hc⟩ : ∃ c, l[k]? = some c := ⟨l[k]'(by have := HL.out; omega), List.getElem?_eq_getElem _⟩
          have hub := c.toNat_lt
          have HCC := Lib.hid hc
          have hkL : k < (⟨l.toArray⟩ : ByteArray).size := by omega
          obtain ⟨z, hz⟩ : ∃ z : Int, (c.toNat : Int) = z := ⟨_, rfl⟩
          have hi := at_z hc hz hkL
          have hz0 : 0 ≤ z := by omega
          have hz1 : z < 256 := by omega
          clear hc
          cases hd : D.vis c
          · have hno := vis_no hd
            have E := Lib.hid (nm_bad HCC.out hd)
            have h3 : z < 33 ∨ (¬ z < 33 ∧ 126 < z) := by omega
            clear hd hno hz hub
            rcases h3 with h3 | ⟨h3, h4⟩
            all_goals
              go_wp2
              go_ret
              exact ret_b E.out.symm rfl
          · obtain ⟨h1, h2⟩ := vis_yes hd
            have HD2 := Lib.hid (take_vis HCC.out HD.out hd)
            have h3 : ¬ z < 33 := by omega
            have h4 : ¬ 126 < z := by omega
            clear hd h1 h2 hz hub
            go_wp2
            go_round
            case rel => exact ⟨k + 1, by omega, by go_num, HD2.out⟩
            case measure => simp [intOf]; omega
        · have E := Lib.hid (nm_good hne2 HLN.out (by
            have h1 := HD.out; have h2 := HL.out
            rw [List.take_of_length_le (by omega)] at h1
            exact h1))
          go_wp2
          go_ret
          exact ret_b E.out.symm rfl
    · have E := Lib.hid (nm_long (l := l) (by omega))
      have hb : decide ((64 : Int) < (l.length : Int)) = true := by simp; omega
      go_enter Try.func29, Try.ntmps29
      go_wp2
      go_ret
      exact ret_b E.out.symm rfl

end Go.Proofs.Ytokmpfkmkhnopaa
