/- A text's bytes; what Parse told, laid in two variables. -/
import Derived.Test.YthhngkoopaolkaaGreatDoorDcAw
namespace Go.Proofs.YthhngkoopaolkaaGreatDoor
open Go.RowKit

/-- '[]byte(s)': what it reads as. -/
theorem conv_text (l : List UInt8) (hl : l.length ≤ 9223372036854775807) (w : World) : ∃ (W : World) (v : Value), (convert 9 22 (.string ⟨l.toArray⟩)).run Tryz.prog w = .ok v W ∧ Below w.heap.size w W ∧ Rdv W v (bv l) := by
  have h := Lib.run_convert_string_bytes (P := Tryz.prog) w 9 22 5 ⟨l.toArray⟩ (u := .string) Tryz.underlying9 Tryz.underlying22 Tryz.underlying5
  rw [str_size] at h
  refine ⟨_, _, h, ⟨rfl, rfl, rfl, ?_, ?_⟩, ?_⟩
  · rw [Lib.bytesWorld_size]; omega
  · intro j hj
    exact Lib.bytesWorld_at_old _ _ _ _ hj
  · refine ⟨some ⟨w.heap.size, 0, none⟩, _, by rw [bv_len], by rw [bv_len]; exact grownCap_ge _ _ _ _, grownCap_le_maxLen _ _ _ _ (by unfold maxLen; omega), (by intro h; cases h), fun j u hu => ⟨_, rfl, ?_⟩⟩
    rw [Addr.add_lit, Nat.zero_add]
    have hj : j < l.length := by
      have := (List.getElem?_eq_some_iff.1 hu).1
      rwa [bv_len] at this
    rw [bv_get hj] at hu
    have := Lib.bytesWorld_cell w 5 ⟨l.toArray⟩ j (by rw [str_size]; exact hj)
    rw [this, ← hu]
    simp [List.getD, hj]
/-- What Parse told, laid in two variables. -/
theorem two_vars (w : World) (x f g : Value) : Str ((w.alloc (.cells #[x] 26)).alloc (.cells #[f, g] 28)) w.heap.size 26 #[x] ∧ Str ((w.alloc (.cells #[x] 26)).alloc (.cells #[f, g] 28)) (w.heap.size + 1) 28 #[f, g] ∧ Below w.heap.size w ((w.alloc (.cells #[x] 26)).alloc (.cells #[f, g] 28)) := by
  have b1 := below_alloc w (.cells #[x] 26)
  have b2 := below_alloc (w.alloc (.cells #[x] 26)) (.cells #[f, g] 28)
  have s2 := Str.new (w.alloc (.cells #[x] 26)) 28 #[f, g]
  rw [bx_size] at s2
  exact ⟨(Str.new w 26 #[x]).below b2, s2, below_trans b1 b2⟩
end Go.Proofs.YthhngkoopaolkaaGreatDoor
