/- The walk of desc.isPlain. -/
import Derived.Test.YtepnjhhpnabpnaaDoorDsN
import Derived.Laws.Rows
namespace Go.Proofs.YtepnjhhpnabpnaaDoor
open Go.RowKit

theorem plain_cells (w : World) (h : PlainIs w) : w.cell? ⟨0, 0, none⟩ = some (.int .u8 97) ∧ w.cell? ⟨0, 1, none⟩ = some (.int .u8 122) ∧ w.cell? ⟨0, 2, none⟩ = some (.int .u8 65) ∧ w.cell? ⟨0, 3, none⟩ = some (.int .u8 90) ∧ w.cell? ⟨0, 4, none⟩ = some (.int .u8 48) ∧ w.cell? ⟨0, 5, none⟩ = some (.int .u8 57) ∧ w.cell? ⟨0, 6, none⟩ = some (.int .u8 45) ∧ w.cell? ⟨0, 7, none⟩ = some (.int .u8 45) ∧ w.cell? ⟨0, 8, none⟩ = some (.int .u8 95) ∧ w.cell? ⟨0, 9, none⟩ = some (.int .u8 95) ∧ w.cell? ⟨0, 10, none⟩ = some (.int .u8 46) ∧ w.cell? ⟨0, 11, none⟩ = some (.int .u8 46) ∧ w.cell? ⟨0, 12, none⟩ = some (.int .u8 47) ∧ w.cell? ⟨0, 13, none⟩ = some (.int .u8 47) ∧ w.cell? ⟨0, 14, none⟩ = some (.int .u8 58) ∧ w.cell? ⟨0, 15, none⟩ = some (.int .u8 58) := by
  obtain ⟨t, fr, hb⟩ := h.block
  refine ⟨?_, ?_, ?_, ?_, ?_, ?_, ?_, ?_, ?_, ?_, ?_, ?_, ?_, ?_, ?_, ?_⟩ <;> rw [cell_of_row w _ _ _ t fr hb] <;> rfl
@[go_sem] theorem span_at0 (w : World) : (Instr.index 64 (.agg #[.int .u8 97, .int .u8 122, .int .u8 65, .int .u8 90, .int .u8 48, .int .u8 57, .int .u8 45, .int .u8 45, .int .u8 95, .int .u8 95, .int .u8 46, .int .u8 46, .int .u8 47, .int .u8 47, .int .u8 58, .int .u8 58]) (.int .i64 0)).run Tryd.prog w = .ok (.agg #[.int .u8 97, .int .u8 122]) w := by kernel_rfl
@[go_sem] theorem span_at1 (w : World) : (Instr.index 64 (.agg #[.int .u8 97, .int .u8 122, .int .u8 65, .int .u8 90, .int .u8 48, .int .u8 57, .int .u8 45, .int .u8 45, .int .u8 95, .int .u8 95, .int .u8 46, .int .u8 46, .int .u8 47, .int .u8 47, .int .u8 58, .int .u8 58]) (.int .i64 1)).run Tryd.prog w = .ok (.agg #[.int .u8 65, .int .u8 90]) w := by kernel_rfl
@[go_sem] theorem span_at2 (w : World) : (Instr.index 64 (.agg #[.int .u8 97, .int .u8 122, .int .u8 65, .int .u8 90, .int .u8 48, .int .u8 57, .int .u8 45, .int .u8 45, .int .u8 95, .int .u8 95, .int .u8 46, .int .u8 46, .int .u8 47, .int .u8 47, .int .u8 58, .int .u8 58]) (.int .i64 2)).run Tryd.prog w = .ok (.agg #[.int .u8 48, .int .u8 57]) w := by kernel_rfl
@[go_sem] theorem span_at3 (w : World) : (Instr.index 64 (.agg #[.int .u8 97, .int .u8 122, .int .u8 65, .int .u8 90, .int .u8 48, .int .u8 57, .int .u8 45, .int .u8 45, .int .u8 95, .int .u8 95, .int .u8 46, .int .u8 46, .int .u8 47, .int .u8 47, .int .u8 58, .int .u8 58]) (.int .i64 3)).run Tryd.prog w = .ok (.agg #[.int .u8 45, .int .u8 45]) w := by kernel_rfl
@[go_sem] theorem span_at4 (w : World) : (Instr.index 64 (.agg #[.int .u8 97, .int .u8 122, .int .u8 65, .int .u8 90, .int .u8 48, .int .u8 57, .int .u8 45, .int .u8 45, .int .u8 95, .int .u8 95, .int .u8 46, .int .u8 46, .int .u8 47, .int .u8 47, .int .u8 58, .int .u8 58]) (.int .i64 4)).run Tryd.prog w = .ok (.agg #[.int .u8 95, .int .u8 95]) w := by kernel_rfl
@[go_sem] theorem span_at5 (w : World) : (Instr.index 64 (.agg #[.int .u8 97, .int .u8 122, .int .u8 65, .int .u8 90, .int .u8 48, .int .u8 57, .int .u8 45, .int .u8 45, .int .u8 95, .int .u8 95, .int .u8 46, .int .u8 46, .int .u8 47, .int .u8 47, .int .u8 58, .int .u8 58]) (.int .i64 5)).run Tryd.prog w = .ok (.agg #[.int .u8 46, .int .u8 46]) w := by kernel_rfl
@[go_sem] theorem span_at6 (w : World) : (Instr.index 64 (.agg #[.int .u8 97, .int .u8 122, .int .u8 65, .int .u8 90, .int .u8 48, .int .u8 57, .int .u8 45, .int .u8 45, .int .u8 95, .int .u8 95, .int .u8 46, .int .u8 46, .int .u8 47, .int .u8 47, .int .u8 58, .int .u8 58]) (.int .i64 6)).run Tryd.prog w = .ok (.agg #[.int .u8 47, .int .u8 47]) w := by kernel_rfl
@[go_sem] theorem span_at7 (w : World) : (Instr.index 64 (.agg #[.int .u8 97, .int .u8 122, .int .u8 65, .int .u8 90, .int .u8 48, .int .u8 57, .int .u8 45, .int .u8 45, .int .u8 95, .int .u8 95, .int .u8 46, .int .u8 46, .int .u8 47, .int .u8 47, .int .u8 58, .int .u8 58]) (.int .i64 7)).run Tryd.prog w = .ok (.agg #[.int .u8 58, .int .u8 58]) w := by kernel_rfl
/-- The k-th row of signs. -/
def inRow (k : Nat) (c : UInt8) : Bool :=
  match k with
  | 0 => decide (97 ≤ c.toNat ∧ c.toNat ≤ 122)
  | 1 => decide (65 ≤ c.toNat ∧ c.toNat ≤ 90)
  | 2 => decide (48 ≤ c.toNat ∧ c.toNat ≤ 57)
  | 3 => decide (45 ≤ c.toNat ∧ c.toNat ≤ 45)
  | 4 => decide (95 ≤ c.toNat ∧ c.toNat ≤ 95)
  | 5 => decide (46 ≤ c.toNat ∧ c.toNat ≤ 46)
  | 6 => decide (47 ≤ c.toNat ∧ c.toNat ≤ 47)
  | _ => decide (58 ≤ c.toNat ∧ c.toNat ≤ 58)
theorem pl_in {k : Nat} {c : UInt8} (h : inRow k c = true) : D.pl c = true := by
  unfold D.pl
  simp only [Bool.or_eq_true, decide_eq_true_eq]
  unfold inRow at h
  split at h <;> simp only [decide_eq_true_eq] at h <;> omega
theorem pl_out {c : UInt8} (h : ∀ j < 8, inRow j c = false) : D.pl c = false := by
  have h0 := h 0 (by omega); have h1 := h 1 (by omega); have h2 := h 2 (by omega); have h3 := h 3 (by omega); have h4 := h 4 (by omega); have h5 := h 5 (by omega); have h6 := h 6 (by omega); have h7 := h 7 (by omega)
  simp only [inRow, decide_eq_false_iff_not] at h0 h1 h2 h3 h4 h5 h6 h7
  unfold D.pl
  simp only [Bool.or_eq_false_iff, decide_eq_false_iff_not]
  omega
theorem rows_more {k : Nat} {c : UInt8} (h : ∀ j < k, inRow j c = false) (hk : inRow k c = false) : ∀ j < k + 1, inRow j c = false := by
  intro j hj
  by_cases e : j = k
  · rw [e]; exact hk
  · exact h j (by omega)

set_option maxHeartbeats 2000000 in
theorem isPlain_any (c : UInt8) (w : World) (hp : PlainIs w) :
    Calls Tryd.prog 28 #[.int .u8 (c.toNat : Int)] w fun e w' => e = .returned (.bool (D.pl c)) ∧ Below w.heap.size w w' := by
  obtain ⟨q0, q1, q2, q3, q4, q5, q6, q7, q8, q9, q10, q11, q12, q13, q14, q15⟩ := plain_cells w hp
  have hc := c.toNat_lt
  obtain ⟨z, hz⟩ : ∃ z : Int, (c.toNat : Int) = z := ⟨_, rfl⟩
  have hz0 : 0 ≤ z := by omega
  have hz1 : z < 256 := by omega
  have HZ := Lib.hid hz
  rw [hz]
  clear hp hz hc
  go_enter Tryd.func28, Tryd.ntmps28
  go_wp2
  go_loopw [6] (fun i wr => ∃ (k : Nat), k ≤ 8 ∧ i = .int .i64 (k : Int) ∧ Hid (Below w.heap.size w wr) ∧ Hid (∀ j < k, inRow j c = false)) (fun i _ => 8 - (intOf i).toNat)
  case atStart => exact ⟨0, Nat.zero_le _, rfl, Below.refl _ _, fun _ h => absurd h (Nat.not_lt_zero _)⟩
  case round =>
    obtain ⟨k, hk, rfl, HB, HI⟩ := hrel
    clear q0 q1 q2 q3 q4 q5 q6 q7 q8 q9 q10 q11 q12 q13 q14 q15
    by_cases h8 : k = 8
    · subst h8
      have E := Lib.hid (pl_out HI.out)
      go_wp2
      go_ret
      exact ret_b E.out.symm HB.out
    · have hk7 : k = 0 ∨ k = 1 ∨ k = 2 ∨ k = 3 ∨ k = 4 ∨ k = 5 ∨ k = 6 ∨ k = 7 := by omega
      have HIK := fun (hin : inRow k c = false) => rows_more HI.out hin
      have HYK := fun (hin : inRow k c = true) => pl_in hin
      have hzz := HZ.out
      rcases hk7 with rfl | rfl | rfl | rfl | rfl | rfl | rfl | rfl
      · by_cases hin : 97 ≤ c.toNat ∧ c.toNat ≤ 122
        · have E := Lib.hid (HYK (decide_eq_true hin))
          have h3 : 97 ≤ z := by omega
          have h4 : z ≤ 122 := by omega
          clear hin HIK HYK hzz
          go_wp2
          go_ret
          exact ret_b E.out.symm (HB.out.trans ((below_alloc wr _).mono HB.out.size))
        · have HI2 := Lib.hid (HIK (decide_eq_false hin))
          have h3 : ¬ 97 ≤ z ∨ (97 ≤ z ∧ ¬ z ≤ 122) := by omega
          clear hin HIK HYK hzz
          rcases h3 with h3 | ⟨h3, h4⟩
          all_goals
            go_wp2
            go_roundw
            case rel => exact ⟨1, by omega, rfl, HB.out.trans ((below_alloc wr _).mono HB.out.size), HI2.out⟩
            case measure => simp [intOf]
      · by_cases hin : 65 ≤ c.toNat ∧ c.toNat ≤ 90
        · have E := Lib.hid (HYK (decide_eq_true hin))
          have h3 : 65 ≤ z := by omega
          have h4 : z ≤ 90 := by omega
          clear hin HIK HYK hzz
          go_wp2
          go_ret
          exact ret_b E.out.symm (HB.out.trans ((below_alloc wr _).mono HB.out.size))
        · have HI2 := Lib.hid (HIK (decide_eq_false hin))
          have h3 : ¬ 65 ≤ z ∨ (65 ≤ z ∧ ¬ z ≤ 90) := by omega
          clear hin HIK HYK hzz
          rcases h3 with h3 | ⟨h3, h4⟩
          all_goals
            go_wp2
            go_roundw
            case rel => exact ⟨2, by omega, rfl, HB.out.trans ((below_alloc wr _).mono HB.out.size), HI2.out⟩
            case measure => simp [intOf]
      · by_cases hin : 48 ≤ c.toNat ∧ c.toNat ≤ 57
        · have E := Lib.hid (HYK (decide_eq_true hin))
          have h3 : 48 ≤ z := by omega
          have h4 : z ≤ 57 := by omega
          clear hin HIK HYK hzz
          go_wp2
          go_ret
          exact ret_b E.out.symm (HB.out.trans ((below_alloc wr _).mono HB.out.size))
        · have HI2 := Lib.hid (HIK (decide_eq_false hin))
          have h3 : ¬ 48 ≤ z ∨ (48 ≤ z ∧ ¬ z ≤ 57) := by omega
          clear hin HIK HYK hzz
          rcases h3 with h3 | ⟨h3, h4⟩
          all_goals
            go_wp2
            go_roundw
            case rel => exact ⟨3, by omega, rfl, HB.out.trans ((below_alloc wr _).mono HB.out.size), HI2.out⟩
            case measure => simp [intOf]
      · by_cases hin : 45 ≤ c.toNat ∧ c.toNat ≤ 45
        · have E := Lib.hid (HYK (decide_eq_true hin))
          have h3 : 45 ≤ z := by omega
          have h4 : z ≤ 45 := by omega
          clear hin HIK HYK hzz
          go_wp2
          go_ret
          exact ret_b E.out.symm (HB.out.trans ((below_alloc wr _).mono HB.out.size))
        · have HI2 := Lib.hid (HIK (decide_eq_false hin))
          have h3 : ¬ 45 ≤ z ∨ (45 ≤ z ∧ ¬ z ≤ 45) := by omega
          clear hin HIK HYK hzz
          rcases h3 with h3 | ⟨h3, h4⟩
          all_goals
            go_wp2
            go_roundw
            case rel => exact ⟨4, by omega, rfl, HB.out.trans ((below_alloc wr _).mono HB.out.size), HI2.out⟩
            case measure => simp [intOf]
      · by_cases hin : 95 ≤ c.toNat ∧ c.toNat ≤ 95
        · have E := Lib.hid (HYK (decide_eq_true hin))
          have h3 : 95 ≤ z := by omega
          have h4 : z ≤ 95 := by omega
          clear hin HIK HYK hzz
          go_wp2
          go_ret
          exact ret_b E.out.symm (HB.out.trans ((below_alloc wr _).mono HB.out.size))
        · have HI2 := Lib.hid (HIK (decide_eq_false hin))
          have h3 : ¬ 95 ≤ z ∨ (95 ≤ z ∧ ¬ z ≤ 95) := by omega
          clear hin HIK HYK hzz
          rcases h3 with h3 | ⟨h3, h4⟩
          all_goals
            go_wp2
            go_roundw
            case rel => exact ⟨5, by omega, rfl, HB.out.trans ((below_alloc wr _).mono HB.out.size), HI2.out⟩
            case measure => simp [intOf]
      · by_cases hin : 46 ≤ c.toNat ∧ c.toNat ≤ 46
        · have E := Lib.hid (HYK (decide_eq_true hin))
          have h3 : 46 ≤ z := by omega
          have h4 : z ≤ 46 := by omega
          clear hin HIK HYK hzz
          go_wp2
          go_ret
          exact ret_b E.out.symm (HB.out.trans ((below_alloc wr _).mono HB.out.size))
        · have HI2 := Lib.hid (HIK (decide_eq_false hin))
          have h3 : ¬ 46 ≤ z ∨ (46 ≤ z ∧ ¬ z ≤ 46) := by omega
          clear hin HIK HYK hzz
          rcases h3 with h3 | ⟨h3, h4⟩
          all_goals
            go_wp2
            go_roundw
            case rel => exact ⟨6, by omega, rfl, HB.out.trans ((below_alloc wr _).mono HB.out.size), HI2.out⟩
            case measure => simp [intOf]
      · by_cases hin : 47 ≤ c.toNat ∧ c.toNat ≤ 47
        · have E := Lib.hid (HYK (decide_eq_true hin))
          have h3 : 47 ≤ z := by omega
          have h4 : z ≤ 47 := by omega
          clear hin HIK HYK hzz
          go_wp2
          go_ret
          exact ret_b E.out.symm (HB.out.trans ((below_alloc wr _).mono HB.out.size))
        · have HI2 := Lib.hid (HIK (decide_eq_false hin))
          have h3 : ¬ 47 ≤ z ∨ (47 ≤ z ∧ ¬ z ≤ 47) := by omega
          clear hin HIK HYK hzz
          rcases h3 with h3 | ⟨h3, h4⟩
          all_goals
            go_wp2
            go_roundw
            case rel => exact ⟨7, by omega, rfl, HB.out.trans ((below_alloc wr _).mono HB.out.size), HI2.out⟩
            case measure => simp [intOf]
      · by_cases hin : 58 ≤ c.toNat ∧ c.toNat ≤ 58
        · have E := Lib.hid (HYK (decide_eq_true hin))
          have h3 : 58 ≤ z := by omega
          have h4 : z ≤ 58 := by omega
          clear hin HIK HYK hzz
          go_wp2
          go_ret
          exact ret_b E.out.symm (HB.out.trans ((below_alloc wr _).mono HB.out.size))
        · have HI2 := Lib.hid (HIK (decide_eq_false hin))
          have h3 : ¬ 58 ≤ z ∨ (58 ≤ z ∧ ¬ z ≤ 58) := by omega
          clear hin HIK HYK hzz
          rcases h3 with h3 | ⟨h3, h4⟩
          all_goals
            go_wp2
            go_roundw
            case rel => exact ⟨8, by omega, rfl, HB.out.trans ((below_alloc wr _).mono HB.out.size), HI2.out⟩
            case measure => simp [intOf]
end Go.Proofs.YtepnjhhpnabpnaaDoor
