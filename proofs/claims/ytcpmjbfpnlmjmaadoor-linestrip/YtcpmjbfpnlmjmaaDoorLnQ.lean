/- '==' of faults and of lines; whether two rows of lines are alike. -/
import Derived.Test.YtcpmjbfpnlmjmaaDoorLnN
import Derived.Laws.StructEq
namespace Go.Proofs.YtcpmjbfpnlmjmaaDoor
open Go.RowKit

theorem lpart0 (x y z : Value) (w : World) : (part 3 #[x, y, z] 0).run Tryd.prog w = .ok x w := by kernel_rfl
theorem lpart1 (x y z : Value) (w : World) : (part 3 #[x, y, z] 1).run Tryd.prog w = .ok y w := by kernel_rfl
theorem lpart2 (x y z : Value) (w : World) : (part 9 #[x, y, z] 2).run Tryd.prog w = .ok z w := by kernel_rfl
theorem fpart0 (x y : Value) (w : World) : (part 3 #[x, y] 0).run Tryd.prog w = .ok x w := by kernel_rfl
theorem fpart1 (x y : Value) (w : World) : (part 3 #[x, y] 1).run Tryd.prog w = .ok y w := by kernel_rfl
theorem llist_beq (a : List UInt8) : ((⟨a.toArray⟩ : ByteArray).toList == (⟨a.toArray⟩ : ByteArray).toList) = true := by simp
theorem line_under : Tryd.prog.underlying 35 = some (.struct (Tryd.prog.fieldsOf 35)) := by kernel_rfl
theorem line_held : Tryd.prog.stoodInHeld 35 = false := by kernel_rfl
theorem line_guard : Tryd.prog.eqGuardType Tryd.prog.depth 35 = false := by kernel_rfl
theorem line_fields : ∃ f0 f1 f2, (Tryd.prog.fieldsOf 35).toList = [f0, f1, f2] ∧ f0.type = 3 ∧ f1.type = 3 ∧ f2.type = 9 ∧ f0.offset = 0 ∧ f1.offset = 1 ∧ f2.offset = 2 ∧ f0.name = "No" ∧ f1.name = "Indent" ∧ f2.name = "Text" := by
  refine ⟨(Tryd.prog.fieldsOf 35).getD 0 default, (Tryd.prog.fieldsOf 35).getD 1 default, (Tryd.prog.fieldsOf 35).getD 2 default, ?_, ?_, ?_, ?_, ?_, ?_, ?_, ?_, ?_, ?_⟩ <;> kernel_rfl
theorem eq_line (a b : Int) (s : List UInt8) (w : World) : (binOp .eql 35 (.agg #[.int .i64 a, .int .i64 b, .string ⟨s.toArray⟩]) (.agg #[.int .i64 a, .int .i64 b, .string ⟨s.toArray⟩])).run Tryd.prog w = .ok (.bool true) w := by
  rw [run_eql_struct, run_equalIn_agg w 9999 _ _ _ line_under line_held]
  obtain ⟨f0, f1, f2, hl, t0, t1, t2, o0, o1, o2, n0, n1, n2⟩ := line_fields
  rw [hl]
  have k0 : f0.name ≠ "_" := by rw [n0]; decide
  have k1 : f1.name ≠ "_" := by rw [n1]; decide
  have k2 : f2.name ≠ "_" := by rw [n2]; decide
  simp only [Op.eqFields, k0, k1, k2, if_true, ne_eq, not_false_eq_true, t0, t1, t2, o0, o1, o2, Sem.run_bind, lpart0, lpart1, lpart2, Result.andThen_ok, run_equalIn_int w 9998 _ .i64 _ _ _ Tryd.underlying3, run_equalIn_string w 9998 _ _ _ Tryd.underlying9, llist_beq, Sem.run_ite, Sem.run_pure]
  simp
theorem neq_line (a b : Int) (s : List UInt8) (w : World) : (binOp .neq 35 (.agg #[.int .i64 a, .int .i64 b, .string ⟨s.toArray⟩]) (.agg #[.int .i64 a, .int .i64 b, .string ⟨s.toArray⟩])).run Tryd.prog w = .ok (.bool false) w := by
  rw [run_neq_struct, run_equalIn_agg w 9999 _ _ _ line_under line_held]
  obtain ⟨f0, f1, f2, hl, t0, t1, t2, o0, o1, o2, n0, n1, n2⟩ := line_fields
  rw [hl]
  have k0 : f0.name ≠ "_" := by rw [n0]; decide
  have k1 : f1.name ≠ "_" := by rw [n1]; decide
  have k2 : f2.name ≠ "_" := by rw [n2]; decide
  simp only [Op.eqFields, k0, k1, k2, if_true, ne_eq, not_false_eq_true, t0, t1, t2, o0, o1, o2, Sem.run_bind, lpart0, lpart1, lpart2, Result.andThen_ok, run_equalIn_int w 9998 _ .i64 _ _ _ Tryd.underlying3, run_equalIn_string w 9998 _ _ _ Tryd.underlying9, llist_beq, Sem.run_ite, Sem.run_pure]
  simp
theorem fault_under : Tryd.prog.underlying 29 = some (.struct (Tryd.prog.fieldsOf 29)) := by kernel_rfl
theorem fault_held : Tryd.prog.stoodInHeld 29 = false := by kernel_rfl
theorem fault_guard : Tryd.prog.eqGuardType Tryd.prog.depth 29 = false := by kernel_rfl
theorem fault_fields : ∃ f0 f1, (Tryd.prog.fieldsOf 29).toList = [f0, f1] ∧ f0.type = 3 ∧ f1.type = 3 ∧ f0.offset = 0 ∧ f1.offset = 1 ∧ f0.name = "Kind" ∧ f1.name = "Line" := by
  refine ⟨(Tryd.prog.fieldsOf 29).getD 0 default, (Tryd.prog.fieldsOf 29).getD 1 default, ?_, ?_, ?_, ?_, ?_, ?_, ?_⟩ <;> kernel_rfl
theorem eq_fault (a b : Int) (w : World) : (binOp .eql 29 (.agg #[.int .i64 a, .int .i64 b]) (.agg #[.int .i64 a, .int .i64 b])).run Tryd.prog w = .ok (.bool true) w := by
  rw [run_eql_struct, run_equalIn_agg w 9999 _ _ _ fault_under fault_held]
  obtain ⟨f0, f1, hl, t0, t1, o0, o1, n0, n1⟩ := fault_fields
  rw [hl]
  have k0 : f0.name ≠ "_" := by rw [n0]; decide
  have k1 : f1.name ≠ "_" := by rw [n1]; decide
  simp only [Op.eqFields, k0, k1, if_true, ne_eq, not_false_eq_true, t0, t1, o0, o1, Sem.run_bind, fpart0, fpart1, Result.andThen_ok, run_equalIn_int w 9998 _ .i64 _ _ _ Tryd.underlying3, Sem.run_ite, Sem.run_pure]
  simp

set_option maxHeartbeats 4000000 in
theorem alike_any (va vb : Value) (ls : List LN.Ln) (w : World) (ha : Rdn w va ls) (hb : Rdn w vb ls) :
    Calls Tryd.prog 12 #[va, vb] w fun e w' => e = .returned (.bool true) ∧ Below w.heap.size w w' := by
  obtain ⟨ao, cap, rfl, h1, h2, h3, h4⟩ := ha
  obtain ⟨bo, cap', rfl, h1', h2', h3', h4'⟩ := hb
  obtain ⟨L, hL⟩ : ∃ L, ls.length = L := ⟨_, rfl⟩
  have HL := Lib.hid hL
  have H4 := Lib.hid h4
  have H5 := Lib.hid h4'
  rw [hL]
  unfold maxLen at h2
  have hla : L ≤ 9223372036854775807 := by omega
  clear h4 h4' h1 h2 h3 h1' h2' h3' hL
  have hg := line_guard
  go_enter Tryd.func12, Tryd.ntmps12
  go_wp2
  go_loopw [5] (fun i wr => ∃ (k : Nat), i = .int .i64 (k : Int) ∧ k ≤ L ∧ Hid (Below w.heap.size w wr)) (fun i _ => L - (intOf i).toNat)
  case atStart => exact ⟨0, rfl, Nat.zero_le _, Below.refl _ _⟩
  case round =>
    obtain ⟨k, rfl, hk, HW⟩ := hrel
    by_cases hlt : k < L
    · obtain ⟨x, hx⟩ : ∃ x, ls[k]? = some x := ⟨ls[k]'(by have := HL.out; omega), List.getElem?_eq_getElem _⟩
      obtain ⟨b, off, rfl, c⟩ := H4.out k x hx
      obtain ⟨b', off', rfl, c'⟩ := H5.out k x hx
      obtain ⟨d0, d1, d2⟩ := c.below HW.out
      obtain ⟨d0', d1', d2'⟩ := c'.below HW.out
      have hq := neq_line (x.1 : Int) (x.2.1 : Int) x.2.2
      have g0 : (k : Int) < (L : Int) := by omega
      clear c c' hx
      go_wp2
      go_region
      all_goals
        go_wp2
        go_roundw
        case rel => exact ⟨k + 1, by go_num, by omega, HW.out.drew⟩
        case measure => simp [intOf]; omega
    · have g0 : ¬ (k : Int) < (L : Int) := by omega
      go_wp2
      go_ret
      exact ret_b rfl HW.out

end Go.Proofs.YtcpmjbfpnlmjmaaDoor
