/- '==' of pieces; whether two rows of pieces are alike. -/
import Derived.Test.YtpmcglnfnkpjlaaDoorLxB
import Derived.Test.YtpmcglnfnkpjlaaDoorLnF
namespace Go.Proofs.YtpmcglnfnkpjlaaDoor
open Go.RowKit

theorem ppart0 (a b c d e : Value) (w : World) : (part 3 #[a, b, c, d, e] 0).run Tryd.prog w = .ok a w := by kernel_rfl
theorem ppart1 (a b c d e : Value) (w : World) : (part 3 #[a, b, c, d, e] 1).run Tryd.prog w = .ok b w := by kernel_rfl
theorem ppart2 (a b c d e : Value) (w : World) : (part 3 #[a, b, c, d, e] 2).run Tryd.prog w = .ok c w := by kernel_rfl
theorem ppart3 (a b c d e : Value) (w : World) : (part 9 #[a, b, c, d, e] 3).run Tryd.prog w = .ok d w := by kernel_rfl
theorem ppart4 (a b c d e : Value) (w : World) : (part 4 #[a, b, c, d, e] 4).run Tryd.prog w = .ok e w := by kernel_rfl
theorem piece_under : Tryd.prog.underlying 36 = some (.struct (Tryd.prog.fieldsOf 36)) := by kernel_rfl
theorem piece_held : Tryd.prog.stoodInHeld 36 = false := by kernel_rfl
theorem piece_guard : Tryd.prog.eqGuardType Tryd.prog.depth 36 = false := by kernel_rfl
theorem piece_fields : ∃ f0 f1 f2 f3 f4, (Tryd.prog.fieldsOf 36).toList = [f0, f1, f2, f3, f4] ∧ f0.type = 3 ∧ f1.type = 3 ∧ f2.type = 3 ∧ f3.type = 9 ∧ f4.type = 4 ∧ f0.offset = 0 ∧ f1.offset = 1 ∧ f2.offset = 2 ∧ f3.offset = 3 ∧ f4.offset = 4 ∧ f0.name = "Kind" ∧ f1.name = "Line" ∧ f2.name = "Col" ∧ f3.name = "Text" ∧ f4.name = "Quoted" := by
  refine ⟨(Tryd.prog.fieldsOf 36).getD 0 default, (Tryd.prog.fieldsOf 36).getD 1 default, (Tryd.prog.fieldsOf 36).getD 2 default, (Tryd.prog.fieldsOf 36).getD 3 default, (Tryd.prog.fieldsOf 36).getD 4 default, ?_, ?_, ?_, ?_, ?_, ?_, ?_, ?_, ?_, ?_, ?_, ?_, ?_, ?_, ?_, ?_⟩ <;> kernel_rfl
theorem neq_piece (a b c : Int) (s : List UInt8) (q : Bool) (w : World) : (binOp .neq 36 (.agg #[.int .i64 a, .int .i64 b, .int .i64 c, .string ⟨s.toArray⟩, .bool q]) (.agg #[.int .i64 a, .int .i64 b, .int .i64 c, .string ⟨s.toArray⟩, .bool q])).run Tryd.prog w = .ok (.bool false) w := by
  rw [run_neq_struct, run_equalIn_agg w 9999 _ _ _ piece_under piece_held]
  obtain ⟨f0, f1, f2, f3, f4, hl, t0, t1, t2, t3, t4, o0, o1, o2, o3, o4, n0, n1, n2, n3, n4⟩ := piece_fields
  rw [hl]
  have k0 : f0.name ≠ "_" := by rw [n0]; decide
  have k1 : f1.name ≠ "_" := by rw [n1]; decide
  have k2 : f2.name ≠ "_" := by rw [n2]; decide
  have k3 : f3.name ≠ "_" := by rw [n3]; decide
  have k4 : f4.name ≠ "_" := by rw [n4]; decide
  simp only [Op.eqFields, k0, k1, k2, k3, k4, if_true, ne_eq, not_false_eq_true, t0, t1, t2, t3, t4, o0, o1, o2, o3, o4, Sem.run_bind, ppart0, ppart1, ppart2, ppart3, ppart4, Result.andThen_ok, run_equalIn_int w 9998 _ .i64 _ _ _ Tryd.underlying3, run_equalIn_string w 9998 _ _ _ Tryd.underlying9, run_equalIn_bool w 9998 _ _ _ Tryd.underlying4, llist_beq, Sem.run_ite, Sem.run_pure]
  simp
set_option maxHeartbeats 4000000 in
theorem psame_any (va vb : Value) (ls : List LX.Pc) (w : World) (ha : Rdp w va ls) (hb : Rdp w vb ls) :
    Calls Tryd.prog 11 #[va, vb] w fun e w' => e = .returned (.bool true) ∧ Below w.heap.size w w' := by
  obtain ⟨ao, cap, rfl, h1, h2, h3, h4⟩ := ha
  obtain ⟨bo, cap', rfl, h1', h2', h3', h4'⟩ := hb
  obtain ⟨L, hL⟩ : ∃ L, ls.length = L := ⟨_, rfl⟩
  have HL := Lib.hid hL
  have H4 := Lib.hid h4
  have H5 := Lib.hid h4'
  rw [hL]
  unfold maxLen at h2
  have hla : L ≤ 9223372036854775807 := by omega
  clear h4 h4' h1 h2 h3 h1' h2' h3' hL
  have hg := piece_guard
  go_enter Tryd.func11, Tryd.ntmps11
  go_wp2
  go_loopw [5] (fun i wr => ∃ (k : Nat), i = .int .i64 (k : Int) ∧ k ≤ L ∧ Hid (Below w.heap.size w wr)) (fun i _ => L - (intOf i).toNat)
  case atStart => exact ⟨0, rfl, Nat.zero_le _, Below.refl _ _⟩
  case round =>
    obtain ⟨k, rfl, hk, HW⟩ := hrel
    by_cases hlt : k < L
    · obtain ⟨x, hx⟩ : ∃ x, ls[k]? = some x := ⟨ls[k]'(by have := HL.out; omega), List.getElem?_eq_getElem _⟩
      obtain ⟨b, off, rfl, c⟩ := H4.out k x hx
      obtain ⟨b', off', rfl, c'⟩ := H5.out k x hx
      obtain ⟨d0, d1, d2, d3, d4⟩ := c.below HW.out
      obtain ⟨d0', d1', d2', d3', d4'⟩ := c'.below HW.out
      have hq := neq_piece x.1 x.2.1 x.2.2.1 x.2.2.2.1 x.2.2.2.2
      have g0 : (k : Int) < (L : Int) := by omega
      clear c c' hx
      go_wp2
      go_region
      all_goals
        go_wp2
        go_roundw
        case rel => exact ⟨k + 1, by go_num, by omega, HW.out.drew⟩
        case measure => simp [intOf]; omega
    · have g0 : ¬ (k : Int) < (L : Int) := by omega
      go_wp2
      go_ret
      exact ret_b rfl HW.out
end Go.Proofs.YtpmcglnfnkpjlaaDoor
