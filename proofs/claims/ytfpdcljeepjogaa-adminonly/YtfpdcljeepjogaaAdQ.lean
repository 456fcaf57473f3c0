/- '==' of a query, a report, an oops with itself. -/
import Derived.Test.YtfpdcljeepjogaaAdMath
import Derived.Test.YtfpdcljeepjogaaDsA
import Derived.Laws.StructEq
namespace Go.Proofs.Ytfpdcljeepjogaa
open Go.RowKit

theorem npart0 (x y z : Value) (w : World) : (part 3 #[x, y, z] 0).run Try.prog w = .ok x w := by kernel_rfl
theorem npart1 (x y z : Value) (w : World) : (part 3 #[x, y, z] 1).run Try.prog w = .ok y w := by kernel_rfl
theorem npart2 (x y z : Value) (w : World) : (part 9 #[x, y, z] 2).run Try.prog w = .ok z w := by kernel_rfl
theorem opart0 (x y z u : Value) (w : World) : (part 3 #[x, y, z, u] 0).run Try.prog w = .ok x w := by kernel_rfl
theorem opart1 (x y z u : Value) (w : World) : (part 26 #[x, y, z, u] 1).run Try.prog w = .ok y w := by kernel_rfl
theorem opart2 (x y z u : Value) (w : World) : (part 3 #[x, y, z, u] 2).run Try.prog w = .ok z w := by kernel_rfl
theorem opart3 (x y z u : Value) (w : World) : (part 3 #[x, y, z, u] 3).run Try.prog w = .ok u w := by kernel_rfl
theorem nlist_beq (a : List UInt8) : ((⟨a.toArray⟩ : ByteArray).toList == (⟨a.toArray⟩ : ByteArray).toList) = true := by simp
theorem query_under : Try.prog.underlying 23 = some (.struct (Try.prog.fieldsOf 23)) := by kernel_rfl
theorem query_held : Try.prog.stoodInHeld 23 = false := by kernel_rfl
theorem query_guard : Try.prog.eqGuardType Try.prog.depth 23 = false := by kernel_rfl
theorem query_fields : ∃ f0 f1 f2, (Try.prog.fieldsOf 23).toList = [f0, f1, f2] ∧ f0.type = 3 ∧ f1.type = 3 ∧ f2.type = 9 ∧ f0.offset = 0 ∧ f1.offset = 1 ∧ f2.offset = 2 ∧ f0.name = "ID" ∧ f1.name = "Kind" ∧ f2.name = "Text" := by
  refine ⟨(Try.prog.fieldsOf 23).getD 0 default, (Try.prog.fieldsOf 23).getD 1 default, (Try.prog.fieldsOf 23).getD 2 default, ?_, ?_, ?_, ?_, ?_, ?_, ?_, ?_, ?_, ?_⟩ <;> kernel_rfl
theorem eq_query (a b : Int) (s : List UInt8) (w : World) : (binOp .eql 23 (.agg #[.int .i64 a, .int .i64 b, .string ⟨s.toArray⟩]) (.agg #[.int .i64 a, .int .i64 b, .string ⟨s.toArray⟩])).run Try.prog w = .ok (.bool true) w := by
  rw [run_eql_struct, run_equalIn_agg w 9999 _ _ _ query_under query_held]
  obtain ⟨f0, f1, f2, hl, t0, t1, t2, o0, o1, o2, n0, n1, n2⟩ := query_fields
  rw [hl]
  have k0 : f0.name ≠ "_" := by rw [n0]; decide
  have k1 : f1.name ≠ "_" := by rw [n1]; decide
  have k2 : f2.name ≠ "_" := by rw [n2]; decide
  simp only [Op.eqFields, k0, k1, k2, if_true, ne_eq, not_false_eq_true, t0, t1, t2, o0, o1, o2, Sem.run_bind, npart0, npart1, npart2, Result.andThen_ok, run_equalIn_int w 9998 _ .i64 _ _ _ Try.underlying3, run_equalIn_string w 9998 _ _ _ Try.underlying9, nlist_beq, Sem.run_ite, Sem.run_pure]
  simp
theorem report_under : Try.prog.underlying 33 = some (.struct (Try.prog.fieldsOf 33)) := by kernel_rfl
theorem report_held : Try.prog.stoodInHeld 33 = false := by kernel_rfl
theorem report_guard : Try.prog.eqGuardType Try.prog.depth 33 = false := by kernel_rfl
theorem report_fields : ∃ f0 f1 f2, (Try.prog.fieldsOf 33).toList = [f0, f1, f2] ∧ f0.type = 3 ∧ f1.type = 3 ∧ f2.type = 9 ∧ f0.offset = 0 ∧ f1.offset = 1 ∧ f2.offset = 2 ∧ f0.name = "ID" ∧ f1.name = "Kind" ∧ f2.name = "Text" := by
  refine ⟨(Try.prog.fieldsOf 33).getD 0 default, (Try.prog.fieldsOf 33).getD 1 default, (Try.prog.fieldsOf 33).getD 2 default, ?_, ?_, ?_, ?_, ?_, ?_, ?_, ?_, ?_, ?_⟩ <;> kernel_rfl
theorem eq_report (a b : Int) (s : List UInt8) (w : World) : (binOp .eql 33 (.agg #[.int .i64 a, .int .i64 b, .string ⟨s.toArray⟩]) (.agg #[.int .i64 a, .int .i64 b, .string ⟨s.toArray⟩])).run Try.prog w = .ok (.bool true) w := by
  rw [run_eql_struct, run_equalIn_agg w 9999 _ _ _ report_under report_held]
  obtain ⟨f0, f1, f2, hl, t0, t1, t2, o0, o1, o2, n0, n1, n2⟩ := report_fields
  rw [hl]
  have k0 : f0.name ≠ "_" := by rw [n0]; decide
  have k1 : f1.name ≠ "_" := by rw [n1]; decide
  have k2 : f2.name ≠ "_" := by rw [n2]; decide
  simp only [Op.eqFields, k0, k1, k2, if_true, ne_eq, not_false_eq_true, t0, t1, t2, o0, o1, o2, Sem.run_bind, npart0, npart1, npart2, Result.andThen_ok, run_equalIn_int w 9998 _ .i64 _ _ _ Try.underlying3, run_equalIn_string w 9998 _ _ _ Try.underlying9, nlist_beq, Sem.run_ite, Sem.run_pure]
  simp
theorem oops_under : Try.prog.underlying 39 = some (.struct (Try.prog.fieldsOf 39)) := by kernel_rfl
theorem oops_held : Try.prog.stoodInHeld 39 = false := by kernel_rfl
theorem oops_guard : Try.prog.eqGuardType Try.prog.depth 39 = false := by kernel_rfl
theorem oops_fields : ∃ f0 f1 f2 f3, (Try.prog.fieldsOf 39).toList = [f0, f1, f2, f3] ∧ f0.type = 3 ∧ f1.type = 26 ∧ f2.type = 3 ∧ f3.type = 3 ∧ f0.offset = 0 ∧ f1.offset = 1 ∧ f2.offset = 2 ∧ f3.offset = 3 ∧ f0.name = "ID" ∧ f1.name = "Code" ∧ f2.name = "Kind" ∧ f3.name = "Line" := by
  refine ⟨(Try.prog.fieldsOf 39).getD 0 default, (Try.prog.fieldsOf 39).getD 1 default, (Try.prog.fieldsOf 39).getD 2 default, (Try.prog.fieldsOf 39).getD 3 default, ?_, ?_, ?_, ?_, ?_, ?_, ?_, ?_, ?_, ?_, ?_, ?_, ?_⟩ <;> kernel_rfl
theorem eq_oops (a b c d : Int) (w : World) : (binOp .eql 39 (.agg #[.int .i64 a, .int .i64 b, .int .i64 c, .int .i64 d]) (.agg #[.int .i64 a, .int .i64 b, .int .i64 c, .int .i64 d])).run Try.prog w = .ok (.bool true) w := by
  rw [run_eql_struct, run_equalIn_agg w 9999 _ _ _ oops_under oops_held]
  obtain ⟨f0, f1, f2, f3, hl, t0, t1, t2, t3, o0, o1, o2, o3, n0, n1, n2, n3⟩ := oops_fields
  rw [hl]
  have k0 : f0.name ≠ "_" := by rw [n0]; decide
  have k1 : f1.name ≠ "_" := by rw [n1]; decide
  have k2 : f2.name ≠ "_" := by rw [n2]; decide
  have k3 : f3.name ≠ "_" := by rw [n3]; decide
  simp only [Op.eqFields, k0, k1, k2, k3, if_true, ne_eq, not_false_eq_true, t0, t1, t2, t3, o0, o1, o2, o3, Sem.run_bind, opart0, opart1, opart2, opart3, Result.andThen_ok, run_equalIn_int w 9998 _ .i64 _ _ _ Try.underlying3, run_equalIn_int w 9998 _ .i64 _ _ _ Try.underlying26, Sem.run_ite, Sem.run_pure]
  simp
end Go.Proofs.Ytfpdcljeepjogaa
