/- An argument that is a query, a report or an oops, opened for a walk. -/
import Derived.Test.YtfpdcljeepjogaaAdMath
import Derived.Test.YtfpdcljeepjogaaSlc
import Derived.ProofKit
import Derived.OpenShut
import Derived.ChangeOld
import Derived.SizedLaws
import Derived.Deep.SlicePairs
import Derived.Lib.SmallJoins
namespace Go.Proofs.Ytfpdcljeepjogaa
open Go.RowKit Go.ChangeShapes Go.WideShapes Go.Joins

/-- A query, a report. -/
theorem open_note {H : Type} {enc : TypeId × Value → H} {P : Program} {W : World} {r : Reach} {b0 : Nat} {t : TypeId} {g0 g1 g2 : Field} {v : Value} {d : DataW H} {p : List MemPlace}
    (ht : P.underlying t = some (.struct #[g0, g1, g2])) (ct : P.cellsOf t = 3) (q0 : g0.offset = 0) (q1 : g1.offset = 1) (q2 : g2.offset = 2)
    (w0 : P.underlying g0.type = some (.int .i64)) (w1 : P.underlying g1.type = some (.int .i64)) (w2 : P.underlying g2.type = some .string) (z0 : P.cellsOf g0.type = 1) (z1 : P.cellsOf g1.type = 1) (z2 : P.cellsOf g2.type = 1)
    (hv : Value.okWide P W r b0 t v) (h : DataW.Trod enc P W 0 (fun _ => true) true t v d p) :
    ∃ n : AD.N, v = .agg #[.int .i64 n.1, .int .i64 n.2.1, .string ⟨n.2.2.toArray⟩] ∧ n.2.2.length ≤ 9223372036854775807 := by
  obtain ⟨cs, rfl, hsz⟩ := okWide_struct ht hv
  obtain ⟨l⟩ := cs
  match l, hsz.trans ct with
  | [x0, x1, x2], _ =>
    obtain ⟨fuel, hf⟩ := h
    obtain ⟨xs, n, _, hx, _, hlen, hg⟩ := DataW.trod_struct ht hf
    have hlen3 : xs.length = 3 := hlen
    have h0 := hg 0 g0 rfl
    have h1 := hg 1 g1 rfl
    have h2 := hg 2 g2 rfl
    rw [q0, z0, List.getElem?_eq_getElem (by omega)] at h0
    rw [q1, z1, List.getElem?_eq_getElem (by omega)] at h1
    rw [q2, z2, List.getElem?_eq_getElem (by omega)] at h2
    have k0 : DataW.trod enc P W 0 (fun _ => true) true n g0.type [x0] = some xs[0] := by simpa [Value.cells] using h0
    have k1 : DataW.trod enc P W 0 (fun _ => true) true n g1.type [x1] = some xs[1] := by simpa [Value.cells] using h1
    have k2 : DataW.trod enc P W 0 (fun _ => true) true n g2.type [x2] = some xs[2] := by simpa [Value.cells] using h2
    obtain ⟨i0, e0, _⟩ := DataW.trod_int w0 k0
    obtain ⟨i1, e1, _⟩ := DataW.trod_int w1 k1
    obtain ⟨s2, e2, _, zz⟩ := DataW.trod_string w2 k2
    obtain rfl : x0 = .int .i64 i0 := by simpa using e0
    obtain rfl : x1 = .int .i64 i1 := by simpa using e1
    obtain rfl : x2 = .string s2 := by simpa using e2
    obtain ⟨⟨l2⟩⟩ := s2
    refine ⟨(i0, i1, l2), rfl, ?_⟩
    have : l2.length ≤ maxLen := zz
    unfold maxLen at this
    show l2.length ≤ _
    omega
/-- An oops. -/
theorem open_oops {H : Type} {enc : TypeId × Value → H} {P : Program} {W : World} {r : Reach} {b0 : Nat} {t : TypeId} {g0 g1 g2 g3 : Field} {v : Value} {d : DataW H} {p : List MemPlace}
    (ht : P.underlying t = some (.struct #[g0, g1, g2, g3])) (ct : P.cellsOf t = 4) (q0 : g0.offset = 0) (q1 : g1.offset = 1) (q2 : g2.offset = 2) (q3 : g3.offset = 3)
    (w0 : P.underlying g0.type = some (.int .i64)) (w1 : P.underlying g1.type = some (.int .i64)) (w2 : P.underlying g2.type = some (.int .i64)) (w3 : P.underlying g3.type = some (.int .i64)) (z0 : P.cellsOf g0.type = 1) (z1 : P.cellsOf g1.type = 1) (z2 : P.cellsOf g2.type = 1) (z3 : P.cellsOf g3.type = 1)
    (hv : Value.okWide P W r b0 t v) (h : DataW.Trod enc P W 0 (fun _ => true) true t v d p) :
    ∃ o : AD.O, v = .agg #[.int .i64 o.1, .int .i64 o.2.1, .int .i64 o.2.2.1, .int .i64 o.2.2.2] := by
  obtain ⟨cs, rfl, hsz⟩ := okWide_struct ht hv
  obtain ⟨l⟩ := cs
  match l, hsz.trans ct with
  | [x0, x1, x2, x3], _ =>
    obtain ⟨fuel, hf⟩ := h
    obtain ⟨xs, n, _, hx, _, hlen, hg⟩ := DataW.trod_struct ht hf
    have hlen4 : xs.length = 4 := hlen
    have h0 := hg 0 g0 rfl
    have h1 := hg 1 g1 rfl
    have h2 := hg 2 g2 rfl
    have h3 := hg 3 g3 rfl
    rw [q0, z0, List.getElem?_eq_getElem (by omega)] at h0
    rw [q1, z1, List.getElem?_eq_getElem (by omega)] at h1
    rw [q2, z2, List.getElem?_eq_getElem (by omega)] at h2
    rw [q3, z3, List.getElem?_eq_getElem (by omega)] at h3
    have k0 : DataW.trod enc P W 0 (fun _ => true) true n g0.type [x0] = some xs[0] := by simpa [Value.cells] using h0
    have k1 : DataW.trod enc P W 0 (fun _ => true) true n g1.type [x1] = some xs[1] := by simpa [Value.cells] using h1
    have k2 : DataW.trod enc P W 0 (fun _ => true) true n g2.type [x2] = some xs[2] := by simpa [Value.cells] using h2
    have k3 : DataW.trod enc P W 0 (fun _ => true) true n g3.type [x3] = some xs[3] := by simpa [Value.cells] using h3
    obtain ⟨i0, e0, _⟩ := DataW.trod_int w0 k0
    obtain ⟨i1, e1, _⟩ := DataW.trod_int w1 k1
    obtain ⟨i2, e2, _⟩ := DataW.trod_int w2 k2
    obtain ⟨i3, e3, _⟩ := DataW.trod_int w3 k3
    obtain rfl : x0 = .int .i64 i0 := by simpa using e0
    obtain rfl : x1 = .int .i64 i1 := by simpa using e1
    obtain rfl : x2 = .int .i64 i2 := by simpa using e2
    obtain rfl : x3 = .int .i64 i3 := by simpa using e3
    exact ⟨(i0, i1, i2, i3), rfl⟩
end Go.Proofs.Ytfpdcljeepjogaa
