/- An argument that is a line, or lines, opened for a walk. -/
import Derived.Test.YtpmcglnfnkpjlaaDoorLxB
import Derived.ProofKit
import Derived.OpenShut
import Derived.ChangeOld
import Derived.SizedLaws
import Derived.Deep.SlicePairs
import Derived.Lib.SmallJoins
namespace Go.Proofs.YtpmcglnfnkpjlaaDoor
open Go.RowKit Go.ChangeShapes Go.WideShapes Go.Joins

/-- A line. -/
theorem open_line {H : Type} {enc : TypeId × Value → H} {P : Program} {W : World} {r : Reach} {b0 : Nat} {t : TypeId} {g0 g1 g2 : Field} {v : Value} {d : DataW H} {p : List MemPlace}
    (ht : P.underlying t = some (.struct #[g0, g1, g2])) (ct : P.cellsOf t = 3) (q0 : g0.offset = 0) (q1 : g1.offset = 1) (q2 : g2.offset = 2)
    (w0 : P.underlying g0.type = some (.int .i64)) (w1 : P.underlying g1.type = some (.int .i64)) (w2 : P.underlying g2.type = some .string) (z0 : P.cellsOf g0.type = 1) (z1 : P.cellsOf g1.type = 1) (z2 : P.cellsOf g2.type = 1)
    (hv : Value.okWide P W r b0 t v) (h : DataW.Trod enc P W 0 (fun _ => true) true t v d p) :
    ∃ n : LX.Lz, v = .agg #[.int .i64 n.1, .int .i64 n.2.1, .string ⟨n.2.2.toArray⟩] ∧ n.2.2.length ≤ 9223372036854775807 := by
  obtain ⟨cs, rfl, hsz⟩ := okWide_struct ht hv
  obtain ⟨l⟩ := cs
  match l, hsz.trans ct with
  | [x0, x1, x2], _ =>
    obtain ⟨fuel, hf⟩ := h
    obtain ⟨xs, n, _, hx, _, hlen, hg⟩ := DataW.trod_struct ht hf
    have hlen3 : xs.length = 3 := hlen
    have h0 := hg 0 g0 rfl
    have h1 := hg 1 g1 rfl
    have h2 := hg 2 g2 rfl
    rw [q0, z0, List.getElem?_eq_getElem (by omega)] at h0
    rw [q1, z1, List.getElem?_eq_getElem (by omega)] at h1
    rw [q2, z2, List.getElem?_eq_getElem (by omega)] at h2
    have k0 : DataW.trod enc P W 0 (fun _ => true) true n g0.type [x0] = some xs[0] := by simpa [Value.cells] using h0
    have k1 : DataW.trod enc P W 0 (fun _ => true) true n g1.type [x1] = some xs[1] := by simpa [Value.cells] using h1
    have k2 : DataW.trod enc P W 0 (fun _ => true) true n g2.type [x2] = some xs[2] := by simpa [Value.cells] using h2
    obtain ⟨i0, e0, _⟩ := DataW.trod_int w0 k0
    obtain ⟨i1, e1, _⟩ := DataW.trod_int w1 k1
    obtain ⟨s2, e2, _, zz⟩ := DataW.trod_string w2 k2
    obtain rfl : x0 = .int .i64 i0 := by simpa using e0
    obtain rfl : x1 = .int .i64 i1 := by simpa using e1
    obtain rfl : x2 = .string s2 := by simpa using e2
    obtain ⟨⟨l2⟩⟩ := s2
    refine ⟨(i0, i1, l2), rfl, ?_⟩
    have : l2.length ≤ maxLen := zz
    unfold maxLen at this
    show l2.length ≤ _
    omega
/-- Lines. -/
theorem open_lines {H : Type} {enc : TypeId × Value → H} {P : Program} {W : World} {s e : TypeId} {f0 f1 f2 : Field} {a0 : Option Addr} {len0 cap0 : Nat} {d : DataW H} {p : List MemPlace}
    (hs : P.underlying s = some (.slice e)) (he : P.underlying e = some (.struct #[f0, f1, f2])) (ce : P.cellsOf e = 3) (o0 : f0.offset = 0) (o1 : f1.offset = 1) (o2 : f2.offset = 2)
    (w0 : P.underlying f0.type = some (.int .i64)) (w1 : P.underlying f1.type = some (.int .i64)) (w2 : P.underlying f2.type = some .string) (z0 : P.cellsOf f0.type = 1) (z1 : P.cellsOf f1.type = 1) (z2 : P.cellsOf f2.type = 1)
    (h : DataW.Trod enc P W 0 (fun _ => true) true s (.slice a0 len0 cap0) d p) : ∃ ls : List LX.Lz, Rdz W (.slice a0 len0 cap0) ls ∧ ∀ x ∈ ls, x.2.2.length ≤ 9223372036854775807 := by
  obtain ⟨fuel, h2⟩ := h
  rcases Deep.open_slice hs h2 with ⟨hcs, _⟩ | ⟨a, len, cap, m, n', Dt, Pl, hcs, _, hl, hm, hmm, _, hrow⟩
  · simp [Value.cells] at hcs
    obtain ⟨rfl, rfl, rfl⟩ := hcs
    exact ⟨[], ⟨none, 0, rfl, by simp, by simp [maxLen], fun _ => rfl, by simp⟩, by simp⟩
  · simp [Value.cells] at hcs
    obtain ⟨rfl, rfl, rfl⟩ := hcs
    simp only [if_true] at hmm
    have each : ∀ i, i < len0 → ∃ q : LX.Lz, (W.cell? (a.add (i * 3)) = some (.int .i64 q.1) ∧ W.cell? (a.add (i * 3 + 1)) = some (.int .i64 q.2.1) ∧ W.cell? (a.add (i * 3 + 2)) = some (.string ⟨q.2.2.toArray⟩)) ∧ q.2.2.length ≤ 9223372036854775807 := by
      intro i hi
      obtain ⟨cs, h1, h3⟩ := hrow i (by omega)
      rw [ce] at h1
      obtain ⟨_, hlen, hcell⟩ := World.cells?_some h1
      obtain ⟨xs, k, _, _, _, hxl, hf⟩ := DataW.trod_struct he h3
      have hxl3 : xs.length = 3 := hxl
      match cs, hlen with
      | [v0, v1, v2], _ =>
        have g0 := hf 0 f0 rfl
        have g1 := hf 1 f1 rfl
        have g2 := hf 2 f2 rfl
        rw [o0, z0, List.getElem?_eq_getElem (by omega)] at g0
        rw [o1, z1, List.getElem?_eq_getElem (by omega)] at g1
        rw [o2, z2, List.getElem?_eq_getElem (by omega)] at g2
        obtain ⟨i0, e0, _⟩ := DataW.trod_int w0 g0
        obtain ⟨i1, e1, _⟩ := DataW.trod_int w1 g1
        obtain ⟨s2, e2, _, zz⟩ := DataW.trod_string w2 g2
        obtain rfl : v0 = .int .i64 i0 := by simpa using e0
        obtain rfl : v1 = .int .i64 i1 := by simpa using e1
        obtain rfl : v2 = .string s2 := by simpa using e2
        obtain ⟨⟨l2⟩⟩ := s2
        have hlz : l2.length ≤ maxLen := zz
        unfold maxLen at hlz
        have c0 := hcell 0 (by omega)
        have c1 := hcell 1 (by omega)
        have c2 := hcell 2 (by omega)
        rw [Deep.add_add] at c0 c1 c2
        exact ⟨(i0, i1, l2), ⟨by simpa using c0, by simpa using c1, by simpa using c2⟩, by show l2.length ≤ _; omega⟩
    obtain ⟨F, hF⟩ := Deep.choose_lt each
    refine ⟨(List.range len0).map F, ⟨some a, cap0, by simp, by simpa using hl, hm, by simp, fun j q hq => ?_⟩, fun x hx => ?_⟩
    · have hj : j < len0 := by
        have := (List.getElem?_eq_some_iff.1 hq).1
        simpa using this
      rw [List.getElem?_map, List.getElem?_range hj] at hq
      simp only [Option.map_some] at hq
      obtain rfl := Option.some.inj hq
      obtain ⟨⟨k0, k1, k2⟩, -⟩ := hF j hj
      obtain ⟨b, off, spot⟩ := a
      have hspot : spot = none := by simpa [Addr.add] using World.cell?_spot (hF 0 (by omega)).1.1
      subst hspot
      rw [Addr.add_lit] at k0 k1 k2
      exact ⟨b, off, rfl, k0, by rw [Nat.add_assoc]; exact k1, by rw [Nat.add_assoc]; exact k2⟩
    · obtain ⟨j, hj, rfl⟩ := List.mem_map.1 hx
      exact (hF j (by simpa using hj)).2
end Go.Proofs.YtpmcglnfnkpjlaaDoor
