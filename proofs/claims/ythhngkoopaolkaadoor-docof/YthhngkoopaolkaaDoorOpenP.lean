/- An argument that is pieces of lines, opened for a walk. -/
import Derived.Test.YthhngkoopaolkaaDoorLxB
import Derived.ProofKit
import Derived.OpenShut
import Derived.ChangeOld
import Derived.SizedLaws
import Derived.Deep.SlicePairs
import Derived.Lib.SmallJoins
namespace Go.Proofs.YthhngkoopaolkaaDoor
open Go.RowKit Go.ChangeShapes Go.WideShapes Go.Joins

/-- Pieces. -/
theorem open_pieces {H : Type} {enc : TypeId × Value → H} {P : Program} {W : World} {s e : TypeId} {f0 f1 f2 f3 f4 : Field} {a0 : Option Addr} {len0 cap0 : Nat} {d : DataW H} {p : List MemPlace}
    (hs : P.underlying s = some (.slice e)) (he : P.underlying e = some (.struct #[f0, f1, f2, f3, f4])) (ce : P.cellsOf e = 5) (o0 : f0.offset = 0) (o1 : f1.offset = 1) (o2 : f2.offset = 2) (o3 : f3.offset = 3) (o4 : f4.offset = 4)
    (w0 : P.underlying f0.type = some (.int .i64)) (w1 : P.underlying f1.type = some (.int .i64)) (w2 : P.underlying f2.type = some (.int .i64)) (w3 : P.underlying f3.type = some .string) (w4 : P.underlying f4.type = some .bool) (z0 : P.cellsOf f0.type = 1) (z1 : P.cellsOf f1.type = 1) (z2 : P.cellsOf f2.type = 1) (z3 : P.cellsOf f3.type = 1) (z4 : P.cellsOf f4.type = 1)
    (h : DataW.Trod enc P W 0 (fun _ => true) true s (.slice a0 len0 cap0) d p) : ∃ ls : List LX.Pc, Rdp W (.slice a0 len0 cap0) ls ∧ ∀ x ∈ ls, x.2.2.2.1.length ≤ 9223372036854775807 := by
  obtain ⟨fuel, h2⟩ := h
  rcases Deep.open_slice hs h2 with ⟨hcs, _⟩ | ⟨a, len, cap, m, n', Dt, Pl, hcs, _, hl, hm, hmm, _, hrow⟩
  · simp [Value.cells] at hcs
    obtain ⟨rfl, rfl, rfl⟩ := hcs
    exact ⟨[], ⟨none, 0, rfl, by simp, by simp [maxLen], fun _ => rfl, by simp⟩, by simp⟩
  · simp [Value.cells] at hcs
    obtain ⟨rfl, rfl, rfl⟩ := hcs
    simp only [if_true] at hmm
    have each : ∀ i, i < len0 → ∃ q : LX.Pc, (W.cell? (a.add (i * 5)) = some (.int .i64 q.1) ∧ W.cell? (a.add (i * 5 + 1)) = some (.int .i64 q.2.1) ∧ W.cell? (a.add (i * 5 + 2)) = some (.int .i64 q.2.2.1) ∧ W.cell? (a.add (i * 5 + 3)) = some (.string ⟨q.2.2.2.1.toArray⟩) ∧ W.cell? (a.add (i * 5 + 4)) = some (.bool q.2.2.2.2)) ∧ q.2.2.2.1.length ≤ 9223372036854775807 := by
      intro i hi
      obtain ⟨cs, h1, h3⟩ := hrow i (by omega)
      rw [ce] at h1
      obtain ⟨_, hlen, hcell⟩ := World.cells?_some h1
      obtain ⟨xs, k, _, _, _, hxl, hf⟩ := DataW.trod_struct he h3
      have hxl5 : xs.length = 5 := hxl
      match cs, hlen with
      | [v0, v1, v2, v3, v4], _ =>
        have g0 := hf 0 f0 rfl
        have g1 := hf 1 f1 rfl
        have g2 := hf 2 f2 rfl
        have g3 := hf 3 f3 rfl
        have g4 := hf 4 f4 rfl
        rw [o0, z0, List.getElem?_eq_getElem (by omega)] at g0
        rw [o1, z1, List.getElem?_eq_getElem (by omega)] at g1
        rw [o2, z2, List.getElem?_eq_getElem (by omega)] at g2
        rw [o3, z3, List.getElem?_eq_getElem (by omega)] at g3
        rw [o4, z4, List.getElem?_eq_getElem (by omega)] at g4
        obtain ⟨i0, e0, _⟩ := DataW.trod_int w0 g0
        obtain ⟨i1, e1, _⟩ := DataW.trod_int w1 g1
        obtain ⟨i2, e2, _⟩ := DataW.trod_int w2 g2
        obtain ⟨s3, e3, _, zz⟩ := DataW.trod_string w3 g3
        obtain ⟨b4, e4, _⟩ := DataW.trod_bool w4 g4
        obtain rfl : v0 = .int .i64 i0 := by simpa using e0
        obtain rfl : v1 = .int .i64 i1 := by simpa using e1
        obtain rfl : v2 = .int .i64 i2 := by simpa using e2
        obtain rfl : v3 = .string s3 := by simpa using e3
        obtain rfl : v4 = .bool b4 := by simpa using e4
        obtain ⟨⟨l3⟩⟩ := s3
        have hlz : l3.length ≤ maxLen := zz
        unfold maxLen at hlz
        have c0 := hcell 0 (by omega)
        have c1 := hcell 1 (by omega)
        have c2 := hcell 2 (by omega)
        have c3 := hcell 3 (by omega)
        have c4 := hcell 4 (by omega)
        rw [Deep.add_add] at c0 c1 c2 c3 c4
        exact ⟨(i0, i1, i2, l3, b4), ⟨by simpa using c0, by simpa using c1, by simpa using c2, by simpa using c3, by simpa using c4⟩, by show l3.length ≤ _; omega⟩
    obtain ⟨F, hF⟩ := Deep.choose_lt each
    refine ⟨(List.range len0).map F, ⟨some a, cap0, by simp, by simpa using hl, hm, by simp, fun j q hq => ?_⟩, fun x hx => ?_⟩
    · have hj : j < len0 := by
        have := (List.getElem?_eq_some_iff.1 hq).1
        simpa using this
      rw [List.getElem?_map, List.getElem?_range hj] at hq
      simp only [Option.map_some] at hq
      obtain rfl := Option.some.inj hq
      obtain ⟨⟨k0, k1, k2, k3, k4⟩, -⟩ := hF j hj
      obtain ⟨b, off, spot⟩ := a
      have hspot : spot = none := by simpa [Addr.add] using World.cell?_spot (hF 0 (by omega)).1.1
      subst hspot
      rw [Addr.add_lit] at k0 k1 k2 k3 k4
      exact ⟨b, off, rfl, k0, by rw [Nat.add_assoc]; exact k1, by rw [Nat.add_assoc]; exact k2, by rw [Nat.add_assoc]; exact k3, by rw [Nat.add_assoc]; exact k4⟩
    · obtain ⟨j, hj, rfl⟩ := List.mem_map.1 hx
      exact (hF j (by simpa using hj)).2
end Go.Proofs.YthhngkoopaolkaaDoor
