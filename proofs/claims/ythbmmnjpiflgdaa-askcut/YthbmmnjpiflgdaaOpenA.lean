/- An argument that is a request, opened for a walk. -/
import Derived.Test.YthbmmnjpiflgdaaAkC
import Derived.Test.YthbmmnjpiflgdaaOpenB
import Derived.Deep.SlicePairs
import Derived.Lib.SmallJoins
namespace Go.Proofs.Ythbmmnjpiflgdaa
open Go.RowKit Go.ChangeShapes Go.WideShapes Go.Joins

/-- A slice of entries. -/
theorem open_ents {H : Type} {enc : TypeId × Value → H} {P : Program} {W : World} {s e : TypeId} {f0 f1 : Field} {u : Value} {n : Nat} {x : DataW H × List MemPlace}
    (hs : P.underlying s = some (.slice e)) (he : P.underlying e = some (.struct #[f0, f1])) (ce : P.cellsOf e = 2) (o0 : f0.offset = 0) (o1 : f1.offset = 1)
    (u0 : P.underlying f0.type = some .string) (u1 : P.underlying f1.type = some .string) (c0 : P.cellsOf f0.type = 1) (c1 : P.cellsOf f1.type = 1)
    (h2 : DataW.trod enc P W 0 (fun _ => true) true n s [u] = some x) : ∃ es : List D.E, Rde W u es ∧ Fits es := by
  rcases Deep.open_slice_pairs hs he ce o0 o1 c0 c1 h2 with ⟨hcs, _⟩ | ⟨a, len, cap, m, n', V0, V1, D0, D1, P0, P1, hcs, _, hl, hm, hmm, _, hrow⟩
  · obtain rfl : u = .slice none 0 0 := by simpa using hcs
    exact ⟨[], Rde.nil W, fun _ hh => by cases hh⟩
  · obtain rfl : u = .slice (some a) len cap := by simpa using hcs
    simp only [if_true] at hmm
    have each : ∀ i, i < len → ∃ e : D.E, W.cell? (a.add (i * 2)) = some (tv e.1) ∧ W.cell? (a.add (i * 2 + 1)) = some (tv e.2) ∧ e.1.length ≤ 9223372036854775807 ∧ e.2.length ≤ 9223372036854775807 := by
      intro i hi
      obtain ⟨k0, k1, t0, t1⟩ := hrow i (by omega)
      obtain ⟨s0, hs0, _, z0⟩ := DataW.trod_string u0 t0
      obtain ⟨s1, hs1, _, z1⟩ := DataW.trod_string u1 t1
      obtain ⟨⟨l0⟩⟩ := s0
      obtain ⟨⟨l1⟩⟩ := s1
      refine ⟨(l0, l1), ?_, ?_, ?_, ?_⟩
      · rw [k0, (by simpa using hs0 : V0 i = _)]; rfl
      · rw [k1, (by simpa using hs1 : V1 i = _)]; rfl
      · have : l0.length ≤ maxLen := z0
        unfold maxLen at this; omega
      · have : l1.length ≤ maxLen := z1
        unfold maxLen at this; omega
    obtain ⟨F, hF⟩ := Deep.choose_lt each
    refine ⟨(List.range len).map F, ⟨some a, cap, by simp, by simpa using hl, hm, by simp, fun j e he => ?_⟩, fun e he => ?_⟩
    · have hj : j < len := by
        have := (List.getElem?_eq_some_iff.1 he).1
        simpa using this
      rw [List.getElem?_map, List.getElem?_range hj] at he
      simp only [Option.map_some] at he
      obtain rfl := Option.some.inj he
      obtain ⟨k0, k1, _⟩ := hF j hj
      obtain ⟨b, off, spot⟩ := a
      have hspot : spot = none := by simpa [Addr.add] using World.cell?_spot (hF 0 (by omega)).1
      subst hspot
      rw [Addr.add_lit] at k0 k1
      exact ⟨b, off, rfl, k0, by rw [Nat.add_assoc]; exact k1⟩
    · obtain ⟨j, hj, rfl⟩ := List.mem_map.1 he
      exact (hF j (List.mem_range.1 hj)).2.2

/-- A slice of descriptors. -/
theorem open_descs {H : Type} {enc : TypeId × Value → H} {P : Program} {W : World} {sd dt s e : TypeId} {f f0 f1 : Field} {u : Value} {n : Nat} {x : DataW H × List MemPlace}
    (hsd : P.underlying sd = some (.slice dt)) (hdt : P.underlying dt = some (.struct #[f])) (cdt : P.cellsOf dt = 1) (hft : f.type = s) (hfo : f.offset = 0) (cs1 : P.cellsOf s = 1)
    (hs : P.underlying s = some (.slice e)) (he : P.underlying e = some (.struct #[f0, f1])) (ce : P.cellsOf e = 2) (o0 : f0.offset = 0) (o1 : f1.offset = 1)
    (u0 : P.underlying f0.type = some .string) (u1 : P.underlying f1.type = some .string) (c0 : P.cellsOf f0.type = 1) (c1 : P.cellsOf f1.type = 1)
    (h2 : DataW.trod enc P W 0 (fun _ => true) true n sd [u] = some x) : ∃ ds : List (List D.E), Rdd W u ds ∧ ∀ d ∈ ds, Fits d := by
  rcases Deep.open_slice1 hsd cdt h2 with ⟨hcs, _⟩ | ⟨a, len, cap, m, n', V, Dt, Pl, hcs, _, hl, hm, hmm, _, hrow⟩
  · obtain rfl : u = .slice none 0 0 := by simpa using hcs
    exact ⟨[], Rdd.nil W, fun _ hh => by cases hh⟩
  · obtain rfl : u = .slice (some a) len cap := by simpa using hcs
    simp only [if_true] at hmm
    have each : ∀ i, i < len → ∃ d : List D.E, W.cell? (a.add i) = some (V i) ∧ Rde W (V i) d ∧ Fits d := by
      intro i hi
      obtain ⟨k0, t0⟩ := hrow i (by omega)
      obtain ⟨xs, n1, _, hx, _, hlen, hg⟩ := DataW.trod_struct hdt t0
      have h1 := hg 0 f rfl
      have hlen1 : xs.length = 1 := hlen
      rw [hft, hfo, cs1, List.getElem?_eq_getElem (by omega)] at h1
      have h3 : DataW.trod enc P W 0 (fun _ => true) true n1 s [V i] = some xs[0] := by simpa using h1
      obtain ⟨es, hr, hf⟩ := open_ents hs he ce o0 o1 u0 u1 c0 c1 h3
      exact ⟨es, k0, hr, hf⟩
    obtain ⟨F, hF⟩ := Deep.choose_lt each
    refine ⟨(List.range len).map F, ⟨some a, cap, by simp, by simpa using hl, hm, by simp, fun j d hd => ?_⟩, fun d hd => ?_⟩
    · have hj : j < len := by
        have := (List.getElem?_eq_some_iff.1 hd).1
        simpa using this
      rw [List.getElem?_map, List.getElem?_range hj] at hd
      simp only [Option.map_some] at hd
      obtain rfl := Option.some.inj hd
      obtain ⟨k0, k1, _⟩ := hF j hj
      obtain ⟨b, off, spot⟩ := a
      have hspot : spot = none := by simpa [Addr.add] using World.cell?_spot (hF 0 (by omega)).1
      subst hspot
      rw [Addr.add_lit] at k0
      exact ⟨b, off, V j, rfl, k0, k1⟩
    · obtain ⟨j, hj, rfl⟩ := List.mem_map.1 hd
      exact (hF j (List.mem_range.1 hj)).2.2

/-- A request. -/
theorem open_ask {H : Type} {enc : TypeId × Value → H} {P : Program} {W : World} {r : Reach} {b0 : Nat} {t sd dt s e : TypeId} {g0 g1 g2 g3 f f0 f1 : Field} {v : Value} {d : DataW H} {p : List MemPlace}
    (ht : P.underlying t = some (.struct #[g0, g1, g2, g3])) (ct : P.cellsOf t = 4) (q0 : g0.offset = 0) (q1 : g1.offset = 1) (q2 : g2.offset = 2) (q3 : g3.offset = 3)
    (w0 : P.underlying g0.type = some (.int .i64)) (w1 : P.underlying g1.type = some .string) (w2 : P.underlying g2.type = some (.int .i64)) (w3 : g3.type = sd) (z0 : P.cellsOf g0.type = 1) (z1 : P.cellsOf g1.type = 1) (z2 : P.cellsOf g2.type = 1) (z3 : P.cellsOf sd = 1)
    (hsd : P.underlying sd = some (.slice dt)) (hdt : P.underlying dt = some (.struct #[f])) (cdt : P.cellsOf dt = 1) (hft : f.type = s) (hfo : f.offset = 0) (cs1 : P.cellsOf s = 1)
    (hs : P.underlying s = some (.slice e)) (he : P.underlying e = some (.struct #[f0, f1])) (ce : P.cellsOf e = 2) (o0 : f0.offset = 0) (o1 : f1.offset = 1)
    (u0 : P.underlying f0.type = some .string) (u1 : P.underlying f1.type = some .string) (c0 : P.cellsOf f0.type = 1) (c1 : P.cellsOf f1.type = 1)
    (hv : Value.okWide P W r b0 t v) (h : DataW.Trod enc P W 0 (fun _ => true) true t v d p) :
    ∃ (vd : Value) (a : K.A), v = .agg #[.int .i64 a.1, .string ⟨a.2.1.toArray⟩, .int .i64 a.2.2.1, vd] ∧ Rdd W vd a.2.2.2 ∧ FitA a := by
  obtain ⟨cs, rfl, hsz⟩ := okWide_struct ht hv
  obtain ⟨l⟩ := cs
  match l, hsz.trans ct with
  | [x0, x1, x2, x3], _ =>
    obtain ⟨fuel, hf⟩ := h
    obtain ⟨xs, n, _, hx, _, hlen, hg⟩ := DataW.trod_struct ht hf
    have hlen4 : xs.length = 4 := hlen
    have h0 := hg 0 g0 rfl
    have h1 := hg 1 g1 rfl
    have h2 := hg 2 g2 rfl
    have h3 := hg 3 g3 rfl
    rw [q0, z0, List.getElem?_eq_getElem (by omega)] at h0
    rw [q1, z1, List.getElem?_eq_getElem (by omega)] at h1
    rw [q2, z2, List.getElem?_eq_getElem (by omega)] at h2
    rw [q3, w3, z3, List.getElem?_eq_getElem (by omega)] at h3
    have k0 : DataW.trod enc P W 0 (fun _ => true) true n g0.type [x0] = some xs[0] := by simpa [Value.cells] using h0
    have k1 : DataW.trod enc P W 0 (fun _ => true) true n g1.type [x1] = some xs[1] := by simpa [Value.cells] using h1
    have k2 : DataW.trod enc P W 0 (fun _ => true) true n g2.type [x2] = some xs[2] := by simpa [Value.cells] using h2
    have k3 : DataW.trod enc P W 0 (fun _ => true) true n sd [x3] = some xs[3] := by simpa [Value.cells] using h3
    obtain ⟨i0, e0, _⟩ := DataW.trod_int w0 k0
    obtain ⟨s1, e1, _, zz⟩ := DataW.trod_string w1 k1
    obtain ⟨i2, e2, _⟩ := DataW.trod_int w2 k2
    obtain ⟨ds, hr, hfit⟩ := open_descs hsd hdt cdt hft hfo cs1 hs he ce o0 o1 u0 u1 c0 c1 k3
    obtain rfl : x0 = .int .i64 i0 := by simpa using e0
    obtain rfl : x1 = .string s1 := by simpa using e1
    obtain rfl : x2 = .int .i64 i2 := by simpa using e2
    obtain ⟨⟨l1⟩⟩ := s1
    refine ⟨x3, (i0, l1, i2, ds), rfl, hr, ?_, hfit⟩
    have : l1.length ≤ maxLen := zz
    unfold maxLen at this
    show l1.length ≤ _
    omega
end Go.Proofs.Ythbmmnjpiflgdaa
