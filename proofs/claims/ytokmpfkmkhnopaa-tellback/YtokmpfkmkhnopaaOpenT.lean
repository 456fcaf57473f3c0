/- An argument that is a reply, opened for a walk. -/
import Derived.Test.YtokmpfkmkhnopaaTlB
import Derived.Test.YtokmpfkmkhnopaaOpenE
namespace Go.Proofs.Ytokmpfkmkhnopaa
open Go.RowKit Go.ChangeShapes Go.WideShapes Go.Joins

/-- A slice of structs of five numbers. -/
theorem open_stats {H : Type} {enc : TypeId × Value → H} {P : Program} {W : World} {s e it : TypeId} {f0 f1 f2 f3 f4 : Field} {u : Value} {n : Nat} {x : DataW H × List MemPlace}
    (hs : P.underlying s = some (.slice e)) (he : P.underlying e = some (.struct #[f0, f1, f2, f3, f4])) (ce : P.cellsOf e = 5) (o0 : f0.offset = 0) (o1 : f1.offset = 1) (o2 : f2.offset = 2) (o3 : f3.offset = 3) (o4 : f4.offset = 4)
    (t0 : f0.type = it) (t1 : f1.type = it) (t2 : f2.type = it) (t3 : f3.type = it) (t4 : f4.type = it) (ui : P.underlying it = some (.int .i64)) (ci : P.cellsOf it = 1)
    (h2 : DataW.trod enc P W 0 (fun _ => true) true n s [u] = some x) : ∃ ss : List TL.S, Rds W u ss := by
  rcases Deep.open_slice hs h2 with ⟨hcs, _⟩ | ⟨a, len, cap, m, n', Dt, Pl, hcs, _, hl, hm, hmm, _, hrow⟩
  · obtain rfl : u = .slice none 0 0 := by simpa using hcs
    exact ⟨[], Rds.nil W⟩
  · obtain rfl : u = .slice (some a) len cap := by simpa using hcs
    simp only [if_true] at hmm
    have each : ∀ i, i < len → ∃ q : TL.S, W.cell? (a.add (i * 5)) = some (.int .i64 q.1) ∧ W.cell? (a.add (i * 5 + 1)) = some (.int .i64 q.2.1) ∧ W.cell? (a.add (i * 5 + 2)) = some (.int .i64 q.2.2.1) ∧ W.cell? (a.add (i * 5 + 3)) = some (.int .i64 q.2.2.2.1) ∧ W.cell? (a.add (i * 5 + 4)) = some (.int .i64 q.2.2.2.2) := by
      intro i hi
      obtain ⟨cs, h1, h3⟩ := hrow i (by omega)
      rw [ce] at h1
      obtain ⟨_, hlen, hcell⟩ := World.cells?_some h1
      obtain ⟨xs, k, _, _, _, hxl, hf⟩ := DataW.trod_struct he h3
      have hxl5 : xs.length = 5 := hxl
      match cs, hlen with
      | [v0, v1, v2, v3, v4], _ =>
        have g0 := hf 0 f0 rfl
        have g1 := hf 1 f1 rfl
        have g2 := hf 2 f2 rfl
        have g3 := hf 3 f3 rfl
        have g4 := hf 4 f4 rfl
        rw [t0, o0, ci, List.getElem?_eq_getElem (by omega)] at g0
        rw [t1, o1, ci, List.getElem?_eq_getElem (by omega)] at g1
        rw [t2, o2, ci, List.getElem?_eq_getElem (by omega)] at g2
        rw [t3, o3, ci, List.getElem?_eq_getElem (by omega)] at g3
        rw [t4, o4, ci, List.getElem?_eq_getElem (by omega)] at g4
        obtain ⟨i0, e0, _⟩ := DataW.trod_int ui g0
        obtain ⟨i1, e1, _⟩ := DataW.trod_int ui g1
        obtain ⟨i2, e2, _⟩ := DataW.trod_int ui g2
        obtain ⟨i3, e3, _⟩ := DataW.trod_int ui g3
        obtain ⟨i4, e4, _⟩ := DataW.trod_int ui g4
        obtain rfl : v0 = .int .i64 i0 := by simpa using e0
        obtain rfl : v1 = .int .i64 i1 := by simpa using e1
        obtain rfl : v2 = .int .i64 i2 := by simpa using e2
        obtain rfl : v3 = .int .i64 i3 := by simpa using e3
        obtain rfl : v4 = .int .i64 i4 := by simpa using e4
        have c0 := hcell 0 (by omega)
        have c1 := hcell 1 (by omega)
        have c2 := hcell 2 (by omega)
        have c3 := hcell 3 (by omega)
        have c4 := hcell 4 (by omega)
        rw [Deep.add_add] at c0 c1 c2 c3 c4
        exact ⟨(i0, i1, i2, i3, i4), by simpa using c0, by simpa using c1, by simpa using c2, by simpa using c3, by simpa using c4⟩
    obtain ⟨F, hF⟩ := Deep.choose_lt each
    refine ⟨(List.range len).map F, some a, cap, by simp, by simpa using hl, hm, by simp, fun j q hq => ?_⟩
    have hj : j < len := by
      have := (List.getElem?_eq_some_iff.1 hq).1
      simpa using this
    rw [List.getElem?_map, List.getElem?_range hj] at hq
    simp only [Option.map_some] at hq
    obtain rfl := Option.some.inj hq
    obtain ⟨k0, k1, k2, k3, k4⟩ := hF j hj
    obtain ⟨b, off, spot⟩ := a
    have hspot : spot = none := by simpa [Addr.add] using World.cell?_spot (hF 0 (by omega)).1
    subst hspot
    rw [Addr.add_lit] at k0 k1 k2 k3 k4
    exact ⟨b, off, rfl, k0, by rw [Nat.add_assoc]; exact k1, by rw [Nat.add_assoc]; exact k2, by rw [Nat.add_assoc]; exact k3, by rw [Nat.add_assoc]; exact k4⟩

/-- A reply. -/
theorem open_tell {H : Type} {enc : TypeId × Value → H} {P : Program} {W : World} {r : Reach} {b0 : Nat} {t it ss st sh he tx : TypeId} {g0 g1 g2 g3 g4 f0 f1 f2 f3 f4 l0 l1 : Field} {v : Value} {d : DataW H} {p : List MemPlace}
    (ht : P.underlying t = some (.struct #[g0, g1, g2, g3, g4])) (ct : P.cellsOf t = 5) (q0 : g0.offset = 0) (q1 : g1.offset = 1) (q2 : g2.offset = 2) (q3 : g3.offset = 3) (q4 : g4.offset = 4)
    (w0 : g0.type = it) (w1 : g1.type = it) (w2 : P.underlying g2.type = some .bool) (w3 : g3.type = ss) (w4 : g4.type = sh) (z2 : P.cellsOf g2.type = 1) (z3 : P.cellsOf ss = 1) (z4 : P.cellsOf sh = 1)
    (ui : P.underlying it = some (.int .i64)) (ci : P.cellsOf it = 1)
    (hss : P.underlying ss = some (.slice st)) (hst : P.underlying st = some (.struct #[f0, f1, f2, f3, f4])) (cst : P.cellsOf st = 5) (o0 : f0.offset = 0) (o1 : f1.offset = 1) (o2 : f2.offset = 2) (o3 : f3.offset = 3) (o4 : f4.offset = 4)
    (t0 : f0.type = it) (t1 : f1.type = it) (t2 : f2.type = it) (t3 : f3.type = it) (t4 : f4.type = it)
    (hsh : P.underlying sh = some (.slice he)) (hhe : P.underlying he = some (.struct #[l0, l1])) (che : P.cellsOf he = 2) (lo0 : l0.offset = 0) (lo1 : l1.offset = 1) (lt0 : l0.type = tx) (lt1 : l1.type = tx)
    (ux : P.underlying tx = some .string) (cx : P.cellsOf tx = 1)
    (hv : Value.okWide P W r b0 t v) (h : DataW.Trod enc P W 0 (fun _ => true) true t v d p) :
    ∃ (vs vh : Value) (a : TL.T), v = .agg #[.int .i64 a.1, .int .i64 a.2.1, .bool a.2.2.1, vs, vh] ∧ Rdt W vs vh a.2.2.2.1 a.2.2.2.2 ∧ Fits a.2.2.2.2 := by
  obtain ⟨cs, rfl, hsz⟩ := okWide_struct ht hv
  obtain ⟨l⟩ := cs
  match l, hsz.trans ct with
  | [x0, x1, x2, x3, x4], _ =>
    obtain ⟨fuel, hf⟩ := h
    obtain ⟨xs, n, _, hx, _, hlen, hg⟩ := DataW.trod_struct ht hf
    have hlen5 : xs.length = 5 := hlen
    have h0 := hg 0 g0 rfl
    have h1 := hg 1 g1 rfl
    have h2 := hg 2 g2 rfl
    have h3 := hg 3 g3 rfl
    have h4 := hg 4 g4 rfl
    rw [q0, w0, ci, List.getElem?_eq_getElem (by omega)] at h0
    rw [q1, w1, ci, List.getElem?_eq_getElem (by omega)] at h1
    rw [q2, z2, List.getElem?_eq_getElem (by omega)] at h2
    rw [q3, w3, z3, List.getElem?_eq_getElem (by omega)] at h3
    rw [q4, w4, z4, List.getElem?_eq_getElem (by omega)] at h4
    have k0 : DataW.trod enc P W 0 (fun _ => true) true n it [x0] = some xs[0] := by simpa [Value.cells] using h0
    have k1 : DataW.trod enc P W 0 (fun _ => true) true n it [x1] = some xs[1] := by simpa [Value.cells] using h1
    have k2 : DataW.trod enc P W 0 (fun _ => true) true n g2.type [x2] = some xs[2] := by simpa [Value.cells] using h2
    have k3 : DataW.trod enc P W 0 (fun _ => true) true n ss [x3] = some xs[3] := by simpa [Value.cells] using h3
    have k4 : DataW.trod enc P W 0 (fun _ => true) true n sh [x4] = some xs[4] := by simpa [Value.cells] using h4
    obtain ⟨i0, e0, _⟩ := DataW.trod_int ui k0
    obtain ⟨i1, e1, _⟩ := DataW.trod_int ui k1
    obtain ⟨i2, e2, _⟩ := DataW.trod_bool w2 k2
    obtain ⟨sl, hr⟩ := open_stats hss hst cst o0 o1 o2 o3 o4 t0 t1 t2 t3 t4 ui ci k3
    obtain ⟨hl, hr', hfit⟩ := open_ents hsh hhe che lo0 lo1 (lt0 ▸ ux) (lt1 ▸ ux) (lt0 ▸ cx) (lt1 ▸ cx) k4
    obtain rfl : x0 = .int .i64 i0 := by simpa using e0
    obtain rfl : x1 = .int .i64 i1 := by simpa using e1
    obtain rfl : x2 = .bool i2 := by simpa using e2
    exact ⟨x3, x4, (i0, i1, i2, sl, hl), rfl, ⟨hr, hr'⟩, hfit⟩
end Go.Proofs.Ytokmpfkmkhnopaa
