/- An argument that is a descriptor, opened for a walk; and what the listed variables give. -/
import Derived.Test.YtepnjhhpnabpnaaDoorDsB
import Derived.Test.YtepnjhhpnabpnaaDoorDsE
import Derived.Test.YtepnjhhpnabpnaaDoorOpenB
import Derived.Deep.SlicePairs
import Derived.Lib.SmallJoins
import Derived.Stop.LaidErr
import Derived.LaidLaws
namespace Go.Proofs.YtepnjhhpnabpnaaDoor
open Go.RowKit Go.ChangeShapes Go.WideShapes Go.Joins

/-- An array of pairs of numbers, cell by cell. -/
theorem cells_of_pairs {H : Type} {enc : TypeId × Value → H} {P : Program} {w : World} {base : Nat} {sp : Nat → Bool} {held : Bool} {fuel : Nat} {t e : TypeId} {n : Nat} {k : IntKind} {f0 f1 : Field} {cs : List Value} {zs : List (Int × Int)} {p : List MemPlace}
    (ht : P.underlying t = some (.array n e)) (he : P.underlying e = some (.struct #[f0, f1])) (ce : P.cellsOf e = 2) (ct : P.cellsOf t = n * 2) (o0 : f0.offset = 0) (o1 : f1.offset = 1)
    (u0 : P.underlying f0.type = some (.int k)) (u1 : P.underlying f1.type = some (.int k)) (c0 : P.cellsOf f0.type = 1) (c1 : P.cellsOf f1.type = 1)
    (h : DataW.trod enc P w base sp held fuel t cs = some (.agg (zs.map fun z => .agg [.lit (.int k z.1), .lit (.int k z.2)]), p)) :
    cs.length = zs.length * 2 ∧ ∀ i z, zs[i]? = some z → cs[i * 2]? = some (.int k z.1) ∧ cs[i * 2 + 1]? = some (.int k z.2) := by
  obtain ⟨xs, m, _, hx, hl, hxl, hi⟩ := DataW.trod_array ht h
  simp only [Prod.mk.injEq, DataW.agg.injEq] at hx
  have hzl : zs.length = n := by
    have := congrArg List.length hx.1
    simp at this
    omega
  rw [ct] at hl
  refine ⟨by omega, fun i z hz => ?_⟩
  have hin : i < n := by have := (List.getElem?_eq_some_iff.1 hz).1; omega
  have h1 := hi i hin
  rw [ce] at h1
  have hxi : xs[i]? = some (xs[i]'(by omega)) := List.getElem?_eq_getElem (by omega)
  rw [hxi] at h1
  have hd : (xs[i]'(by omega)).1 = .agg [.lit (.int k z.1), .lit (.int k z.2)] := by
    have := congrArg (·[i]?) hx.1
    simp only [List.getElem?_map, hz, hxi, Option.map_some] at this
    exact (Option.some.inj this).symm
  obtain ⟨ys, m', _, hy, _, hyl, hf⟩ := DataW.trod_struct he h1
  have hyl2 : ys.length = 2 := hyl
  have g0 := hf 0 f0 rfl
  have g1 := hf 1 f1 rfl
  rw [o0, c0, List.getElem?_eq_getElem (by omega)] at g0
  rw [o1, c1, List.getElem?_eq_getElem (by omega)] at g1
  obtain ⟨a, ha, hxa, _⟩ := DataW.trod_int u0 g0
  obtain ⟨b, hb, hxb, _⟩ := DataW.trod_int u1 g1
  have hyy : (xs[i]'(by omega)).1 = .agg (ys.map (·.1)) := by rw [hy]
  rw [hd] at hyy
  match ys, hyl2 with
  | [y0, y1], _ =>
    simp only [List.getElem_cons_zero, List.getElem_cons_succ] at hxa hxb
    simp only [DataW.agg.injEq, List.map_cons, List.map_nil, List.cons.injEq, and_true] at hyy
    rw [hxa, hxb] at hyy
    simp only [DataW.lit.injEq, Lit.int.injEq, true_and] at hyy
    obtain ⟨e1, e2⟩ := hyy
    constructor
    · have := congrArg (·[0]?) ha
      rw [e1]
      simpa [List.getElem?_take, List.getElem?_drop] using this
    · have := congrArg (·[0]?) hb
      rw [e2]
      simpa [List.getElem?_take, List.getElem?_drop] using this

def plZ : List (Int × Int) := [(97, 122), (65, 90), (48, 57), (45, 45), (95, 95), (46, 46), (47, 47), (58, 58)]
theorem gPlainTy : (Tryd.prog.globals[0]?).map (·.type) = some 64 := by kernel_rfl
theorem span_fields : ∃ f g, Tryd.prog.underlying 63 = some (.struct #[f, g]) ∧ f.type = 5 ∧ g.type = 5 ∧ f.offset = 0 ∧ g.offset = 1 := by
  refine ⟨_, _, Tryd.underlying63, rfl, rfl, rfl, rfl⟩
theorem span_cells : Tryd.prog.cellsOf 63 = 2 := by kernel_rfl
theorem plain_cellsOf : Tryd.prog.cellsOf 64 = 8 * 2 := by kernel_rfl
theorem u8_cells : Tryd.prog.cellsOf 5 = 1 := by kernel_rfl
theorem plain_of_laid {W : World} {rest : List (String × DataW Unit)} (h : laidMet Tryd.prog (("turncock/desc.plain", .agg (plZ.map fun z => .agg [.lit (.int .u8 z.1), .lit (.int .u8 z.2)])) :: rest) W) : PlainIs W := by
  obtain ⟨ps, ⟨g', t', cs, fuel, p, q, hg', ht', hvar, hd, _, _⟩, _⟩ := h
  obtain rfl := Option.some.inj (gPlain.symm.trans hg')
  obtain rfl := Option.some.inj (gPlainTy.symm.trans ht')
  obtain ⟨f, g, hs, h1, h2, h3, h4⟩ := span_fields
  obtain ⟨hl, hc⟩ := cells_of_pairs Tryd.underlying64 hs span_cells plain_cellsOf h3 h4 (by rw [h1]; exact Tryd.underlying5) (by rw [h2]; exact Tryd.underlying5) (by rw [h1]; exact u8_cells) (by rw [h2]; exact u8_cells) hd
  unfold PlainIs
  rw [hvar]
  congr 1
  have hl16 : cs.toList.length = 16 := hl
  have hlist : cs.toList = plT.toList := by
    match hcs : cs.toList, hl16 with
    | [x0, x1, x2, x3, x4, x5, x6, x7, x8, x9, x10, x11, x12, x13, x14, x15], _ =>
      rw [hcs] at hc
      have q0 := hc 0 (97, 122) rfl; have q1 := hc 1 (65, 90) rfl; have q2 := hc 2 (48, 57) rfl; have q3 := hc 3 (45, 45) rfl
      have q4 := hc 4 (95, 95) rfl; have q5 := hc 5 (46, 46) rfl; have q6 := hc 6 (47, 47) rfl; have q7 := hc 7 (58, 58) rfl
      simp at q0 q1 q2 q3 q4 q5 q6 q7
      simp [plT, q0, q1, q2, q3, q4, q5, q6, q7]
  exact Array.toList_inj.1 hlist

theorem open_desc {H : Type} {enc : TypeId × Value → H} {P : Program} {W : World} {r : Reach} {b0 : Nat} {t s e : TypeId} {f f0 f1 : Field} {v : Value} {d : DataW H} {p : List MemPlace}
    (ht : P.underlying t = some (.struct #[f])) (hft : f.type = s) (hfo : f.offset = 0) (ct : P.cellsOf t = 1) (cs1 : P.cellsOf s = 1) (hs : P.underlying s = some (.slice e)) (he : P.underlying e = some (.struct #[f0, f1])) (ce : P.cellsOf e = 2) (o0 : f0.offset = 0) (o1 : f1.offset = 1)
    (u0 : P.underlying f0.type = some .string) (u1 : P.underlying f1.type = some .string) (c0 : P.cellsOf f0.type = 1) (c1 : P.cellsOf f1.type = 1)
    (hv : Value.okWide P W r b0 t v) (h : DataW.Trod enc P W 0 (fun _ => true) true t v d p) : ∃ (u : Value) (es : List D.E), v = .agg #[u] ∧ Rde W u es ∧ Fits es := by
  obtain ⟨cs, rfl, hsz⟩ := okWide_struct ht hv
  obtain ⟨l⟩ := cs
  match l, hsz.trans ct with
  | [u], _ =>
    obtain ⟨fuel, hf⟩ := h
    obtain ⟨xs, n, _, hx, _, hlen, hg⟩ := DataW.trod_struct ht hf
    have h1 := hg 0 f rfl
    have hlen1 : xs.length = 1 := hlen
    rw [hft, hfo, cs1, List.getElem?_eq_getElem (by omega)] at h1
    have h2 : DataW.trod enc P W 0 (fun _ => true) true n s [u] = some xs[0] := by simpa [Value.cells] using h1
    rcases Deep.open_slice_pairs hs he ce o0 o1 c0 c1 h2 with ⟨hcs, _⟩ | ⟨a, len, cap, m, n', V0, V1, D0, D1, P0, P1, hcs, _, hl, hm, hmm, _, hrow⟩
    · obtain rfl : u = .slice none 0 0 := by simpa using hcs
      exact ⟨_, [], rfl, Rde.nil W, fun _ hh => by cases hh⟩
    · obtain rfl : u = .slice (some a) len cap := by simpa using hcs
      simp only [if_true] at hmm
      have each : ∀ i, i < len → ∃ e : D.E, W.cell? (a.add (i * 2)) = some (tv e.1) ∧ W.cell? (a.add (i * 2 + 1)) = some (tv e.2) ∧ e.1.length ≤ 9223372036854775807 ∧ e.2.length ≤ 9223372036854775807 := by
        intro i hi
        obtain ⟨k0, k1, t0, t1⟩ := hrow i (by omega)
        obtain ⟨s0, hs0, _, z0⟩ := DataW.trod_string u0 t0
        obtain ⟨s1, hs1, _, z1⟩ := DataW.trod_string u1 t1
        obtain ⟨⟨l0⟩⟩ := s0
        obtain ⟨⟨l1⟩⟩ := s1
        refine ⟨(l0, l1), ?_, ?_, ?_, ?_⟩
        · rw [k0, (by simpa using hs0 : V0 i = _)]; rfl
        · rw [k1, (by simpa using hs1 : V1 i = _)]; rfl
        · have : l0.length ≤ maxLen := z0
          unfold maxLen at this; omega
        · have : l1.length ≤ maxLen := z1
          unfold maxLen at this; omega
      obtain ⟨F, hF⟩ := Deep.choose_lt each
      refine ⟨_, (List.range len).map F, rfl, ⟨some a, cap, by simp, by simpa using hl, hm, by simp, fun j e he => ?_⟩, fun e he => ?_⟩
      · have hj : j < len := by
          have := (List.getElem?_eq_some_iff.1 he).1
          simpa using this
        rw [List.getElem?_map, List.getElem?_range hj] at he
        simp only [Option.map_some] at he
        obtain rfl := Option.some.inj he
        obtain ⟨k0, k1, _⟩ := hF j hj
        obtain ⟨b, off, spot⟩ := a
        have hspot : spot = none := by simpa [Addr.add] using World.cell?_spot (hF 0 (by omega)).1
        subst hspot
        rw [Addr.add_lit] at k0 k1
        exact ⟨b, off, rfl, k0, by rw [Nat.add_assoc]; exact k1⟩
      · obtain ⟨j, hj, rfl⟩ := List.mem_map.1 he
        exact (hF j (List.mem_range.1 hj)).2.2
end Go.Proofs.YtepnjhhpnabpnaaDoor
