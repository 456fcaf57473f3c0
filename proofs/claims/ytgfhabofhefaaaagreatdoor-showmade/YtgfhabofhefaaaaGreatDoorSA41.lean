/- A part of the proof. -/
import Derived.Test.YtgfhabofhefaaaaGreatDoorSA40
import Derived.Deep.RegionLaw
import Derived.BigRegion
import Derived.Deep.DeepCutAuto
import Derived.Deep.CutBlock
import Derived.Deep.LoopGhost
namespace Go.Proofs.YtgfhabofhefaaaaGreatDoor
open Go.RowKit
theorem ncs_set1 : ∀ {ls : List Nv} {j : Nat} {x : Nv} (i : Nat) (u : Value) (y : Nv), i < 6 → (nc1 x).set i u = nc1 y → ls[j]? = some x → (ncs ls).set (j * 6 + i) u = ncs (ls.set j y)
  | [], _, _, _, _, _, _, _, h => by simp at h
  | x :: ls, 0, s, i, u, y, hi, hy, h => by
    have : x = s := by simpa using h
    subst this
    rw [List.set_cons_zero, ncs_cons, ncs_cons, Nat.zero_mul, Nat.zero_add, List.set_append_left _ _ (by simpa [nc1] using hi), hy]
  | x :: ls, j + 1, s, i, u, y, hi, hy, h => by
    have h' : ls[j]? = some s := by simpa using h
    have e : (nc1 x).length = 6 := rfl
    rw [List.set_cons_succ, ncs_cons, ncs_cons, ← ncs_set1 i u y hi hy h', List.set_append_right _ _ (by rw [e]; omega), e]
    congr 2
    omega
theorem Ownv.put1 {w : World} {base g cap : Nat} {ls : List Nv} {j : Nat} {x : Nv} (h : Ownv w base (.slice (some ⟨g, 0, none⟩) ls.length cap) ls) (hj : ls[j]? = some x) (i : Nat) (hi : i < 6) (u : Value) (y : Nv) (hy : (nc1 x).set i u = nc1 y) :
    Ownv (w.setCell ⟨g, j * 6 + i, none⟩ u) base (.slice (some ⟨g, 0, none⟩) (ls.set j y).length cap) (ls.set j y) := by
  have s := (World.ownsRow.stored h (j * 6 + i) u).1
  rw [ncs_set1 i u y hi hy hj] at s
  show World.ownsRow _ _ _ _ _ _ _
  rw [List.length_set]
  exact s
structure Ndv (w : World) (base : Nat) (S : Nat → Prop) (g cap : Nat) (vs : List Nv) : Prop where
  own : Ownv w base (.slice (some ⟨g, 0, none⟩) vs.length cap) vs
  nk : ∀ a ∈ vs, Nk w base S a
theorem Ndv.set1 {w : World} {base g cap : Nat} {S : Nat → Prop} {vs : List Nv} (h : Ndv w base S g cap vs) {j : Nat} {x : Nv} (hj : vs[j]? = some x) (i : Nat) (hi : i < 6) (u : Value) (y : Nv) (hy : (nc1 x).set i u = nc1 y) (hk : Nk w base S y) :
    Ndv (w.setCell ⟨g, j * 6 + i, none⟩ u) base S g cap (vs.set j y) ∧ (vs.set j y)[j]? = some y := by
  have kb := Kb.set w g (j * 6 + i) u none
  have hf : Far w S (some g) := Far.nodes h.own
  refine ⟨⟨h.own.put1 hj i hi u y hy, fun b hb => ?_⟩, ?_⟩
  · rcases List.mem_or_eq_of_mem_set hb with hb | rfl
    · exact (h.nk b hb).kb kb hf (Far.none _ _)
    · exact hk.kb kb hf (Far.none _ _)
  · rw [List.getElem?_set_self (List.getElem?_eq_some_iff.1 hj).1]
theorem Ndv.nds {w : World} {base g cap : Nat} {S : Nat → Prop} {vs : List Nv} {ns : List DC.Nd} (h : Ndv w base S g cap vs) (e : vs.map (·.1) = ns) : Nds w base S (.slice (some ⟨g, 0, none⟩) ns.length cap) ns := by
  subst e
  exact ⟨vs, rfl, by rw [List.length_map]; exact h.own, h.nk⟩
theorem Nds.node {w : World} {base : Nat} {S : Nat → Prop} {v : Value} {ns : List DC.Nd} {j : Nat} {z : DC.Nd} (h : Nds w base S v ns) (hj : ns[j]? = some z) :
    ∃ g cap vs x, v = .slice (some ⟨g, 0, none⟩) ns.length cap ∧ vs.map (·.1) = ns ∧ vs[j]? = some x ∧ x.1 = z ∧ Ndv w base S g cap vs ∧ base ≤ g ∧ g < w.heap.size ∧ At6 w g (j * 6) x ∧ ∀ i, w.frozen? ⟨g, i, none⟩ = false := by
  obtain ⟨vs, rfl, ho, hn⟩ := h
  rw [List.getElem?_map] at hj
  obtain ⟨x, hx, hz⟩ := Option.map_eq_some_iff.1 hj
  obtain ⟨g, cap, rfl, h0, h1, h2, h3⟩ := ho.at hx
  exact ⟨g, cap, vs, x, by rw [List.length_map], rfl, hx, hz, ⟨ho, hn⟩, h0, h1, h2, h3⟩
theorem Kb.own {w w' : World} {g : Nat} (h : Kb w w' (some g) none) (p : Option Nat) : Kb w w' p (some g) := ⟨h.os, h.tape, h.output, h.size, fun k h1 _ h3 => h.block k h1 h3 (by simp)⟩
theorem TbS.row {w0 w wr w' : World} {p n g cap : Nat} {nv lv kv v : Value} {x : LX.Pc} {L : List LX.Pc} {t : Nat} {ns ns' : List DC.Nd} {fk fl : Int} {S Sk : Nat → Prop} {ks : List LX.B} {is : List Nat}
    (h : TbS w0 w wr p nv lv (.slice (some ⟨g, 0, none⟩) n cap) kv v x L t ns fk fl S Sk ks is) (hg : w0.heap.size ≤ g) (hk : Kb wr w' (some g) none) (hn : Nds w' w0.heap.size Sk (.slice (some ⟨g, 0, none⟩) n cap) ns') :
    TbS w0 w w' p nv lv (.slice (some ⟨g, 0, none⟩) n cap) kv v x L t ns' fk fl S Sk ks is := by
  have op := h.rs.off
  have np : some p ≠ some g := by
    rcases op with e | e
    · cases e
    · exact fun e2 => e e2.symm
  have nf : some w.heap.size ≠ some g := by
    rcases h.rs.nd.off h.fi (by decide) with e | e
    · cases e
    · exact fun e2 => e e2.symm
  have hr : Rst w0 w' p lv L t (.slice (some ⟨g, 0, none⟩) n cap) ns' fk fl Sk :=
    ⟨h.rs.bl.trans (hk.below h.rs.size (fun g' hg' => by obtain rfl := Option.some.inj hg'; exact hg) (by simp)), h.rs.hp, h.rs.st.kb hk np (by simp), h.rs.rd, h.rs.le, hn, fun g' hg' => Nat.lt_of_lt_of_le (h.rs.sb g' hg') hk.size⟩
  exact h.fed (hk.own (some p)) hr (Near.refl _ _) fun g hg => .inl hg
theorem TbS.apart {w0 w wr : World} {p n g cap : Nat} {nv lv kv v : Value} {x : LX.Pc} {L : List LX.Pc} {t : Nat} {ns : List DC.Nd} {fk fl : Int} {S Sk : Nat → Prop} {ks : List LX.B} {is : List Nat}
    (h : TbS w0 w wr p nv lv (.slice (some ⟨g, 0, none⟩) n cap) kv v x L t ns fk fl S Sk ks is) : g ≠ p ∧ g ≠ w.heap.size := by
  constructor
  · intro e
    rcases h.rs.off with e1 | e1
    · cases e1
    · exact e1 (congrArg some e)
  · intro e
    rcases h.rs.nd.off h.fi (by decide) with e1 | e1
    · cases e1
    · exact e1 (congrArg some e)
theorem Nk.as {w : World} {base : Nat} {S : Nat → Prop} {z z' : DC.Nd} {a b : Value} (h : Nk w base S (z, a, b)) (h1 : z'.keys = z.keys) (h2 : z'.kids = z.kids) : Nk w base S (z', a, b) :=
  ⟨by rw [h1]; exact h.keys, by rw [h2]; exact h.kids, h.sk, h.si⟩
theorem getElem_len {l : List DC.Nd} {j : Nat} (y : DC.Nd) : (l.set j y).length = l.length := List.length_set
theorem TbS.text {w0 w wr : World} {p : Nat} {nv lv nv' kv v : Value} {x : LX.Pc} {L : List LX.Pc} {t : Nat} {ns : List DC.Nd} {fk fl : Int} {S Sk : Nat → Prop} {ks : List LX.B} {is : List Nat}
    (h : TbS w0 w wr p nv lv nv' kv v x L t ns fk fl S Sk ks is) {j : Nat} {ln : Int} (hj : ns[j]? = some ⟨0, ln, [], false, [], []⟩) (tx : LX.B) (q : Bool) :
    ∃ g cap y, nv' = .slice (some ⟨g, 0, none⟩) ns.length cap ∧ g ≠ p ∧ g ≠ w.heap.size ∧ At6 wr g (j * 6) y ∧ (∀ i, wr.frozen? ⟨g, i, none⟩ = false) ∧
      TbS w0 w (((wr.setCell ⟨g, j * 6, none⟩ (.int .i64 1)).setCell ⟨g, j * 6 + 2, none⟩ (.string ⟨tx.toArray⟩)).setCell ⟨g, j * 6 + 3, none⟩ (.bool q)) p nv lv (.slice (some ⟨g, 0, none⟩) ns.length cap) kv v x L t (ns.set j ⟨1, ln, tx, q, [], []⟩) fk fl S Sk ks is := by
  obtain ⟨g, cap, vs, ⟨z, ak, ai⟩, rfl, hvs, hy, hz, hd, h0, h1, h2, h3⟩ := h.rs.nd.node hj
  simp only at hz
  subst hz
  obtain ⟨n1, n2⟩ := h.apart
  have hk := hd.nk _ (List.mem_of_getElem? hy)
  obtain ⟨d1, e1⟩ := hd.set1 hy 0 (by decide) (.int .i64 1) (⟨1, ln, [], false, [], []⟩, ak, ai) rfl (hk.as rfl rfl)
  obtain ⟨d2, e2⟩ := d1.set1 e1 2 (by decide) (.string ⟨tx.toArray⟩) (⟨1, ln, tx, false, [], []⟩, ak, ai) rfl ((d1.nk _ (List.mem_of_getElem? e1)).as rfl rfl)
  obtain ⟨d3, e3⟩ := d2.set1 e2 3 (by decide) (.bool q) (⟨1, ln, tx, q, [], []⟩, ak, ai) rfl ((d2.nk _ (List.mem_of_getElem? e2)).as rfl rfl)
  rw [Nat.add_zero] at d3
  refine ⟨g, cap, _, rfl, n1, n2, h2, h3, h.row h0 (((Kb.set wr g _ _ none).trans (Kb.set _ g _ _ none)).trans (Kb.set _ g _ _ none)) ?_⟩
  have := d3.nds (ns := ns.set j ⟨1, ln, tx, q, [], []⟩) (by simp only [List.set_set, List.map_set, hvs])
  rwa [getElem_len] at this
theorem TbS.kind {w0 w wr : World} {p : Nat} {nv lv nv' kv v : Value} {x : LX.Pc} {L : List LX.Pc} {t : Nat} {ns : List DC.Nd} {fk fl : Int} {S Sk : Nat → Prop} {ks : List LX.B} {is : List Nat}
    (h : TbS w0 w wr p nv lv nv' kv v x L t ns fk fl S Sk ks is) {j : Nat} {k0 ln : Int} (hj : ns[j]? = some ⟨k0, ln, [], false, [], []⟩) (k : Int) :
    ∃ g cap y, nv' = .slice (some ⟨g, 0, none⟩) ns.length cap ∧ g ≠ p ∧ g ≠ w.heap.size ∧ At6 wr g (j * 6) y ∧ (∀ i, wr.frozen? ⟨g, i, none⟩ = false) ∧
      TbS w0 w (wr.setCell ⟨g, j * 6, none⟩ (.int .i64 k)) p nv lv (.slice (some ⟨g, 0, none⟩) ns.length cap) kv v x L t (ns.set j ⟨k, ln, [], false, [], []⟩) fk fl S Sk ks is := by
  obtain ⟨g, cap, vs, ⟨z, ak, ai⟩, rfl, hvs, hy, hz, hd, h0, h1, h2, h3⟩ := h.rs.nd.node hj
  simp only at hz
  subst hz
  obtain ⟨n1, n2⟩ := h.apart
  have hk := hd.nk _ (List.mem_of_getElem? hy)
  obtain ⟨d1, e1⟩ := hd.set1 hy 0 (by decide) (.int .i64 k) (⟨k, ln, [], false, [], []⟩, ak, ai) rfl (hk.as rfl rfl)
  rw [Nat.add_zero] at d1
  refine ⟨g, cap, _, rfl, n1, n2, h2, h3, h.row h0 (Kb.set wr g _ _ none) ?_⟩
  have := d1.nds (ns := ns.set j ⟨k, ln, [], false, [], []⟩) (by simp only [List.map_set, hvs])
  rwa [getElem_len] at this
theorem TbS.done {w0 w wr : World} {p : Nat} {nv lv nv' kv v : Value} {x : LX.Pc} {L : List LX.Pc} {t : Nat} {ns : List DC.Nd} {fk fl : Int} {S Sk : Nat → Prop} {ks : List LX.B} {is : List Nat}
    (h : TbS w0 w wr p nv lv nv' kv v x L t ns fk fl S Sk ks is) {j : Nat} {k ln : Int} (hj : ns[j]? = some ⟨k, ln, [], false, [], []⟩) (hS : ∀ g, S g → g < w.heap.size) :
    ∃ g cap y, nv' = .slice (some ⟨g, 0, none⟩) ns.length cap ∧ g ≠ p ∧ g ≠ w.heap.size ∧ At6 wr g (j * 6) y ∧ (∀ i, wr.frozen? ⟨g, i, none⟩ = false) ∧
      ∃ w', w' = (wr.setCell ⟨g, j * 6 + 4, none⟩ kv).setCell ⟨g, j * 6 + 5, none⟩ v ∧ Rst w0 w' p lv L t (.slice (some ⟨g, 0, none⟩) ns.length cap) (ns.set j ⟨k, ln, [], false, ks, is⟩) fk fl (More S w w') ∧ Kb w w' (some p) nv.ownBlock ∧ Near w nv (.slice (some ⟨g, 0, none⟩) ns.length cap) := by
  obtain ⟨g, cap, vs, ⟨z, ak, ai⟩, rfl, hvs, hy, hz, hd, h0, h1, h2, h3⟩ := h.rs.nd.node hj
  simp only at hz
  subst hz
  obtain ⟨n1, n2⟩ := h.apart
  obtain ⟨S1, hS1⟩ : ∃ S1 : Nat → Prop, ∀ g, S1 g ↔ (Sk g ∨ kv.ownBlock = some g ∨ v.ownBlock = some g) := ⟨fun g => Sk g ∨ kv.ownBlock = some g ∨ v.ownBlock = some g, fun g => Iff.rfl⟩
  have hd1 : Ndv wr w0.heap.size S1 g cap vs := ⟨hd.own, fun a ha => (hd.nk a ha).mono fun g hg => (hS1 g).2 (.inl hg)⟩
  have hk := hd1.nk _ (List.mem_of_getElem? hy)
  have kb1 := Kb.set wr g (j * 6 + 4) kv none
  have kb2 := Kb.set (wr.setCell ⟨g, j * 6 + 4, none⟩ kv) g (j * 6 + 5) v none
  obtain ⟨d1, e1⟩ := hd1.set1 hy 4 (by decide) kv (⟨k, ln, [], false, ks, []⟩, kv, ai) rfl ⟨h.keys.base h.gz, hk.kids, fun g hg => (hS1 g).2 (.inr (.inl hg)), hk.si⟩
  have hk1 := d1.nk _ (List.mem_of_getElem? e1)
  have hv1 := h.kids.kb kb1 (h.kids.ne_nds h.rs.nd (by decide)).1 no_or
  obtain ⟨d2, e2⟩ := d1.set1 e1 5 (by decide) v (⟨k, ln, [], false, ks, is⟩, kv, v) rfl ⟨hk1.keys, hv1.base h.gz, hk1.sk, fun g hg => (hS1 g).2 (.inr (.inr hg))⟩
  have hn := d2.nds (ns := ns.set j ⟨k, ln, [], false, ks, is⟩) (by simp only [List.set_set, List.map_set, hvs])
  rw [getElem_len] at hn
  have kb := kb1.trans kb2
  have hm : ∀ g', S1 g' → More S w ((wr.setCell ⟨g, j * 6 + 4, none⟩ kv).setCell ⟨g, j * 6 + 5, none⟩ v) g' := fun g' hg' => by
    rcases (hS1 g').1 hg' with e | e | e
    · rcases h.sub g' e with e | e
      · exact .inl e
      · exact .inr ⟨e.1, Nat.lt_of_lt_of_le e.2 kb.size⟩
    · exact .inr ⟨(h.keys.lt e).1, Nat.lt_of_lt_of_le (h.keys.lt e).2 kb.size⟩
    · exact .inr ⟨(h.kids.lt e).1, Nat.lt_of_lt_of_le (h.kids.lt e).2 kb.size⟩
  have kbw := h.kb.near h.nr (kb.own (some p))
  refine ⟨g, cap, _, rfl, n1, n2, h2, h3, _, rfl, ⟨h.rs.bl.trans (kb.below h.rs.size (fun g' hg' => by obtain rfl := Option.some.inj hg'; exact h0) (by simp)), h.rs.hp, h.rs.st.kb kb (fun e => n1 (Option.some.inj e).symm) (by simp), h.rs.rd, h.rs.le, hn.mono hm, fun g' hg' => ?_⟩, kbw, h.nr⟩
  rcases hg' with e | e
  · exact Nat.lt_of_lt_of_le (hS g' e) kbw.size
  · exact e.2
def Fin (k ln : Int) (o : DC.IR) : DC.BR := o.bind fun a => .ok (⟨DC.nk k, ln, [], false, a.1, a.2.1⟩ :: a.2.2.1, a.2.2.2)
theorem get_mid {ns ms : List DC.Nd} {N : Nat} (z : DC.Nd) (h : ns.length = N) : (ns ++ z :: ms)[N]? = some z := by
  rw [List.getElem?_append_right (by omega), h, Nat.sub_self]; rfl
theorem set_mid {ns ms : List DC.Nd} {N : Nat} (z y : DC.Nd) (h : ns.length = N) : (ns ++ z :: ms).set N y = ns ++ y :: ms := by
  rw [List.set_append_right _ _ (by omega), h, Nat.sub_self]; rfl
theorem len_mid {ns ms : List DC.Nd} {N : Nat} (z : DC.Nd) (h : ns.length = N) : (ns ++ z :: ms).length = N + 1 + ms.length := by
  rw [List.length_append, h, List.length_cons]; omega
end Go.Proofs.YtgfhabofhefaaaaGreatDoor
namespace Go.Proofs.YtgfhabofhefaaaaGreatDoor
open Go.RowKit
theorem nk_no {k : Int} (h : DC.nk k = 0) : ¬ k = 3 ∧ ¬ k = 1 ∧ ¬ k = 2 := by
  refine ⟨?_, ?_, ?_⟩ <;> rintro rfl <;> exact absurd h (by decide)
set_option maxRecDepth 10000 in
set_option maxHeartbeats 16000000 in
theorem rblock0_any {f : Nat} (hb : ∀ f', f' < f → RbC f') (w0 w : World) (p : Nat) (lv nv : Value) (L : List LX.Pc) (t : Nat) (ns : List DC.Nd) (S : Nat → Prop) (d : Nat) (x : LX.Pc) (hx : L[t]? = some x) (hdr : L.drop t = x :: L.drop (t + 1)) (hk0 : DC.nk x.1 = 0) (h : Rst w0 w p lv L t nv ns 0 0 S) (ht : t < L.length) (hL : L.length ≤ 1000000) (hf : 2 * (L.drop t).length + 2 ≤ f + 1) (hN : ns.length ≤ 2000) (hd : d ≤ 25) :
    Calls Tryz.prog 62 #[.pointer (some ⟨p, 0, none⟩), .int .i64 (d : Int)] w (RbE w0 w p lv L nv ns S (DC.blk (f + 1) d ns.length (L.drop t))) := by
  obtain ⟨A, HF⟩ : ∃ A, Hid (A = DC.blk (f + 1) d ns.length (L.drop t)) := ⟨_, Lib.hid rfl⟩
  rw [show DC.blk (f + 1) d ns.length (L.drop t) = A from HF.out.symm]
  have HDR := Lib.hid hdr
  have HS := Lib.hid (TbS.start h x)
  have HSB := Lib.hid h.sb
  have HB := Lib.hid hb
  have HN := Lib.hid hN
  have HD := Lib.hid hd
  have HF0 := Lib.hid hf
  have HLL := Lib.hid hL
  have HX := Lib.hid hx
  obtain ⟨b, off, cap, rfl, hx5⟩ := h.at hx
  obtain ⟨n, hn⟩ : ∃ n, L.length = n := ⟨_, rfl⟩
  have HLn := Lib.hid hn
  have c0 : w.cell? ⟨p, 0, none⟩ = some (.slice (some ⟨b, off, none⟩) n cap) := by rw [← hn]; exact h.st.cell 0
  have c1 : w.cell? ⟨p, 1, none⟩ = some (.int .i64 (t : Int)) := h.st.cell 1
  obtain ⟨d0, d1, d2, d3, d4⟩ := hx5
  have htn : (t : Int) < (n : Int) := by omega
  have ht0 : (0 : Int) ≤ (t : Int) := by omega
  obtain ⟨xk, xn, xc, xt, xq⟩ := x
  replace hk0 : DC.nk xk = 0 := hk0
  unfold pc at HS
  simp only at HS d0 d1 d2 d3 d4
  rw [hn] at HS
  have a0 := fun o => ((below_alloc w o).cell (cell_lt c0)).trans c0
  have a1 := fun o => ((below_alloc w o).cell (cell_lt c1)).trans c1
  have a2 := fun o => ((below_alloc w o).cell (cell_lt d0)).trans d0
  have a3 := fun o => ((below_alloc w o).cell (cell_lt d1)).trans d1
  have a4 := fun o => ((below_alloc w o).cell (cell_lt d2)).trans d2
  have a5 := fun o => ((below_alloc w o).cell (cell_lt d3)).trans d3
  have a6 := fun o => ((below_alloc w o).cell (cell_lt d4)).trans d4
  rw [hn]
  clear h hx hdr hN hd hf hL hn hb ht
  go_enter Tryz.func62, Tryz.ntmps62
  go_upto_region 1 with fail
  go_cut [5] (fun s5 wx => s5 = .pointer (some ⟨w.heap.size, 0, none⟩) ∧ Hid (TbS w0 w wx p nv (.slice (some ⟨b, off, none⟩) n cap) nv (.slice none 0 0) (.slice none 0 0) (xk, xn, xc, xt, xq) L t ns 0 0 S S [] []))
  case first =>
    go_region
    all_goals (go_wp2_with fail; go_meet; exact ⟨rfl, HS⟩)
  case rest =>
    obtain ⟨rfl, HS1⟩ := hcut
    clear HS a0 a1 a2 a3 a4 a5 a6 c0 c1 d0 d1 d2 d3 d4
    obtain ⟨P, hP⟩ : ∃ P, w.heap.size = P := ⟨_, rfl⟩
    have HP := Lib.hid hP
    simp only [hP]
    have e0 : wc.cell? ⟨P, 0, none⟩ = some (.int .i64 xk) := by rw [← hP]; exact HS1.out.fi.cell 0
    have e1 : wc.cell? ⟨P, 1, none⟩ = some (.int .i64 xn) := by rw [← hP]; exact HS1.out.fi.cell 1
    clear hP
    have HBAD := Lib.hid (fun (k l : Int) (w2 : World) (hAA : A = .bad k l) (hp : Rst w0 w2 p (.slice (some ⟨b, off, none⟩) n cap) L t nv ns k l S) (hk : Kb wc w2 (some p) nv.ownBlock) => (show RbE w0 w p (.slice (some ⟨b, off, none⟩) n cap) L nv ns S A (.returned (.int .i64 0)) w2 by
      have hkk := HS1.out.kb.trans hk
      obtain ⟨m1, m2⟩ := More.ofS HSB.out hkk.size
      rw [hAA]
      exact ⟨0, t, nv, ns, k, l, rfl, hp.mono m1 m2, hkk, Near.refl _ _, rfl, rfl, ⟨[], (List.append_nil _).symm⟩, HN.out⟩))
    have HFA := Lib.hid (fun (k : Int) => rfail_any HS1.out.rs k xn)
    have E := Lib.hid (show A = .bad 6 xn by rw [HF.out, HDR.out, DC.blk_kind hk0])
    obtain ⟨k3, k1, k2⟩ := nk_no hk0
    have b3 : (xk != 3) = true := by simpa using k3
    have b1 : (xk != 1) = true := by simpa using k1
    have b2 : (xk != 2) = true := by simpa using k2
    go_wp2_with (go_at_call 63; refine (HFA.out 6).mono ?_; rintro e w2 ⟨rfl, hp, hk⟩)
    go_ret
    exact HBAD.out 6 xn w2 E.out hp hk
end Go.Proofs.YtgfhabofhefaaaaGreatDoor
