/- A part of the proof. -/
import Derived.Test.YtgfhabofhefaaaaGreatDoorSA41
import Derived.Deep.RegionLaw
import Derived.BigRegion
import Derived.Deep.DeepCutAuto
import Derived.Deep.CutBlock
import Derived.Deep.LoopGhost
namespace Go.Proofs.YtgfhabofhefaaaaGreatDoor
open Go.RowKit
set_option maxRecDepth 10000 in
set_option maxHeartbeats 16000000 in
theorem rblock3_any {f : Nat} (hb : ∀ f', f' < f → RbC f') (w0 w : World) (p : Nat) (lv nv : Value) (L : List LX.Pc) (t : Nat) (ns : List DC.Nd) (S : Nat → Prop) (d : Nat) (x : LX.Pc) (hx : L[t]? = some x) (hdr : L.drop t = x :: L.drop (t + 1)) (hK : x.1 = 3) (h : Rst w0 w p lv L t nv ns 0 0 S) (ht : t < L.length) (hL : L.length ≤ 1000000) (hf : 2 * (L.drop t).length + 2 ≤ f + 1) (hN : ns.length ≤ 2000) (hd : d ≤ 25) :
    Calls Tryz.prog 62 #[.pointer (some ⟨p, 0, none⟩), .int .i64 (d : Int)] w (RbE w0 w p lv L nv ns S (DC.blk (f + 1) d ns.length (L.drop t))) := by
  obtain ⟨A, HF⟩ : ∃ A, Hid (A = DC.blk (f + 1) d ns.length (L.drop t)) := ⟨_, Lib.hid rfl⟩
  rw [show DC.blk (f + 1) d ns.length (L.drop t) = A from HF.out.symm]
  have HDR := Lib.hid hdr
  have HS := Lib.hid (TbS.start h x)
  have HSB := Lib.hid h.sb
  have HB := Lib.hid hb
  have HN := Lib.hid hN
  have HD := Lib.hid hd
  have HF0 := Lib.hid hf
  have HLL := Lib.hid hL
  have HX := Lib.hid hx
  obtain ⟨b, off, cap, rfl, hx5⟩ := h.at hx
  obtain ⟨n, hn⟩ : ∃ n, L.length = n := ⟨_, rfl⟩
  have HLn := Lib.hid hn
  have c0 : w.cell? ⟨p, 0, none⟩ = some (.slice (some ⟨b, off, none⟩) n cap) := by rw [← hn]; exact h.st.cell 0
  have c1 : w.cell? ⟨p, 1, none⟩ = some (.int .i64 (t : Int)) := h.st.cell 1
  obtain ⟨d0, d1, d2, d3, d4⟩ := hx5
  have htn : (t : Int) < (n : Int) := by omega
  have ht0 : (0 : Int) ≤ (t : Int) := by omega
  obtain ⟨xk, xn, xc, xt, xq⟩ := x
  replace hK : xk = 3 := hK
  subst hK
  unfold pc at HS
  simp only at HS d0 d1 d2 d3 d4
  rw [hn] at HS
  have a0 := fun o => ((below_alloc w o).cell (cell_lt c0)).trans c0
  have a1 := fun o => ((below_alloc w o).cell (cell_lt c1)).trans c1
  have a2 := fun o => ((below_alloc w o).cell (cell_lt d0)).trans d0
  have a3 := fun o => ((below_alloc w o).cell (cell_lt d1)).trans d1
  have a4 := fun o => ((below_alloc w o).cell (cell_lt d2)).trans d2
  have a5 := fun o => ((below_alloc w o).cell (cell_lt d3)).trans d3
  have a6 := fun o => ((below_alloc w o).cell (cell_lt d4)).trans d4
  rw [hn]
  clear h hx hdr hN hd hf hL hn hb ht
  go_enter Tryz.func62, Tryz.ntmps62
  go_upto_region 1 with fail
  go_cut [5] (fun s5 wx => s5 = .pointer (some ⟨w.heap.size, 0, none⟩) ∧ Hid (TbS w0 w wx p nv (.slice (some ⟨b, off, none⟩) n cap) nv (.slice none 0 0) (.slice none 0 0) (3, xn, xc, xt, xq) L t ns 0 0 S S [] []))
  case first =>
    go_region
    all_goals (go_wp2_with fail; go_meet; exact ⟨rfl, HS⟩)
  case rest =>
    obtain ⟨rfl, HS1⟩ := hcut
    clear HS a0 a1 a2 a3 a4 a5 a6 c0 c1 d0 d1 d2 d3 d4
    obtain ⟨P, hP⟩ : ∃ P, w.heap.size = P := ⟨_, rfl⟩
    have HP := Lib.hid hP
    simp only [hP]
    have e0 : wc.cell? ⟨P, 0, none⟩ = some (.int .i64 3) := by rw [← hP]; exact HS1.out.fi.cell 0
    have e1 : wc.cell? ⟨P, 1, none⟩ = some (.int .i64 xn) := by rw [← hP]; exact HS1.out.fi.cell 1
    clear hP
    have HBAD := Lib.hid (fun (k l : Int) (w2 : World) (hAA : A = .bad k l) (hp : Rst w0 w2 p (.slice (some ⟨b, off, none⟩) n cap) L t nv ns k l S) (hk : Kb wc w2 (some p) nv.ownBlock) => (show RbE w0 w p (.slice (some ⟨b, off, none⟩) n cap) L nv ns S A (.returned (.int .i64 0)) w2 by
      have hkk := HS1.out.kb.trans hk
      obtain ⟨m1, m2⟩ := More.ofS HSB.out hkk.size
      rw [hAA]
      exact ⟨0, t, nv, ns, k, l, rfl, hp.mono m1 m2, hkk, Near.refl _ _, rfl, rfl, ⟨[], (List.append_nil _).symm⟩, HN.out⟩))
    have HFA := Lib.hid (fun (k : Int) => rfail_any HS1.out.rs k xn)
    have hk0 : ¬ DC.nk 3 = 0 := by decide
    have HKN := Lib.hid hk0
    clear hk0
    obtain ⟨an, cn, hnv⟩ := HS1.out.rs.nd.slice
    obtain ⟨N, hNN⟩ : ∃ N, ns.length = N := ⟨_, rfl⟩
    have HNN := Lib.hid hNN
    rw [hNN] at hnv HF HN
    subst hnv
    have p2 : wc.cell? ⟨p, 2, none⟩ = some (.slice an N cn) := HS1.out.rs.st.cell 2
    clear hNN
    · by_cases hd : 24 < d
      · have E := Lib.hid (show A = .bad 8 xn by rw [HF.out, HDR.out, DC.blk_deep HKN.out hd])
        have hdb : (24 : Int) < (d : Int) := by omega
        go_wp2_with (go_at_call 63; refine (HFA.out 8).mono ?_; rintro e w2 ⟨rfl, hp, hk⟩)
        go_ret
        exact HBAD.out 8 xn w2 E.out hp hk
      have HDD := Lib.hid hd
      have hdb : ¬ (24 : Int) < (d : Int) := by omega
      by_cases hm : 2000 ≤ N
      · have E := Lib.hid (show A = .bad 9 xn by rw [HF.out, HDR.out, DC.blk_many HKN.out HDD.out hm])
        have hmb : (2000 : Int) ≤ (N : Int) := by omega
        go_wp2_with (go_at_call 63; refine (HFA.out 9).mono ?_; rintro e w2 ⟨rfl, hp, hk⟩)
        go_ret
        exact HBAD.out 9 xn w2 E.out hp hk
      have HMM := Lib.hid hm
      have hmb : ¬ (2000 : Int) ≤ (N : Int) := by omega
      clear hd hm HBAD HFA
      go_upto_region 12 with fail
      go_cut [] (fun wx => ∃ an2 cn2, Hid (TbS w0 w wx p (.slice an N cn) (.slice (some ⟨b, off, none⟩) n cap) (.slice an2 (N + 1) cn2) (.slice none 0 0) (.slice none 0 0) (3, xn, xc, xt, xq) L t (ns ++ [⟨0, xn, [], false, [], []⟩]) 0 0 S S [] []))
      case first =>
        have b5 := below_trans (below_alloc wc (.cells #[.int .i64 0, .int .i64 xn, .string ⟨#[]⟩, .bool false, .slice none 0 0, .slice none 0 0] 48)) (below_drew _)
        have HS5 := Lib.hid (HS1.out.calm b5)
        have p2' : (wc.alloc (.cells #[.int .i64 0, .int .i64 xn, .string ⟨#[]⟩, .bool false, .slice none 0 0, .slice none 0 0] 48)).cell? ⟨p, 2, none⟩ = some (.slice an N cn) := HS5.out.rs.st.cell 2
        have e1' : (wc.alloc (.cells #[.int .i64 0, .int .i64 xn, .string ⟨#[]⟩, .bool false, .slice none 0 0, .slice none 0 0] 48)).cell? ⟨P, 1, none⟩ = some (.int .i64 xn) := by rw [← HP.out]; exact HS5.out.fi.cell 1
        have HA5 : Hid (At6 _ wc.heap.size 0 (bareT ⟨0, xn, [], false, [], []⟩)) := Lib.hid (((Str.new wc 48 (nc (bareT ⟨0, xn, [], false, [], []⟩))).below (below_drew _)).at6)
        unfold nc bareT at HA5
        simp only at HA5
        obtain ⟨vs, hvs, hov, hnk⟩ := HS5.out.rs.nd
        have HV := Lib.hid hvs
        have HO := Lib.hid hov
        have HNKS := Lib.hid hnk
        have HVL : Hid (vs.length = N) := by show _ = _; rw [← HNN.out, ← hvs, List.length_map]
        clear b5 hvs hov hnk
        go_region_law (refine step_append_node (l := bareT ⟨0, xn, [], false, [], []⟩) (by rfl) (.tmp 64) (.tmp 68) (by rfl) w0.heap.size (by rfl) HO.out (by rfl) HA5.out rfl rfl (by have := HVL.out; have := HN.out; omega) HS5.out.rs.bl.size ?_; intro g4 cap4 w4 ho4 hg4 hn4; obtain ⟨s4, hd4⟩ := HS5.out.push HV.out HO.out HNKS.out hg4 ho4 (Nk.bare _ _ _ _ rfl rfl) hn4; rw [HVL.out] at *; have HD4 := Lib.hid hd4; have k2 := s4.cell 2; have j2 := s4.frozen 2; simp only [List.getElem?_toArray, List.getElem?_cons_zero, List.getElem?_cons_succ] at k2; clear ho4 hg4 s4 hd4 hn4)
        all_goals (go_wp2_with fail; go_meet; exact ⟨_, _, HD4.out⟩)
      case rest =>
        obtain ⟨an2, cn2, HS⟩ := hcut
        clear HS1 e0 e1 p2
        have E := Lib.hid (show A = .ok ([DC.leaf (3, xn, xc, xt, xq)], L.drop (t + 1)) by rw [HF.out, HDR.out, DC.blk_text rfl HDD.out HMM.out])
        have c0 : wc.cell? ⟨P, 0, none⟩ = some (.int .i64 3) := by rw [← HP.out]; exact HS.out.fi.cell 0
        have c1 : wc.cell? ⟨p, 1, none⟩ = some (.int .i64 (t : Int)) := HS.out.rs.st.cell 1
        have f1 := HS.out.rs.st.frozen 1
        have htl : t < L.length := (List.getElem?_eq_some_iff.1 HX.out).1
        have ht9 : (t : Int) + 1 ≤ 1000000 := by have := HLL.out; omega
        have HL := HS.out.rs.next htl
        have HS7 := Lib.hid (HS.out.fed HL.2 HL.1 (Near.refl _ _) fun g hg => .inl hg)
        have hc1 : ((t + 1 : Nat) : Int) = (t : Int) + 1 := rfl
        rw [hc1] at HS7
        clear HL htl hc1
        go_wp2
        generalize hW : World.setCell _ _ _ = W at *
        clear hW c0 c1 f1 HS
        obtain ⟨g, cg, y, hnv, n1, n2, hy, hgf, hTX⟩ := HS7.out.text (j := N) (ln := xn) (by rw [← HNN.out]; simp) xt xq
        have HTX := Lib.hid hTX
        have hl1 : (ns ++ [(⟨0, xn, [], false, [], []⟩ : DC.Nd)]).length = N + 1 := by rw [List.length_append, HNN.out]; rfl
        rw [hl1] at hnv HTX
        simp only [Value.slice.injEq] at hnv
        obtain ⟨rfl, -, rfl⟩ := hnv
        rw [HP.out] at n2
        have p2 : W.cell? ⟨p, 2, none⟩ = some (.slice (some ⟨g, 0, none⟩) (N + 1) cn2) := HS7.out.rs.st.cell 2
        have e3 : W.cell? ⟨P, 3, none⟩ = some (.string ⟨xt.toArray⟩) := by rw [← HP.out]; exact HS7.out.fi.cell 3
        have e4 : W.cell? ⟨P, 4, none⟩ = some (.bool xq) := by rw [← HP.out]; exact HS7.out.fi.cell 4
        have g0 := hgf (N * 6)
        have g2 := hgf (N * 6 + 2)
        have g3 := hgf (N * 6 + 3)
        have m0 := hy.c0
        have m2 := hy.c2
        have m3 := hy.c3
        have n1' : ¬ g = p := n1
        have n2' : ¬ g = P := n2
        have n3' : ¬ p = g := fun e => n1 e.symm
        have n4' : ¬ P = g := fun e => n2 e.symm
        have hN1 : (N : Int) < (N : Int) + 1 := by omega
        have hN0 : (0 : Int) ≤ (N : Int) := by omega
        clear hTX hl1 hgf hy n1 n2
        have HEND : Hid (RbE w0 w p (.slice (some ⟨b, off, none⟩) n cap) L (.slice an N cn) ns S A (.returned (.int .i64 (N : Int))) (((W.setCell ⟨g, N * 6, none⟩ (.int .i64 1)).setCell ⟨g, N * 6 + 2, none⟩ (.string ⟨xt.toArray⟩)).setCell ⟨g, N * 6 + 3, none⟩ (.bool xq)).drew) := by
          have h9 := HTX.out.calm (below_drew _)
          show RbE _ _ _ _ _ _ _ _ _ _ _
          rw [E.out]
          refine ⟨N, t + 1, _, _, 0, 0, rfl, h9.rst HSB.out, h9.kb, h9.nr, rfl, rfl, HNN.out.symm, ?_, rfl⟩
          rw [List.set_append_right _ _ (by rw [HNN.out]; exact Nat.le_refl _), HNN.out, Nat.sub_self]
          rfl
        go_region
        all_goals (go_wp2_with fail; go_ret; exact HEND.out)
end Go.Proofs.YtgfhabofhefaaaaGreatDoor
