/- A part of the proof. -/
import Derived.Test.YtgfhabofhefaaaaGreatDoorSA41
import Derived.Test.YtgfhabofhefaaaaGreatDoorSA43
import Derived.Deep.RegionLaw
import Derived.BigRegion
import Derived.Deep.DeepCutAuto
import Derived.Deep.CutBlock
import Derived.Deep.LoopGhost
namespace Go.Proofs.YtgfhabofhefaaaaGreatDoor
open Go.RowKit
theorem own_ne {Q : Nat} {v : Value} (h : v.ownBlock = none ∨ v.ownBlock ≠ some Q) : some Q ≠ v.ownBlock := fun e => by
  rcases h with h | h
  · rw [h] at e; cases e
  · exact h e.symm
set_option maxRecDepth 10000 in
set_option maxHeartbeats 16000000 in
theorem rblock2_any {f : Nat} (hb : ∀ f', f' < f → RbC f') (w0 w : World) (p : Nat) (lv nv : Value) (L : List LX.Pc) (t : Nat) (ns : List DC.Nd) (S : Nat → Prop) (d : Nat) (x : LX.Pc) (hx : L[t]? = some x) (hdr : L.drop t = x :: L.drop (t + 1)) (hK : x.1 = 2) (h : Rst w0 w p lv L t nv ns 0 0 S) (ht : t < L.length) (hL : L.length ≤ 1000000) (hf : 2 * (L.drop t).length + 2 ≤ f + 1) (hN : ns.length ≤ 2000) (hd : d ≤ 25) :
    Calls Tryz.prog 62 #[.pointer (some ⟨p, 0, none⟩), .int .i64 (d : Int)] w (RbE w0 w p lv L nv ns S (DC.blk (f + 1) d ns.length (L.drop t))) := by
  obtain ⟨A, HF⟩ : ∃ A, Hid (A = DC.blk (f + 1) d ns.length (L.drop t)) := ⟨_, Lib.hid rfl⟩
  rw [show DC.blk (f + 1) d ns.length (L.drop t) = A from HF.out.symm]
  have HDR := Lib.hid hdr
  have HS := Lib.hid (TbS.start h x)
  have HSB := Lib.hid h.sb
  have HB := Lib.hid hb
  have HN := Lib.hid hN
  have HD := Lib.hid hd
  have HF0 := Lib.hid hf
  have HLL := Lib.hid hL
  have HX := Lib.hid hx
  obtain ⟨b, off, cap, rfl, hx5⟩ := h.at hx
  obtain ⟨n, hn⟩ : ∃ n, L.length = n := ⟨_, rfl⟩
  have HLn := Lib.hid hn
  have c0 : w.cell? ⟨p, 0, none⟩ = some (.slice (some ⟨b, off, none⟩) n cap) := by rw [← hn]; exact h.st.cell 0
  have c1 : w.cell? ⟨p, 1, none⟩ = some (.int .i64 (t : Int)) := h.st.cell 1
  obtain ⟨d0, d1, d2, d3, d4⟩ := hx5
  have htn : (t : Int) < (n : Int) := by omega
  have ht0 : (0 : Int) ≤ (t : Int) := by omega
  obtain ⟨xk, xn, xc, xt, xq⟩ := x
  replace hK : xk = 2 := hK
  subst hK
  unfold pc at HS
  simp only at HS d0 d1 d2 d3 d4
  rw [hn] at HS
  have a0 := fun o => ((below_alloc w o).cell (cell_lt c0)).trans c0
  have a1 := fun o => ((below_alloc w o).cell (cell_lt c1)).trans c1
  have a2 := fun o => ((below_alloc w o).cell (cell_lt d0)).trans d0
  have a3 := fun o => ((below_alloc w o).cell (cell_lt d1)).trans d1
  have a4 := fun o => ((below_alloc w o).cell (cell_lt d2)).trans d2
  have a5 := fun o => ((below_alloc w o).cell (cell_lt d3)).trans d3
  have a6 := fun o => ((below_alloc w o).cell (cell_lt d4)).trans d4
  rw [hn]
  clear h hx hdr hN hd hf hL hn hb ht
  go_enter Tryz.func62, Tryz.ntmps62
  go_upto_region 1 with fail
  go_cut [5] (fun s5 wx => s5 = .pointer (some ⟨w.heap.size, 0, none⟩) ∧ Hid (TbS w0 w wx p nv (.slice (some ⟨b, off, none⟩) n cap) nv (.slice none 0 0) (.slice none 0 0) (2, xn, xc, xt, xq) L t ns 0 0 S S [] []))
  case first =>
    go_region
    all_goals (go_wp2_with fail; go_meet; exact ⟨rfl, HS⟩)
  case rest =>
    obtain ⟨rfl, HS1⟩ := hcut
    clear HS a0 a1 a2 a3 a4 a5 a6 c0 c1 d0 d1 d2 d3 d4
    obtain ⟨P, hP⟩ : ∃ P, w.heap.size = P := ⟨_, rfl⟩
    have HP := Lib.hid hP
    simp only [hP]
    have e0 : wc.cell? ⟨P, 0, none⟩ = some (.int .i64 2) := by rw [← hP]; exact HS1.out.fi.cell 0
    have e1 : wc.cell? ⟨P, 1, none⟩ = some (.int .i64 xn) := by rw [← hP]; exact HS1.out.fi.cell 1
    clear hP
    have HBAD := Lib.hid (fun (k l : Int) (w2 : World) (hAA : A = .bad k l) (hp : Rst w0 w2 p (.slice (some ⟨b, off, none⟩) n cap) L t nv ns k l S) (hk : Kb wc w2 (some p) nv.ownBlock) => (show RbE w0 w p (.slice (some ⟨b, off, none⟩) n cap) L nv ns S A (.returned (.int .i64 0)) w2 by
      have hkk := HS1.out.kb.trans hk
      obtain ⟨m1, m2⟩ := More.ofS HSB.out hkk.size
      rw [hAA]
      exact ⟨0, t, nv, ns, k, l, rfl, hp.mono m1 m2, hkk, Near.refl _ _, rfl, rfl, ⟨[], (List.append_nil _).symm⟩, HN.out⟩))
    have HFA := Lib.hid (fun (k : Int) => rfail_any HS1.out.rs k xn)
    have hk0 : ¬ DC.nk 2 = 0 := by decide
    have HKN := Lib.hid hk0
    clear hk0
    obtain ⟨an, cn, hnv⟩ := HS1.out.rs.nd.slice
    obtain ⟨N, hNN⟩ : ∃ N, ns.length = N := ⟨_, rfl⟩
    have HNN := Lib.hid hNN
    rw [hNN] at hnv HF HN
    subst hnv
    have p2 : wc.cell? ⟨p, 2, none⟩ = some (.slice an N cn) := HS1.out.rs.st.cell 2
    clear hNN
    · by_cases hd : 24 < d
      · have E := Lib.hid (show A = .bad 8 xn by rw [HF.out, HDR.out, DC.blk_deep HKN.out hd])
        have hdb : (24 : Int) < (d : Int) := by omega
        go_wp2_with (go_at_call 63; refine (HFA.out 8).mono ?_; rintro e w2 ⟨rfl, hp, hk⟩)
        go_ret
        exact HBAD.out 8 xn w2 E.out hp hk
      have HDD := Lib.hid hd
      have hdb : ¬ (24 : Int) < (d : Int) := by omega
      by_cases hm : 2000 ≤ N
      · have E := Lib.hid (show A = .bad 9 xn by rw [HF.out, HDR.out, DC.blk_many HKN.out HDD.out hm])
        have hmb : (2000 : Int) ≤ (N : Int) := by omega
        go_wp2_with (go_at_call 63; refine (HFA.out 9).mono ?_; rintro e w2 ⟨rfl, hp, hk⟩)
        go_ret
        exact HBAD.out 9 xn w2 E.out hp hk
      have HMM := Lib.hid hm
      have hmb : ¬ (2000 : Int) ≤ (N : Int) := by omega
      clear hd hm HBAD HFA
      go_upto_region 12 with fail
      go_cut [] (fun wx => ∃ an2 cn2, Hid (TbS w0 w wx p (.slice an N cn) (.slice (some ⟨b, off, none⟩) n cap) (.slice an2 (N + 1) cn2) (.slice none 0 0) (.slice none 0 0) (2, xn, xc, xt, xq) L t (ns ++ [⟨0, xn, [], false, [], []⟩]) 0 0 S S [] []))
      case first =>
        have b5 := below_trans (below_alloc wc (.cells #[.int .i64 0, .int .i64 xn, .string ⟨#[]⟩, .bool false, .slice none 0 0, .slice none 0 0] 48)) (below_drew _)
        have HS5 := Lib.hid (HS1.out.calm b5)
        have p2' : (wc.alloc (.cells #[.int .i64 0, .int .i64 xn, .string ⟨#[]⟩, .bool false, .slice none 0 0, .slice none 0 0] 48)).cell? ⟨p, 2, none⟩ = some (.slice an N cn) := HS5.out.rs.st.cell 2
        have e1' : (wc.alloc (.cells #[.int .i64 0, .int .i64 xn, .string ⟨#[]⟩, .bool false, .slice none 0 0, .slice none 0 0] 48)).cell? ⟨P, 1, none⟩ = some (.int .i64 xn) := by rw [← HP.out]; exact HS5.out.fi.cell 1
        have HA5 : Hid (At6 _ wc.heap.size 0 (bareT ⟨0, xn, [], false, [], []⟩)) := Lib.hid (((Str.new wc 48 (nc (bareT ⟨0, xn, [], false, [], []⟩))).below (below_drew _)).at6)
        unfold nc bareT at HA5
        simp only at HA5
        obtain ⟨vs, hvs, hov, hnk⟩ := HS5.out.rs.nd
        have HV := Lib.hid hvs
        have HO := Lib.hid hov
        have HNKS := Lib.hid hnk
        have HVL : Hid (vs.length = N) := by show _ = _; rw [← HNN.out, ← hvs, List.length_map]
        clear b5 hvs hov hnk
        go_region_law (refine step_append_node (l := bareT ⟨0, xn, [], false, [], []⟩) (by rfl) (.tmp 64) (.tmp 68) (by rfl) w0.heap.size (by rfl) HO.out (by rfl) HA5.out rfl rfl (by have := HVL.out; have := HN.out; omega) HS5.out.rs.bl.size ?_; intro g4 cap4 w4 ho4 hg4 hn4; obtain ⟨s4, hd4⟩ := HS5.out.push HV.out HO.out HNKS.out hg4 ho4 (Nk.bare _ _ _ _ rfl rfl) hn4; rw [HVL.out] at *; have HD4 := Lib.hid hd4; have k2 := s4.cell 2; have j2 := s4.frozen 2; simp only [List.getElem?_toArray, List.getElem?_cons_zero, List.getElem?_cons_succ] at k2; clear ho4 hg4 s4 hd4 hn4)
        all_goals (go_wp2_with fail; go_meet; exact ⟨_, _, HD4.out⟩)
      case rest =>
        obtain ⟨an2, cn2, HS⟩ := hcut
        clear HS1 e0 e1 p2
        have hl1 : (ns ++ [(⟨0, xn, [], false, [], []⟩ : DC.Nd)]).length = N + 1 := by rw [List.length_append, HNN.out]; rfl
        have c0 : wc.cell? ⟨P, 0, none⟩ = some (.int .i64 2) := by rw [← HP.out]; exact HS.out.fi.cell 0
        have HE0 : Hid (A = Fin 2 xn (DC.plus [] [] [] (DC.itm f 2 xc (d + 1) (ns ++ [(⟨0, xn, [], false, [], []⟩ : DC.Nd)]).length [] (L.drop t)))) := by
          show _ = _
          rw [HF.out, HDR.out, DC.blk_in (.inr rfl) HDD.out HMM.out, DC.plus_nil, hl1]
          rfl
        have HBL : Hid ((ns ++ [(⟨0, xn, [], false, [], []⟩ : DC.Nd)]).length ≤ 2000) := by show _ ≤ _; rw [hl1]; have := HMM.out; omega
        clear hl1
        go_wp2
        go_loopg [7, 8] (L.length + 1) (fun g s7 s8 wx => ∃ (t' f' : Nat) (nv' kv v : Value) (ks : List LX.B) (is : List Nat) (ms : List DC.Nd) (Sk : Nat → Prop) (fk fl : Int), kv = s7 ∧ v = s8 ∧ Hid (TbS w0 w wx p (.slice an N cn) (.slice (some ⟨b, off, none⟩) n cap) nv' kv v (2, xn, xc, xt, xq) L t' (ns ++ (⟨0, xn, [], false, [], []⟩ : DC.Nd) :: ms) fk fl S Sk ks is) ∧ Hid ((ns ++ (⟨0, xn, [], false, [], []⟩ : DC.Nd) :: ms).length ≤ 2000 ∧ is.length ≤ 2001 ∧ ks.length ≤ 2001) ∧ ((fk = 0 ∧ L.length - t' + 1 ≤ g) ∨ fk ≠ 0) ∧ Hid ((fk = 0 ∧ fl = 0 ∧ f' ≤ f ∧ 2 * (L.drop t').length + 1 ≤ f' ∧ is.length ≤ ms.length ∧ ks.length ≤ ms.length ∧ A = Fin 2 xn (DC.plus ks is ms (DC.itm f' 2 xc (d + 1) (ns ++ (⟨0, xn, [], false, [], []⟩ : DC.Nd) :: ms).length ks (L.drop t')))) ∨ (fk ≠ 0 ∧ A = .bad fk fl)))
        case atStart =>
          exact ⟨t, f, _, _, _, [], [], [], S, 0, 0, rfl, rfl, HS, Lib.hid ⟨HBL.out, by simp, by simp⟩, .inl ⟨rfl, by omega⟩, Lib.hid (.inl ⟨rfl, rfl, Nat.le_refl _, by have := HF0.out; omega, by simp, by simp, HE0.out⟩)⟩
        case round =>
          clear HS c0 HE0
          obtain ⟨t', f', nv', kv, v, ks, is, ms, Sk, fk, fl, rfl, rfl, HS, HBD, hg, HE⟩ := hrel
          obtain ⟨tst, hT⟩ : ∃ tst : Bool, tst = (DC.comes 2 xc (L.drop t') && decide (fk = 0)) := ⟨_, rfl⟩
          go_upto_region 19 with fail
          go_cut [157] (fun s157 wx => s157 = .bool tst ∧ Hid (TbS w0 w wx p (.slice an N cn) (.slice (some ⟨b, off, none⟩) n cap) nv' kv v (2, xn, xc, xt, xq) L t' (ns ++ (⟨0, xn, [], false, [], []⟩ : DC.Nd) :: ms) fk fl S Sk ks is))
          case first =>
            have c0 : wr.cell? ⟨p, 0, none⟩ = some (.slice (some ⟨b, off, none⟩) n cap) := HS.out.rs.st.cell 0
            have c1 : wr.cell? ⟨p, 1, none⟩ = some (.int .i64 (t' : Int)) := HS.out.rs.st.cell 1
            have c3 : wr.cell? ⟨p, 3, none⟩ = some (.int .i64 fk) := HS.out.rs.st.cell 3
            have e0 : wr.cell? ⟨P, 0, none⟩ = some (.int .i64 2) := by rw [← HP.out]; exact HS.out.fi.cell 0
            have e2 : wr.cell? ⟨P, 2, none⟩ = some (.int .i64 xc) := by rw [← HP.out]; exact HS.out.fi.cell 2
            by_cases ht : t' < L.length
            · obtain ⟨y, hy, hdr⟩ := dropt_at ht
              obtain ⟨b2, off2, cap2, hlv, hy5⟩ := HS.out.rs.at hy
              simp only [Value.slice.injEq, Option.some.injEq, Addr.mk.injEq, and_true] at hlv
              obtain ⟨⟨rfl, rfl⟩, -, rfl⟩ := hlv
              have d0 := hy5.c0
              have d2 := hy5.c2
              have ht1 : (t' : Int) < (n : Int) := by have := HLn.out; omega
              have ht2 : t' < n := by have := HLn.out; omega
              have ht3 : (0 : Int) ≤ (t' : Int) := by omega
              rw [hdr] at hT
              obtain ⟨yk, yn, yc, yt, yq⟩ := y
              simp only at d0 d2
              clear hy5 hy hdr ht
              by_cases h1 : yk = 2
              · subst h1
                by_cases h2 : yc = xc
                · subst h2
                  by_cases h3 : fk = 0
                  · have HS2 := HS
                    rw [h3] at c3 hT
                    have hT2 : tst = true := by rw [hT]; simp [DC.comes]
                    subst hT2
                    clear hT
                    as_aux_lemma =>
                      go_quiet (fail)
                      go_wp2_with fail
                      go_meet
                      exact ⟨rfl, Lib.hid (HS2.out.calm (below_drewN _ _))⟩
                  · have h3b : (fk == 0) = false := by simpa using h3
                    have hT2 : tst = false := by rw [hT]; simp [h3]
                    subst hT2
                    clear hT
                    as_aux_lemma =>
                      go_quiet (fail)
                      go_wp2_with fail
                      go_meet
                      exact ⟨rfl, Lib.hid (HS.out.calm (below_drewN _ _))⟩
                · have h2b : (yc == xc) = false := by simpa using h2
                  have hT2 : tst = false := by rw [hT]; simp [DC.comes, h2]
                  subst hT2
                  clear hT
                  as_aux_lemma =>
                    go_quiet (fail)
                    go_wp2_with fail
                    go_meet
                    exact ⟨rfl, Lib.hid (HS.out.calm (below_drewN _ _))⟩
              · have h1b : (yk == 2) = false := by simpa using h1
                have hT2 : tst = false := by rw [hT]; simp [DC.comes, h1]
                subst hT2
                clear hT
                as_aux_lemma =>
                  go_quiet (fail)
                  go_wp2_with fail
                  go_meet
                  exact ⟨rfl, Lib.hid (HS.out.calm (below_drewN _ _))⟩
            · have ht1 : ¬ (t' : Int) < (n : Int) := by have := HLn.out; omega
              have ht2 : ¬ t' < n := by have := HLn.out; omega
              have hT2 : tst = false := by rw [hT, List.drop_eq_nil_of_le (by omega)]; rfl
              subst hT2
              clear hT
              clear ht
              as_aux_lemma =>
                go_quiet (fail)
                go_wp2_with fail
                go_meet
                exact ⟨rfl, Lib.hid (HS.out.calm (below_drewN _ _))⟩
          case rest =>
            obtain ⟨rfl, HS1⟩ := hcut
            clear HS
            cases tst with
            | false =>
              have E9 : Hid ((fk = 0 ∧ fl = 0 ∧ A = .ok ((⟨3, xn, [], false, ks, is⟩ : DC.Nd) :: ms, L.drop t')) ∨ (fk ≠ 0 ∧ A = .bad fk fl)) := by
                show _ ∨ _
                rcases HE.out with ⟨h1, h2, h3, h4, h5, h6, h7⟩ | h1
                · refine .inl ⟨h1, h2, ?_⟩
                  have hc : DC.comes 2 xc (L.drop t') = false := by rw [h1] at hT; simpa using hT.symm
                  obtain ⟨f2, rfl⟩ : ∃ f2, f' = f2 + 1 := ⟨f' - 1, by omega⟩
                  rw [h7, DC.itm_end hc]
                  simp [Fin, DC.plus, DC.Out.bind, DC.nk]
                · exact .inr h1
              clear hT HE hg
              obtain ⟨ak, ck, hkv⟩ := HS1.out.keys.slice
              obtain ⟨ai, ci, hv⟩ := HS1.out.kids.slice
              subst hkv hv
              obtain ⟨g, cg, y, hnv, n1, n2, hy, hgf, hTK⟩ := HS1.out.kind (j := N) (get_mid _ HNN.out) 2
              obtain ⟨M, hM⟩ : ∃ M, (ns ++ (⟨0, xn, [], false, [], []⟩ : DC.Nd) :: ms).length = M := ⟨_, rfl⟩
              have hNM : N < M := by rw [← hM, len_mid _ HNN.out]; omega
              rw [set_mid _ _ HNN.out] at hTK
              rw [hM] at hnv hTK
              subst hnv
              rw [HP.out] at n2
              have HTK := Lib.hid hTK
              have HML := Lib.hid (hM ▸ HBD.out.1 : M ≤ 2000)
              have HMM2 := Lib.hid hM
              have p2 : wc.cell? ⟨p, 2, none⟩ = some (.slice (some ⟨g, 0, none⟩) M cg) := HS1.out.rs.st.cell 2
              have e0 : wc.cell? ⟨P, 0, none⟩ = some (.int .i64 2) := by rw [← HP.out]; exact HS1.out.fi.cell 0
              have g0 := hgf (N * 6)
              have m0 := hy.c0
              have n1' : ¬ g = p := n1
              have n2' : ¬ g = P := n2
              have n3' : ¬ p = g := fun e => n1 e.symm
              have n4' : ¬ P = g := fun e => n2 e.symm
              have hN1 : (N : Int) < (M : Int) := by omega
              have hN0 : (0 : Int) ≤ (N : Int) := by omega
              clear hTK hgf hy hM
              go_wp2
              obtain ⟨g', cg', y', hnv', n1q, n2q, hy', hgf', hTK'⟩ := HTK.out.kind (j := N) (get_mid _ HNN.out) 3
              rw [len_mid _ HNN.out] at hnv' hTK'
              simp only [Value.slice.injEq, Option.some.injEq, Addr.mk.injEq, and_true] at hnv'
              obtain ⟨rfl, hM', rfl⟩ := hnv'
              rw [← hM', set_mid _ _ HNN.out] at hTK'
              have HTK2 := Lib.hid hTK'
              clear HTK hTK' hgf' hy' n1q n2q hM'
              clear HS1 p2 e0 g0 m0
              generalize hW : (wc.setCell ⟨g, N * 6, none⟩ (.int .i64 2)).setCell ⟨g, N * 6, none⟩ (.int .i64 3) = W at HTK2 ⊢
              clear hW
              obtain ⟨g', cg', y', hnv', -, -, hy', hgf', w', hw', hr, hkb, hnr⟩ := HTK2.out.done (j := N) (get_mid _ HNN.out) HSB.out
              rw [len_mid _ HNN.out] at hnv' hr hnr
              simp only [Value.slice.injEq, Option.some.injEq, Addr.mk.injEq, and_true] at hnv'
              obtain ⟨rfl, hM', rfl⟩ := hnv'
              rw [← hM'] at hr hnr
              rw [set_mid _ _ HNN.out] at hr
              have HR := Lib.hid hr
              have HKB := Lib.hid hkb
              have HNR := Lib.hid hnr
              have HWW := Lib.hid hw'
              have p2 : W.cell? ⟨p, 2, none⟩ = some (.slice (some ⟨g, 0, none⟩) M cg) := HTK2.out.rs.st.cell 2
              have g4 := hgf' (N * 6 + 4)
              have g5 := hgf' (N * 6 + 5)
              have m4 := hy'.c4
              have m5 := hy'.c5
              clear hr hkb hnr hw' hgf' hy' hM' HTK2
              have HEND : Hid (RbE w0 w p (.slice (some ⟨b, off, none⟩) n cap) L (.slice an N cn) ns S A (.returned (.int .i64 (N : Int))) (((W.setCell ⟨g, N * 6 + 4, none⟩ (.slice ak (sv ks).length ck)).setCell ⟨g, N * 6 + 5, none⟩ (.slice ai (nats is).length ci)).drew)) := by
                rw [← HWW.out]
                have h9 := HR.out.calm (below_drew _)
                have k9 := HKB.out.trans (Kb.of_below (below_drew w') (some p) (Value.slice an N cn).ownBlock)
                show RbE _ _ _ _ _ _ _ _ _ _ _
                rcases E9.out with ⟨rfl, rfl, hA⟩ | ⟨h1, hA⟩
                · rw [hA]
                  exact ⟨N, t', _, _, 0, 0, rfl, h9, k9, HNR.out, rfl, rfl, HNN.out.symm, rfl, rfl⟩
                · rw [hA]
                  exact ⟨N, t', _, _, fk, fl, rfl, h9, k9, HNR.out, rfl, rfl, ⟨_, rfl⟩, by rw [len_mid _ HNN.out]; have := HML.out; rw [← HMM2.out, len_mid _ HNN.out] at this; exact this⟩
              go_region
              all_goals (go_wp2_with fail; go_ret; exact HEND.out)
            | true =>
              have hcs : DC.comes 2 xc (L.drop t') = true ∧ fk = 0 := by simpa using hT.symm
              obtain ⟨hc, rfl⟩ := hcs
              clear hT
              have hg1 : L.length - t' + 1 ≤ gk := by
                rcases hg with h | h
                · exact h.2
                · exact absurd rfl h
              obtain ⟨g, rfl⟩ : ∃ g, gk = g + 1 := ⟨gk - 1, by omega⟩
              have hg0 := hg1
              clear hg1
              have HGG := Lib.hid hg0
              obtain ⟨hfl, h3, h4, h5, h6, h7⟩ : fl = 0 ∧ f' ≤ f ∧ 2 * (L.drop t').length + 1 ≤ f' ∧ is.length ≤ ms.length ∧ ks.length ≤ ms.length ∧ A = Fin 2 xn (DC.plus ks is ms (DC.itm f' 2 xc (d + 1) (ns ++ (⟨0, xn, [], false, [], []⟩ : DC.Nd) :: ms).length ks (L.drop t'))) := by
                rcases HE.out with h | h
                · exact h.2
                · exact absurd rfl h.1
              subst hfl
              clear HE hg hg0
              have ht : t' < L.length := by
                by_cases ht : t' < L.length
                · exact ht
                · rw [List.drop_eq_nil_of_le (by omega)] at hc; cases hc
              obtain ⟨y, hy, hdr⟩ := dropt_at ht
              rw [hdr] at hc h7 h4
              obtain ⟨f2, rfl⟩ : ∃ f2, f' = f2 + 1 := ⟨f' - 1, by simp only [List.length_cons] at h4; omega⟩
              obtain ⟨b2, off2, cap2, hlv, hy5⟩ := HS1.out.rs.at hy
              simp only [Value.slice.injEq, Option.some.injEq, Addr.mk.injEq, and_true] at hlv
              obtain ⟨⟨rfl, rfl⟩, -, rfl⟩ := hlv
              obtain ⟨d0, d1, d2, d3, d4⟩ := hy5
              have c0 : wc.cell? ⟨p, 0, none⟩ = some (.slice (some ⟨b, off, none⟩) n cap) := HS1.out.rs.st.cell 0
              have c1 : wc.cell? ⟨p, 1, none⟩ = some (.int .i64 (t' : Int)) := HS1.out.rs.st.cell 1
              have ht1 : (t' : Int) < (n : Int) := by have := HLn.out; omega
              have ht2 : t' < n := by have := HLn.out; omega
              have ht3 : (0 : Int) ≤ (t' : Int) := by omega
              have ht9 : (t' : Int) + 1 ≤ 1000000 := by have := HLL.out; omega
              obtain ⟨R, hR⟩ : ∃ R, DC.und f2 y.2.1 y.2.2.1 (d + 1) (ns ++ (⟨0, xn, [], false, [], []⟩ : DC.Nd) :: ms).length (L.drop (t' + 1)) = R := ⟨_, rfl⟩
              have HRR := Lib.hid hR
              have HFU : Hid (2 * (L.drop (t' + 1)).length + 2 ≤ f2) := by show _ ≤ _; simp only [List.length_cons] at h4; omega
              have HF2 := Lib.hid h3
              have HLE : Hid (is.length ≤ ms.length ∧ ks.length ≤ ms.length) := ⟨h5, h6⟩
              have HI2 : Hid (is.length ≤ 2001) := HBD.out.2.1
              have HEB := Lib.hid (fun (hno : ¬ y.2.2.2.1 ∈ ks) (m m' : Int) (h : R = .bad m m') => (show A = .bad m m' by rw [h7, DC.itm_no hc (fun h => hno h.2) (hR.trans h)]; rfl))
              have HEG := Lib.hid (fun (hno : ¬ y.2.2.2.1 ∈ ks) (e : List DC.Nd) (r : List LX.Pc) (h : R = .ok (e, r)) => (show A = Fin 2 xn (DC.plus (ks ++ [y.2.2.2.1]) (is ++ [(ns ++ (⟨0, xn, [], false, [], []⟩ : DC.Nd) :: ms).length]) (ms ++ e) (DC.itm f2 2 xc (d + 1) ((ns ++ (⟨0, xn, [], false, [], []⟩ : DC.Nd) :: ms).length + e.length) (ks ++ [y.2.2.2.1]) r)) by rw [h7, DC.itm_go hc (fun h => hno h.2) (hR.trans h), DC.plus_plus]; simp))
              have HET := Lib.hid (fun (hin : y.2.2.2.1 ∈ ks) => (show A = .bad 7 y.2.1 by rw [h7, DC.itm_twice hc ⟨rfl, hin⟩]; rfl))
              have htl := ht
              obtain ⟨yk, yn, yc, yt, yq⟩ := y
              simp only at d0 d1 d2 d3 d4 HRR
              clear hc h3 h4 h5 h6 h7 hR hy hdr ht
              have a0 := fun o => ((below_alloc wc o).cell (cell_lt c0)).trans c0
              have a1 := fun o => ((below_alloc wc o).cell (cell_lt c1)).trans c1
              have a2 := fun o => ((below_alloc wc o).cell (cell_lt d0)).trans d0
              have a3 := fun o => ((below_alloc wc o).cell (cell_lt d1)).trans d1
              have a4 := fun o => ((below_alloc wc o).cell (cell_lt d2)).trans d2
              have a5 := fun o => ((below_alloc wc o).cell (cell_lt d3)).trans d3
              have a6 := fun o => ((below_alloc wc o).cell (cell_lt d4)).trans d4
              have HS2 := Lib.hid (HS1.out.calm (below_trans (below_alloc wc (.cells (pc (yk, yn, yc, yt, yq)) 117)) (below_drew _)))
              have HK := Lib.hid ((Str.new wc 117 (pc (yk, yn, yc, yt, yq))).below (below_drew _))
              obtain ⟨Q, hQ⟩ : ∃ Q, wc.heap.size = Q := ⟨_, rfl⟩
              go_upto_region 20 with fail
              go_cut [9] (fun s9 wx => s9 = .pointer (some ⟨Q, 0, none⟩) ∧ Hid (TbS w0 w wx p (.slice an N cn) (.slice (some ⟨b, off, none⟩) n cap) nv' kv v (2, xn, xc, xt, xq) L t' (ns ++ (⟨0, xn, [], false, [], []⟩ : DC.Nd) :: ms) 0 0 S Sk ks is) ∧ Hid (Str wx Q 117 (pc (yk, yn, yc, yt, yq))))
              case first =>
                unfold pc at HS2 HK
                simp only at HS2 HK
                go_region
                all_goals (go_wp2_with fail; go_meet; exact ⟨by rw [← hQ], HS2, by rw [← hQ]; exact HK⟩)
              case rest =>
                obtain ⟨rfl, HS3, HK3⟩ := hcut
                clear HS1 HS2 HK a0 a1 a2 a3 a4 a5 a6 c0 c1 d0 d1 d2 d3 d4 hQ
                obtain ⟨ai, ci, hv⟩ := HS3.out.kids.slice
                subst hv
                have c1 : wc.cell? ⟨p, 1, none⟩ = some (.int .i64 (t' : Int)) := HS3.out.rs.st.cell 1
                have f1 := HS3.out.rs.st.frozen 1
                have HL := HS3.out.rs.next htl
                have hpq : p ≠ Q := HS3.out.rs.st.apart_str HK3.out (by decide)
                have HS4 := Lib.hid (HS3.out.fed HL.2 HL.1 (Near.refl _ _) fun g hg => .inl hg)
                have HK4 := Lib.hid (HK3.out.kb (Kb.set wc p 1 (.int .i64 ((t' + 1 : Nat) : Int)) none) (fun e => hpq (Option.some.inj e).symm) (by simp))
                have hc1 : ((t' + 1 : Nat) : Int) = (t' : Int) + 1 := rfl
                rw [hc1] at HS4 HK4
                have q1p : ¬ p = P := by rw [← HP.out]; exact fun e => (HS3.out.rs.st.apart_str HS3.out.fi (by decide)) e
                have e0 : wc.cell? ⟨P, 0, none⟩ = some (.int .i64 2) := by rw [← HP.out]; exact HS3.out.fi.cell 0
                clear HL hc1 hpq
                go_upto_region 23 with fail
                generalize hW : World.setCell wc _ _ = W at *
                clear hW HS3 HK3 c1 f1 e0
                obtain ⟨ak, ck, hkv⟩ := HS4.out.keys.slice
                subst hkv
                obtain ⟨M, hM⟩ : ∃ M, (sv ks).length = M := ⟨_, rfl⟩
                have HKM : Hid (ks.length = M) := by show _ = _; rw [← hM, sv_len]
                rw [hM] at HS4 ⊢
                clear hM
                go_wp2
                go_loopg [10] M (fun g s10 wx => ∃ (i : Nat), i + g = M ∧ s10 = .int .i64 (i : Int) ∧ Hid (¬ yt ∈ ks.take i) ∧ Hid (TbS w0 w wx p (.slice an N cn) (.slice (some ⟨b, off, none⟩) n cap) nv' (.slice ak M ck) (.slice ai (nats is).length ci) (2, xn, xc, xt, xq) L (t' + 1) (ns ++ (⟨0, xn, [], false, [], []⟩ : DC.Nd) :: ms) 0 0 S Sk ks is) ∧ Hid (Str wx Q 117 (pc (yk, yn, yc, yt, yq))))
                case atStart => exact ⟨0, by omega, rfl, Lib.hid (by simp), HS4, HK4⟩
                case round =>
                  clear HS4 HK4
                  obtain ⟨i, hi, rfl, HNO, HS5, HK5⟩ := hrel
                  have q3 : wr.cell? ⟨Q, 3, none⟩ = some (.string ⟨yt.toArray⟩) := HK5.out.cell 3
                  cases gk with
                  | succ g2 =>
                    have hiM : (i : Int) < (M : Int) := by omega
                    have hi0 : (0 : Int) ≤ (i : Int) := by omega
                    have hMm : (M : Int) ≤ 9223372036854775807 := by have := HBD.out.2.2; have := HKM.out; omega
                    obtain ⟨kx, hkx⟩ : ∃ kx, ks[i]? = some kx := ⟨ks[i]'(by have := HKM.out; omega), List.getElem?_eq_getElem _⟩
                    have hks : (sv ks)[i]? = some (.string ⟨kx.toArray⟩) := by simp [sv, hkx]
                    obtain ⟨p1, o1, z1, e1, u1⟩ := HS5.out.keys.rd.atv hks
                    simp only [Value.slice.injEq] at e1
                    obtain ⟨rfl, -, -⟩ := e1
                    have HTK : Hid (ks.take (i + 1) = ks.take i ++ [kx]) := by show _ = _; rw [List.take_succ_eq_append_getElem (List.getElem?_eq_some_iff.1 hkx).1, (List.getElem?_eq_some_iff.1 hkx).2]
                    have HMEM := Lib.hid (List.mem_of_getElem? hkx)
                    clear hks hkx
                    by_cases hky : kx = yt
                    · subst hky
                      have q1 : wr.cell? ⟨Q, 1, none⟩ = some (.int .i64 yn) := HK5.out.cell 1
                      have HF7 := Lib.hid (fun (u : World) (k : Below wr.heap.size wr u) => rfail_any (HS5.out.calm k).rs 7 yn)
                      as_aux_lemma =>
                        go_wp2
                        go_quiet (fail)
                        go_wp2_with (go_at_call 63; refine (HF7.out (wr.drewN nq) (below_drewN _ _)).mono ?_; rintro e w2 ⟨rfl, hp, hk⟩)
                        go_ret
                        have h9 := (HS5.out.calm (below_drewN wr nq)).fed hk hp (Near.refl _ _) fun g hg => .inl hg
                        show RbE _ _ _ _ _ _ _ _ _ _ _
                        rw [HET.out HMEM.out]
                        exact ⟨0, t' + 1, nv', _, 7, yn, rfl, h9.rst HSB.out, h9.kb, h9.nr, rfl, rfl, ⟨_, rfl⟩, HBD.out.1⟩
                    · have hnb : (kx == yt) = false := by simpa using hky
                      have HNN2 : Hid (¬ yt ∈ ks.take (i + 1)) := by
                        show ¬ _
                        rw [HTK.out, List.mem_append, List.mem_singleton]
                        exact fun h => h.elim HNO.out fun h => hky h.symm
                      as_aux_lemma =>
                        go_wp2
                        go_quiet (fail)
                        go_wp2
                        go_roundg g2
                        case rel => exact ⟨i + 1, by omega, by first | rfl | (simp; done), HNN2, Lib.hid (HS5.out.calm (below_drewN _ _)), Lib.hid (HK5.out.below (below_drewN _ _))⟩
                        case measure => omega
                  | zero =>
                    obtain rfl : i = M := by omega
                    have HNI : Hid (¬ yt ∈ ks) := by show ¬ _; have h1 := HNO.out; rwa [List.take_of_length_le (by have := HKM.out; omega)] at h1
                    clear HNO hi
                    have b6 := below_alloc wr (.cells #[.string ⟨yt.toArray⟩] 9)
                    have HS6 := Lib.hid (HS5.out.calm b6)
                    have HK6 := Lib.hid (HK5.out.below b6)
                    clear b6
                    have HKL : Hid (ks.length ≤ 2000) := by show _ ≤ _; have h1 := HLE.out.2; have h2 := HBD.out.1; rw [len_mid _ HNN.out] at h2; omega
                    go_upto_region 30 with (at_builtin; refine wpList_append_at rfl (.tmp 195) (.tmp 198) 46 rfl w.heap.size 9 (.string ⟨#[]⟩) 16 Tryz.underlying46 Tryz.info_string rfl (by rfl) HS6.out.keys (by rfl) (one_rd_at (.string ⟨yt.toArray⟩) _ rfl) (by simp [Value.oneCell']) (by have := HKL.out; rw [sv_len]; simp only [List.length_cons, List.length_nil]; unfold maxLen; omega) (by have := HKL.out; rw [sv_len]; simp only [List.length_cons, List.length_nil]; omega) (Nat.le_trans HS6.out.kb.size (Nat.le_refl _)) ?_; intro v4 w4 ho4 hg4 hn4; have HS8 := Lib.hid (HS6.out.key (ks' := ks ++ [yt]) hg4 (by rw [sv_app]; exact ho4) hn4); have HK8 : Hid (Str w4 Q 117 (pc (yk, yn, yc, yt, yq))) := (HK6.out.kb (Kb.of_grown hg4 none) (by simp) (own_ne (HS6.out.keys.ne_str HK6.out (by decide)))); clear ho4 hg4 hn4)
                    clear HS5 HK5 HS6 HK6 q3
                    have q0 := HK8.out.cell 0
                    have q1 := HK8.out.cell 1
                    have q2 := HK8.out.cell 2
                    have q3 := HK8.out.cell 3
                    have q4 := HK8.out.cell 4
                    have HU := Lib.hid (runder_any (HB.out f2 (by have := HF2.out; omega)) HS8.out.rs (yk, yn, yc, yt, yq) d (by have := HDD.out; omega) HLL.out HFU.out HBD.out.1)
                    rw [HRR.out] at HU
                    unfold pc at q0 q1 q2 q3 q4 HU
                    simp only [List.getElem?_toArray, List.getElem?_cons_zero, List.getElem?_cons_succ] at q0 q1 q2 q3 q4 HU
                    go_wp2_with (first
                      | (go_at_call 96; refine HU.out.mono ?_; rintro e w1 ⟨z, t2, nv2, ns2, k2, l2, rfl, hp2, hk2, hn2, hR2⟩; have HR2 := Lib.hid hR2; have HS5 := Lib.hid ((HS8.out.fed hk2 hp2 hn2 (fun _ h => h)).calm (below_alloc w1 (.cells #[.int .i64 (z : Int)] 3))); clear hk2 hp2 hn2 hR2)
                      | (at_builtin; refine wpList_append_at rfl (.tmp 204) (.tmp 206) 22 rfl w.heap.size 3 (.int .i64 0) 8 Tryz.underlying22 Tryz.info_int rfl (by rfl) HS5.out.kids (by rfl) (one_rd_at (.int .i64 (z : Int)) _ rfl) (by simp [Value.oneCell']) (by have := HI2.out; rw [nats_len]; simp only [List.length_cons, List.length_nil]; unfold maxLen; omega) (by have := HI2.out; rw [nats_len]; simp only [List.length_cons, List.length_nil]; omega) (Nat.le_trans HS5.out.kb.size (Nat.le_refl _)) ?_; intro v4 w4 ho4 hg4 hn4; have HS6 := Lib.hid (HS5.out.kid (is' := is ++ [z]) hg4 (by rw [nats_app]; exact ho4) hn4); clear ho4 hg4 hn4))
                    go_roundg g
                    case rel =>
                      have hlen : is.length ≤ 2000 := by have h1 := HLE.out.1; have h2 := HBD.out.1; rw [len_mid _ HNN.out] at h2; omega
                      cases hRc : R with
                      | bad m m' =>
                        have hr := HR2.out
                        rw [hRc] at hr
                        obtain ⟨rfl, rfl, ⟨ms', rfl⟩, hl⟩ := hr
                        have hb0 := DC.und_bad (HRR.out.trans hRc)
                        have h6 := HS6.out
                        rw [List.append_assoc, List.cons_append] at h6 hl
                        exact ⟨t2, f2, nv2, _, _, ks ++ [yt], is ++ [z], ms ++ ms', _, _, _, rfl, rfl, Lib.hid h6, Lib.hid ⟨hl, by simp only [List.length_append, List.length_cons, List.length_nil]; omega, by have := HKL.out; simp only [List.length_append, List.length_cons, List.length_nil]; omega⟩, .inr hb0, Lib.hid (.inr ⟨hb0, HEB.out HNI.out _ _ hRc⟩)⟩
                      | ok a =>
                        obtain ⟨e, r⟩ := a
                        have hr := HR2.out
                        rw [hRc] at hr
                        obtain ⟨rfl, rfl, rfl, rfl, hdr2⟩ := hr
                        obtain ⟨hfi, hfj, hfk⟩ := DC.und_fine (HRR.out.trans hRc)
                        have h6 := HS6.out
                        have hE := HEG.out HNI.out _ _ hRc
                        have hmany := hfi.many
                        have hll := hfi.len
                        have hd3 : (L.drop t2).length = r.length := by rw [hdr2]
                        rw [List.length_drop] at hd3 hll
                        have hfu := HFU.out
                        rw [List.length_drop] at hfu
                        have hgg := HGG.out
                        rw [← List.length_append, List.append_assoc, List.cons_append] at hE
                        rw [← List.length_append, List.append_assoc, List.cons_append] at hmany
                        rw [List.append_assoc, List.cons_append] at h6
                        refine ⟨t2, f2, nv2, _, _, ks ++ [yt], is ++ [_], ms ++ e, _, 0, 0, rfl, rfl, Lib.hid h6, Lib.hid ⟨hmany, by simp only [List.length_append, List.length_cons, List.length_nil]; omega, by have := HKL.out; simp only [List.length_append, List.length_cons, List.length_nil]; omega⟩, .inl ⟨rfl, by omega⟩, Lib.hid (.inl ⟨rfl, rfl, by have := HF2.out; omega, by rw [List.length_drop]; omega, ?_, ?_, by rw [hdr2]; exact hE⟩)⟩
                        · have := HLE.out.1
                          simp only [List.length_append, List.length_cons, List.length_nil]; omega
                        · have := HLE.out.2
                          simp only [List.length_append, List.length_cons, List.length_nil]; omega
                    case measure => omega
end Go.Proofs.YtgfhabofhefaaaaGreatDoor
