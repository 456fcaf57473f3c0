/- A part of the proof. -/
import Derived.Test.YtgfhabofhefaaaaGreatDoorSB34
import Derived.Test.YtgfhabofhefaaaaGreatDoorSB07
namespace Go.Proofs.YtgfhabofhefaaaaGreatDoor
open Go.RowKit
theorem lp_inv {c : CF.Cf} {g : List Int → Nat → Int → Int → Option Nat} {dom up k : Int} {seen : List CF.Br} {r : List Int} {n m : Nat} (h : CF.lp g c dom up seen (k :: r) n = some m) :
    k = (n : Int) ∧ ∃ b m1, c.brs[n]? = some b ∧ CF.fits b dom up = true ∧ g b.kids (n + 1) dom n = some m1 ∧ CF.lp g c dom up (seen ++ [b]) r m1 = some m := by
  rw [CF.lp] at h
  split at h
  · cases h
  rename_i h0
  split at h
  · cases h
  rename_i b hb
  split at h
  · cases h
  rename_i h1
  split at h
  · cases h
  rename_i m1 hm
  exact ⟨Classical.byContradiction h0, b, m1, hb, by cases hf : CF.fits b dom up with
    | true => rfl
    | false => exact absurd (.inl hf) h1, hm, h⟩
theorem brl_step {c : CF.Cf} {g : List Int → List SH.Ni → List SH.Ni} {l n : Nat} {r : List Int} {ns : List SH.Ni} {b : CF.Br} (hb : c.brs[n]? = some b) :
    CF.brl g c l ((n : Int) :: r) ns = CF.brl g c l r (CF.under g b.kids ns.length (CF.front l b ns)) := by
  rw [CF.brl, Int.toNat_natCast, hb]
theorem under_ge {g : List Int → List SH.Ni → List SH.Ni} (hg : ∀ k a, a.length ≤ (g k a).length) (kids : List Int) (n : Nat) (ns : List SH.Ni) : ns.length ≤ (CF.under g kids n ns).length := by
  unfold CF.under
  split
  · omega
  · rw [len_addK]; exact hg kids ns
theorem front_ge (l : Nat) (b : CF.Br) (ns : List SH.Ni) : ns.length ≤ (CF.front l b ns).length := by
  unfold CF.front
  have h1 := len_hasR b ns.length (CF.valued b ns.length (CF.put ns.length CF.kKey b.key true (CF.addI l ns.length (CF.opn 3 ns))))
  have h2 := len_valued b ns.length (CF.put ns.length CF.kKey b.key true (CF.addI l ns.length (CF.opn 3 ns)))
  rw [len_put, len_addI, len_opn] at h2
  omega
theorem brl_ge {c : CF.Cf} {g : List Int → List SH.Ni → List SH.Ni} (hg : ∀ k a, a.length ≤ (g k a).length) (l : Nat) : ∀ (r : List Int) (ns : List SH.Ni), ns.length ≤ (CF.brl g c l r ns).length
  | [], ns => by rw [CF.brl]; omega
  | k :: r, ns => by
    rw [CF.brl]
    split
    · omega
    · rename_i b hb
      have h1 := front_ge l b ns
      have h2 := under_ge hg b.kids ns.length (CF.front l b ns)
      have h3 := brl_ge (c := c) hg l r (CF.under g b.kids ns.length (CF.front l b ns))
      omega
theorem brw_ge (c : CF.Cf) : ∀ (f : Nat) (kids : List Int) (ns : List SH.Ni), ns.length ≤ (CF.brw c f kids ns).length
  | 0, _, ns => by rw [CF.brw, len_opn]; omega
  | f + 1, kids, ns => by
    rw [CF.brw]
    have := brl_ge (c := c) (fun k a => brw_ge c f k a) ns.length kids (CF.opn 2 ns)
    rw [len_opn] at this
    omega
def WbC (f : Nat) : Prop := ∀ (c : CF.Cf) (vd vb vk : Value) (kids : List Int) (next m z : Nat) (dom up : Int) (w0 w : World) (p : Nat) (ns : List SH.Ni), RdD w0 vd c.doms → RdB w0 vb c.brs → Rdv w0 vk (ints kids) → CfOk c → kids ≠ [] → CF.kf c f kids next dom up = some m → Wn z w0 w p ns → ns.length + 1 + 10 * (m - next) ≤ 18000 →
  Calls Tryz.prog 23 #[.pointer (some ⟨p, 0, none⟩), .agg #[vd, vb], vk] w fun e w' => e = .returned (.int .i64 (ns.length : Int)) ∧ Wn (z + 1) w0 w' p (CF.brw c f kids ns) ∧ Kw w w'
set_option maxRecDepth 10000 in
set_option maxHeartbeats 64000000 in
theorem wbranches_all : ∀ f, WbC f := by
  intro f
  induction f with
  | zero =>
    intro c vd vb vk kids next m z dom up w0 w p ns _ _ _ _ hne hkf
    rw [CF.kf, if_neg hne] at hkf
    cases hkf
  | succ f ih =>
    intro c vd vb vk kids next m z dom up w0 w p ns0 hd hb hk hc hne hkf hw hlen
    obtain ⟨ao, ca, rfl, -⟩ := hd.slice
    obtain ⟨bo, cb, rfl, -⟩ := hb.slice
    obtain ⟨ka, kc, rfl⟩ := hk.slice
    have hmk := hk.len_le
    rw [ints_len] at hk hmk ⊢
    unfold maxLen at hmk
    have HIH := Lib.hid ih
    obtain ⟨FIN, HFIN⟩ : ∃ F, Hid (F = CF.brw c (f + 1) kids ns0) := ⟨_, Lib.hid rfl⟩
    rw [← HFIN.out]
    rw [CF.kf] at hkf
    have HC := Lib.hid hc
    have HD := Lib.hid hd
    have HBR := Lib.hid hb
    have HK := Lib.hid hk
    have HLN := Lib.hid hlen
    obtain ⟨K, hK⟩ : ∃ K, kids.length = K := ⟨_, rfl⟩
    obtain ⟨L, hL⟩ : ∃ L, c.brs.length = L := ⟨_, rfl⟩
    obtain ⟨N1, hN1⟩ : ∃ L, c.doms.length = L := ⟨_, rfl⟩
    obtain ⟨l, hl⟩ : ∃ l, ns0.length = l := ⟨_, rfl⟩
    have HKL := Lib.hid hK
    have HL := Lib.hid hL
    have HNL := Lib.hid hl
    rw [hK] at HK hmk ⊢
    rw [hL] at HBR ⊢
    rw [hN1] at HD ⊢
    have hmki : (K : Int) ≤ 9223372036854775807 := by omega
    have HB0 := Lib.hid (below_alloc w (.cells #[.slice ao N1 ca, .slice bo L cb] 33))
    have HS := Lib.hid (Str.new w 33 #[.slice ao N1 ca, .slice bo L cb])
    have HW := Lib.hid (hw.calm (below_alloc w (.cells #[.slice ao N1 ca, .slice bo L cb] 33)))
    have HBL := Lib.hid hw.bl
    have HKW0 := Lib.hid (Kw.of_below (below_alloc w (.cells #[.slice ao N1 ca, .slice bo L cb] 33)))
    have HOP := Lib.hid (HW.out.open 2 (by omega))
    have HLP0 : Hid (CF.lp (CF.kf c f) c dom up [] (kids.drop 0) next = some m) := by show _ = _; rw [List.drop_zero]; exact hkf
    have HF0 : Hid (FIN = CF.brl (CF.brw c f) c l (kids.drop 0) (CF.opn 2 ns0)) := by show FIN = _; rw [HFIN.out, CF.brw, hl, List.drop_zero]
    rw [hl] at HOP ⊢
    have HL0 : Hid (l < (CF.opn 2 ns0).length ∧ (CF.opn 2 ns0).length + 10 * (m - next) ≤ 18000) := by show _ ∧ _; rw [len_opn]; omega
    obtain ⟨P, hP⟩ : ∃ P, w.heap.size = P := ⟨_, rfl⟩
    rw [hP] at HS
    clear hd hb hk hc hne hkf hw hlen hK hL hN1 hl hmk ih
    go_enter Tryz.func23, Tryz.ntmps23
    go_upto_region 1 with fail
    clear hP
    generalize w.alloc (.cells #[.slice ao N1 ca, .slice bo L cb] 33) = W at *
    go_wp2_with (go_at_call 19; refine HOP.out.mono ?_; rintro e w1 ⟨rfl, n1, k1⟩; have HN1 := Lib.hid n1; have HK1 := Lib.hid (HKW0.out.trans k1); have HS1 := Lib.hid (k1.str HS.out (by decide) (by decide) (by decide) (by decide)); clear n1 k1)
    clear HS HW HB0 HKW0 HOP
    go_loopg [8] K (fun g s8 wx => ∃ (i nx : Nat) (seen : List CF.Br) (ns : List SH.Ni), i + g = K ∧ s8 = .int .i64 (i : Int) ∧ Hid (Wn (z + 1) w0 wx p ns) ∧ Hid (Str wx P 33 #[.slice ao N1 ca, .slice bo L cb]) ∧ Hid (Kw w wx) ∧ Hid (CF.lp (CF.kf c f) c dom up seen (kids.drop i) nx = some m) ∧ Hid (FIN = CF.brl (CF.brw c f) c l (kids.drop i) ns) ∧ Hid (l < ns.length ∧ ns.length + 10 * (m - nx) ≤ 18000))
    case atStart => exact ⟨0, next, [], _, by omega, rfl, HN1, HS1, HK1, HLP0, HF0, HL0⟩
    case round =>
      clear HN1 HS1 HK1 HLP0 HF0 HL0
      obtain ⟨i, nx, seen, ns, hi, rfl, HN, HS, HKW, HLP, HF, HLL⟩ := hrel
      have g1 : wr.cell? ⟨P, 1, none⟩ = some (.slice bo L cb) := HS.out.cell 1
      cases gk with
      | zero =>
        obtain rfl : i = K := by omega
        have E := Lib.hid (show FIN = ns by rw [HF.out, List.drop_eq_nil_of_le (by have := HKL.out; omega), CF.brl])
        go_wp2
        go_ret
        rw [E.out]
        exact ⟨rfl, HN.out, HKW.out⟩
      | succ g =>
        have hik : (i : Int) < (K : Int) := by omega
        have hi0 : (0 : Int) ≤ (i : Int) := by omega
        obtain ⟨k, hk⟩ : ∃ k, kids[i]? = some k := ⟨kids[i]'(by have := HKL.out; omega), List.getElem?_eq_getElem _⟩
        obtain ⟨b3, o3, c3, e3, u3⟩ := (HK.out.below HN.out.bl).atv (j := i) (u := .int .i64 k) (by simp [ints, hk])
        simp only [Value.slice.injEq] at e3
        obtain ⟨rfl, -, -⟩ := e3
        have hdr : kids.drop i = k :: kids.drop (i + 1) := by
          have h9 := List.getElem?_eq_some_iff.1 hk
          rw [List.drop_eq_getElem_cons h9.1, h9.2]
        have hlp := HLP.out
        rw [hdr] at hlp
        obtain ⟨rfl, b, m1, hb, -, hkf, hlp⟩ := lp_inv hlp
        have hF := HF.out
        rw [hdr, brl_step hb] at hF
        have HLP2 := Lib.hid hlp
        have HF2 := Lib.hid hF
        have HKF := Lib.hid hkf
        have hm1m := (CF.gr_brl CF.cl_true (CF.hb_true c) (fun kids next dom up m a => CF.gr_brw CF.cl_true (CF.hb_true c) f kids next dom up m a) l _ _ _ _ ns hlp).1
        have hgr := CF.gr_brw CF.cl_true (CF.hb_true c) f b.kids (nx + 1) dom nx m1
        have HGR := Lib.hid (fun (a : List SH.Ni) => hgr a hkf)
        have HMM := Lib.hid hm1m
        have hnl : nx < L := by rw [← HL.out]; exact (List.getElem?_eq_some_iff.1 hb).1
        have hnli : (nx : Int) < (L : Int) := by omega
        have hn0 : (0 : Int) ≤ (nx : Int) := by omega
        obtain ⟨bq, off, cap2, ia, ic, hv2, a13, rk⟩ := (HBR.out.below HN.out.bl).at hb
        obtain ⟨bq', off', cap2', ia', ic', hv2', a13', rk'⟩ := HBR.out.at hb
        simp only [Value.slice.injEq] at hv2 hv2'
        obtain ⟨rfl, -, -⟩ := hv2
        simp only [Option.some.injEq, Addr.mk.injEq, and_true] at hv2'
        obtain ⟨⟨rfl, rfl⟩, -⟩ := hv2'
        have hkk := a13.c12.symm.trans (a13'.below HN.out.bl).c12
        simp only [Option.some.injEq, Value.slice.injEq] at hkk
        obtain ⟨rfl, -, rfl⟩ := hkk
        have HBK := Lib.hid rk'
        have HBO := Lib.hid (HC.out.br b (List.mem_of_getElem? hb))
        obtain ⟨bk, bv, ba, bd, bu, bh, ⟨rn, ru, rl, rr, rs, rx⟩, bi⟩ := b
        simp only at a13 HBK HKF HGR HF2
        obtain ⟨BN, hBN⟩ : ∃ BN, bi.length = BN := ⟨_, rfl⟩
        have HBN := Lib.hid hBN
        rw [hBN] at a13 HBK
        obtain ⟨x0, x1, x2, x3, x4, x5, x6, x7, x8, x9, x10, x11, x12⟩ := a13
        simp only at x0 x1 x2 x3 x4 x5 x6 x7 x8 x9 x10 x11 x12
        obtain ⟨N0, hN0⟩ : ∃ N, ns.length = N := ⟨_, rfl⟩
        have HN0 := Lib.hid hN0
        have HLB : Hid (l < N0 ∧ N0 + 10 ≤ 18010 ∧ N0 + 10 * (m - nx) ≤ 18000 ∧ nx + 1 ≤ m1) := by
          show _ ∧ _
          have h1 := HLL.out; have h2 := (HGR.out ns).1; rw [hN0] at h1; omega
        clear hk hdr hlp hb hkf hF hgr hm1m hnl rk rk' a13' hBN HLP HF HLL hN0
        go_upto_region 5 with fail
        go_cut [9] (fun s9 wx => ∃ a, s9 = .pointer (some ⟨a, 0, none⟩) ∧ Hid (Bw (z + 1) w0 w wx p P a #[.slice ao N1 ca, .slice (some ⟨bq, off, none⟩) L cb] #[.string ⟨bk.toArray⟩, .string ⟨bv.toArray⟩, .bool ba, .int .i64 bd, .int .i64 bu, .bool bh, .string ⟨rn.toArray⟩, .int .i64 ru, .int .i64 rl, .float .f64 rr, .bool rs, .bool rx, .slice ia BN ic] ns))
        case first =>
          have A_x0 := fun o => ((below_alloc wr o).cell (cell_lt x0)).trans x0
          have A_x1 := fun o => ((below_alloc wr o).cell (cell_lt x1)).trans x1
          have A_x2 := fun o => ((below_alloc wr o).cell (cell_lt x2)).trans x2
          have A_x3 := fun o => ((below_alloc wr o).cell (cell_lt x3)).trans x3
          have A_x4 := fun o => ((below_alloc wr o).cell (cell_lt x4)).trans x4
          have A_x5 := fun o => ((below_alloc wr o).cell (cell_lt x5)).trans x5
          have A_x6 := fun o => ((below_alloc wr o).cell (cell_lt x6)).trans x6
          have A_x7 := fun o => ((below_alloc wr o).cell (cell_lt x7)).trans x7
          have A_x8 := fun o => ((below_alloc wr o).cell (cell_lt x8)).trans x8
          have A_x9 := fun o => ((below_alloc wr o).cell (cell_lt x9)).trans x9
          have A_x10 := fun o => ((below_alloc wr o).cell (cell_lt x10)).trans x10
          have A_x11 := fun o => ((below_alloc wr o).cell (cell_lt x11)).trans x11
          have A_x12 := fun o => ((below_alloc wr o).cell (cell_lt x12)).trans x12
          have A_g1 := fun o => ((below_alloc wr o).cell (cell_lt g1)).trans g1
          have A_u3 := fun o => ((below_alloc wr o).cell (cell_lt u3)).trans u3
          have B5 := below_trans (below_alloc wr (.cells #[.string ⟨bk.toArray⟩, .string ⟨bv.toArray⟩, .bool ba, .int .i64 bd, .int .i64 bu, .bool bh, .string ⟨rn.toArray⟩, .int .i64 ru, .int .i64 rl, .float .f64 rr, .bool rs, .bool rx, .slice ia BN ic] 92)) (below_drew _)
          have HB5 : Hid (Bw (z + 1) w0 w _ p P wr.heap.size #[.slice ao N1 ca, .slice (some ⟨bq, off, none⟩) L cb] #[.string ⟨bk.toArray⟩, .string ⟨bv.toArray⟩, .bool ba, .int .i64 bd, .int .i64 bu, .bool bh, .string ⟨rn.toArray⟩, .int .i64 ru, .int .i64 rl, .float .f64 rr, .bool rs, .bool rx, .slice ia BN ic] ns) := Lib.hid ⟨HN.out.calm B5, HS.out.below B5, (Str.new wr 92 #[.string ⟨bk.toArray⟩, .string ⟨bv.toArray⟩, .bool ba, .int .i64 bd, .int .i64 bu, .bool bh, .string ⟨rn.toArray⟩, .int .i64 ru, .int .i64 rl, .float .f64 rr, .bool rs, .bool rx, .slice ia BN ic]).below (below_drew _), HKW.out.trans (Kw.of_below B5)⟩
          clear B5
          go_region
          go_wp2_with fail
          go_meet
          exact ⟨_, rfl, HB5⟩
        case rest =>
          obtain ⟨a, rfl, HB1⟩ := hcut
          clear x0 x1 x2 x3 x4 x5 x6 x7 x8 x9 x10 x11 x12 g1 u3 HN HS HKW
          have HOP := Lib.hid (HB1.out.wn.open 3 (by have := HLB.out; rw [HN0.out]; omega))
          rw [HN0.out] at HOP
          go_upto_if 44 with (first
            | (go_at_call 19; refine HOP.out.mono ?_; rintro e w2 ⟨rfl, n9, k9⟩; have HB2 := Lib.hid (HB1.out.step n9 k9); clear n9 k9)
            | (go_at_call 21; refine (HB2.out.wn.item l N0 (by rw [len_opn, HN0.out]; have := HLB.out; omega) (by rw [len_opn, HN0.out]; have := HLB.out; omega)).mono ?_; rintro e w3 ⟨rfl, n9, k9⟩; have HB3 := Lib.hid (HB2.out.step n9 k9); clear n9 k9; have q0 : w3.cell? ⟨a, 0, none⟩ = some (.string ⟨bk.toArray⟩) := HB3.out.br.cell 0)
            | (go_at_call 22; refine (HB3.out.wn.put N0 CF.kKey bk true (by rw [len_addI, len_opn, HN0.out]; omega) (by rw [len_addI, len_opn, HN0.out]; have := HLB.out; omega)).mono ?_; rintro e w4 ⟨rfl, n9, k9⟩; have HB4 := Lib.hid (HB3.out.step n9 k9); clear n9 k9; have q2 : w4.cell? ⟨a, 2, none⟩ = some (.bool ba) := HB4.out.br.cell 2))
          obtain ⟨n3, hn3⟩ : ∃ n3, CF.put N0 CF.kKey bk true (CF.addI l N0 (CF.opn 3 ns)) = n3 := ⟨_, rfl⟩
          have HL3 : Hid (n3.length = N0 + 2) := by show _ = _; rw [← hn3, len_put, len_addI, len_opn, HN0.out]
          have HN3 := Lib.hid hn3
          rw [hn3] at HB4
          clear HB1 HB2 HB3 HOP q0 hn3
          go_cut [] (fun wx => Hid (Bw (z + 1) w0 w wx p P a #[.slice ao N1 ca, .slice (some ⟨bq, off, none⟩) L cb] #[.string ⟨bk.toArray⟩, .string ⟨bv.toArray⟩, .bool ba, .int .i64 bd, .int .i64 bu, .bool bh, .string ⟨rn.toArray⟩, .int .i64 ru, .int .i64 rl, .float .f64 rr, .bool rs, .bool rx, .slice ia BN ic] (CF.valued ⟨bk, bv, ba, bd, bu, bh, ⟨rn, ru, rl, rr, rs, rx⟩, bi⟩ N0 n3)))
          case first =>
            cases ba with
            | true =>
              go_wp2_with fail
              go_meet
              exact HB4
            | false =>
              have q1 : w4.cell? ⟨a, 1, none⟩ = some (.string ⟨bv.toArray⟩) := HB4.out.br.cell 1
              go_wp2_with (go_at_call 22; refine (HB4.out.wn.put N0 CF.kValue bv true (by rw [HL3.out]; omega) (by rw [HL3.out]; have := HLB.out; omega)).mono ?_; rintro e w5 ⟨rfl, n9, k9⟩; have HB5 := Lib.hid (HB4.out.step n9 k9); clear n9 k9)
              go_meet
              exact HB5
          case rest =>
            clear HB4 q2 w4
            have HB4 := hcut
            clear hcut
            have hv4 := len_valued ⟨bk, bv, ba, bd, bu, bh, ⟨rn, ru, rl, rr, rs, rx⟩, bi⟩ N0 n3
            obtain ⟨n4, hn4⟩ : ∃ n4, CF.valued ⟨bk, bv, ba, bd, bu, bh, ⟨rn, ru, rl, rr, rs, rx⟩, bi⟩ N0 n3 = n4 := ⟨_, rfl⟩
            have HN4 := Lib.hid hn4
            rw [hn4] at HB4 hv4
            obtain ⟨N4, hN4⟩ : ∃ N, n4.length = N := ⟨_, rfl⟩
            have HL4 : Hid (N0 + 2 ≤ N4 ∧ N4 ≤ N0 + 3) := by show _ ∧ _; have := HL3.out; omega
            have HNL4 := Lib.hid hN4
            clear hn4 hv4 hN4
            have q5 : wc.cell? ⟨a, 5, none⟩ = some (.bool bh) := HB4.out.br.cell 5
            go_upto_if 51 with fail
            go_cut [] (fun wx => Hid (Bw (z + 1) w0 w wx p P a #[.slice ao N1 ca, .slice (some ⟨bq, off, none⟩) L cb] #[.string ⟨bk.toArray⟩, .string ⟨bv.toArray⟩, .bool ba, .int .i64 bd, .int .i64 bu, .bool bh, .string ⟨rn.toArray⟩, .int .i64 ru, .int .i64 rl, .float .f64 rr, .bool rs, .bool rx, .slice ia BN ic] (CF.hasR ⟨bk, bv, ba, bd, bu, bh, ⟨rn, ru, rl, rr, rs, rx⟩, bi⟩ N0 n4)))
            case first =>
              cases bh with
              | false =>
                go_wp2_with fail
                go_meet
                exact HB4
              | true =>
                have HOP := Lib.hid (HB4.out.wn.open 3 (by have := HLB.out; have := HL4.out; rw [HNL4.out]; omega))
                rw [HNL4.out] at HOP
                go_upto_if 60 with (first
                  | (go_at_call 19; refine HOP.out.mono ?_; rintro e w5 ⟨rfl, n9, k9⟩; have HB5 := Lib.hid (HB4.out.step n9 k9); clear n9 k9)
                  | (go_at_call 20; refine (HB5.out.wn.key N0 CF.kRate N4 (by rw [len_opn, HNL4.out]; have := HL4.out; omega) (by rw [len_opn, HNL4.out]; have := HLB.out; have := HL4.out; omega)).mono ?_; rintro e w6 ⟨rfl, n9, k9⟩; have HB6 := Lib.hid (HB5.out.step n9 k9); clear n9 k9; have q11 : w6.cell? ⟨a, 11, none⟩ = some (.bool rx) := HB6.out.br.cell 11))
                obtain ⟨r1, hr1⟩ : ∃ r1, CF.addK N0 CF.kRate N4 (CF.opn 3 n4) = r1 := ⟨_, rfl⟩
                have HR1 := Lib.hid hr1
                have HRL : Hid (r1.length = N4 + 1) := by show _ = _; rw [← hr1, len_addK, len_opn, HNL4.out]
                rw [hr1] at HB6
                clear HB5 HOP q5 hr1
                go_cut [] (fun wx => Hid (Bw (z + 1) w0 w wx p P a #[.slice ao N1 ca, .slice (some ⟨bq, off, none⟩) L cb] #[.string ⟨bk.toArray⟩, .string ⟨bv.toArray⟩, .bool ba, .int .i64 bd, .int .i64 bu, .bool true, .string ⟨rn.toArray⟩, .int .i64 ru, .int .i64 rl, .float .f64 rr, .bool rs, .bool rx, .slice ia BN ic] (CF.inRule (⟨rn, ru, rl, rr, rs, rx⟩ : CF.Ru) N4 r1)))
                case first =>
                  cases rx with
                  | true =>
                    go_wp2_with (go_at_call 22; refine (HB6.out.wn.put N4 CF.kUnl CF.kTrue false (by rw [HRL.out]; omega) (by rw [HRL.out]; have := HLB.out; have := HL4.out; omega)).mono ?_; rintro e w7 ⟨rfl, n9, k9⟩; have HB7 := Lib.hid (HB6.out.step n9 k9); clear n9 k9)
                    go_meet
                    exact HB7
                  | false =>
                    have q9 : w6.cell? ⟨a, 9, none⟩ = some (.float .f64 rr) := HB6.out.br.cell 9
                    have HWR := Lib.hid (fun u => rwrite_any rr HBO.out.ru.nr u)
                    obtain ⟨nt, hnt⟩ : ∃ s, wrS rr = s := ⟨_, rfl⟩
                    obtain ⟨nk, hnk⟩ : ∃ s, wrOk rr = s := ⟨_, rfl⟩
                    have HNT := Lib.hid hnt
                    rw [hnt, hnk] at HWR
                    have HDG := Lib.hid (fun u => rdigits_any rl u)
                    obtain ⟨dt, hdt⟩ : ∃ s, Lib.decDigits (M.hold rl).toNat = s := ⟨_, rfl⟩
                    have HDT := Lib.hid hdt
                    rw [hdt] at HDG
                    have HUN := Lib.hid (fun u => unit_any ru u)
                    obtain ⟨ut, hut⟩ : ∃ s, CF.unitS ru = s := ⟨_, rfl⟩
                    have HUT := Lib.hid hut
                    rw [hut] at HUN
                    clear hnt hnk hdt hut
                    go_wp2_with (first
                      | (go_at_call 22; refine (HBC.out.wn.put N4 CF.kNear nt false (by rw [len_put, len_put, HRL.out]; omega) (by rw [len_put, len_put, HRL.out]; have := HLB.out; have := HL4.out; omega)).mono ?_; rintro e w12 ⟨rfl, n9, k9⟩; have HBD := Lib.hid (HBC.out.step n9 k9); clear n9 k9)
                      | (go_at_call 22; refine (HBB.out.wn.put N4 CF.kRpu dt false (by rw [len_put, HRL.out]; omega) (by rw [len_put, HRL.out]; have := HLB.out; have := HL4.out; omega)).mono ?_; rintro e w11 ⟨rfl, n9, k9⟩; have HBC := Lib.hid (HBB.out.step n9 k9); clear n9 k9)
                      | (go_at_call 22; refine (HB7.out.wn.put N4 CF.kUnit ut false (by rw [HRL.out]; omega) (by rw [HRL.out]; have := HLB.out; have := HL4.out; omega)).mono ?_; rintro e w8 ⟨rfl, n9, k9⟩; have HB8 := Lib.hid (HB7.out.step n9 k9); clear n9 k9; have q8 : w8.cell? ⟨a, 8, none⟩ = some (.int .i64 rl) := HB8.out.br.cell 8)
                      | (go_at_call 45; refine (HDG.out _).mono ?_; rintro e w9 ⟨rfl, b9⟩; have HBB := Lib.hid (HB8.out.calm b9); clear b9)
                      | (go_at_call 44; refine (HUN.out _).mono ?_; rintro e w9 ⟨rfl, rfl⟩)
                      | (go_at_call 43; refine (HWR.out _).mono ?_; rintro e w7 ⟨rfl, b7⟩; have HB7 := Lib.hid (HB6.out.calm b7); have q7 : w7.cell? ⟨a, 7, none⟩ = some (.int .i64 ru) := HB7.out.br.cell 7; clear b7))
                    go_meet
                    have HE : Hid (CF.put N4 CF.kNear nt false (CF.put N4 CF.kRpu dt false (CF.put N4 CF.kUnit ut false r1)) = CF.inRule (⟨rn, ru, rl, rr, rs, false⟩ : CF.Ru) N4 r1) := by
                      show _ = _
                      rw [← HNT.out, ← HDT.out, ← HUT.out]; rfl
                    rw [← HE.out]
                    exact HBD
                case rest =>
                  clear HB6 w6 q11
                  have HB6 := hcut
                  clear hcut
                  have hv6 := len_inRule (⟨rn, ru, rl, rr, rs, rx⟩ : CF.Ru) N4 r1
                  obtain ⟨r2, hr2⟩ : ∃ r2, CF.inRule (⟨rn, ru, rl, rr, rs, rx⟩ : CF.Ru) N4 r1 = r2 := ⟨_, rfl⟩
                  have HR2 := Lib.hid hr2
                  rw [hr2] at HB6 hv6
                  have HRL2 : Hid (N4 + 1 ≤ r2.length ∧ r2.length ≤ N4 + 4) := by show _ ∧ _; have := HRL.out; omega
                  clear hr2 hv6
                  have q6 : wc.cell? ⟨a, 6, none⟩ = some (.string ⟨rn.toArray⟩) := HB6.out.br.cell 6
                  go_upto_if 92 with fail
                  go_cut [] (fun wx => Hid (Bw (z + 1) w0 w wx p P a #[.slice ao N1 ca, .slice (some ⟨bq, off, none⟩) L cb] #[.string ⟨bk.toArray⟩, .string ⟨bv.toArray⟩, .bool ba, .int .i64 bd, .int .i64 bu, .bool true, .string ⟨rn.toArray⟩, .int .i64 ru, .int .i64 rl, .float .f64 rr, .bool rs, .bool rx, .slice ia BN ic] (CF.named (⟨rn, ru, rl, rr, rs, rx⟩ : CF.Ru) N4 r2)))
                  case first =>
                    by_cases hrn : rn = []
                    · subst hrn
                      go_wp2_with fail
                      go_meet
                      exact HB6
                    · have hre : rn.isEmpty = false := by
                        cases rn with
                        | nil => exact absurd rfl hrn
                        | cons _ _ => rfl
                      have HRE := Lib.hid hre
                      clear hre
                      go_wp2_with (go_at_call 22; refine (HB6.out.wn.put N4 CF.kName rn true (by have := HRL2.out; omega) (by have := HRL2.out; have := HLB.out; have := HL4.out; omega)).mono ?_; rintro e w7 ⟨rfl, n9, k9⟩; have HB7 := Lib.hid (HB6.out.step n9 k9); clear n9 k9)
                      go_meet
                      have HE : Hid (CF.put N4 CF.kName rn true r2 = CF.named (⟨rn, ru, rl, rr, rs, rx⟩ : CF.Ru) N4 r2) := by show _ = _; unfold CF.named; rw [if_neg hrn]
                      rw [← HE.out]
                      exact HB7
                      rename_i hx
                      rw [HRE.out] at hx
                      cases hx
                  case rest =>
                    clear HB6 q6
                    have HB6 := hcut
                    clear hcut
                    have hv6 := len_named (⟨rn, ru, rl, rr, rs, rx⟩ : CF.Ru) N4 r2
                    obtain ⟨r3, hr3⟩ : ∃ r3, CF.named (⟨rn, ru, rl, rr, rs, rx⟩ : CF.Ru) N4 r2 = r3 := ⟨_, rfl⟩
                    have HR3 := Lib.hid hr3
                    rw [hr3] at HB6 hv6
                    have HRL3 : Hid (N4 + 1 ≤ r3.length ∧ r3.length ≤ N4 + 5) := by show _ ∧ _; have := HRL2.out; omega
                    have HE : Hid (CF.shaded (⟨rn, ru, rl, rr, rs, rx⟩ : CF.Ru) N0 r3 = CF.hasR ⟨bk, bv, ba, bd, bu, true, ⟨rn, ru, rl, rr, rs, rx⟩, bi⟩ N0 n4) := by
                      show _ = _
                      unfold CF.hasR CF.ruled
                      rw [if_pos rfl, HNL4.out, HR1.out, HR2.out, HR3.out]
                    clear hr3 hv6
                    have q10 : wc.cell? ⟨a, 10, none⟩ = some (.bool rs) := HB6.out.br.cell 10
                    cases rs with
                    | true =>
                      go_wp2_with (go_at_call 22; refine (HB6.out.wn.put N0 CF.kShadow CF.kTrue false (by have := HRL3.out; have := HL4.out; omega) (by have := HRL3.out; have := HLB.out; have := HL4.out; omega)).mono ?_; rintro e w7 ⟨rfl, n9, k9⟩; have HB7 := Lib.hid (HB6.out.step n9 k9); clear n9 k9)
                      go_meet
                      rw [← HE.out]
                      exact HB7
                    | false =>
                      go_wp2_with fail
                      go_meet
                      rw [← HE.out]
                      exact HB6
            case rest =>
              clear HB4 q5
              have HB4 := hcut
              clear hcut
              have hv5 := len_hasR ⟨bk, bv, ba, bd, bu, bh, ⟨rn, ru, rl, rr, rs, rx⟩, bi⟩ N0 n4
              obtain ⟨n5, hn5⟩ : ∃ n5, CF.hasR ⟨bk, bv, ba, bd, bu, bh, ⟨rn, ru, rl, rr, rs, rx⟩, bi⟩ N0 n4 = n5 := ⟨_, rfl⟩
              rw [hn5] at HB4 hv5
              have HE5 : Hid (CF.front l ⟨bk, bv, ba, bd, bu, bh, ⟨rn, ru, rl, rr, rs, rx⟩, bi⟩ ns = n5) := by
                show _ = _
                unfold CF.front
                rw [HN0.out, HN3.out, HN4.out, hn5]
              obtain ⟨N5, hN5⟩ : ∃ N, n5.length = N := ⟨_, rfl⟩
              have HL5 : Hid (N4 ≤ N5 ∧ N5 ≤ N4 + 6) := by show _ ∧ _; have := HNL4.out; omega
              have HNL5 := Lib.hid hN5
              clear hn5 hv5 hN5
              have q12 : wc.cell? ⟨a, 12, none⟩ = some (.slice ia BN ic) := HB4.out.br.cell 12
              by_cases hbn : BN = 0
              · have hbi : bi = [] := List.length_eq_zero_iff.1 (HBN.out.trans hbn)
                have HF3 : Hid (FIN = CF.brl (CF.brw c f) c l (kids.drop (i + 1)) n5) := by
                  show FIN = _
                  rw [HF2.out, HE5.out]
                  unfold CF.under
                  rw [if_pos hbi]
                have hle : m1 = nx + 1 := (HGR.out ns).2.2 hbi
                have HLL3 : Hid (l < n5.length ∧ n5.length + 10 * (m - m1) ≤ 18000) := by
                  show _ ∧ _
                  have h1 := HLB.out; have h2 := HL4.out; have h3 := HL5.out; have h4 := HNL5.out; have h5 := HMM.out; omega
                have hbz : ¬ (0 : Int) < (BN : Int) := by omega
                clear hbi hle
                subst hbn
                go_wp2
                go_roundg g
                case rel => exact ⟨i + 1, m1, _, n5, by omega, by first | rfl | (simp; done), Lib.hid HB4.out.wn, Lib.hid HB4.out.cf, Lib.hid HB4.out.kw, HLP2, HF3, HLL3⟩
                case measure => omega
              · have hbi : bi ≠ [] := fun h => hbn (by rw [← HBN.out, h]; rfl)
                have hbp : (0 : Int) < (BN : Int) := by omega
                have hgr := HGR.out n5
                have hg2 := hgr.2.1 hbi
                have HRC := Lib.hid (HIH.out c (.slice ao N1 ca) (.slice (some ⟨bq, off, none⟩) L cb) (.slice ia BN ic) bi (nx + 1) m1 (z + 1) dom (nx : Int) w0 wc p n5 HD.out HBR.out HBK.out HC.out hbi HKF.out HB4.out.wn (by have h1 := HLB.out; have h2 := HL4.out; have h3 := HL5.out; have h4 := HNL5.out; have h5 := HMM.out; omega))
                rw [HNL5.out] at HRC
                have e0 : wc.cell? ⟨P, 0, none⟩ = some (.slice ao N1 ca) := HB4.out.cf.cell 0
                have e1 : wc.cell? ⟨P, 1, none⟩ = some (.slice (some ⟨bq, off, none⟩) L cb) := HB4.out.cf.cell 1
                obtain ⟨n6, hn6⟩ : ∃ n6, CF.brw c f bi n5 = n6 := ⟨_, rfl⟩
                rw [hn6] at HRC hg2
                have HL6 : Hid (N5 ≤ n6.length ∧ n6.length ≤ N5 + 1 + 10 * (m1 - (nx + 1))) := by
                  show _ ∧ _
                  have h1 := hg2.1; have h2 := HNL5.out
                  exact ⟨by rw [← h2, ← hn6]; exact brw_ge c f bi n5, by omega⟩
                have HF3 : Hid (FIN = CF.brl (CF.brw c f) c l (kids.drop (i + 1)) (CF.addK N0 CF.kDescs N5 n6)) := by
                  show FIN = _
                  rw [HF2.out, HE5.out]
                  unfold CF.under
                  rw [if_neg hbi, HN0.out, HNL5.out, hn6]
                have HLL3 : Hid (l < (CF.addK N0 CF.kDescs N5 n6).length ∧ (CF.addK N0 CF.kDescs N5 n6).length + 10 * (m - m1) ≤ 18000) := by
                  show _ ∧ _
                  rw [len_addK]
                  have h1 := HLB.out; have h2 := HL4.out; have h3 := HL5.out; have h4 := HL6.out; have h5 := HMM.out; omega
                clear hbn hbi hgr hg2 hn6
                go_wp2_with (first
                  | (go_at_call 23; refine HRC.out.mono ?_; rintro e w8 ⟨rfl, n9, k9⟩; have HB8 := Lib.hid (HB4.out.step n9 k9); clear n9 k9)
                  | (go_at_call 20; refine (HB8.out.wn.key N0 CF.kDescs N5 (by have := HL4.out; have := HL5.out; have := HL6.out; omega) (by have h1 := HLB.out; have h2 := HL4.out; have h3 := HL5.out; have h4 := HL6.out; have h5 := HMM.out; omega)).mono ?_; rintro e w9 ⟨rfl, n9, k9⟩; have HB9 := Lib.hid (HB8.out.step n9 k9); clear n9 k9))
                go_roundg g
                case rel => exact ⟨i + 1, m1, _, _, by omega, by first | rfl | (simp; done), Lib.hid HB9.out.wn, Lib.hid HB9.out.cf, Lib.hid HB9.out.kw, HLP2, HF3, HLL3⟩
                case measure => omega
end Go.Proofs.YtgfhabofhefaaaaGreatDoor
