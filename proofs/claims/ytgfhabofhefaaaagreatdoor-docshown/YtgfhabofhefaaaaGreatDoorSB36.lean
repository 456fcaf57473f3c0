/- A part of the proof. -/
import Derived.Test.YtgfhabofhefaaaaGreatDoorSB19
import Derived.Test.YtgfhabofhefaaaaGreatDoorSB03
import Derived.BigQuiet
import Derived.Deep.RegionHeld3
import Derived.Test.YtgfhabofhefaaaaGreatDoorSB35
namespace Go.Proofs.YtgfhabofhefaaaaGreatDoor
open Go.RowKit
set_option maxRecDepth 10000 in
set_option maxHeartbeats 16000000 in
theorem rcheck_any (v : Value) (ns : List SH.Ni) (w : World) (hr : Rdi w v ns) (hl : Lens ns) :
    Calls Tryz.prog 24 #[.agg #[v]] w fun e w' => e = .returned (.bool (SH.chkb ns)) ∧ Below w.heap.size w w' := by
  obtain ⟨ao, cap, rfl, hlm⟩ := hr.slice
  unfold maxLen at hlm
  obtain ⟨K, HK⟩ : ∃ K, Hid (K = SH.chkb ns) := ⟨_, Lib.hid rfl⟩
  rw [← HK.out]
  have B1 := below_trans (below_alloc w (.cells #[.slice ao ns.length cap] 26)) (below_drew _)
  have HB := Lib.hid B1
  have HB0 := Lib.hid (below_alloc w (.cells #[.slice ao ns.length cap] 26))
  have HS := Lib.hid ((Str.new w 26 #[.slice ao ns.length cap]).below (below_drew _))
  have HC := Lib.hid (rwalk_all 25 _ ns 0 1 _ (hr.below B1) hl rfl (Nat.zero_le _))
  obtain ⟨L, hL⟩ : ∃ L, ns.length = L := ⟨_, rfl⟩
  have HL := Lib.hid hL
  rw [hL] at hlm HC HS HB HB0 ⊢
  have e0 : (w.alloc (.cells #[.slice ao L cap] 26)).drew.cell? ⟨w.heap.size, 0, none⟩ = some (.slice ao L cap) := HS.out.cell 0
  have e00 : (w.alloc (.cells #[.slice ao L cap] 26)).cell? ⟨w.heap.size, 0, none⟩ = some (.slice ao L cap) := e0
  have hL9 : (L : Int) ≤ 9223372036854775807 := by omega
  clear hr hl hL B1
  by_cases h1 : 1 ≤ L
  · have h1i : (1 : Int) ≤ (L : Int) := by omega
    by_cases h2 : L ≤ 2000
    · have h2i : (L : Int) ≤ 2000 := by omega
      have d1 : decide ((1 : Int) ≤ (L : Int)) = true := decide_eq_true h1i
      have d2 : decide ((L : Int) ≤ 2000) = true := decide_eq_true h2i
      have d3 : decide (1 ≤ L) = true := decide_eq_true h1
      have d4 : decide (L ≤ 2000) = true := decide_eq_true h2
      obtain ⟨O, hO⟩ : ∃ O, SH.wk ns 25 0 1 = O := ⟨_, rfl⟩
      have HO := Lib.hid hO
      rw [hO] at HC
      obtain ⟨Z, hZ⟩ : ∃ Z, wv O = Z := ⟨_, rfl⟩
      have HZ := Lib.hid hZ
      rw [hZ] at HC
      have HE : Hid (K = (Z == (L : Int))) := by
        show K = _
        rw [HK.out, ← hZ]
        cases O with
        | none =>
          rw [show SH.chkb ns = false from decide_eq_false (fun h => by have := h.2.2; rw [hO] at this; cases this)]
          show false = ((-1 : Int) == (L : Int))
          symm; simp
        | some m =>
          by_cases hm : m = L
          · rw [show SH.chkb ns = true from decide_eq_true ⟨by have := HL.out; omega, by have := HL.out; omega, by rw [hO, HL.out, hm]⟩, hm]
            show true = ((L : Int) == (L : Int))
            simp
          · rw [show SH.chkb ns = false from decide_eq_false (fun h => by have := h.2.2; rw [hO, HL.out] at this; exact hm (Option.some.inj this))]
            show false = ((m : Int) == (L : Int))
            symm; simp; omega
      clear hO hZ
      go_enter Tryz.func24, Tryz.ntmps24
      go_wp2
      go_region_held3 (fun x => x.cell? ⟨w.heap.size, 0, none⟩ = some (.slice ao L cap)) (first | exact e0 | exact f0) (first
        | (go_at_call 46; refine HC.out.mono ?_; rintro e w4 ⟨rfl, b4⟩; have f0 : w4.cell? ⟨w.heap.size, 0, none⟩ = some (.slice ao L cap) := (HS.out.below b4).cell 0; have B4 := Lib.hid (below_trans HB.out b4); clear b4))
      all_goals
        go_wp2
        go_ret
        exact ⟨by rw [HE.out]; rfl, B4.out⟩
    · have h2i : ¬ (L : Int) ≤ 2000 := by omega
      have d1 : decide ((1 : Int) ≤ (L : Int)) = true := decide_eq_true h1i
      have d2 : decide ((L : Int) ≤ 2000) = false := decide_eq_false h2i
      have d3 : decide (1 ≤ L) = true := decide_eq_true h1
      have d4 : decide (L ≤ 2000) = false := decide_eq_false h2
      have E : K = false := by
        rw [HK.out]
        exact decide_eq_false (fun h => h2 (by have := h.2.1; have := HL.out; omega))
      subst E
      clear h1 h1i h2 h2i
      go_enter Tryz.func24, Tryz.ntmps24
      go_wp2
      go_quiet (fail)
      go_wp2
      go_ret
      exact ⟨rfl, below_trans HB0.out (below_drewN _ _)⟩
  · obtain rfl : L = 0 := by omega
    have E : K = false := by
      rw [HK.out]
      exact decide_eq_false (fun h => by have := h.1; have := HL.out; omega)
    subst E
    clear h1
    go_enter Tryz.func24, Tryz.ntmps24
    go_wp2
    go_quiet (fail)
    go_wp2
    go_ret
    exact ⟨rfl, below_trans HB0.out (below_drewN _ _)⟩
end Go.Proofs.YtgfhabofhefaaaaGreatDoor
namespace Go.Proofs.YtgfhabofhefaaaaGreatDoor
open Go.RowKit
theorem dl_inv {c : CF.Cf} {seen : List CF.Do} {d : CF.Do} {r : List CF.Do} {n m : Nat} (h : CF.dl c seen (d :: r) n = some m) :
    ∃ m1, CF.kf c 8 d.kids n seen.length (-1) = some m1 ∧ CF.dl c (seen ++ [d]) r m1 = some m := by
  rw [CF.dl] at h
  split at h
  · cases h
  split at h
  · cases h
  rename_i m1 hm
  exact ⟨m1, hm, h⟩
theorem doc_size2 : (Tryz.prog.info? 26).map (·.size) = some 1 := by kernel_rfl
theorem cfdoc_ret {tmps : Array Value} {w : World} {p : Nat} {x z : Value} (hp : tmps.getD 2 undef = .pointer (some ⟨p, 0, none⟩)) (hq : tmps.getD 3 undef = z) (h1 : Str w p 26 #[x]) :
    (results Tryz.f6 tmps).run Tryz.prog w = .ok (.tuple #[.agg #[x], z]) w := by
  have hs1 : w.heap[p]? = some (.cells #[x] 26 (0, 0)) := h1
  have l1 := run_loadVar_row (P := Tryz.prog) w p 26 26 #[x] (0, 0) _ hs1 Tryz.underlying26 rfl doc_size2
  have hp' : (asAddr (tmps.getD 2 undef)).run Tryz.prog w = .ok ⟨p, 0, none⟩ w := by rw [hp]; simp [asAddr]
  simp only [Array.getD_eq_getD_getElem?] at hp' hq
  simp only [results, Tryz.results6]
  simp [Sem.run_bind, Result.andThen, hp', hq, l1]
theorem Wrt.rdi {w0 w : World} {p T : Nat} {nv : Value} {vs : List Nv} (h : Wrt w0 w p nv T vs) : Rdi w nv (vs.map (fun a : Nv => SH.up a.1)) := by
  have hd : Rdoc w nv (vs.map (·.1)) := ⟨vs, rfl, h.nd.rd, fun a ha => by
    obtain ⟨i, hi, rfl⟩ := List.getElem_of_mem ha
    exact ⟨(h.nk.keys i _ (List.getElem?_eq_getElem hi)).rd, (h.nk.kids i _ (List.getElem?_eq_getElem hi)).rd⟩⟩
  have := hd.rdi
  rwa [List.map_map] at this
theorem str_one {w : World} {p : Nat} {T : TypeId} {x : Value} (h : Str w p T #[x]) (u : Value) : Str (w.setCell ⟨p, 0, none⟩ u) p T #[u] := by
  have := h.set 0 u
  simpa using this
theorem rdi_res {w0 w : World} {p T R : Nat} {nv : Value} {vs : List Nv} {cs : Array Value} (h : Wrt w0 w p nv T vs) (hs : Str w R 26 cs) (u : Value) : Rdi (w.setCell ⟨R, 0, none⟩ u) nv (vs.map (fun a : Nv => SH.up a.1)) := by
  have kb := Kb.set w R 0 u none
  have n2 := h.nd.kb kb (h.nd.off hs (.inl (by decide))) no_or
  have k2 := h.nk.kb kb (Far.str hs (by decide) (by decide)) (Far.none _ _)
  have hd : Rdoc (w.setCell ⟨R, 0, none⟩ u) nv (vs.map (·.1)) := ⟨vs, rfl, n2.rd, fun a ha => by
    obtain ⟨i, hi, rfl⟩ := List.getElem_of_mem ha
    exact ⟨(k2.keys i _ (List.getElem?_eq_getElem hi)).rd, (k2.kids i _ (List.getElem?_eq_getElem hi)).rd⟩⟩
  have := hd.rdi
  rwa [List.map_map] at this
theorem Wn.new (w : World) : Wn 0 w (w.alloc (.cells #[.slice none 0 0] 52)) w.heap.size [] :=
  ⟨0, Nat.le_refl _, .slice none 0 0, [], rfl, below_alloc _ _, Nat.le_refl _, Str.new _ _ _, Ownv.nil _ _, Wnk.nil _ _, by simp⟩
def CdE (w : World) (c : CF.Cf) (e : Ending) (w' : World) : Prop := Below w.heap.size w w' ∧ ∃ v, e = .returned (.tuple #[.agg #[v], .int .i64 (if CF.chk c = true ∧ SH.chkb (CF.doc c) = true then 0 else 1)]) ∧ Rdi w' v (if CF.chk c = true ∧ SH.chkb (CF.doc c) = true then CF.doc c else [])
theorem Rdi.none0 (w : World) : Rdi w (.slice none 0 0) [] := ⟨[], none, 0, rfl, rfl, by simp, by simp [maxLen], fun _ => rfl, by simp, by simp⟩
structure Dw (z : Nat) (w0 w : World) (p P R : Nat) (cv dv : Array Value) (ns : List SH.Ni) : Prop where
  wn : Wn z w0 w p ns
  cf : Str w P 33 cv
  rs : Str w R 26 dv
theorem Dw.step {z z' : Nat} {w0 w w' : World} {p P R : Nat} {cv dv : Array Value} {ns ns' : List SH.Ni} (h : Dw z w0 w p P R cv dv ns) (hw : Wn z' w0 w' p ns') (hk : Kw w w') : Dw z' w0 w' p P R cv dv ns' :=
  ⟨hw, hk.str h.cf (by decide) (by decide) (by decide) (by decide), hk.str h.rs (by decide) (by decide) (by decide) (by decide)⟩
theorem Dw.calm {z : Nat} {w0 w w' : World} {p P R : Nat} {cv dv : Array Value} {ns : List SH.Ni} (h : Dw z w0 w p P R cv dv ns) (hb : Below w.heap.size w w') : Dw z w0 w' p P R cv dv ns :=
  ⟨h.wn.calm hb, h.cf.below hb, h.rs.below hb⟩
theorem below_res {w w1 : World} {R : Nat} (hb : Below w.heap.size w w1) (hR : w.heap.size ≤ R) (v : Value) : Below w.heap.size w (w1.setCell ⟨R, 0, none⟩ v) :=
  hb.trans ((Kb.set w1 R 0 v none).below hb.size (fun g hg => by have := Option.some.inj hg; omega) (by simp))
set_option maxRecDepth 10000 in
set_option maxHeartbeats 64000000 in
theorem cfdoc_any (c : CF.Cf) (vd vb : Value) (w : World) (hd : RdD w vd c.doms) (hb : RdB w vb c.brs) (hc : CfOk c) :
    Calls Tryz.prog 6 #[.agg #[vd, vb]] w (CdE w c) := by
  obtain ⟨ao, ca, rfl, hma⟩ := hd.slice
  obtain ⟨bo, cb, rfl, -⟩ := hb.slice
  have HC := Lib.hid hc
  obtain ⟨N, hN⟩ : ∃ L, c.doms.length = L := ⟨_, rfl⟩
  obtain ⟨L, hL⟩ : ∃ L, c.brs.length = L := ⟨_, rfl⟩
  have HNL := Lib.hid hN
  have HL := Lib.hid hL
  rw [hN] at hd ⊢
  rw [hL] at hb ⊢
  have HD := Lib.hid hd
  have HBR := Lib.hid hb
  have B1 := below_alloc w (.cells #[.slice ao N ca, .slice bo L cb] 33)
  have B2 := below_trans B1 (below_alloc (w.alloc (.cells #[.slice ao N ca, .slice bo L cb] 33)) (.cells #[.slice none 0 0] 26))
  have s1 := (Str.new w 33 #[.slice ao N ca, .slice bo L cb]).below (below_alloc (w.alloc (.cells #[.slice ao N ca, .slice bo L cb] 33)) (.cells #[.slice none 0 0] 26))
  have s2 := Str.new (w.alloc (.cells #[.slice ao N ca, .slice bo L cb] 33)) 26 #[.slice none 0 0]
  rw [bx_size] at s2
  have HB2 := Lib.hid B2
  have HS1 := Lib.hid s1
  have HS2 := Lib.hid s2
  have HCK := Lib.hid (cfcheck_any c _ _ _ (by rw [hN] at *; exact hd.below B2) (hb.below B2) hc)
  obtain ⟨ck, hck⟩ : ∃ k, CF.chk c = k := ⟨_, rfl⟩
  rw [hck] at HCK
  have HKK := Lib.hid hck
  have g0 := s1.cell 0
  have g1 := s1.cell 1
  have r0 := s2.cell 0
  simp only [List.getElem?_toArray, List.getElem?_cons_zero, List.getElem?_cons_succ] at g0 g1 r0
  clear hd hb hc hN hL B1 B2 s1 s2 hck hma
  cases ck with
  | false =>
    have HE : Hid (∀ w', Below w.heap.size w w' → CdE w c (.returned (.tuple #[.agg #[.slice none 0 0], .int .i64 1])) w') := fun w' h => by
      refine ⟨h, .slice none 0 0, ?_, ?_⟩
      · rw [if_neg (fun h => by rw [HKK.out] at h; cases h.1)]
      · rw [if_neg (fun h => by rw [HKK.out] at h; cases h.1)]; exact Rdi.none0 _
    go_enter Tryz.func6, Tryz.ntmps6
    go_wp2_with (go_at_call 18; refine HCK.out.mono ?_; rintro e w1 ⟨rfl, b1⟩; have q0 := (b1.cell (cell_lt r0)).trans r0; have f0 := (HS2.out.below b1).frozen 0; have HB3 := Lib.hid (below_res (below_trans HB2.out b1) (Nat.le_succ _) (.slice none 0 0)); have HS3 := Lib.hid (str_one (HS2.out.below b1) (.slice none 0 0)); clear b1)
    refine bodyPost_ret (cfdoc_ret rfl rfl HS3.out) rfl ?_
    exact HE.out _ HB3.out
  | true =>
    have HCH := Lib.hid (of_decide_eq_true HKK.out)
    obtain ⟨FIN, HFIN⟩ : ∃ F, Hid (F = CF.doc c) := ⟨_, Lib.hid rfl⟩
    have HLT := Lib.hid (CF.doc_lt HKK.out)
    go_enter Tryz.func6, Tryz.ntmps6
    go_upto_region 3 with (go_at_call 18; refine HCK.out.mono ?_; rintro e w1 ⟨rfl, b1⟩)
    have HB1 := Lib.hid (below_trans HB2.out b1)
    have HD1 := Lib.hid (HD.out.below HB1.out)
    have HBR1 := Lib.hid (HBR.out.below HB1.out)
    have HX : Hid (Dw 0 w1 (w1.alloc (.cells #[.slice none 0 0] 52)) w1.heap.size w.heap.size (w.heap.size + 1) #[.slice ao N ca, .slice bo L cb] #[.slice none 0 0] []) :=
      Lib.hid ⟨Wn.new w1, (HS1.out.below b1).below (below_alloc _ _), (HS2.out.below b1).below (below_alloc _ _)⟩
    obtain ⟨p, hp⟩ : ∃ p, w1.heap.size = p := ⟨_, rfl⟩
    rw [hp] at HX
    clear b1 g0 g1 r0 HS1 HS2 HCK
    go_upto_region 4 with fail
    generalize w1.alloc (.cells #[.slice none 0 0] 52) = w2 at *
    clear hp
    have HO1 := Lib.hid (HX.out.wn.open 3 (by simp))
    rw [show ((([] : List SH.Ni).length : Nat) : Int) = 0 from rfl] at HO1
    have HN0 : Hid (FIN = CF.dms c (c.doms.drop 0) (CF.addK 0 CF.kDomains 1 (CF.opn 2 (CF.opn 3 [])))) := by show FIN = _; rw [HFIN.out, List.drop_zero]; rfl
    have HDL0 : Hid (CF.dl c (c.doms.take 0) (c.doms.drop 0) 0 = some L) := by show _ = _; rw [List.take_zero, List.drop_zero, ← HL.out]; exact HCH.out.2.2.2
    have HLL0 : Hid (1 < (CF.addK 0 CF.kDomains 1 (CF.opn 2 (CF.opn 3 []))).length ∧ (CF.addK 0 CF.kDomains 1 (CF.opn 2 (CF.opn 3 []))).length + 3 * (N - 0) + 10 * (L - 0) ≤ 18000) := by
      show _ ∧ _
      rw [len_addK, len_opn, len_opn]
      have h1 := HCH.out; have h2 := HNL.out; have h3 := HL.out
      simp only [List.length_nil]
      omega
    go_upto_region 7 with (first
      | (go_at_call 20; refine (H4.out).mono ?_; rintro e w5 ⟨rfl, n9, k9⟩; have HX5 := Lib.hid (HX4.out.step n9 k9); clear n9 k9)
      | (go_at_call 19; refine (H3.out).mono ?_; rintro e w4 ⟨rfl, n9, k9⟩; have HX4 := Lib.hid (HX3.out.step n9 k9); have H4 := Lib.hid (HX4.out.wn.key 0 CF.kDomains 1 (by rw [len_opn, len_opn]; omega) (by rw [len_opn, len_opn]; simp)); rw [show ((0 : Nat) : Int) = 0 from rfl, show ((1 : Nat) : Int) = 1 from rfl] at H4; clear n9 k9)
      | (go_at_call 19; refine (HO1.out).mono ?_; rintro e w3 ⟨rfl, n9, k9⟩; have HX3 := Lib.hid (HX.out.step n9 k9); have H3 := Lib.hid (HX3.out.wn.open 2 (by rw [len_opn]; simp)); rw [show (((CF.opn 3 ([] : List SH.Ni)).length : Nat) : Int) = 1 from rfl] at H3; clear n9 k9))
    go_wp2
    go_loopg [7] N (fun g s7 wx => ∃ (i nx : Nat) (ns : List SH.Ni), i + g = N ∧ s7 = .int .i64 (i : Int) ∧ Hid (Dw 1 w1 wx p w.heap.size (w.heap.size + 1) #[.slice ao N ca, .slice bo L cb] #[.slice none 0 0] ns) ∧ Hid (CF.dl c (c.doms.take i) (c.doms.drop i) nx = some L) ∧ Hid (FIN = CF.dms c (c.doms.drop i) ns) ∧ Hid (1 < ns.length ∧ ns.length + 3 * (N - i) + 10 * (L - nx) ≤ 18000))
    case atStart => exact ⟨0, 0, _, by omega, rfl, HX5, HDL0, HN0, HLL0⟩
    case round =>
      clear HX5 HX4 HX3 HX H3 H4 HO1 HDL0 HN0 HLL0
      obtain ⟨i, nx, ns, hi, rfl, HX, HDL, HF, HLL⟩ := hrel
      have g0 : wr.cell? ⟨w.heap.size, 0, none⟩ = some (.slice ao N ca) := HX.out.cf.cell 0
      cases gk with
      | zero =>
        obtain rfl : i = N := by omega
        have E : ns = CF.doc c := by rw [← HFIN.out, HF.out, List.drop_eq_nil_of_le (by have := HNL.out; omega), CF.dms]
        obtain ⟨T, -, nv, vs, hvs, hst⟩ := HX.out.wn
        obtain ⟨an, cn, rfl⟩ := hst.len
        have c0 : wr.cell? ⟨p, 0, none⟩ = some (.slice an vs.length cn) := hst.st.cell 0
        have hrd := hst.rdi
        rw [hvs, E] at hrd
        have BX := below_alloc wr (.cells #[.slice an vs.length cn] 26)
        have HST := Lib.hid (hst.calm BX)
        have HVS := Lib.hid (hvs.trans E)
        have HCK := Lib.hid (rcheck_any _ _ _ (hrd.below BX) (fun x hx => ⟨by have := (HLT.out.2 x hx).1; omega, fun k hk => by have := (HLT.out.2 x hx).2 k hk; omega⟩))
        have HSX := Lib.hid (HX.out.rs.below BX)
        have HBW := Lib.hid (below_trans (below_trans HB1.out HX.out.wn.bl) BX)
        obtain ⟨kb, hkb⟩ : ∃ k, SH.chkb (CF.doc c) = k := ⟨_, rfl⟩
        rw [hkb] at HCK
        have HKB := Lib.hid hkb
        obtain ⟨V, hV⟩ : ∃ V, vs.length = V := ⟨_, rfl⟩
        rw [hV] at c0 HST HCK HSX HBW
        clear hvs hst hrd BX E hkb hV HX HDL HF HLL
        have d0 : (wr.alloc (.cells #[.slice an V cn] 26)).cell? ⟨wr.heap.size, 0, none⟩ = some (.slice an V cn) := (Str.new wr 26 #[.slice an V cn]).cell 0
        go_upto_region 17 with fail
        generalize hw6 : wr.alloc (.cells #[.slice an V cn] 26) = w6 at *
        cases kb with
        | true =>
          go_wp2_with (go_at_call 24; refine HCK.out.mono ?_; rintro e w7 ⟨rfl, b7⟩; have d7 := (b7.cell (cell_lt d0)).trans d0; have q0 : w7.cell? ⟨w.heap.size + 1, 0, none⟩ = some (.slice none 0 0) := (HSX.out.below b7).cell 0; have f0 := (HSX.out.below b7).frozen 0; have HB3 := Lib.hid (below_res (below_trans HBW.out b7) (Nat.le_succ _) (.slice an V cn)); have HS3 := Lib.hid (str_one (HSX.out.below b7) (.slice an V cn)); have HR7 := Lib.hid (rdi_res (HST.out.calm b7) (HSX.out.below b7) (.slice an V cn)); rw [HVS.out] at HR7; clear b7)
          refine bodyPost_ret (cfdoc_ret rfl rfl HS3.out) rfl ?_
          refine ⟨HB3.out, .slice an V cn, ?_, ?_⟩
          · rw [if_pos ⟨HKK.out, HKB.out⟩]; rfl
          · rw [if_pos ⟨HKK.out, HKB.out⟩]
            exact HR7.out
        | false =>
          go_wp2_with (go_at_call 24; refine HCK.out.mono ?_; rintro e w7 ⟨rfl, b7⟩; have d7 := (b7.cell (cell_lt d0)).trans d0; have q0 : w7.cell? ⟨w.heap.size + 1, 0, none⟩ = some (.slice none 0 0) := (HSX.out.below b7).cell 0; have f0 := (HSX.out.below b7).frozen 0; have HB3 := Lib.hid (below_res (below_trans HBW.out b7) (Nat.le_succ _) (.slice none 0 0)); have HS3 := Lib.hid (str_one (HSX.out.below b7) (.slice none 0 0)); clear b7)
          refine bodyPost_ret (cfdoc_ret rfl rfl HS3.out) rfl ?_
          refine ⟨HB3.out, .slice none 0 0, ?_, ?_⟩
          · rw [if_neg (fun h => by rw [HKB.out] at h; cases h.2)]; rfl
          · rw [if_neg (fun h => by rw [HKB.out] at h; cases h.2)]; exact Rdi.none0 _
      | succ g =>
        have hin : (i : Int) < (N : Int) := by omega
        have hNi : (N : Int) ≤ 16 := by have h1 := HCH.out; have h2 := HNL.out; omega
        have hi0 : (0 : Int) ≤ (i : Int) := by omega
        obtain ⟨x, hx⟩ : ∃ x, c.doms[i]? = some x := ⟨c.doms[i]'(by have := HNL.out; omega), List.getElem?_eq_getElem _⟩
        obtain ⟨bq, off, cap2, ia, ic, hv, x0, x1, rk⟩ := HD1.out.at hx
        simp only [Value.slice.injEq] at hv
        obtain ⟨rfl, -, -⟩ := hv
        have hdr : c.doms.drop i = x :: c.doms.drop (i + 1) := by
          have h9 := List.getElem?_eq_some_iff.1 hx
          rw [List.drop_eq_getElem_cons h9.1, h9.2]
        have htk : c.doms.take (i + 1) = c.doms.take i ++ [x] := by rw [List.take_add_one, hx]; rfl
        have htl : (c.doms.take i).length = i := by rw [List.length_take]; have := HNL.out; omega
        have hdl := HDL.out
        rw [hdr] at hdl
        obtain ⟨m1, hkf, hdl⟩ := dl_inv hdl
        rw [htl] at hkf
        rw [← htk] at hdl
        have hF := HF.out
        rw [hdr, CF.dms] at hF
        have HDL2 := Lib.hid hdl
        have HF2 := Lib.hid hF
        have HKF := Lib.hid hkf
        have HM1 := Lib.hid (CF.gr_dms CF.cl_true (CF.hb_true c) _ _ _ _ ns (fun _ _ _ => trivial) hdl).1
        have HGR := Lib.hid (fun (a : List SH.Ni) => CF.gr_brw CF.cl_true (CF.hb_true c) 8 x.kids nx i (-1) m1 a hkf)
        obtain ⟨N0, hN0⟩ : ∃ N, ns.length = N := ⟨_, rfl⟩
        have HN0 := Lib.hid hN0
        have HLB : Hid (1 < N0 ∧ N0 + 3 * (N - i) + 10 * (L - nx) ≤ 18000 ∧ nx ≤ m1 ∧ i + 1 ≤ N) := by
          show _ ∧ _
          have h1 := HLL.out; have h2 := (HGR.out ns).1; rw [hN0] at h1; omega
        have HRK := Lib.hid rk
        obtain ⟨BN, hBN⟩ : ∃ BN, x.kids.length = BN := ⟨_, rfl⟩
        have HBN := Lib.hid hBN
        rw [hBN] at HRK x1
        obtain ⟨xn, hxn⟩ : ∃ xn, x.name = xn := ⟨_, rfl⟩
        rw [hxn] at x0
        rw [hN0, hxn] at hF
        have HF3 := Lib.hid hF
        have HX0 := Lib.hid x0
        have HX1 := Lib.hid x1
        have HOP := Lib.hid (HX.out.wn.open 3 (by have := HLB.out; omega))
        rw [hN0] at HOP
        clear hx hdr htk htl hkf hdl hF rk hBN hxn x0 x1 HDL HF HLL hN0 HF2
        go_upto_if 54 with (first
          | (go_at_call 22; refine (HX4.out.wn.put N0 CF.kDomain xn true (by rw [len_addI, len_opn, HN0.out]; omega) (by rw [len_addI, len_opn, HN0.out]; have := HLB.out; omega)).mono ?_; rintro e w5 ⟨rfl, n9, k9⟩; have HX5 := Lib.hid (HX4.out.step n9 k9); have g5 : w5.cell? ⟨w.heap.size, 0, none⟩ = some (.slice (some ⟨bq, off, none⟩) N ca) := HX5.out.cf.cell 0; have y1 := (HX5.out.wn.bl.cell (cell_lt HX1.out)).trans HX1.out; clear n9 k9)
          | (go_at_call 21; refine (HX3.out.wn.item 1 N0 (by rw [len_opn, HN0.out]; have := HLB.out; omega) (by rw [len_opn, HN0.out]; have := HLB.out; omega)).mono ?_; rintro e w4 ⟨rfl, n9, k9⟩; have HX4 := Lib.hid (HX3.out.step n9 k9); have g4 : w4.cell? ⟨w.heap.size, 0, none⟩ = some (.slice (some ⟨bq, off, none⟩) N ca) := HX4.out.cf.cell 0; have y0 := (HX4.out.wn.bl.cell (cell_lt HX0.out)).trans HX0.out; clear n9 k9)
          | (go_at_call 19; refine HOP.out.mono ?_; rintro e w3 ⟨rfl, n9, k9⟩; have HX3 := Lib.hid (HX.out.step n9 k9); clear n9 k9))
        obtain ⟨n3, hn3⟩ : ∃ n3, CF.put N0 CF.kDomain xn true (CF.addI 1 N0 (CF.opn 3 ns)) = n3 := ⟨_, rfl⟩
        have HL3 : Hid (n3.length = N0 + 2) := by show _ = _; rw [← hn3, len_put, len_addI, len_opn, HN0.out]
        rw [hn3] at HX5 HF3
        clear hn3 HX HX3 HX4 HOP g0 g4 y0
        by_cases hbn : BN = 0
        · have hbi : x.kids = [] := List.length_eq_zero_iff.1 (HBN.out.trans hbn)
          have HF4 : Hid (FIN = CF.dms c (c.doms.drop (i + 1)) n3) := by
            show FIN = _
            rw [HF3.out]
            unfold CF.under
            rw [if_pos hbi]
          have hle : m1 = nx := (HGR.out ns).2.2 hbi
          have HLL3 : Hid (1 < n3.length ∧ n3.length + 3 * (N - (i + 1)) + 10 * (L - m1) ≤ 18000) := by
            show _ ∧ _
            have h1 := HLB.out; have h2 := HL3.out; have h3 := HM1.out; omega
          clear hbi hle
          subst hbn
          go_wp2
          go_roundg g
          case rel => exact ⟨i + 1, m1, n3, by omega, by first | rfl | (simp; done), HX5, HDL2, HF4, HLL3⟩
          case measure => omega
        · have hbi : x.kids ≠ [] := fun h => hbn (by rw [← HBN.out, h]; rfl)
          have hbp : (0 : Int) < (BN : Int) := by omega
          have hg2 := (HGR.out n3).2.1 hbi
          have HRC := Lib.hid (wbranches_all 8 c (.slice (some ⟨bq, off, none⟩) N ca) (.slice bo L cb) (.slice ia BN ic) x.kids nx m1 1 (i : Int) (-1) w1 w5.drew p n3 HD1.out HBR1.out HRK.out HC.out hbi HKF.out (HX5.out.wn.calm (below_drew _)) (by have h1 := HLB.out; have h2 := HL3.out; have h3 := HM1.out; omega))
          rw [HL3.out] at HRC
          have e1 : w5.cell? ⟨w.heap.size, 1, none⟩ = some (.slice bo L cb) := HX5.out.cf.cell 1
          obtain ⟨n6, hn6⟩ : ∃ n6, CF.brw c 8 x.kids n3 = n6 := ⟨_, rfl⟩
          rw [hn6] at HRC hg2
          have HL6 : Hid (N0 + 2 ≤ n6.length ∧ n6.length ≤ N0 + 3 + 10 * (m1 - nx)) := by
            show _ ∧ _
            have h1 := hg2.1; have h2 := HL3.out
            exact ⟨by rw [← h2, ← hn6]; exact brw_ge c 8 x.kids n3, by omega⟩
          have HF4 : Hid (FIN = CF.dms c (c.doms.drop (i + 1)) (CF.addK N0 CF.kDescs (N0 + 2) n6)) := by
            show FIN = _
            rw [HF3.out]
            unfold CF.under
            rw [if_neg hbi, HL3.out, hn6]
          have HLL3 : Hid (1 < (CF.addK N0 CF.kDescs (N0 + 2) n6).length ∧ (CF.addK N0 CF.kDescs (N0 + 2) n6).length + 3 * (N - (i + 1)) + 10 * (L - m1) ≤ 18000) := by
            show _ ∧ _
            rw [len_addK]
            have h1 := HLB.out; have h2 := HL6.out; have h3 := HM1.out; omega
          clear hbn hbi hg2 hn6
          go_upto_region 14 with fail
          go_region_with (go_at_call 23; refine HRC.out.mono ?_; rintro e w6 ⟨rfl, n9, k9⟩; have HX6 := Lib.hid ((HX5.out.calm (below_drew _)).step n9 k9); clear n9 k9)
          all_goals
            go_wp2_with (go_at_call 20; refine (HX6.out.wn.key N0 CF.kDescs (N0 + 2) (by have := HL6.out; omega) (by have h1 := HLB.out; have h2 := HL6.out; have h3 := HM1.out; omega)).mono ?_; rintro e w7 ⟨rfl, n9, k9⟩; have HX7 := Lib.hid (HX6.out.step n9 k9); clear n9 k9)
            go_roundg g
            case rel => exact ⟨i + 1, m1, _, by omega, by first | rfl | (simp; done), HX7, HDL2, HF4, HLL3⟩
            case measure => omega
end Go.Proofs.YtgfhabofhefaaaaGreatDoor
