/- Several texts in one. -/
import Derived.Test.YtmgalfdiiegjjaaGreatDoorDcTO
import Derived.Test.YtmgalfdiiegjjaaGreatDoorLnU
import Derived.Test.YtmgalfdiiegjjaaGreatDoorSeg42
import Derived.Test.YtmgalfdiiegjjaaGreatDoorSeg00
import Derived.ProofKit
import Derived.OpenShut
import Derived.ChangeOld
import Derived.SizedLaws
namespace Go.Proofs.YtmgalfdiiegjjaaGreatDoor
open Go.RowKit

namespace LX
theorem all_len : ∀ ls : List Lz, (all ls).1.2.length ≤ wt ls
  | [] => Nat.zero_le _
  | l :: ls => by
    rw [all]
    split
    · simp only
      split
      · rw [List.length_append, wt_cons]
        have := row_len l
        have := all_len ls
        omega
      · exact Nat.zero_le _
    · exact Nat.zero_le _
end LX
theorem rparse_ret {tmps : Array Value} {w : World} {p q : Nat} {x y z : Value} (hp : tmps.getD 2 undef = .pointer (some ⟨p, 0, none⟩)) (hq : tmps.getD 3 undef = .pointer (some ⟨q, 0, none⟩)) (h1 : Str w p 26 #[x]) (h2 : Str w q 39 #[y, z]) :
    (results Tryz.f17 tmps).run Tryz.prog w = .ok (.tuple #[.agg #[x], .agg #[y, z]]) w := by
  have hs' : w.heap[q]? = some (.cells #[y, z] 39 (0, 0)) := h2
  have hs1 : w.heap[p]? = some (.cells #[x] 26 (0, 0)) := h1
  have l2 := run_loadVar_row (P := Tryz.prog) w q 39 39 #[y, z] (0, 0) _ hs' Tryz.underlying39 rfl fault_size
  have l1 := run_loadVar_row (P := Tryz.prog) w p 26 26 #[x] (0, 0) _ hs1 Tryz.underlying26 rfl doc_size
  have hp' : (asAddr (tmps.getD 2 undef)).run Tryz.prog w = .ok ⟨p, 0, none⟩ w := by rw [hp]; simp [asAddr]
  have hq' : (asAddr (tmps.getD 3 undef)).run Tryz.prog w = .ok ⟨q, 0, none⟩ w := by rw [hq]; simp [asAddr]
  simp only [Array.getD_eq_getD_getElem?] at hp' hq'
  simp only [results, Tryz.results17]
  simp [Sem.run_bind, Result.andThen, hp', hq', l1, l2]
set_option maxRecDepth 10000 in
set_option maxHeartbeats 8000000 in
theorem rparse_any (v : Value) (bs : List UInt8) (w : World) (hr : Rdv w v (bv bs)) :
    Calls Tryz.prog 17 #[v] w (ParE w (DC.parse bs)) := by
  have HD0 := Lib.hid (pars_start w)
  have HLI := Lib.hid (rlines_any v bs _ (hr.below HD0.out.bl))
  obtain ⟨A, HA⟩ : ∃ A, Hid (A = DC.parse bs) := ⟨_, Lib.hid rfl⟩
  rw [show DC.parse bs = A from HA.out.symm]
  obtain ⟨K, hK⟩ : ∃ K, (LN.outF bs).1 = K := ⟨_, rfl⟩
  obtain ⟨L, hL⟩ : ∃ L, (LN.outF bs).2 = L := ⟨_, rfl⟩
  have HK := Lib.hid hK
  have HL := Lib.hid hL
  obtain ⟨ls, hls⟩ : ∃ ls, LN.outL bs = ls := ⟨_, rfl⟩
  have HLS := Lib.hid hls
  have HLO := Lib.hid (fun (u : World) (e : Ending) (w' : World) (h : LinE u bs e w') => (show ∃ x, e = .returned (.tuple #[x, .agg #[.int .i64 (K : Int), .int .i64 (L : Int)]]) ∧ Ownn w' u.heap.size x ls ∧ Below u.heap.size u w' by rw [← hK, ← hL, ← hls]; exact h))
  clear hr hK hL hls
  go_enter Tryz.func17, Tryz.ntmps17
  go_wp2_with fail
  refine HLI.out.mono ?_
  rintro e w1 he
  obtain ⟨x, rfl, ho, hb⟩ := HLO.out _ _ _ he
  clear he
  obtain ⟨q, hq⟩ : ∃ q, w1.heap.size = q := ⟨_, rfl⟩
  have BX := below_alloc w1 (.cells #[.int .i64 (K : Int), .int .i64 (L : Int)] 39)
  have HD1 := Lib.hid ((HD0.out.calm hb).calm BX)
  have HF1 : Hid (Str (w1.alloc (.cells #[.int .i64 (K : Int), .int .i64 (L : Int)] 39)) q 39 #[.int .i64 (K : Int), .int .i64 (L : Int)]) := by
    rw [← hq]; exact Lib.hid (Str.new w1 _ _)
  have HZ1 := Lib.hid ((ho.below BX).rdz)
  clear ho hb BX HLI HLO HD0
  by_cases hk : K = 0
  · have E0 := Lib.hid (show A = if (LX.all (ls.map DC.zl)).1.1 ≠ 0 then .bad (LX.all (ls.map DC.zl)).1.1 (LX.all (ls.map DC.zl)).2 else DC.doc (LX.all (ls.map DC.zl)).1.2 by rw [HA.out, DC.parse, if_neg (by rw [HK.out]; simpa using hk), HLS.out])
    have h0 : (K : Int) = 0 := by omega
    have hK0 : (LN.outF bs).1 = 0 := by rw [HK.out]; exact hk
    have HALL := Lib.hid (rall_any x (ls.map DC.zl) _ HZ1.out (by rw [← HLS.out]; exact DC.outL_text hK0) (by rw [← HLS.out]; exact Nat.le_trans (DC.outL_wt bs) (by have := DC.outF_small hK0; omega)))
    have HPL : Hid ((LX.all (ls.map DC.zl)).1.2.length ≤ 1000000) := by
      show _ ≤ _
      have h1 := LX.all_len (ls.map DC.zl)
      have h2 := DC.outL_wt bs
      rw [HLS.out] at h2
      have h3 := DC.outF_small hK0
      omega
    have HSH := Lib.hid (LX.all_short (ls.map DC.zl))
    obtain ⟨a, ha⟩ : ∃ a, (LX.all (ls.map DC.zl)).1.1 = a := ⟨_, rfl⟩
    obtain ⟨b, hb⟩ : ∃ b, (LX.all (ls.map DC.zl)).2 = b := ⟨_, rfl⟩
    obtain ⟨PP, hP⟩ : ∃ PP, (LX.all (ls.map DC.zl)).1.2 = PP := ⟨_, rfl⟩
    have HAO := Lib.hid (fun (u : World) (e : Ending) (w' : World) (h : AllE u (ls.map DC.zl) e w') => (show ∃ v3, e = .returned (.tuple #[v3, .agg #[.int .i64 a, .int .i64 b]]) ∧ Ownp w' u.heap.size v3 PP ∧ Below u.heap.size u w' by
      obtain ⟨h1, v3, h2, h3⟩ := h
      rw [ha, hb] at h2
      rw [hP] at h3
      exact ⟨v3, h2, h3, h1⟩))
    rw [ha, hb, hP] at E0
    rw [hP] at HSH
    rw [hP] at HPL
    clear ha hb hP hK0 hk HLS HK HL HA HZ1 HSH
    simp only [h0] at HD1 HF1 HALL ⊢
    clear h0
    have hzz : ((0 : Int) != 0) = false := rfl
    go_upto_region 2 with (rw [hq])
    generalize w1.alloc (.cells #[.int .i64 0, .int .i64 (L : Int)] 39) = w2 at *
    have r0 : w2.cell? ⟨q, 0, none⟩ = some (.int .i64 0) := HF1.out.cell 0
    go_upto_region 5 with (go_at_call 37; refine HALL.out.mono ?_; rintro e w3 he; obtain ⟨v3, rfl, ho3, hb3⟩ := HAO.out _ _ _ he; clear he)
    have BY := below_alloc w3 (.cells #[.int .i64 a, .int .i64 b] 39)
    have HD4 := Lib.hid ((HD1.out.calm hb3).calm BY)
    have HP4 := Lib.hid (ho3.below BY)
    obtain ⟨q3, hq3⟩ : ∃ q, w3.heap.size = q := ⟨_, rfl⟩
    have HF4 : Hid (Str (w3.alloc (.cells #[.int .i64 a, .int .i64 b] 39)) q3 39 #[.int .i64 a, .int .i64 b]) := by
      rw [← hq3]; exact Lib.hid (Str.new w3 _ _)
    rw [hq3]
    clear BY ho3 hb3 HD1 HF1 r0 HALL HAO
    generalize w3.alloc (.cells #[.int .i64 a, .int .i64 b] 39) = w4 at *
    clear hq3 hq
    have r0 : w4.cell? ⟨q3, 0, none⟩ = some (.int .i64 a) := HF4.out.cell 0
    have r1 : w4.cell? ⟨q3, 1, none⟩ = some (.int .i64 b) := HF4.out.cell 1
    by_cases ha : a = 0
    · subst ha
      have E := Lib.hid (show A = DC.doc PP by rw [E0.out, if_neg (by simp)])
      clear E0
      have HOF := Lib.hid (rof_any v3 PP w4 HP4.out.rd HPL.out)
      go_wp2_with fail
      refine HOF.out.mono ?_
      rintro e w5 ⟨hb5, v5, S5, rfl, hn5⟩
      have HD5 := Lib.hid (HD4.out.calm hb5)
      obtain ⟨a5, c5, rfl⟩ := hn5.slice
      obtain ⟨F, hFF⟩ : ∃ F, (DC.fault PP).1 = F := ⟨_, rfl⟩
      obtain ⟨G, hGG⟩ : ∃ G, (DC.fault PP).2 = G := ⟨_, rfl⟩
      have hz := HD5.out.laid (.slice a5 (DC.nodes PP).length c5) (.int .i64 F) (.int .i64 G)
      have d0 : w5.cell? ⟨w.heap.size, 0, none⟩ = some (.slice none 0 0) := HD5.out.b.cell 0
      have df := HD5.out.b.frozen 0
      have sc : Str (w5.setCell ⟨w.heap.size, 0, none⟩ (.slice a5 (DC.nodes PP).length c5)) (w.heap.size + 1) 39 #[.int .i64 0, .int .i64 0] := HD5.out.c.kb (Kb.set w5 w.heap.size 0 _ none) (by simp) (by simp)
      have c0 : (w5.setCell ⟨w.heap.size, 0, none⟩ (.slice a5 (DC.nodes PP).length c5)).cell? ⟨w.heap.size + 1, 0, none⟩ = some (.int .i64 0) := sc.cell 0
      have c1 : (w5.setCell ⟨w.heap.size, 0, none⟩ (.slice a5 (DC.nodes PP).length c5)).cell? ⟨w.heap.size + 1, 1, none⟩ = some (.int .i64 0) := sc.cell 1
      have cf0 := sc.frozen 0
      have cf1 := sc.frozen 1
      have HR5 := Lib.hid (hn5.kb hz.2 (Far.str HD5.out.b (by decide) (by decide)) (Far.str HD5.out.c (by decide) (by decide)) (hn5.off HD5.out.b (by decide)) (hn5.off HD5.out.c (by decide))).rd
      have HZ := Lib.hid hz.1
      have HFG := Lib.hid (And.intro hFF hGG)
      rw [hFF, hGG]
      obtain ⟨NL, hNL⟩ : ∃ NL, (DC.nodes PP).length = NL := ⟨_, rfl⟩
      rw [hNL] at HZ HR5 c0 c1 cf0 cf1 ⊢
      clear hb5 hn5 hz sc hFF hGG hNL
      go_wp2
      try rw [Exit.noGoto_ret]
      (try simp only [Exit.inBlock, Exit.then])
      refine bodyPost_ret (rparse_ret rfl rfl HZ.out.b HZ.out.c) rfl ?_
      rw [E.out]
      refine ⟨HZ.out.bl, _, ?_, HR5.out⟩
      obtain ⟨h1, h2⟩ := HFG.out
      rw [← h1, ← h2]
      unfold DC.fault DC.wrong
      cases DC.doc PP <;> rfl
    · have E := Lib.hid (show A = .bad a b by rw [E0.out, if_pos ha])
      have hab : (a != 0) = true := by simpa using ha
      clear E0
      have HQ := Lib.hid (HD4.out.laid (.slice none 0 0) (.int .i64 a) (.int .i64 b))
      have d0 : w4.cell? ⟨w.heap.size, 0, none⟩ = some (.slice none 0 0) := HD4.out.b.cell 0
      have df := HD4.out.b.frozen 0
      have c0 : w4.cell? ⟨w.heap.size + 1, 0, none⟩ = some (.int .i64 0) := HD4.out.c.cell 0
      have c1 : w4.cell? ⟨w.heap.size + 1, 1, none⟩ = some (.int .i64 0) := HD4.out.c.cell 1
      have cf0 := HD4.out.c.frozen 0
      have cf1 := HD4.out.c.frozen 1
      have kb := Kb.set w4 w.heap.size 0 (.slice none 0 0) none
      have hqd : q3 ≠ w.heap.size := HF4.out.apart_str HD4.out.b (by decide)
      have S1 := HF4.out.kb kb (fun e => hqd (Option.some.inj e)) (by simp)
      have S2 : Str (w4.setCell ⟨w.heap.size, 0, none⟩ (.slice none 0 0)) (w.heap.size + 1) 39 #[.int .i64 0, .int .i64 0] := HD4.out.c.kb kb (by simp) (by simp)
      have r0' : (w4.setCell ⟨w.heap.size, 0, none⟩ (.slice none 0 0)).cell? ⟨q3, 0, none⟩ = some (.int .i64 a) := S1.cell 0
      have r1' : (w4.setCell ⟨w.heap.size, 0, none⟩ (.slice none 0 0)).cell? ⟨q3, 1, none⟩ = some (.int .i64 b) := S1.cell 1
      have c0' : (w4.setCell ⟨w.heap.size, 0, none⟩ (.slice none 0 0)).cell? ⟨w.heap.size + 1, 0, none⟩ = some (.int .i64 0) := S2.cell 0
      have c1' : (w4.setCell ⟨w.heap.size, 0, none⟩ (.slice none 0 0)).cell? ⟨w.heap.size + 1, 1, none⟩ = some (.int .i64 0) := S2.cell 1
      have cf0' := S2.frozen 0
      have cf1' := S2.frozen 1
      clear kb S1 S2 hqd
      go_wp2
      go_region
      go_wp2
      try rw [Exit.noGoto_ret]
      (try simp only [Exit.inBlock, Exit.then])
      refine bodyPost_ret (rparse_ret rfl rfl (HQ.out.1.b.below (below_drew _)) (HQ.out.1.c.below (below_drew _))) rfl ?_
      rw [E.out]
      exact ⟨below_trans HQ.out.1.bl (below_drew _), _, rfl, Rdoc.nil _⟩
  · have E := Lib.hid (show A = .bad (K : Int) (L : Int) by rw [HA.out, DC.parse, if_pos (by rw [HK.out]; exact hk), HK.out, HL.out])
    have hkb : ((K : Int) != 0) = true := by simp; omega
    go_upto_region 2 with (rw [hq])
    generalize w1.alloc (.cells #[.int .i64 (K : Int), .int .i64 (L : Int)] 39) = w2 at *
    have HQ := Lib.hid (HD1.out.laid (.slice none 0 0) (.int .i64 (K : Int)) (.int .i64 (L : Int)))
    have r0 : w2.cell? ⟨q, 0, none⟩ = some (.int .i64 (K : Int)) := HF1.out.cell 0
    have r1 : w2.cell? ⟨q, 1, none⟩ = some (.int .i64 (L : Int)) := HF1.out.cell 1
    have d0 : w2.cell? ⟨w.heap.size, 0, none⟩ = some (.slice none 0 0) := HD1.out.b.cell 0
    have df := HD1.out.b.frozen 0
    have c0 : w2.cell? ⟨w.heap.size + 1, 0, none⟩ = some (.int .i64 0) := HD1.out.c.cell 0
    have c1 : w2.cell? ⟨w.heap.size + 1, 1, none⟩ = some (.int .i64 0) := HD1.out.c.cell 1
    have cf0 := HD1.out.c.frozen 0
    have cf1 := HD1.out.c.frozen 1
    have kb := Kb.set w2 w.heap.size 0 (.slice none 0 0) none
    have hqd : q ≠ w.heap.size := HF1.out.apart_str HD1.out.b (by decide)
    have S1 := HF1.out.kb kb (fun e => hqd (Option.some.inj e)) (by simp)
    have S2 : Str (w2.setCell ⟨w.heap.size, 0, none⟩ (.slice none 0 0)) (w.heap.size + 1) 39 #[.int .i64 0, .int .i64 0] := HD1.out.c.kb kb (by simp) (by simp)
    have r0' : (w2.setCell ⟨w.heap.size, 0, none⟩ (.slice none 0 0)).cell? ⟨q, 0, none⟩ = some (.int .i64 (K : Int)) := S1.cell 0
    have r1' : (w2.setCell ⟨w.heap.size, 0, none⟩ (.slice none 0 0)).cell? ⟨q, 1, none⟩ = some (.int .i64 (L : Int)) := S1.cell 1
    have c0' : (w2.setCell ⟨w.heap.size, 0, none⟩ (.slice none 0 0)).cell? ⟨w.heap.size + 1, 0, none⟩ = some (.int .i64 0) := S2.cell 0
    have c1' : (w2.setCell ⟨w.heap.size, 0, none⟩ (.slice none 0 0)).cell? ⟨w.heap.size + 1, 1, none⟩ = some (.int .i64 0) := S2.cell 1
    have cf0' := S2.frozen 0
    have cf1' := S2.frozen 1
    clear kb S1 S2 hqd
    go_wp2
    go_region
    go_wp2
    try rw [Exit.noGoto_ret]
    (try simp only [Exit.inBlock, Exit.then])
    refine bodyPost_ret (rparse_ret rfl rfl (HQ.out.1.b.below (below_drew _)) (HQ.out.1.c.below (below_drew _))) rfl ?_
    rw [E.out]
    exact ⟨below_trans HQ.out.1.bl (below_drew _), _, rfl, Rdoc.nil _⟩
end Go.Proofs.YtmgalfdiiegjjaaGreatDoor

/- The walk of ShowParsed. -/
namespace Go.Proofs.YtmgalfdiiegjjaaGreatDoor
open Go.RowKit

theorem dc_bad {l : _} {k n : Int} (h : DC.doc l = .bad k n) : k ≠ 0 := by
  unfold DC.doc at h
  split at h
  · simp only [DC.Out.bad.injEq] at h; omega
  · rcases DC.bind_bad h with h | ⟨b, _, h⟩
    · exact DC.blk_bad h
    · split at h
      · cases h
      · simp only [DC.Out.bad.injEq] at h; omega
theorem parse_bad {l : List UInt8} {k n : Int} (h : DC.parse l = .bad k n) : k ≠ 0 := by
  unfold DC.parse at h
  split at h
  · rename_i hk; cases h; exact Int.natCast_ne_zero.2 hk
  split at h
  · rename_i hk; cases h; exact hk
  exact dc_bad h
theorem up_lens {t : SH.Tr} {ns : List SH.Ni} (h : SH.Of t ns) : Lens2 ns := fun x hx => by
  obtain ⟨a1, a2, a3⟩ := h.lens x hx
  exact ⟨by omega, fun k hk => by have := a2 k hk; omega, by omega⟩
set_option maxRecDepth 10000 in
set_option maxHeartbeats 32000000 in
theorem showParsed_walk (v : Value) (bs : List UInt8) (w : World) (hr : Rdv w v (bv bs)) (_z : bs.length ≤ 140737488351232) (hm : MaxIs w) :
    Calls Tryz.prog 6 #[v] w fun e w' => e = .returned (.bool true) ∧ Below w.heap.size w w' := by
  have hq1 := eq_fault 0 0
  have hg2 := fault_guard
  have HM := Lib.hid hm
  have HAW := Lib.hid (fun (u : World) (hu : Below w.heap.size w u) => awake13 u (hm.below hu))
  have HRP := Lib.hid (rparse_any v bs w hr)
  obtain ⟨ao, cap, rfl, hlm, -⟩ := hr
  rw [bv_len] at HRP hlm ⊢
  obtain ⟨L, hL⟩ : ∃ L, bs.length = L := ⟨_, rfl⟩
  rw [hL] at HRP hlm ⊢
  clear hm
  go_enter Tryz.func6, Tryz.ntmps6
  by_cases h40 : 4000 < L
  · have h4i : (4000 : Int) < (L : Int) := by omega
    clear HRP hL hlm
    go_wp2_with (go_at_call 14; refine (HAW.out _ (Below.refl _ _)).mono ?_; rintro e w9 ⟨rfl, b9⟩; have B9 := Lib.hid b9; clear b9)
    go_ret
    exact ⟨rfl, B9.out⟩
  have h4i : ¬ (4000 : Int) < (L : Int) := by omega
  clear h40 hlm hL
  cases hP : DC.parse bs with
  | bad k n =>
    have hk := parse_bad hP
    have HRQ : Hid (Calls Tryz.prog 17 #[.slice ao L cap] w fun e w' => ∃ ao1 cp1, e = .returned (.tuple #[.agg #[.slice ao1 0 cp1], .agg #[.int .i64 k, .int .i64 n]]) ∧ Below w.heap.size w w') := Lib.hid (HRP.out.mono (by
      rintro e w1 ⟨b1, v1, rfl, r1⟩
      rw [hP] at r1 ⊢
      obtain ⟨ao1, cp1, rfl, -⟩ := (Rdoc.rdi r1).slice
      exact ⟨ao1, cp1, rfl, b1⟩))
    clear hP HRP
    go_upto_region 4 with (go_at_call 17; refine HRQ.out.mono ?_; rintro e w1 ⟨ao1, cp1, rfl, b1⟩)
    obtain ⟨s1, s2, b2⟩ := two_docs w1 (.slice ao1 0 cp1) (.int .i64 k) (.int .i64 n)
    have B2 := Lib.hid (below_trans b1 b2)
    have c1 := s1.cell 0
    have c2 := s2.cell 0
    have c3 := s2.cell 1
    simp only [List.getElem?_toArray, List.getElem?_cons_zero, List.getElem?_cons_succ] at c1 c2 c3
    clear b1 b2 s1 s2
    generalize World.alloc (World.alloc _ _) _ = W2 at *
    go_wp2_with (go_at_call 14; refine (HAW.out _ B2.out).mono ?_; rintro e w9 ⟨rfl, b9⟩; have B9 := Lib.hid (below_trans B2.out b9); clear b9)
    go_ret
    exact ⟨rfl, B9.out⟩
  | ok ds =>
    have hck := SH.parse_chk hP
    obtain ⟨xs, hxs⟩ : ∃ xs, ds.map SH.up = xs := ⟨_, rfl⟩
    rw [hxs] at hck
    obtain ⟨t, hOf⟩ := SH.chk_of hck
    have hckb : SH.chkb xs = true := decide_eq_true hck
    have HL2 := Lib.hid (up_lens hOf)
    obtain ⟨NX, hNX⟩ : ∃ NX, xs.length = NX := ⟨_, rfl⟩
    have HRQ : Hid (Calls Tryz.prog 17 #[.slice ao L cap] w fun e w' => ∃ ao1 cp1, e = .returned (.tuple #[.agg #[.slice ao1 NX cp1], .agg #[.int .i64 0, .int .i64 0]]) ∧ Below w.heap.size w w' ∧ Rdi w' (.slice ao1 NX cp1) xs) := Lib.hid (HRP.out.mono (by
      rintro e w1 ⟨b1, v1, rfl, r1⟩
      rw [hP] at r1 ⊢
      replace r1 := Rdoc.rdi r1
      rw [show DC.told (DC.Out.ok ds) = ds from rfl, hxs] at r1
      obtain ⟨ao1, cp1, rfl, -⟩ := r1.slice
      rw [hNX] at r1 ⊢
      exact ⟨ao1, cp1, rfl, b1, r1⟩))
    clear hP hck hOf t HRP hNX hxs
    obtain ⟨code, T, ht⟩ := SH.tx_some xs
    go_upto_region 4 with (go_at_call 17; refine HRQ.out.mono ?_; rintro e w1 ⟨ao1, cp1, rfl, b1, r1⟩)
    obtain ⟨s1, s2, b2⟩ := two_docs w1 (.slice ao1 NX cp1) (.int .i64 0) (.int .i64 0)
    have R2 := Lib.hid (r1.below b2)
    have B2 := Lib.hid (below_trans b1 b2)
    have c1 := s1.cell 0
    have c2 := s2.cell 0
    have c3 := s2.cell 1
    simp only [List.getElem?_toArray, List.getElem?_cons_zero, List.getElem?_cons_succ] at c1 c2 c3
    clear b1 b2 r1 s1 s2
    generalize World.alloc (World.alloc _ _) _ = W2 at *
    have HT := Lib.hid (shtext_any _ xs code T W2 R2.out HL2.out (HM.out.below B2.out) ht)
    have HCK := Lib.hid (fun (u : World) (hu : Below W2.heap.size W2 u) => check_any _ xs u (R2.out.below hu) HL2.out ((HM.out.below B2.out).below hu))
    rw [hckb] at HCK
    have HSX := Lib.hid (fun (u : World) (hu : Below W2.heap.size W2 u) => R2.out.below hu)
    rcases ht with ⟨hk, rfl, rfl⟩ | ⟨hk, t, ho, ⟨h6, rfl, rfl⟩ | ⟨h6, rfl, rfl⟩⟩
    · rw [hk] at hckb; cases hckb
    · clear hk ho h6 hckb HSX
      go_wp2_with (first
        | (go_at_call 14; refine (HAW.out _ B4.out).mono ?_; rintro e w9 ⟨rfl, b9⟩; have B9 := Lib.hid (below_trans B4.out b9); clear b9)
        | (go_at_call 18; refine (HCK.out _ N3.out).mono ?_; rintro e w4 ⟨rfl, b4⟩; have B4 := Lib.hid (below_trans B3.out b4); clear b4)
        | (go_at_call 15; refine HT.out.mono ?_; rintro e w3 ⟨v3, rfl, r3, b3⟩; obtain ⟨ao3, cp3, rfl, -⟩ := r3; have N3 := Lib.hid b3; have B3 := Lib.hid (below_trans B2.out b3); have p3 := (b3.cell (cell_lt c1)).trans c1; clear b3))
      go_ret
      exact ⟨rfl, B9.out⟩
    · have HO := Lib.hid ho
      obtain ⟨T, hT⟩ : ∃ T, SH.showT t 0 = T := ⟨_, rfl⟩
      have HTT := Lib.hid hT
      rw [hT] at HT h6
      obtain ⟨m, hm⟩ : ∃ m, T.length = m := ⟨_, rfl⟩
      have HMM := Lib.hid hm
      rw [hm] at h6
      clear hk ho hT hm hckb
      by_cases h16 : 16384 < m
      · have h16i : (16384 : Int) < (m : Int) := by omega
        go_wp2_with (first
          | (go_at_call 14; refine (HAW.out _ B4.out).mono ?_; rintro e w9 ⟨rfl, b9⟩; have B9 := Lib.hid (below_trans B4.out b9); clear b9)
          | (go_at_call 18; refine (HCK.out _ N3.out).mono ?_; rintro e w4 ⟨rfl, b4⟩; have B4 := Lib.hid (below_trans B3.out b4); clear b4)
          | (go_at_call 15; refine HT.out.mono ?_; rintro e w3 ⟨v3, rfl, r3, b3⟩; obtain ⟨ao3, cp3, hv3, -⟩ := r3; rw [bv_len, HMM.out] at hv3; subst hv3; have N3 := Lib.hid b3; have B3 := Lib.hid (below_trans B2.out b3); have p3 := (b3.cell (cell_lt c1)).trans c1; clear b3))
        go_ret
        exact ⟨rfl, B9.out⟩
      · have h16i : ¬ (16384 : Int) < (m : Int) := by omega
        obtain ⟨ms, hp1, hp2⟩ := SH.parse_shown ⟨HO.out.ok, HO.out.god, HO.out.dep, HO.out.size, HO.out.eq⟩ (by rw [HTT.out, HMM.out]; omega)
        rw [HTT.out] at hp1
        have HSB : Hid (SH.sameb (ms.map SH.up) xs = true) := decide_eq_true hp2
        have HPA : Hid (∀ (u : World) (v : Value), Rdv u v (bv T) → MaxIs u → Calls Tryz.prog 11 #[v] u fun e w' => ∃ v2, e = .returned (.tuple #[.agg #[v2], .agg #[.int .i64 0, .int .i64 0]]) ∧ Rdi w' v2 (ms.map SH.up) ∧ Below u.heap.size u w') := fun u v hr hu => by
          refine (parse_any v T u hr hu).mono ?_
          rintro e w' ⟨hb, v2, rfl, hd⟩
          rw [hp1] at hd ⊢
          exact ⟨v2, rfl, hd.rdi, hb⟩
        obtain ⟨NM, hNM⟩ : ∃ NM, (ms.map SH.up).length = NM := ⟨_, rfl⟩
        have HNM := Lib.hid hNM
        clear hp1 hp2 hNM
        go_upto_region 12 with (first
          | (go_at_call 11; refine (HPA.out _ _ (R3.out.below M4.out) (HM.out.below B4.out)).mono ?_; rintro e w5 ⟨v5, rfl, r5, b5⟩; obtain ⟨ao5, cp5, hv5, -⟩ := r5.slice; rw [HNM.out] at hv5; subst hv5)
          | (go_at_call 18; refine (HCK.out _ N3.out).mono ?_; rintro e w4 ⟨rfl, b4⟩; have M4 := Lib.hid b4; have B4 := Lib.hid (below_trans B3.out b4); have N4 := Lib.hid (below_trans N3.out b4); have p4 := (b4.cell (cell_lt p3)).trans p3; clear b4)
          | (go_at_call 15; refine HT.out.mono ?_; rintro e w3 ⟨v3, rfl, r3, b3⟩; have R3 := Lib.hid r3; obtain ⟨ao3, cp3, hv3, -⟩ := r3; rw [bv_len, HMM.out] at hv3; subst hv3; have N3 := Lib.hid b3; have B3 := Lib.hid (below_trans B2.out b3); have p3 := (b3.cell (cell_lt c1)).trans c1; clear b3))
        obtain ⟨s6, s7, b6⟩ := two_docs w5 (.slice ao5 NM cp5) (.int .i64 0) (.int .i64 0)
        have N6 := Lib.hid (below_trans (below_trans N4.out b5) b6)
        have B6 := Lib.hid (below_trans (below_trans B4.out b5) b6)
        have R6 := Lib.hid (r5.below b6)
        have c5 := s6.cell 0
        have c6 := s7.cell 0
        have c7 := s7.cell 1
        simp only [List.getElem?_toArray, List.getElem?_cons_zero, List.getElem?_cons_succ] at c5 c6 c7
        have p6 := (N6.out.cell (cell_lt c1)).trans c1
        have HSM := Lib.hid (shrsame_any _ _ (ms.map SH.up) xs _ R6.out (HSX.out _ N6.out))
        rw [HSB.out] at HSM
        clear b5 b6 r5 s6 s7
        generalize World.alloc (World.alloc _ _) _ = W6 at *
        go_wp2_with (first
          | (go_at_call 14; refine (HAW.out _ B7.out).mono ?_; rintro e w9 ⟨rfl, b9⟩; have B9 := Lib.hid (below_trans B7.out b9); clear b9)
          | (go_at_call 12; refine HSM.out.mono ?_; rintro e w7 ⟨rfl, b7⟩; have B7 := Lib.hid (below_trans B6.out b7); clear b7))
        go_ret
        exact ⟨rfl, B9.out⟩
end Go.Proofs.YtmgalfdiiegjjaaGreatDoor

/- An argument that is a slice of bytes, opened for a walk. -/
namespace Go.Proofs.YtmgalfdiiegjjaaGreatDoor
open Go.RowKit Go.ChangeShapes Go.WideShapes

theorem bytes_of_ints : ∀ (zs : List Int), (∀ n ∈ zs, (Lit.int .u8 n).wf = true) → ∃ bs : List UInt8, zs.map (Value.int .u8) = bv bs
  | [], _ => ⟨[], rfl⟩
  | z :: zs, h => by
    obtain ⟨bs, hb⟩ := bytes_of_ints zs (fun n hn => h n (List.mem_cons_of_mem _ hn))
    have hz := h z List.mem_cons_self
    simp [Lit.wf, IntKind.min, IntKind.max, IntKind.signed, IntKind.bits] at hz
    refine ⟨UInt8.ofNat z.toNat :: bs, ?_⟩
    have e : ((UInt8.ofNat z.toNat).toNat : Int) = z := by simp; omega
    rw [List.map_cons, hb]
    show _ = Value.int .u8 ((UInt8.ofNat z.toNat).toNat : Int) :: bv bs
    rw [e]

theorem open_bytes {H : Type} {enc : TypeId × Value → H} {P : Program} {W : World} {t e : TypeId} {a : Option Addr} {len cap : Nat} {d : DataW H} {p : List MemPlace} (ht : P.underlying t = some (.slice e)) (he : P.underlying e = some (.int .u8)) (hc : P.cellsOf e = 1)
    (h : DataW.Trod enc P W 0 (fun _ => true) true t (.slice a len cap) d p) : ∃ bs : List UInt8, Rdv W (.slice a len cap) (bv bs) ∧ (d = .nil ∧ bs = [] ∨ ∃ elems spare, d = .slice elems spare ∧ elems.length = bs.length) := by
  obtain ⟨fuel, hf⟩ := h
  rcases open_ints ht he hc hf with ⟨hcs, hx⟩ | ⟨x, l, c, zs, hcs, _, hl, hm, hz, hx, hcell, hwz⟩
  · simp [Value.cells] at hcs
    obtain ⟨rfl, rfl, rfl⟩ := hcs
    exact ⟨[], Rdv.nil W, Or.inl ⟨congrArg Prod.fst hx, rfl⟩⟩
  · simp [Value.cells] at hcs
    obtain ⟨rfl, rfl, rfl⟩ := hcs
    simp only [if_true] at hz
    obtain ⟨bs, hb⟩ := bytes_of_ints (zs.take len) (fun n hn => hwz n (List.mem_of_mem_take hn))
    have hbl : bs.length = len := by
      have := congrArg List.length hb
      simp [bv] at this
      omega
    refine ⟨bs, ⟨some x, cap, by rw [bv_len, hbl], by rw [bv_len]; omega, hm, (by intro h; cases h), fun j u hu => ⟨x, rfl, ?_⟩⟩, Or.inr ⟨_, _, congrArg Prod.fst hx, by simp [lits]; omega⟩⟩
    have hj : j < len := by
      have := (List.getElem?_eq_some_iff.1 hu).1
      rw [bv_len] at this; omega
    rw [← hb, List.getElem?_map, List.getElem?_take, if_pos hj] at hu
    rw [hcell j (by omega)]
    rw [List.getElem?_eq_getElem (by omega : j < zs.length)] at hu
    simp only [Option.map_some] at hu
    rw [← hu]
    simp [List.getD, show j < zs.length by omega]
end Go.Proofs.YtmgalfdiiegjjaaGreatDoor
