/- A part of the proof. -/
import Derived.Test.YtgfhabofhefaaaaGreatDoorSA48
import Derived.Test.YtgfhabofhefaaaaGreatDoorSA49
import Derived.Test.YtgfhabofhefaaaaGreatDoorSA06
import Derived.ProofKit
import Derived.OpenShut
import Derived.ChangeOld
import Derived.Test.YtgfhabofhefaaaaGreatDoorSA30
import Derived.Test.YtgfhabofhefaaaaGreatDoorSA35
import Derived.Test.YtgfhabofhefaaaaGreatDoorSA38
import Derived.Test.YtgfhabofhefaaaaGreatDoorSA40
import Derived.Test.YtgfhabofhefaaaaGreatDoorSA23
import Derived.Test.YtgfhabofhefaaaaGreatDoorSA20
import Derived.BigQuiet
import Derived.Deep.LoopGhost
namespace Go.Proofs.YtgfhabofhefaaaaGreatDoor
open Go.RowKit
namespace LX
theorem all_len : ∀ ls : List Lz, (all ls).1.2.length ≤ wt ls
  | [] => Nat.zero_le _
  | l :: ls => by
    rw [all]
    split
    · simp only
      split
      · rw [List.length_append, wt_cons]
        have := row_len l
        have := all_len ls
        omega
      · exact Nat.zero_le _
    · exact Nat.zero_le _
end LX
theorem rparse_ret {tmps : Array Value} {w : World} {p q : Nat} {x y z : Value} (hp : tmps.getD 2 undef = .pointer (some ⟨p, 0, none⟩)) (hq : tmps.getD 3 undef = .pointer (some ⟨q, 0, none⟩)) (h1 : Str w p 26 #[x]) (h2 : Str w q 39 #[y, z]) :
    (results Tryz.f13 tmps).run Tryz.prog w = .ok (.tuple #[.agg #[x], .agg #[y, z]]) w := by
  have hs' : w.heap[q]? = some (.cells #[y, z] 39 (0, 0)) := h2
  have hs1 : w.heap[p]? = some (.cells #[x] 26 (0, 0)) := h1
  have l2 := run_loadVar_row (P := Tryz.prog) w q 39 39 #[y, z] (0, 0) _ hs' Tryz.underlying39 rfl fault_size
  have l1 := run_loadVar_row (P := Tryz.prog) w p 26 26 #[x] (0, 0) _ hs1 Tryz.underlying26 rfl doc_size
  have hp' : (asAddr (tmps.getD 2 undef)).run Tryz.prog w = .ok ⟨p, 0, none⟩ w := by rw [hp]; simp [asAddr]
  have hq' : (asAddr (tmps.getD 3 undef)).run Tryz.prog w = .ok ⟨q, 0, none⟩ w := by rw [hq]; simp [asAddr]
  simp only [Array.getD_eq_getD_getElem?] at hp' hq'
  simp only [results, Tryz.results13]
  simp [Sem.run_bind, Result.andThen, hp', hq', l1, l2]
set_option maxRecDepth 10000 in
set_option maxHeartbeats 8000000 in
theorem rparse_any (v : Value) (bs : List UInt8) (w : World) (hr : Rdv w v (bv bs)) :
    Calls Tryz.prog 13 #[v] w (ParE w (DC.parse bs)) := by
  have HD0 := Lib.hid (pars_start w)
  have HLI := Lib.hid (rlines_any v bs _ (hr.below HD0.out.bl))
  obtain ⟨A, HA⟩ : ∃ A, Hid (A = DC.parse bs) := ⟨_, Lib.hid rfl⟩
  rw [show DC.parse bs = A from HA.out.symm]
  obtain ⟨K, hK⟩ : ∃ K, (LN.outF bs).1 = K := ⟨_, rfl⟩
  obtain ⟨L, hL⟩ : ∃ L, (LN.outF bs).2 = L := ⟨_, rfl⟩
  have HK := Lib.hid hK
  have HL := Lib.hid hL
  obtain ⟨ls, hls⟩ : ∃ ls, LN.outL bs = ls := ⟨_, rfl⟩
  have HLS := Lib.hid hls
  have HLO := Lib.hid (fun (u : World) (e : Ending) (w' : World) (h : LinE u bs e w') => (show ∃ x, e = .returned (.tuple #[x, .agg #[.int .i64 (K : Int), .int .i64 (L : Int)]]) ∧ Ownn w' u.heap.size x ls ∧ Below u.heap.size u w' by rw [← hK, ← hL, ← hls]; exact h))
  clear hr hK hL hls
  go_enter Tryz.func13, Tryz.ntmps13
  go_wp2_with fail
  refine HLI.out.mono ?_
  rintro e w1 he
  obtain ⟨x, rfl, ho, hb⟩ := HLO.out _ _ _ he
  clear he
  obtain ⟨q, hq⟩ : ∃ q, w1.heap.size = q := ⟨_, rfl⟩
  have BX := below_alloc w1 (.cells #[.int .i64 (K : Int), .int .i64 (L : Int)] 39)
  have HD1 := Lib.hid ((HD0.out.calm hb).calm BX)
  have HF1 : Hid (Str (w1.alloc (.cells #[.int .i64 (K : Int), .int .i64 (L : Int)] 39)) q 39 #[.int .i64 (K : Int), .int .i64 (L : Int)]) := by
    rw [← hq]; exact Lib.hid (Str.new w1 _ _)
  have HZ1 := Lib.hid ((ho.below BX).rdz)
  clear ho hb BX HLI HLO HD0
  by_cases hk : K = 0
  · have E0 := Lib.hid (show A = if (LX.all (ls.map DC.zl)).1.1 ≠ 0 then .bad (LX.all (ls.map DC.zl)).1.1 (LX.all (ls.map DC.zl)).2 else DC.doc (LX.all (ls.map DC.zl)).1.2 by rw [HA.out, DC.parse, if_neg (by rw [HK.out]; simpa using hk), HLS.out])
    have h0 : (K : Int) = 0 := by omega
    have hK0 : (LN.outF bs).1 = 0 := by rw [HK.out]; exact hk
    have HALL := Lib.hid (rall_any x (ls.map DC.zl) _ HZ1.out (by rw [← HLS.out]; exact DC.outL_text hK0) (by rw [← HLS.out]; exact Nat.le_trans (DC.outL_wt bs) (by have := DC.outF_small hK0; omega)))
    have HPL : Hid ((LX.all (ls.map DC.zl)).1.2.length ≤ 1000000) := by
      show _ ≤ _
      have h1 := LX.all_len (ls.map DC.zl)
      have h2 := DC.outL_wt bs
      rw [HLS.out] at h2
      have h3 := DC.outF_small hK0
      omega
    have HSH := Lib.hid (LX.all_short (ls.map DC.zl))
    obtain ⟨a, ha⟩ : ∃ a, (LX.all (ls.map DC.zl)).1.1 = a := ⟨_, rfl⟩
    obtain ⟨b, hb⟩ : ∃ b, (LX.all (ls.map DC.zl)).2 = b := ⟨_, rfl⟩
    obtain ⟨PP, hP⟩ : ∃ PP, (LX.all (ls.map DC.zl)).1.2 = PP := ⟨_, rfl⟩
    have HAO := Lib.hid (fun (u : World) (e : Ending) (w' : World) (h : AllE u (ls.map DC.zl) e w') => (show ∃ v3, e = .returned (.tuple #[v3, .agg #[.int .i64 a, .int .i64 b]]) ∧ Ownp w' u.heap.size v3 PP ∧ Below u.heap.size u w' by
      obtain ⟨h1, v3, h2, h3⟩ := h
      rw [ha, hb] at h2
      rw [hP] at h3
      exact ⟨v3, h2, h3, h1⟩))
    rw [ha, hb, hP] at E0
    rw [hP] at HSH
    rw [hP] at HPL
    clear ha hb hP hK0 hk HLS HK HL HA HZ1 HSH
    simp only [h0] at HD1 HF1 HALL ⊢
    clear h0
    have hzz : ((0 : Int) != 0) = false := rfl
    go_upto_region 2 with (rw [hq])
    generalize w1.alloc (.cells #[.int .i64 0, .int .i64 (L : Int)] 39) = w2 at *
    have r0 : w2.cell? ⟨q, 0, none⟩ = some (.int .i64 0) := HF1.out.cell 0
    go_upto_region 5 with (go_at_call 33; refine HALL.out.mono ?_; rintro e w3 he; obtain ⟨v3, rfl, ho3, hb3⟩ := HAO.out _ _ _ he; clear he)
    have BY := below_alloc w3 (.cells #[.int .i64 a, .int .i64 b] 39)
    have HD4 := Lib.hid ((HD1.out.calm hb3).calm BY)
    have HP4 := Lib.hid (ho3.below BY)
    obtain ⟨q3, hq3⟩ : ∃ q, w3.heap.size = q := ⟨_, rfl⟩
    have HF4 : Hid (Str (w3.alloc (.cells #[.int .i64 a, .int .i64 b] 39)) q3 39 #[.int .i64 a, .int .i64 b]) := by
      rw [← hq3]; exact Lib.hid (Str.new w3 _ _)
    rw [hq3]
    clear BY ho3 hb3 HD1 HF1 r0 HALL HAO
    generalize w3.alloc (.cells #[.int .i64 a, .int .i64 b] 39) = w4 at *
    clear hq3 hq
    have r0 : w4.cell? ⟨q3, 0, none⟩ = some (.int .i64 a) := HF4.out.cell 0
    have r1 : w4.cell? ⟨q3, 1, none⟩ = some (.int .i64 b) := HF4.out.cell 1
    by_cases ha : a = 0
    · subst ha
      have E := Lib.hid (show A = DC.doc PP by rw [E0.out, if_neg (by simp)])
      clear E0
      have HOF := Lib.hid (rof_any v3 PP w4 HP4.out.rd HPL.out)
      go_wp2_with fail
      refine HOF.out.mono ?_
      rintro e w5 ⟨hb5, v5, S5, rfl, hn5⟩
      have HD5 := Lib.hid (HD4.out.calm hb5)
      obtain ⟨a5, c5, rfl⟩ := hn5.slice
      obtain ⟨F, hFF⟩ : ∃ F, (DC.fault PP).1 = F := ⟨_, rfl⟩
      obtain ⟨G, hGG⟩ : ∃ G, (DC.fault PP).2 = G := ⟨_, rfl⟩
      have hz := HD5.out.laid (.slice a5 (DC.nodes PP).length c5) (.int .i64 F) (.int .i64 G)
      have d0 : w5.cell? ⟨w.heap.size, 0, none⟩ = some (.slice none 0 0) := HD5.out.b.cell 0
      have df := HD5.out.b.frozen 0
      have sc : Str (w5.setCell ⟨w.heap.size, 0, none⟩ (.slice a5 (DC.nodes PP).length c5)) (w.heap.size + 1) 39 #[.int .i64 0, .int .i64 0] := HD5.out.c.kb (Kb.set w5 w.heap.size 0 _ none) (by simp) (by simp)
      have c0 : (w5.setCell ⟨w.heap.size, 0, none⟩ (.slice a5 (DC.nodes PP).length c5)).cell? ⟨w.heap.size + 1, 0, none⟩ = some (.int .i64 0) := sc.cell 0
      have c1 : (w5.setCell ⟨w.heap.size, 0, none⟩ (.slice a5 (DC.nodes PP).length c5)).cell? ⟨w.heap.size + 1, 1, none⟩ = some (.int .i64 0) := sc.cell 1
      have cf0 := sc.frozen 0
      have cf1 := sc.frozen 1
      have HR5 := Lib.hid (hn5.kb hz.2 (Far.str HD5.out.b (by decide) (by decide)) (Far.str HD5.out.c (by decide) (by decide)) (hn5.off HD5.out.b (by decide)) (hn5.off HD5.out.c (by decide))).rd
      have HZ := Lib.hid hz.1
      have HFG := Lib.hid (And.intro hFF hGG)
      rw [hFF, hGG]
      obtain ⟨NL, hNL⟩ : ∃ NL, (DC.nodes PP).length = NL := ⟨_, rfl⟩
      rw [hNL] at HZ HR5 c0 c1 cf0 cf1 ⊢
      clear hb5 hn5 hz sc hFF hGG hNL
      go_wp2
      try rw [Exit.noGoto_ret]
      (try simp only [Exit.inBlock, Exit.then])
      refine bodyPost_ret (rparse_ret rfl rfl HZ.out.b HZ.out.c) rfl ?_
      rw [E.out]
      refine ⟨HZ.out.bl, _, ?_, HR5.out⟩
      obtain ⟨h1, h2⟩ := HFG.out
      rw [← h1, ← h2]
      unfold DC.fault DC.wrong
      cases DC.doc PP <;> rfl
    · have E := Lib.hid (show A = .bad a b by rw [E0.out, if_pos ha])
      have hab : (a != 0) = true := by simpa using ha
      clear E0
      have HQ := Lib.hid (HD4.out.laid (.slice none 0 0) (.int .i64 a) (.int .i64 b))
      have d0 : w4.cell? ⟨w.heap.size, 0, none⟩ = some (.slice none 0 0) := HD4.out.b.cell 0
      have df := HD4.out.b.frozen 0
      have c0 : w4.cell? ⟨w.heap.size + 1, 0, none⟩ = some (.int .i64 0) := HD4.out.c.cell 0
      have c1 : w4.cell? ⟨w.heap.size + 1, 1, none⟩ = some (.int .i64 0) := HD4.out.c.cell 1
      have cf0 := HD4.out.c.frozen 0
      have cf1 := HD4.out.c.frozen 1
      have kb := Kb.set w4 w.heap.size 0 (.slice none 0 0) none
      have hqd : q3 ≠ w.heap.size := HF4.out.apart_str HD4.out.b (by decide)
      have S1 := HF4.out.kb kb (fun e => hqd (Option.some.inj e)) (by simp)
      have S2 : Str (w4.setCell ⟨w.heap.size, 0, none⟩ (.slice none 0 0)) (w.heap.size + 1) 39 #[.int .i64 0, .int .i64 0] := HD4.out.c.kb kb (by simp) (by simp)
      have r0' : (w4.setCell ⟨w.heap.size, 0, none⟩ (.slice none 0 0)).cell? ⟨q3, 0, none⟩ = some (.int .i64 a) := S1.cell 0
      have r1' : (w4.setCell ⟨w.heap.size, 0, none⟩ (.slice none 0 0)).cell? ⟨q3, 1, none⟩ = some (.int .i64 b) := S1.cell 1
      have c0' : (w4.setCell ⟨w.heap.size, 0, none⟩ (.slice none 0 0)).cell? ⟨w.heap.size + 1, 0, none⟩ = some (.int .i64 0) := S2.cell 0
      have c1' : (w4.setCell ⟨w.heap.size, 0, none⟩ (.slice none 0 0)).cell? ⟨w.heap.size + 1, 1, none⟩ = some (.int .i64 0) := S2.cell 1
      have cf0' := S2.frozen 0
      have cf1' := S2.frozen 1
      clear kb S1 S2 hqd
      go_wp2
      go_region
      go_wp2
      try rw [Exit.noGoto_ret]
      (try simp only [Exit.inBlock, Exit.then])
      refine bodyPost_ret (rparse_ret rfl rfl (HQ.out.1.b.below (below_drew _)) (HQ.out.1.c.below (below_drew _))) rfl ?_
      rw [E.out]
      exact ⟨below_trans HQ.out.1.bl (below_drew _), _, rfl, Rdoc.nil _⟩
  · have E := Lib.hid (show A = .bad (K : Int) (L : Int) by rw [HA.out, DC.parse, if_pos (by rw [HK.out]; exact hk), HK.out, HL.out])
    have hkb : ((K : Int) != 0) = true := by simp; omega
    go_upto_region 2 with (rw [hq])
    generalize w1.alloc (.cells #[.int .i64 (K : Int), .int .i64 (L : Int)] 39) = w2 at *
    have HQ := Lib.hid (HD1.out.laid (.slice none 0 0) (.int .i64 (K : Int)) (.int .i64 (L : Int)))
    have r0 : w2.cell? ⟨q, 0, none⟩ = some (.int .i64 (K : Int)) := HF1.out.cell 0
    have r1 : w2.cell? ⟨q, 1, none⟩ = some (.int .i64 (L : Int)) := HF1.out.cell 1
    have d0 : w2.cell? ⟨w.heap.size, 0, none⟩ = some (.slice none 0 0) := HD1.out.b.cell 0
    have df := HD1.out.b.frozen 0
    have c0 : w2.cell? ⟨w.heap.size + 1, 0, none⟩ = some (.int .i64 0) := HD1.out.c.cell 0
    have c1 : w2.cell? ⟨w.heap.size + 1, 1, none⟩ = some (.int .i64 0) := HD1.out.c.cell 1
    have cf0 := HD1.out.c.frozen 0
    have cf1 := HD1.out.c.frozen 1
    have kb := Kb.set w2 w.heap.size 0 (.slice none 0 0) none
    have hqd : q ≠ w.heap.size := HF1.out.apart_str HD1.out.b (by decide)
    have S1 := HF1.out.kb kb (fun e => hqd (Option.some.inj e)) (by simp)
    have S2 : Str (w2.setCell ⟨w.heap.size, 0, none⟩ (.slice none 0 0)) (w.heap.size + 1) 39 #[.int .i64 0, .int .i64 0] := HD1.out.c.kb kb (by simp) (by simp)
    have r0' : (w2.setCell ⟨w.heap.size, 0, none⟩ (.slice none 0 0)).cell? ⟨q, 0, none⟩ = some (.int .i64 (K : Int)) := S1.cell 0
    have r1' : (w2.setCell ⟨w.heap.size, 0, none⟩ (.slice none 0 0)).cell? ⟨q, 1, none⟩ = some (.int .i64 (L : Int)) := S1.cell 1
    have c0' : (w2.setCell ⟨w.heap.size, 0, none⟩ (.slice none 0 0)).cell? ⟨w.heap.size + 1, 0, none⟩ = some (.int .i64 0) := S2.cell 0
    have c1' : (w2.setCell ⟨w.heap.size, 0, none⟩ (.slice none 0 0)).cell? ⟨w.heap.size + 1, 1, none⟩ = some (.int .i64 0) := S2.cell 1
    have cf0' := S2.frozen 0
    have cf1' := S2.frozen 1
    clear kb S1 S2 hqd
    go_wp2
    go_region
    go_wp2
    try rw [Exit.noGoto_ret]
    (try simp only [Exit.inBlock, Exit.then])
    refine bodyPost_ret (rparse_ret rfl rfl (HQ.out.1.b.below (below_drew _)) (HQ.out.1.c.below (below_drew _))) rfl ?_
    rw [E.out]
    exact ⟨below_trans HQ.out.1.bl (below_drew _), _, rfl, Rdoc.nil _⟩
end Go.Proofs.YtgfhabofhefaaaaGreatDoor
namespace Go.Proofs.YtgfhabofhefaaaaGreatDoor
open Go.RowKit
def iv (q : IntKind) (zs : List Int) : List Value := zs.map (Value.int q)
theorem iv_len (q : IntKind) (zs : List Int) : (iv q zs).length = zs.length := by simp [iv]
end Go.Proofs.YtgfhabofhefaaaaGreatDoor
namespace Go.Proofs.YtgfhabofhefaaaaGreatDoor
open Go.RowKit Go.ChangeShapes Go.WideShapes
theorem open_nums {H : Type} {enc : TypeId × Value → H} {P : Program} {W : World} {t e : TypeId} {q : IntKind} {a : Option Addr} {len cap : Nat} {d : DataW H} {p : List MemPlace} (ht : P.underlying t = some (.slice e)) (he : P.underlying e = some (.int q)) (hc : P.cellsOf e = 1)
    (h : DataW.Trod enc P W 0 (fun _ => true) true t (.slice a len cap) d p) : ∃ zs : List Int, Rdv W (.slice a len cap) (iv q zs) ∧ ∀ z ∈ zs, (Lit.int q z).wf = true := by
  obtain ⟨fuel, hf⟩ := h
  rcases open_ints ht he hc hf with ⟨hcs, hx⟩ | ⟨x, l, c, zs, hcs, _, hl, hm, hz, hx, hcell, hwz⟩
  · simp [Value.cells] at hcs
    obtain ⟨rfl, rfl, rfl⟩ := hcs
    exact ⟨[], Rdv.nil W, by simp⟩
  · simp [Value.cells] at hcs
    obtain ⟨rfl, rfl, rfl⟩ := hcs
    simp only [if_true] at hz
    have hbl : (zs.take len).length = len := by simp; omega
    refine ⟨zs.take len, ⟨some x, cap, by rw [iv_len, hbl], by rw [iv_len]; omega, hm, (by intro h; cases h), fun j u hu => ⟨x, rfl, ?_⟩⟩, fun n hn => hwz n (List.mem_of_mem_take hn)⟩
    have hj : j < len := by
      have := (List.getElem?_eq_some_iff.1 hu).1
      rw [iv_len] at this; omega
    rw [iv, List.getElem?_map, List.getElem?_take, if_pos hj] at hu
    rw [hcell j (by omega)]
    rw [List.getElem?_eq_getElem (by omega : j < zs.length)] at hu
    simp only [Option.map_some] at hu
    rw [← hu]
    simp [List.getD, show j < zs.length by omega]
end Go.Proofs.YtgfhabofhefaaaaGreatDoor
namespace Go.Proofs.YtgfhabofhefaaaaGreatDoor
open Go.RowKit
def Dmd (ns : List SH.Ni) (k : Int) : Prop := (k = 1 ∧ ns = []) ∨ (k = 0 ∧ SH.chkb ns = true ∧ ∃ t, SH.Of t ns ∧ (SH.showT t 0).length ≤ 60000)
def DmE (w : World) (e : Ending) (w' : World) : Prop := Below w.heap.size w w' ∧ ∃ (ao : Option Addr) (n cap : Nat) (ns : List SH.Ni) (k : Int), e = .returned (.tuple #[.agg #[.slice ao n cap], .int .i64 k]) ∧ ns.length = n ∧ Rdi w' (.slice ao n cap) ns ∧ Dmd ns k
theorem cde_made {w : World} {c : CF.Cf} {e : Ending} {w' : World} (h : CdE w c e w') (hm : Mad c) : DmE w e w' := by
  obtain ⟨hb, v, rfl, hr⟩ := h
  refine ⟨hb, ?_⟩
  by_cases hc : SH.chkb (CF.doc c) = true
  · rw [if_pos ⟨hm.chk, hc⟩] at hr ⊢
    obtain ⟨ao, cap, rfl, -⟩ := hr.slice
    obtain ⟨t, ht⟩ := SH.chk_of (of_decide_eq_true hc)
    obtain ⟨d1, d2⟩ := CF.doc_small hm.small hm.chk hm.brs hm.doms
    exact ⟨ao, _, cap, _, 0, rfl, rfl, hr, .inr ⟨rfl, hc, t, ht, SH.small_len ht d2 d1⟩⟩
  · rw [if_neg (fun h => hc h.2)] at hr ⊢
    obtain ⟨ao, cap, rfl, -⟩ := hr.slice
    exact ⟨ao, 0, cap, [], 1, rfl, rfl, hr, .inl ⟨rfl, rfl⟩⟩
theorem made_doc {c : CF.Cf} {vd vb : Value} {w : World} (hd : RdD w vd c.doms) (hb : RdB w vb c.brs) (hm : Mad c) : Calls Tryz.prog 6 #[.agg #[vd, vb]] w (DmE w) :=
  (cfdoc_any c vd vb w hd hb hm.ok).mono fun _ _ h => cde_made h hm
theorem parse_tup (v : Value) (T : List UInt8) (u : World) (h : Rdv u v (bv T)) :
    Calls Tryz.prog 13 #[v] u fun e w' => ∃ (ao : Option Addr) (n cp : Nat) (k l : Int), e = .returned (.tuple #[.agg #[.slice ao n cp], .agg #[.int .i64 k, .int .i64 l]]) ∧ Below u.heap.size u w' := by
  refine (rparse_any v T u h).mono ?_
  rintro e w' ⟨hb, v2, rfl, hd⟩
  cases hP : DC.parse T with
  | bad k n =>
    obtain ⟨ao1, cp1, rfl, -⟩ := (Rdoc.rdi hd).slice
    exact ⟨ao1, _, cp1, k, n, rfl, hb⟩
  | ok ds =>
    obtain ⟨ao1, cp1, rfl, -⟩ := (Rdoc.rdi hd).slice
    exact ⟨ao1, _, cp1, 0, 0, rfl, hb⟩
theorem iv_ints (zs : List Int) : iv .i64 zs = ints zs := rfl
end Go.Proofs.YtgfhabofhefaaaaGreatDoor
namespace Go.Proofs.YtgfhabofhefaaaaGreatDoor
open Go.RowKit
set_option maxRecDepth 10000 in
set_option maxHeartbeats 8000000 in
theorem eqs_any (va vb : Value) (xs ys : List LX.B) (w : World) (ha : Rdv w va (sv xs)) (hb : Rdv w vb (sv ys)) :
    Calls Tryz.prog 65 #[va, vb] w fun e w' => e = .returned (.bool (decide (xs = ys))) ∧ Below w.heap.size w w' := by
  have hla := ha.len_le
  have hlb := hb.len_le
  obtain ⟨ao, cap, rfl⟩ := ha.slice
  obtain ⟨bo, cap', rfl⟩ := hb.slice
  unfold maxLen at hla hlb
  rw [show (sv xs).length = xs.length from by simp [sv]] at ha hla ⊢
  rw [show (sv ys).length = ys.length from by simp [sv]] at hb hlb ⊢
  obtain ⟨L, hL⟩ : ∃ L, xs.length = L := ⟨_, rfl⟩
  obtain ⟨M, hM⟩ : ∃ M, ys.length = M := ⟨_, rfl⟩
  have HL := Lib.hid hL
  have HM := Lib.hid hM
  rw [hL] at ha hla
  rw [hM] at hb hlb
  rw [hL, hM]
  have HA := Lib.hid ha
  have HB := Lib.hid hb
  obtain ⟨K, HK⟩ : ∃ K, Hid (K = decide (xs = ys)) := ⟨_, Lib.hid rfl⟩
  rw [← HK.out]
  have hLi : (L : Int) ≤ 9223372036854775807 := by omega
  have hMi : (M : Int) ≤ 9223372036854775807 := by omega
  clear ha hb hla hlb
  by_cases hne : L = M
  · subst hne
    clear hL hM hMi
    have HW0 : Hid (Below w.heap.size w w) := Lib.hid (Below.refl _ _)
    go_enter Tryz.func65, Tryz.ntmps65
    go_wp2
    go_loopg [13] L (fun g s13 wx => ∃ k : Nat, k + g = L ∧ s13 = .int .i64 (k : Int) ∧ Hid (Below w.heap.size w wx) ∧ Hid (xs.take k = ys.take k))
    case atStart => exact ⟨0, by omega, rfl, HW0, Lib.hid (by simp)⟩
    case round =>
      clear HW0
      obtain ⟨k, hk, rfl, HW, HI⟩ := hrel
      cases gk with
      | zero =>
        obtain rfl : k = L := by omega
        have E : K = true := by
          rw [HK.out, decide_eq_true_eq]
          have h1 := HI.out; have h2 := HL.out; have h3 := HM.out
          rwa [List.take_of_length_le (by omega), List.take_of_length_le (by omega)] at h1
        subst E
        go_wp2
        go_ret
        exact ⟨rfl, HW.out⟩
      | succ g =>
        have g0 : (k : Int) < (L : Int) := by omega
        have g1 : (0 : Int) ≤ (k : Int) := by omega
        obtain ⟨x, hx⟩ : ∃ x, xs[k]? = some x := ⟨xs[k]'(by have := HL.out; omega), List.getElem?_eq_getElem _⟩
        obtain ⟨y, hy⟩ : ∃ y, ys[k]? = some y := ⟨ys[k]'(by have := HM.out; omega), List.getElem?_eq_getElem _⟩
        obtain ⟨b1, o1, c1, e1, u1⟩ := (HA.out.below HW.out).atv (j := k) (u := .string ⟨x.toArray⟩) (by simp [sv, hx])
        obtain ⟨b2, o2, c2, e2, u2⟩ := (HB.out.below HW.out).atv (j := k) (u := .string ⟨y.toArray⟩) (by simp [sv, hy])
        simp only [Value.slice.injEq] at e1 e2
        obtain ⟨rfl, -, -⟩ := e1
        obtain ⟨rfl, -, -⟩ := e2
        have HX := Lib.hid hx
        have HY := Lib.hid hy
        clear hx hy
        by_cases hxy : x = y
        · subst hxy
          have HI2 : Hid (xs.take (k + 1) = ys.take (k + 1)) := by
            show _ = _
            rw [List.take_add_one, List.take_add_one, HX.out, HY.out, HI.out]
          go_wp2
          go_quiet (fail)
          go_wp2
          go_roundg g
          case rel => exact ⟨k + 1, by omega, by first | rfl | (simp; done), Lib.hid (below_trans HW.out (below_drewN _ _)), HI2⟩
          case measure => omega
        · have E : K = false := by
            rw [HK.out, decide_eq_false_iff_not]
            intro he
            have h1 := HX.out; have h2 := HY.out
            rw [he] at h1
            exact hxy (Option.some.inj (h1.symm.trans h2))
          have hxb : (x == y) = false := by simpa using hxy
          subst E
          go_wp2
          go_quiet (fail)
          go_wp2
          go_ret
          exact ⟨rfl, below_trans HW.out (below_drewN _ _)⟩
  · have E : K = false := by
      rw [HK.out, decide_eq_false_iff_not]
      intro he
      rw [he] at hL
      exact hne (hL.symm.trans hM)
    have b0 : ((L : Int) == (M : Int)) = false := by simp; omega
    have b2 : (L == M) = false := by simpa using hne
    have b1 : ¬ (L : Int) = (M : Int) := by omega
    subst E
    clear hL hM hne
    go_enter Tryz.func65, Tryz.ntmps65
    go_wp2
    go_ret
    exact ⟨rfl, Below.refl _ _⟩
set_option maxRecDepth 10000 in
set_option maxHeartbeats 8000000 in
theorem eqi_any (va vb : Value) (xs ys : List Int) (w : World) (ha : Rdv w va (ints xs)) (hb : Rdv w vb (ints ys)) :
    Calls Tryz.prog 66 #[va, vb] w fun e w' => e = .returned (.bool (decide (xs = ys))) ∧ Below w.heap.size w w' := by
  have hla := ha.len_le
  have hlb := hb.len_le
  obtain ⟨ao, cap, rfl⟩ := ha.slice
  obtain ⟨bo, cap', rfl⟩ := hb.slice
  unfold maxLen at hla hlb
  rw [show (ints xs).length = xs.length from by simp [ints]] at ha hla ⊢
  rw [show (ints ys).length = ys.length from by simp [ints]] at hb hlb ⊢
  obtain ⟨L, hL⟩ : ∃ L, xs.length = L := ⟨_, rfl⟩
  obtain ⟨M, hM⟩ : ∃ M, ys.length = M := ⟨_, rfl⟩
  have HL := Lib.hid hL
  have HM := Lib.hid hM
  rw [hL] at ha hla
  rw [hM] at hb hlb
  rw [hL, hM]
  have HA := Lib.hid ha
  have HB := Lib.hid hb
  obtain ⟨K, HK⟩ : ∃ K, Hid (K = decide (xs = ys)) := ⟨_, Lib.hid rfl⟩
  rw [← HK.out]
  have hLi : (L : Int) ≤ 9223372036854775807 := by omega
  have hMi : (M : Int) ≤ 9223372036854775807 := by omega
  clear ha hb hla hlb
  by_cases hne : L = M
  · subst hne
    clear hL hM hMi
    have HW0 : Hid (Below w.heap.size w w) := Lib.hid (Below.refl _ _)
    go_enter Tryz.func66, Tryz.ntmps66
    go_wp2
    go_loopg [13] L (fun g s13 wx => ∃ k : Nat, k + g = L ∧ s13 = .int .i64 (k : Int) ∧ Hid (Below w.heap.size w wx) ∧ Hid (xs.take k = ys.take k))
    case atStart => exact ⟨0, by omega, rfl, HW0, Lib.hid (by simp)⟩
    case round =>
      clear HW0
      obtain ⟨k, hk, rfl, HW, HI⟩ := hrel
      cases gk with
      | zero =>
        obtain rfl : k = L := by omega
        have E : K = true := by
          rw [HK.out, decide_eq_true_eq]
          have h1 := HI.out; have h2 := HL.out; have h3 := HM.out
          rwa [List.take_of_length_le (by omega), List.take_of_length_le (by omega)] at h1
        subst E
        go_wp2
        go_ret
        exact ⟨rfl, HW.out⟩
      | succ g =>
        have g0 : (k : Int) < (L : Int) := by omega
        have g1 : (0 : Int) ≤ (k : Int) := by omega
        obtain ⟨x, hx⟩ : ∃ x, xs[k]? = some x := ⟨xs[k]'(by have := HL.out; omega), List.getElem?_eq_getElem _⟩
        obtain ⟨y, hy⟩ : ∃ y, ys[k]? = some y := ⟨ys[k]'(by have := HM.out; omega), List.getElem?_eq_getElem _⟩
        obtain ⟨b1, o1, c1, e1, u1⟩ := (HA.out.below HW.out).atv (j := k) (u := .int .i64 x) (by simp [ints, hx])
        obtain ⟨b2, o2, c2, e2, u2⟩ := (HB.out.below HW.out).atv (j := k) (u := .int .i64 y) (by simp [ints, hy])
        simp only [Value.slice.injEq] at e1 e2
        obtain ⟨rfl, -, -⟩ := e1
        obtain ⟨rfl, -, -⟩ := e2
        have HX := Lib.hid hx
        have HY := Lib.hid hy
        clear hx hy
        by_cases hxy : x = y
        · subst hxy
          have HI2 : Hid (xs.take (k + 1) = ys.take (k + 1)) := by
            show _ = _
            rw [List.take_add_one, List.take_add_one, HX.out, HY.out, HI.out]
          go_wp2
          go_quiet (fail)
          go_wp2
          go_roundg g
          case rel => exact ⟨k + 1, by omega, by first | rfl | (simp; done), Lib.hid (below_trans HW.out (below_drewN _ _)), HI2⟩
          case measure => omega
        · have E : K = false := by
            rw [HK.out, decide_eq_false_iff_not]
            intro he
            have h1 := HX.out; have h2 := HY.out
            rw [he] at h1
            exact hxy (Option.some.inj (h1.symm.trans h2))
          have hxb : (x == y) = false := by simpa using hxy
          subst E
          go_wp2
          go_quiet (fail)
          go_wp2
          go_ret
          exact ⟨rfl, below_trans HW.out (below_drewN _ _)⟩
  · have E : K = false := by
      rw [HK.out, decide_eq_false_iff_not]
      intro he
      rw [he] at hL
      exact hne (hL.symm.trans hM)
    have b0 : ((L : Int) == (M : Int)) = false := by simp; omega
    have b2 : (L == M) = false := by simpa using hne
    have b1 : ¬ (L : Int) = (M : Int) := by omega
    subst E
    clear hL hM hne
    go_enter Tryz.func66, Tryz.ntmps66
    go_wp2
    go_ret
    exact ⟨rfl, Below.refl _ _⟩
end Go.Proofs.YtgfhabofhefaaaaGreatDoor
