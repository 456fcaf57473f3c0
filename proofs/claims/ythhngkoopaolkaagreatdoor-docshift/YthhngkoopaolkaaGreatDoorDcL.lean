/- The walk of doc.Parse. -/
import Derived.Test.YthhngkoopaolkaaGreatDoorDcO
import Derived.Test.YthhngkoopaolkaaGreatDoorDcShift
import Derived.Test.YthhngkoopaolkaaGreatDoorLnN
import Derived.Test.YthhngkoopaolkaaGreatDoorLxA
namespace Go.Proofs.YthhngkoopaolkaaGreatDoor
open Go.RowKit

namespace LX
theorem lng_len {x : B} {q : Bool} {k : Int} {t : B} {r : Bool} (h : lng x q = (k, t, r)) : t.length ≤ 200 := by
  unfold lng at h
  split at h
  · simp only [Prod.mk.injEq] at h; rw [← h.2.1]; simp
  · simp only [Prod.mk.injEq] at h; rw [← h.2.1]; omega
theorem txt_len (l : B) : (txt l).2.1.length ≤ 200 := by
  cases l with
  | nil => simp [txt]
  | cons c t =>
    have key : ∀ x q, (lng x q).2.1.length ≤ 200 := fun x q => lng_len (k := (lng x q).1) (t := (lng x q).2.1) (r := (lng x q).2.2) rfl
    rw [txt]
    split
    · split
      · simp
      · exact key _ _
    split
    · split
      · simp
      · exact key _ _
    split
    · simp
    · exact key _ _
def Short (ls : List Pc) : Prop := ∀ x ∈ ls, x.2.2.2.1.length ≤ 200
theorem Short.app {a b : List Pc} (h : Short a) (k : Short b) : Short (a ++ b) := fun x hx => (List.mem_append.1 hx).elim (h x) (k x)
theorem Short.one {x : Pc} (h : x.2.2.2.1.length ≤ 200) : Short [x] := fun y hy => by rw [List.mem_singleton.1 hy]; exact h
theorem Short.nil : Short [] := by intro x h; cases h
theorem fin_short {no col : Int} {acc : List Pc} {l : B} (h : Short acc) : Short (fin no col acc l).2 := by
  unfold fin
  split
  · exact h
  split
  · exact h.app (Short.one (txt_len l))
  · exact Short.nil
theorem mid_short {no col : Int} {acc : List Pc} {l : B} (h : Short acc) : Short (mid no col acc l).2 := by
  unfold mid
  split
  · exact fin_short h
  split
  · exact Short.nil
  · exact fin_short (h.app (Short.one (by simp only [List.length_take]; omega)))
theorem go_short {no col : Int} : ∀ {n : Nat} {acc : List Pc} {l : B}, Short acc → Short (go no col n acc l).2
  | 0, _, _, h => mid_short h
  | n + 1, acc, l, h => by
    rw [go]
    split
    · exact go_short (h.app (Short.one (by simp)))
    · exact mid_short h
theorem row_short (l : Lz) : Short (row l).2 := by
  unfold row
  split
  · exact Short.nil
  · exact go_short Short.nil
theorem all_short : ∀ ls : List Lz, Short (all ls).1.2
  | [] => Short.nil
  | l :: ls => by
    rw [all]
    split
    · simp only
      split
      · exact (row_short l).app (all_short ls)
      · exact Short.nil
    · exact Short.nil
end LX
namespace DC
def told (o : Out (List Nd)) : List Nd := match o with
  | .ok a => a
  | .bad _ _ => []
def wrong (o : Out (List Nd)) : Int × Int := match o with
  | .ok _ => (0, 0)
  | .bad k n => (k, n)
end DC
namespace DC
theorem rows_sum (l : LX.B) : ((LN.rows l).map List.length).sum ≤ l.length := by
  induction l with
  | nil => simp [LN.rows]
  | cons c l ih =>
    rw [LN.rows]
    split
    · simp only [List.map_cons, List.sum_cons, List.length_nil, List.length_cons]; omega
    · obtain ⟨h, t, e⟩ := LN.rows_ne l
      rw [e] at ih ⊢
      simp only [List.map_cons, List.sum_cons, List.length_cons] at ih ⊢
      omega
theorem lns_wt : ∀ (n : Nat) (rs : List LX.B), LX.wt ((LN.lns n rs).map zl) ≤ (rs.map List.length).sum
  | _, [] => Nat.le_refl 0
  | n, r :: rs => by
    have ih := lns_wt (n + 1) rs
    rw [LN.lns]
    split
    · simp only [List.map_cons, List.sum_cons]; omega
    · rw [List.map_cons, LX.wt_cons]
      simp only [List.map_cons, List.sum_cons]
      have h1 : (LN.said r).length ≤ r.length := by
        unfold LN.said
        cases hs : LN.strip (LN.tl r) with
        | none => simp
        | some s =>
          have h2 := (LN.strip_again hs).2.1
          have h3 := tl_le r
          simp only [Option.getD_some]
          omega
      show (LN.said r).length + _ ≤ _
      omega
theorem outL_wt (l : LX.B) : LX.wt ((LN.outL l).map zl) ≤ l.length := by
  unfold LN.outL
  split
  · exact Nat.le_trans (lns_wt _ _) (rows_sum l)
  · exact Nat.zero_le _
theorem outF_small {l : LX.B} (h : (LN.outF l).1 = 0) : l.length ≤ 16384 := by
  unfold LN.outF at h
  split at h
  · cases h
  · omega
theorem outL_text {l : LX.B} (h : (LN.outF l).1 = 0) : ∀ x ∈ (LN.outL l).map zl, x.2.2.length ≤ 17000 := by
  intro x hx
  obtain ⟨y, hy, rfl⟩ := List.mem_map.1 hx
  have h1 := outF_small h
  have := (outL_le hy h1).2
  show y.2.2.length ≤ 17000
  omega
end DC
/-- What Parse answers, at its end. -/
def ParE (w : World) (o : DC.Out (List DC.Nd)) (e : Ending) (w' : World) : Prop :=
  Below w.heap.size w w' ∧ ∃ v, e = .returned (.tuple #[.agg #[v], .agg #[.int .i64 (DC.wrong o).1, .int .i64 (DC.wrong o).2]]) ∧ Rdoc w' v (DC.told o)
theorem Ownn.rdz {w : World} {base : Nat} {v : Value} {ls : List LN.Ln} (h : Ownn w base v ls) : Rdz w v (ls.map DC.zl) := by
  obtain ⟨ao, cap, e, h1, h2, h3, h4⟩ := h.rd
  refine ⟨ao, cap, by rw [List.length_map]; exact e, by rw [List.length_map]; exact h1, h2, h3, fun j x hx => ?_⟩
  rw [List.getElem?_map] at hx
  obtain ⟨y, hy, rfl⟩ := Option.map_eq_some_iff.1 hx
  obtain ⟨b, off, e1, c⟩ := h4 j y hy
  exact ⟨b, off, e1, c.c0, c.c1, c.c2⟩
/-- Where Parse stands: its results' cells, its fault's. -/
structure PaS (w wr : World) (x y z f g : Value) : Prop where
  dd : DoD w wr x y z
  fl : Str wr (w.heap.size + 2) 28 #[f, g]
theorem parse_ret {tmps : Array Value} {w : World} {p q : Nat} {x y z : Value} (hp : tmps.getD 2 undef = .pointer (some ⟨p, 0, none⟩)) (hq : tmps.getD 3 undef = .pointer (some ⟨q, 0, none⟩)) (h1 : Str w p 26 #[x]) (h2 : Str w q 28 #[y, z]) :
    (results Tryz.f7 tmps).run Tryz.prog w = .ok (.tuple #[.agg #[x], .agg #[y, z]]) w := by
  have hs' : w.heap[q]? = some (.cells #[y, z] 28 (0, 0)) := h2
  have hs1 : w.heap[p]? = some (.cells #[x] 26 (0, 0)) := h1
  have l2 := run_loadVar_row (P := Tryz.prog) w q 28 28 #[y, z] (0, 0) _ hs' Tryz.underlying28 rfl fault_size
  have l1 := run_loadVar_row (P := Tryz.prog) w p 26 26 #[x] (0, 0) _ hs1 Tryz.underlying26 rfl doc_size
  have hp' : (asAddr (tmps.getD 2 undef)).run Tryz.prog w = .ok ⟨p, 0, none⟩ w := by rw [hp]; simp [asAddr]
  have hq' : (asAddr (tmps.getD 3 undef)).run Tryz.prog w = .ok ⟨q, 0, none⟩ w := by rw [hq]; simp [asAddr]
  simp only [Array.getD_eq_getD_getElem?] at hp' hq'
  simp only [results, Tryz.results7]
  simp [Sem.run_bind, Result.andThen, hp', hq', l1, l2]
theorem pars_start (w : World) : DoD w ((w.alloc (.cells #[.slice none 0 0] 26)).alloc (.cells #[.int .i64 0, .int .i64 0] 28)) (.slice none 0 0) (.int .i64 0) (.int .i64 0) := by
  have b1 := below_alloc w (.cells #[.slice none 0 0] 26)
  have b2 := below_alloc (w.alloc (.cells #[.slice none 0 0] 26)) (.cells #[.int .i64 0, .int .i64 0] 28)
  have s2 := Str.new (w.alloc (.cells #[.slice none 0 0] 26)) 28 #[.int .i64 0, .int .i64 0]
  rw [bx_size] at s2
  exact ⟨below_trans b1 b2, (Str.new w 26 #[.slice none 0 0]).below b2, s2⟩
theorem DoD.calm {w wr w' : World} {x y z : Value} (h : DoD w wr x y z) (hb : Below wr.heap.size wr w') : DoD w w' x y z := ⟨below_trans h.bl hb, h.b.below hb, h.c.below hb⟩

/-- Another fault's variable turns. -/
theorem DoD.turn {w wr : World} {x y z f g : Value} {q : Nat} (h : DoD w wr x y z) (_hf : Str wr q 28 #[f, g]) (hq : w.heap.size + 2 ≤ q) (f' g' : Value) :
    DoD w ((wr.setCell ⟨q, 0, none⟩ f').setCell ⟨q, 1, none⟩ g') x y z ∧ Kb wr ((wr.setCell ⟨q, 0, none⟩ f').setCell ⟨q, 1, none⟩ g') (some q) none := by
  have kb := (Kb.set wr q 0 f' none).trans (Kb.set _ q 1 g' none)
  refine ⟨⟨h.bl.trans (kb.below h.bl.size (fun g hg => by have := Option.some.inj hg; omega) (by simp)), h.b.kb kb (by simp; omega) (by simp), h.c.kb kb (by simp; omega) (by simp)⟩, kb⟩
set_option maxRecDepth 10000 in
set_option maxHeartbeats 8000000 in
theorem parse_any (v : Value) (bs : List UInt8) (w : World) (hr : Rdv w v (bv bs)) (hm : MaxIs w) :
    Calls Tryz.prog 7 #[v] w (ParE w (DC.parse bs)) := by
  have HD0 := Lib.hid (pars_start w)
  have HLI := Lib.hid (lines_any v bs _ (hr.below HD0.out.bl) (hm.below HD0.out.bl))
  have HM := Lib.hid hm
  obtain ⟨A, HA⟩ : ∃ A, Hid (A = DC.parse bs) := ⟨_, Lib.hid rfl⟩
  rw [show DC.parse bs = A from HA.out.symm]
  obtain ⟨K, hK⟩ : ∃ K, (LN.outF bs).1 = K := ⟨_, rfl⟩
  obtain ⟨L, hL⟩ : ∃ L, (LN.outF bs).2 = L := ⟨_, rfl⟩
  have HK := Lib.hid hK
  have HL := Lib.hid hL
  obtain ⟨ls, hls⟩ : ∃ ls, LN.outL bs = ls := ⟨_, rfl⟩
  have HLS := Lib.hid hls
  have HLO := Lib.hid (fun (u : World) (e : Ending) (w' : World) (h : LinE u bs e w') => (show ∃ x, e = .returned (.tuple #[x, .agg #[.int .i64 (K : Int), .int .i64 (L : Int)]]) ∧ Ownn w' u.heap.size x ls ∧ Below u.heap.size u w' by rw [← hK, ← hL, ← hls]; exact h))
  clear hr hm hK hL hls
  go_enter Tryz.func7, Tryz.ntmps7
  go_wp2_with fail
  refine HLI.out.mono ?_
  rintro e w1 he
  obtain ⟨x, rfl, ho, hb⟩ := HLO.out _ _ _ he
  clear he
  obtain ⟨q, hq⟩ : ∃ q, w1.heap.size = q := ⟨_, rfl⟩
  have BX := below_alloc w1 (.cells #[.int .i64 (K : Int), .int .i64 (L : Int)] 28)
  have HD1 := Lib.hid ((HD0.out.calm hb).calm BX)
  have HF1 : Hid (Str (w1.alloc (.cells #[.int .i64 (K : Int), .int .i64 (L : Int)] 28)) q 28 #[.int .i64 (K : Int), .int .i64 (L : Int)]) := by
    rw [← hq]; exact Lib.hid (Str.new w1 _ _)
  have HZ1 := Lib.hid ((ho.below BX).rdz)
  have HM1 := Lib.hid (HM.out.below HD1.out.bl)
  have HQ2 : Hid (w.heap.size + 2 ≤ q) := by
    show _ ≤ _
    have := (HD0.out.calm hb).c.lt
    omega
  clear ho hb BX HLI HLO HD0
  by_cases hk : K = 0
  · have E0 := Lib.hid (show A = if (LX.all (ls.map DC.zl)).1.1 ≠ 0 then .bad (LX.all (ls.map DC.zl)).1.1 (LX.all (ls.map DC.zl)).2 else DC.doc (LX.all (ls.map DC.zl)).1.2 by rw [HA.out, DC.parse, if_neg (by rw [HK.out]; simpa using hk), HLS.out])
    have h0 : (K : Int) = 0 := by omega
    have hK0 : (LN.outF bs).1 = 0 := by rw [HK.out]; exact hk
    have HALL := Lib.hid (lall_any x (ls.map DC.zl) _ HZ1.out (by rw [← HLS.out]; exact DC.outL_text hK0) (by rw [← HLS.out]; exact Nat.le_trans (DC.outL_wt bs) (by have := DC.outF_small hK0; omega)) HM1.out)
    have HSH := Lib.hid (LX.all_short (ls.map DC.zl))
    obtain ⟨a, ha⟩ : ∃ a, (LX.all (ls.map DC.zl)).1.1 = a := ⟨_, rfl⟩
    obtain ⟨b, hb⟩ : ∃ b, (LX.all (ls.map DC.zl)).2 = b := ⟨_, rfl⟩
    obtain ⟨PP, hP⟩ : ∃ PP, (LX.all (ls.map DC.zl)).1.2 = PP := ⟨_, rfl⟩
    have HAO := Lib.hid (fun (u : World) (e : Ending) (w' : World) (h : AllE u (ls.map DC.zl) e w') => (show ∃ v3, e = .returned (.tuple #[v3, .agg #[.int .i64 a, .int .i64 b]]) ∧ Ownp w' u.heap.size v3 PP ∧ Below u.heap.size u w' by
      obtain ⟨h1, v3, h2, h3⟩ := h
      rw [ha, hb] at h2
      rw [hP] at h3
      exact ⟨v3, h2, h3, h1⟩))
    rw [ha, hb, hP] at E0
    rw [hP] at HSH
    clear ha hb hP hK0 hk HLS HK HL HA HZ1
    simp only [h0] at HD1 HF1 HM1 HALL ⊢
    clear h0
    have hzz : ((0 : Int) != 0) = false := rfl
    go_upto_region 2 with (rw [hq])
    generalize w1.alloc (.cells #[.int .i64 0, .int .i64 (L : Int)] 28) = w2 at *
    have r0 : w2.cell? ⟨q, 0, none⟩ = some (.int .i64 0) := HF1.out.cell 0
    have ARM : True := trivial
    by_cases ha : a = 0
    · subst ha
      have E := Lib.hid (show A = DC.doc PP by rw [E0.out, if_neg (by simp)])
      clear E0 ARM
      go_upto_region 7 with (go_at_call 19; refine HALL.out.mono ?_; rintro e w3 he; obtain ⟨v3, rfl, ho3, hb3⟩ := HAO.out _ _ _ he; have HP3 := Lib.hid ho3; have HB3 := Lib.hid hb3; have HD3 := Lib.hid (HD1.out.calm hb3); have HF3 := Lib.hid (HF1.out.below hb3); have s0 : w3.cell? ⟨q, 0, none⟩ = some (.int .i64 0) := HF3.out.cell 0; have s1 : w3.cell? ⟨q, 1, none⟩ = some (.int .i64 (L : Int)) := HF3.out.cell 1; have sf0 := HF3.out.frozen 0; have sf1 := HF3.out.frozen 1; clear he ho3 hb3)
      have HF4 := Lib.hid (HF3.out.two' (.int .i64 0) (.int .i64 b))
      have hd4 := HD3.out.turn HF3.out HQ2.out (.int .i64 0) (.int .i64 b)
      have HD4 := Lib.hid hd4.1
      have HP4 := Lib.hid (HP3.out.kb hd4.2 (HP3.out.off HF3.out (by decide)) no_or)
      clear hd4
      generalize World.setCell (World.setCell _ _ _) _ _ = w4 at *
      clear s0 s1 sf0 sf1 r0
      have HOF := Lib.hid (of_any v3 PP w4 HP4.out.rd (fun x hx => by have := HSH.out x hx; omega))
      go_wp2_with fail
      refine HOF.out.mono ?_
      rintro e w5 ⟨hb5, v5, S5, rfl, hn5⟩
      have HD5 := Lib.hid (HD4.out.calm hb5)
      obtain ⟨a5, c5, rfl⟩ := hn5.slice
      obtain ⟨F, hFF⟩ : ∃ F, (DC.fault PP).1 = F := ⟨_, rfl⟩
      obtain ⟨G, hGG⟩ : ∃ G, (DC.fault PP).2 = G := ⟨_, rfl⟩
      have hz := HD5.out.laid (.slice a5 (DC.nodes PP).length c5) (.int .i64 F) (.int .i64 G)
      have d0 : w5.cell? ⟨w.heap.size, 0, none⟩ = some (.slice none 0 0) := HD5.out.b.cell 0
      have df := HD5.out.b.frozen 0
      have sc : Str (w5.setCell ⟨w.heap.size, 0, none⟩ (.slice a5 (DC.nodes PP).length c5)) (w.heap.size + 1) 28 #[.int .i64 0, .int .i64 0] := HD5.out.c.kb (Kb.set w5 w.heap.size 0 _ none) (by simp) (by simp)
      have c0 : (w5.setCell ⟨w.heap.size, 0, none⟩ (.slice a5 (DC.nodes PP).length c5)).cell? ⟨w.heap.size + 1, 0, none⟩ = some (.int .i64 0) := sc.cell 0
      have c1 : (w5.setCell ⟨w.heap.size, 0, none⟩ (.slice a5 (DC.nodes PP).length c5)).cell? ⟨w.heap.size + 1, 1, none⟩ = some (.int .i64 0) := sc.cell 1
      have cf0 := sc.frozen 0
      have cf1 := sc.frozen 1
      have HR5 := Lib.hid (hn5.kb hz.2 (Far.str HD5.out.b (by decide) (by decide)) (Far.str HD5.out.c (by decide) (by decide)) (hn5.off HD5.out.b (by decide)) (hn5.off HD5.out.c (by decide))).rd
      have HZ := Lib.hid hz.1
      have HFG := Lib.hid (And.intro hFF hGG)
      rw [hFF, hGG]
      obtain ⟨NL, hNL⟩ : ∃ NL, (DC.nodes PP).length = NL := ⟨_, rfl⟩
      rw [hNL] at HZ HR5 c0 c1 cf0 cf1 ⊢
      clear hb5 hn5 hz sc hFF hGG hNL
      go_wp2
      try rw [Exit.noGoto_ret]
      (try simp only [Exit.inBlock, Exit.then])
      refine bodyPost_ret (parse_ret rfl rfl HZ.out.b HZ.out.c) rfl ?_
      rw [E.out]
      refine ⟨HZ.out.bl, _, ?_, HR5.out⟩
      obtain ⟨h1, h2⟩ := HFG.out
      rw [← h1, ← h2]
      unfold DC.fault DC.wrong
      cases DC.doc PP <;> rfl
    · have E := Lib.hid (show A = .bad a b by rw [E0.out, if_pos ha])
      have hab : (a != 0) = true := by simpa using ha
      clear E0 ARM
      go_upto_region 6 with (go_at_call 19; refine HALL.out.mono ?_; rintro e w3 he; obtain ⟨v3, rfl, ho3, hb3⟩ := HAO.out _ _ _ he; have HP3 := Lib.hid ho3; have HB3 := Lib.hid hb3; have HD3 := Lib.hid (HD1.out.calm hb3); have HF3 := Lib.hid (HF1.out.below hb3); have s0 : w3.cell? ⟨q, 0, none⟩ = some (.int .i64 0) := HF3.out.cell 0; have s1 : w3.cell? ⟨q, 1, none⟩ = some (.int .i64 (L : Int)) := HF3.out.cell 1; have sf0 := HF3.out.frozen 0; have sf1 := HF3.out.frozen 1; clear he ho3 hb3)
      have HF4 := Lib.hid (HF3.out.two' (.int .i64 a) (.int .i64 b))
      have HD4 := Lib.hid (HD3.out.turn HF3.out HQ2.out (.int .i64 a) (.int .i64 b)).1
      generalize World.setCell (World.setCell _ _ _) _ _ = w4 at *
      clear s0 s1 sf0 sf1 r0
      have HQ := Lib.hid (HD4.out.laid (.slice none 0 0) (.int .i64 a) (.int .i64 b))
      have r0 : w4.cell? ⟨q, 0, none⟩ = some (.int .i64 a) := HF4.out.cell 0
      have r1 : w4.cell? ⟨q, 1, none⟩ = some (.int .i64 b) := HF4.out.cell 1
      have d0 : w4.cell? ⟨w.heap.size, 0, none⟩ = some (.slice none 0 0) := HD4.out.b.cell 0
      have df := HD4.out.b.frozen 0
      have c0 : w4.cell? ⟨w.heap.size + 1, 0, none⟩ = some (.int .i64 0) := HD4.out.c.cell 0
      have c1 : w4.cell? ⟨w.heap.size + 1, 1, none⟩ = some (.int .i64 0) := HD4.out.c.cell 1
      have cf0 := HD4.out.c.frozen 0
      have cf1 := HD4.out.c.frozen 1
      have kb := Kb.set w4 w.heap.size 0 (.slice none 0 0) none
      have hqd : q ≠ w.heap.size := HF4.out.apart_str HD4.out.b (by decide)
      have S1 := HF4.out.kb kb (fun e => hqd (Option.some.inj e)) (by simp)
      have S2 : Str (w4.setCell ⟨w.heap.size, 0, none⟩ (.slice none 0 0)) (w.heap.size + 1) 28 #[.int .i64 0, .int .i64 0] := HD4.out.c.kb kb (by simp) (by simp)
      have r0' : (w4.setCell ⟨w.heap.size, 0, none⟩ (.slice none 0 0)).cell? ⟨q, 0, none⟩ = some (.int .i64 a) := S1.cell 0
      have r1' : (w4.setCell ⟨w.heap.size, 0, none⟩ (.slice none 0 0)).cell? ⟨q, 1, none⟩ = some (.int .i64 b) := S1.cell 1
      have c0' : (w4.setCell ⟨w.heap.size, 0, none⟩ (.slice none 0 0)).cell? ⟨w.heap.size + 1, 0, none⟩ = some (.int .i64 0) := S2.cell 0
      have c1' : (w4.setCell ⟨w.heap.size, 0, none⟩ (.slice none 0 0)).cell? ⟨w.heap.size + 1, 1, none⟩ = some (.int .i64 0) := S2.cell 1
      have cf0' := S2.frozen 0
      have cf1' := S2.frozen 1
      clear kb S1 S2 hqd
      go_wp2
      go_region
      go_wp2
      try rw [Exit.noGoto_ret]
      (try simp only [Exit.inBlock, Exit.then])
      refine bodyPost_ret (parse_ret rfl rfl (HQ.out.1.b.below (below_drew _)) (HQ.out.1.c.below (below_drew _))) rfl ?_
      rw [E.out]
      exact ⟨below_trans HQ.out.1.bl (below_drew _), _, rfl, Rdoc.nil _⟩
  · have E := Lib.hid (show A = .bad (K : Int) (L : Int) by rw [HA.out, DC.parse, if_pos (by rw [HK.out]; exact hk), HK.out, HL.out])
    have hkb : ((K : Int) != 0) = true := by simp; omega
    go_upto_region 2 with (rw [hq])
    generalize w1.alloc (.cells #[.int .i64 (K : Int), .int .i64 (L : Int)] 28) = w2 at *
    have HQ := Lib.hid (HD1.out.laid (.slice none 0 0) (.int .i64 (K : Int)) (.int .i64 (L : Int)))
    have r0 : w2.cell? ⟨q, 0, none⟩ = some (.int .i64 (K : Int)) := HF1.out.cell 0
    have r1 : w2.cell? ⟨q, 1, none⟩ = some (.int .i64 (L : Int)) := HF1.out.cell 1
    have d0 : w2.cell? ⟨w.heap.size, 0, none⟩ = some (.slice none 0 0) := HD1.out.b.cell 0
    have df := HD1.out.b.frozen 0
    have c0 : w2.cell? ⟨w.heap.size + 1, 0, none⟩ = some (.int .i64 0) := HD1.out.c.cell 0
    have c1 : w2.cell? ⟨w.heap.size + 1, 1, none⟩ = some (.int .i64 0) := HD1.out.c.cell 1
    have cf0 := HD1.out.c.frozen 0
    have cf1 := HD1.out.c.frozen 1
    have kb := Kb.set w2 w.heap.size 0 (.slice none 0 0) none
    have hqd : q ≠ w.heap.size := HF1.out.apart_str HD1.out.b (by decide)
    have S1 := HF1.out.kb kb (fun e => hqd (Option.some.inj e)) (by simp)
    have S2 : Str (w2.setCell ⟨w.heap.size, 0, none⟩ (.slice none 0 0)) (w.heap.size + 1) 28 #[.int .i64 0, .int .i64 0] := HD1.out.c.kb kb (by simp) (by simp)
    have r0' : (w2.setCell ⟨w.heap.size, 0, none⟩ (.slice none 0 0)).cell? ⟨q, 0, none⟩ = some (.int .i64 (K : Int)) := S1.cell 0
    have r1' : (w2.setCell ⟨w.heap.size, 0, none⟩ (.slice none 0 0)).cell? ⟨q, 1, none⟩ = some (.int .i64 (L : Int)) := S1.cell 1
    have c0' : (w2.setCell ⟨w.heap.size, 0, none⟩ (.slice none 0 0)).cell? ⟨w.heap.size + 1, 0, none⟩ = some (.int .i64 0) := S2.cell 0
    have c1' : (w2.setCell ⟨w.heap.size, 0, none⟩ (.slice none 0 0)).cell? ⟨w.heap.size + 1, 1, none⟩ = some (.int .i64 0) := S2.cell 1
    have cf0' := S2.frozen 0
    have cf1' := S2.frozen 1
    clear kb S1 S2 hqd
    go_wp2
    go_region
    go_wp2
    try rw [Exit.noGoto_ret]
    (try simp only [Exit.inBlock, Exit.then])
    refine bodyPost_ret (parse_ret rfl rfl (HQ.out.1.b.below (below_drew _)) (HQ.out.1.c.below (below_drew _))) rfl ?_
    rw [E.out]
    exact ⟨below_trans HQ.out.1.bl (below_drew _), _, rfl, Rdoc.nil _⟩
end Go.Proofs.YthhngkoopaolkaaGreatDoor
