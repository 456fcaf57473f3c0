/- A part of the proof. -/
import Derived.Test.YtgfhabofhefaaaaGreatDoorSB07
import Derived.Test.YtgfhabofhefaaaaGreatDoorSB26
import Derived.Test.YtgfhabofhefaaaaGreatDoorSB25
namespace Go.Proofs.YtgfhabofhefaaaaGreatDoor
open Go.RowKit
end Go.Proofs.YtgfhabofhefaaaaGreatDoor
namespace Go.Proofs.YtgfhabofhefaaaaGreatDoor
open Go.RowKit
end Go.Proofs.YtgfhabofhefaaaaGreatDoor
namespace Go.Proofs.YtgfhabofhefaaaaGreatDoor
open Go.RowKit
theorem psz_nil : TX.psz [] = none := psz_a rfl
set_option maxHeartbeats 1000000 in
theorem read_nil (w : World) :
    Calls Tryz.prog 80 #[.string ⟨([] : List UInt8).toArray⟩] w fun e w' => e = .returned (.tuple #[.float .f64 0, .bool false]) ∧ w = w' := by
  go_enter Tryz.func80, Tryz.ntmps80
  go_wp2
  go_loop [4, 5] (fun v u => v = .int .i64 0 ∧ u = .int .i64 0) (fun _ _ => 0)
  case atStart => exact ⟨rfl, rfl⟩
  case round =>
    obtain ⟨rfl, rfl⟩ := hrel
    go_wp2
    go_ret2
    exact ⟨rfl, rfl⟩
theorem k_nan1 : parF [110, 97, 110] = 9221120237041090561 := rfl
theorem k_nan2 : parOk [110, 97, 110] = true := rfl
theorem k_inf1 : parF [105, 110, 102] = 9218868437227405312 := rfl
theorem k_inf2 : parOk [105, 110, 102] = true := rfl
theorem k_ninf1 : parF [45, 105, 110, 102] = 18442240474082181120 := rfl
theorem k_ninf2 : parOk [45, 105, 110, 102] = true := rfl
set_option maxRecDepth 10000 in
set_option maxHeartbeats 2000000 in
theorem read_any (l : List UInt8) (hl : l.length ≤ maxLen) (w : World) :
    Calls Tryz.prog 80 #[.string ⟨l.toArray⟩] w fun e w' => e = .returned (.tuple #[.float .f64 (parF l), .bool (parOk l)]) ∧ w = w' := by
  by_cases n1 : l = [110, 97, 110]
  · subst n1
    clear hl
    go_enter Tryz.func80, Tryz.ntmps80
    go_wp2_with (go_at_call 110; refine (mnan_any _).mono ?_; rintro e w' ⟨rfl, rfl⟩)
    go_ret2
    exact ret_fb (P := w = w) k_nan1.symm k_nan2.symm rfl
  · by_cases n2 : l = [105, 110, 102]
    · subst n2
      clear hl n1
      go_enter Tryz.func80, Tryz.ntmps80
      go_wp2_with (go_at_call 111; refine (minf_any _ _).mono ?_; rintro e w' ⟨rfl, rfl⟩)
      go_ret2
      exact ret_fb (P := w = w) k_inf1.symm k_inf2.symm rfl
    · by_cases n3 : l = [45, 105, 110, 102]
      · subst n3
        clear hl n1 n2
        go_enter Tryz.func80, Tryz.ntmps80
        go_wp2_with (go_at_call 111; refine (minf_any _ _).mono ?_; rintro e w' ⟨rfl, rfl⟩)
        go_ret2
        exact ret_fb (P := w = w) k_ninf1.symm k_ninf2.symm rfl
      · have m1 := str_neq n1; have m2 := str_neq n2; have m3 := str_neq n3
        by_cases hm : ∃ t, l = 45 :: t
        · obtain ⟨t, ht⟩ := hm
          obtain ⟨p1, p2⟩ : parF l = (if pOk t then Ieee.double.word true (pF t) else 0) ∧ parOk l = pOk t := by
            have := par_minus (t := t) (by rw [← ht]; exact n3)
            rw [← ht] at this; exact this
          refine read_core1 l t m1 m2 m3 n1 n2 n3 ht hl ?_ ?_ ?_ w
          · have h0 : 0 < (⟨l.toArray⟩ : ByteArray).size := by rw [str_size, ht]; simp
            refine ⟨h0, ?_⟩
            have e : ((⟨l.toArray⟩ : ByteArray)[0]'h0) = 45 := at_l (pre := []) (t := l) rfl (j := 0) (c := 45) (by rw [ht]; rfl) rfl h0
            rw [e]; rfl
          · intro h
            have h1 : pOk t = false := by unfold pOk; rw [h]; rfl
            rw [p1, p2, h1]; exact ⟨rfl, rfl⟩
          · intro N K h
            have h1 : pOk t = true := by unfold pOk; rw [h]; rfl
            have h2 : pF t = TX.qw N K := by unfold pF; rw [h]
            rw [p1, p2, h1, h2]; exact ⟨rfl, rfl⟩
        · have hm' : ∀ t, l ≠ 45 :: t := fun t e => hm ⟨t, e⟩
          obtain ⟨p1, p2⟩ := par_plain n1 n2 hm'
          by_cases hnil : l = []
          · rw [hnil] at p1 p2 ⊢
            refine (read_nil w).mono ?_
            rintro e w' ⟨rfl, rfl⟩
            have h1 : pOk [] = false := by unfold pOk; rw [psz_nil]; rfl
            rw [p1, p2, pF_zero h1, h1]
            exact ⟨rfl, rfl⟩
          · obtain ⟨c0, l0, hL⟩ := List.exists_cons_of_ne_nil hnil
            refine read_core0 l l m1 m2 m3 n1 n2 n3 rfl hl ?_ ?_ ?_ w
            · have h0 : 0 < (⟨l.toArray⟩ : ByteArray).size := by rw [str_size, hL]; simp
              refine ⟨h0, ?_⟩
              have e : ((⟨l.toArray⟩ : ByteArray)[0]'h0) = c0 := at_l (pre := []) (t := l) rfl (j := 0) (c := c0) (by rw [hL]; rfl) rfl h0
              rw [e]
              have hc : c0 ≠ 45 := fun e => hm' l0 (by rw [hL, e])
              exact (byte_eq c0 45).trans (by simpa using hc)
            · intro h
              have h1 : pOk l = false := by unfold pOk; rw [h]; rfl
              rw [p1, p2, pF_zero h1, h1]; exact ⟨rfl, rfl⟩
            · intro N K h
              have h1 : pOk l = true := by unfold pOk; rw [h]; rfl
              have h2 : pF l = TX.qw N K := by unfold pF; rw [h]
              rw [p1, p2, h1, h2]; exact ⟨rfl, rfl⟩
end Go.Proofs.YtgfhabofhefaaaaGreatDoor
namespace Go.Proofs.YtgfhabofhefaaaaGreatDoor
open Go.RowKit
theorem rule_size6 : (Tryz.prog.info? 90).map (·.size) = some 6 := by kernel_rfl
theorem rule_ret {tmps : Array Value} {w : World} {p : Nat} {cs : Array Value} (hp : tmps.getD 2 undef = .pointer (some ⟨p, 0, none⟩)) (h1 : Str w p 90 cs) (h4 : cs.size = 6) :
    (results Tryz.f51 tmps).run Tryz.prog w = .ok (.agg cs) w := by
  have hs1 : w.heap[p]? = some (.cells cs 90 (0, 0)) := h1
  have l1 := run_loadVar_row (P := Tryz.prog) w p 90 90 cs (0, 0) _ hs1 Tryz.underlying90 rfl (by rw [h4]; exact rule_size6)
  have hp' : (asAddr (tmps.getD 2 undef)).run Tryz.prog w = .ok ⟨p, 0, none⟩ w := by rw [hp]; simp [asAddr]
  simp only [Array.getD_eq_getD_getElem?] at hp'
  simp only [results, Tryz.results51]
  simp [Sem.run_bind, Result.andThen, hp', l1]
def rz : Array Value := #[.string ⟨#[]⟩, .int .i64 0, .int .i64 0, .float .f64 0, .bool false, .bool false]
structure Rs (w0 ws w : World) (t R b : Nat) (lv : Value) (zs : List Int) (dv cs : Array Value) : Prop where
  tp : Tp w0 w t lv zs
  kb : Kb ws w (some t) none
  rs : Str w R 90 dv
  br : Str w b 90 cs
  hR : ws.heap.size ≤ R
  hb : ws.heap.size ≤ b
  ne : b ≠ R
  hz : w0.heap.size ≤ ws.heap.size
section
variable {w0 ws w w' : World} {t R b : Nat} {lv : Value} {zs : List Int} {dv cs : Array Value}
theorem Tp.ne {T : TypeId} {p : Nat} {xs : Array Value} (h : Tp w0 w t lv zs) (hs : Str w p T xs) (hne : T ≠ 63) : p ≠ t := by
  obtain ⟨k, _, hst⟩ := h.st
  exact hs.apart_str hst hne
theorem Rs.next (h : Rs w0 ws w t R b lv zs dv cs) (ht : Tp w0 w' t lv zs) (hk : Kb w w' (some t) none) : Rs w0 ws w' t R b lv zs dv cs :=
  ⟨ht, h.kb.trans hk, h.rs.kb hk (fun e => h.tp.ne h.rs (by decide) (Option.some.inj e)) (by simp), h.br.kb hk (fun e => h.tp.ne h.br (by decide) (Option.some.inj e)) (by simp), h.hR, h.hb, h.ne, h.hz⟩
theorem Rs.calm (h : Rs w0 ws w t R b lv zs dv cs) (hb : Below w.heap.size w w') : Rs w0 ws w' t R b lv zs dv cs :=
  ⟨h.tp.calm hb, h.kb.trans (Kb.of_below hb _ _), h.rs.below hb, h.br.below hb, h.hR, h.hb, h.ne, h.hz⟩
theorem Rs.set (h : Rs w0 ws w t R b lv zs dv cs) (i : Nat) (u : Value) : Rs w0 ws (w.setCell ⟨b, i, none⟩ u) t R b lv zs dv (cs.setIfInBounds i u) := by
  have kb := Kb.set w b i u none
  have h1 : some t ≠ some b := fun e => h.tp.ne h.br (by decide) (Option.some.inj e).symm
  exact ⟨h.tp.kb kb h1 (by simp) (fun g hg => by have := Option.some.inj hg; have := h.hb; have := h.hz; omega) (by simp), h.kb.trans_new (q' := some b) ⟨kb.os, kb.tape, kb.output, kb.size, fun g hg _ h3 => kb.block g hg h3 (by simp)⟩ (fun g hg => .inr (by have := Option.some.inj hg; have := h.hb; omega)), h.rs.kb kb (fun e => h.ne (Option.some.inj e).symm) (by simp), h.br.set i u, h.hR, h.hb, h.ne, h.hz⟩
theorem Rs.res {a0 a1 a2 a3 a4 a5 : Value} (h : Rs w0 ws w t R b lv zs rz #[a0, a1, a2, a3, a4, a5]) :
    ∀ w9, w9 = (((((w.setCell ⟨R, 0, none⟩ a0).setCell ⟨R, 1, none⟩ a1).setCell ⟨R, 2, none⟩ a2).setCell ⟨R, 3, none⟩ a3).setCell ⟨R, 4, none⟩ a4).setCell ⟨R, 5, none⟩ a5 → Str w9 R 90 #[a0, a1, a2, a3, a4, a5] ∧ Tp w0 w9 t lv zs ∧ Kb ws w9 (some t) none := by
  rintro w9 rfl
  have kb := ((((((Kb.set w R 0 a0 none).trans (Kb.set _ R 1 a1 none)).trans (Kb.set _ R 2 a2 none)).trans (Kb.set _ R 3 a3 none)).trans (Kb.set _ R 4 a4 none)).trans (Kb.set _ R 5 a5 none))
  have h1 : some t ≠ some R := fun e => h.tp.ne h.rs (by decide) (Option.some.inj e).symm
  have s := (((((h.rs.set 0 a0).set 1 a1).set 2 a2).set 3 a3).set 4 a4).set 5 a5
  refine ⟨by simpa [rz] using s, h.tp.kb kb h1 (by simp) (fun g hg => by have := Option.some.inj hg; have := h.hR; have := h.hz; omega) (by simp), ?_⟩
  exact h.kb.trans_new (q' := some R) ⟨kb.os, kb.tape, kb.output, kb.size, fun g hg _ h3 => kb.block g hg h3 (by simp)⟩ (fun g hg => .inr (by have := Option.some.inj hg; have := h.hR; omega))
end
def RuE (w0 w : World) (t : Nat) (lv : Value) (zs : List Int) (e : Ending) (w' : World) : Prop := (∃ r : CF.Ru, CF.RuM r ∧ e = .returned (.agg (ruA r))) ∧ Tp w0 w' t lv zs ∧ Kb w w' (some t) none
theorem rs_start {w0 w w2 : World} {t : Nat} {lv : Value} {zs : List Int} (hz : w0.heap.size ≤ w.heap.size) (h2 : Tp w0 w2 t lv zs) (hk : Kb (w.alloc (.cells rz 90)) w2 (some t) none) (h : Tp w0 w t lv zs) (sh : Bool) :
    Rs w0 w (w2.alloc (.cells #[.string ⟨#[]⟩, .int .i64 0, .int .i64 0, .float .f64 0, .bool sh, .bool false] 90)) t w.heap.size w2.heap.size lv zs rz #[.string ⟨#[]⟩, .int .i64 0, .int .i64 0, .float .f64 0, .bool sh, .bool false] := by
  have b1 := below_alloc w (.cells rz 90)
  have s1 := Str.new w 90 rz
  have b2 := below_alloc w2 (.cells #[.string ⟨#[]⟩, .int .i64 0, .int .i64 0, .float .f64 0, .bool sh, .bool false] 90)
  have hs := hk.size
  rw [bx_size] at hs
  have s2 := s1.kb hk (fun e => (h.calm b1).ne s1 (by decide) (Option.some.inj e)) (by simp)
  exact ⟨h2.calm b2, ((Kb.of_below b1 _ _).trans hk).trans (Kb.of_below b2 _ _), s2.below b2, Str.new w2 _ _, Nat.le_refl _, by omega, by omega, hz⟩
set_option maxRecDepth 10000 in
set_option maxHeartbeats 32000000 in
theorem mrule_any {w0 w : World} {t : Nat} {lv : Value} {zs : List Int} (h : Tp w0 w t lv zs) :
    Calls Tryz.prog 51 #[.pointer (some ⟨t, 0, none⟩)] w (RuE w0 w t lv zs) := by
  have HT := Lib.hid h
  have B1 := below_alloc w (.cells rz 90)
  have HN1 := Lib.hid (mnext_any (h.calm B1) 6 (by decide) (by decide))
  have hz : w0.heap.size ≤ w.heap.size := h.bl.size
  have HST := Lib.hid (fun (w2 : World) (h2 : Tp w0 w2 t lv zs) (hk : Kb (w.alloc (.cells rz 90)) w2 (some t) none) (sh : Bool) => rs_start hz h2 hk h sh)
  unfold rz at HN1 HST
  rw [show ((6 : Nat) : Int) = 6 from rfl] at HN1
  clear h B1 hz
  go_enter Tryz.func51, Tryz.ntmps51
  go_upto_region 1 with fail
  go_cut [3] (fun s3 wx => ∃ (b : Nat) (sh : Bool), s3 = .pointer (some ⟨b, 0, none⟩) ∧ Hid (Rs w0 w wx t w.heap.size b lv zs rz #[.string ⟨#[]⟩, .int .i64 0, .int .i64 0, .float .f64 0, .bool sh, .bool false]))
  case first =>
    go_wp2_with (go_at_call 25; refine HN1.out.mono ?_; rintro e w2 ⟨⟨r, hr, rfl⟩, ht, hk⟩; have HS2 := Lib.hid (HST.out w2 ht hk); clear ht hk)
    go_meet
    exact ⟨_, _, rfl, Lib.hid (HS2.out _)⟩
  case rest =>
    obtain ⟨b, sh, rfl, HS⟩ := hcut
    clear HN1 HST
    have HN2 := Lib.hid (mnext_any HS.out.tp 8 (by decide) (by decide))
    rw [show ((8 : Nat) : Int) = 8 from rfl] at HN2
    go_upto_if 10 with (go_at_call 25; refine HN2.out.mono ?_; rintro e w2 ⟨⟨r, hr, rfl⟩, ht, hk⟩; have HS2 := Lib.hid (HS.out.next ht hk); clear ht hk)
    clear HS HN2
    go_cut [] (fun wx => ∃ nm : LX.B, Hid (nm = [] ∨ nm ∈ CF.mNames) ∧ Hid (Rs w0 w wx t w.heap.size b lv zs rz #[.string ⟨nm.toArray⟩, .int .i64 0, .int .i64 0, .float .f64 0, .bool sh, .bool false]))
    case first =>
      by_cases hr0 : r = 0
      · subst hr0
        have B3 := below_alloc w2 (.cells (sv CF.mNames).toArray 9)
        have HS3 := Lib.hid (HS2.out.calm B3)
        have HO3 := Lib.hid (mof_any HS3.out.tp (lit_sv (w := w2) CF.mNames (by decide)) (by decide) (by decide))
        clear B3
        go_wp2_with (go_at_call 49; refine HO3.out.mono ?_; rintro e w4 ⟨⟨s, hs, rfl⟩, ht, hk⟩; have HS4 := Lib.hid (HS3.out.next ht hk); have HM := Lib.hid hs; have c0 := HS4.out.br.cell 0; have f0 := HS4.out.br.frozen 0; simp only [List.getElem?_toArray, List.getElem?_cons_zero] at c0; clear ht hk hs)
        go_meet
        have hs5 := HS4.out.set 0 (.string ⟨s.toArray⟩)
        simp only [List.setIfInBounds_toArray, List.set_cons_zero] at hs5
        exact ⟨s, Lib.hid (.inr HM.out), Lib.hid hs5⟩
      · have hrb : ((r : Int) == 0) = false := by simpa using hr0
        have hrc : (r == 0) = false := by simpa using hr0
        go_wp2_with fail
        go_meet
        exact ⟨[], Lib.hid (.inl rfl), HS2⟩
    case rest =>
      obtain ⟨nm, HNM, HS⟩ := hcut
      clear HS2 hr
      have HN2 := Lib.hid (mnext_any HS.out.tp 8 (by decide) (by decide))
      rw [show ((8 : Nat) : Int) = 8 from rfl] at HN2
      go_upto_if 17 with (go_at_call 25; refine HN2.out.mono ?_; rintro e w3 ⟨⟨r, hr, rfl⟩, ht, hk⟩; have HS2 := Lib.hid (HS.out.next ht hk); clear ht hk)
      clear HS HN2
      by_cases hr0 : r = 0
      · subst hr0
        have c5 : w3.cell? ⟨b, 5, none⟩ = some (.bool false) := HS2.out.br.cell 5
        have f5 := HS2.out.br.frozen 5
        have hs5 := HS2.out.set 5 (.bool true)
        simp only [List.setIfInBounds_toArray, List.set_cons_zero, List.set_cons_succ] at hs5
        have HS5 := Lib.hid hs5
        clear hs5 hr
        go_upto_region 6 with fail
        generalize w3.setCell ⟨b, 5, none⟩ (.bool true) = w5 at *
        clear c5 f5 HS2
        have q0 : w5.cell? ⟨b, 0, none⟩ = some (.string ⟨nm.toArray⟩) := HS5.out.br.cell 0
        have q1 : w5.cell? ⟨b, 1, none⟩ = some (.int .i64 0) := HS5.out.br.cell 1
        have q2 : w5.cell? ⟨b, 2, none⟩ = some (.int .i64 0) := HS5.out.br.cell 2
        have q3 : w5.cell? ⟨b, 3, none⟩ = some (.float .f64 0) := HS5.out.br.cell 3
        have q4 : w5.cell? ⟨b, 4, none⟩ = some (.bool sh) := HS5.out.br.cell 4
        have q5 : w5.cell? ⟨b, 5, none⟩ = some (.bool true) := HS5.out.br.cell 5
        have z0 : w5.cell? ⟨w.heap.size, 0, none⟩ = some (.string ⟨#[]⟩) := HS5.out.rs.cell 0
        have y0 := HS5.out.rs.frozen 0
        have z1 : w5.cell? ⟨w.heap.size, 1, none⟩ = some (.int .i64 0) := HS5.out.rs.cell 1
        have y1 := HS5.out.rs.frozen 1
        have z2 : w5.cell? ⟨w.heap.size, 2, none⟩ = some (.int .i64 0) := HS5.out.rs.cell 2
        have y2 := HS5.out.rs.frozen 2
        have z3 : w5.cell? ⟨w.heap.size, 3, none⟩ = some (.float .f64 0) := HS5.out.rs.cell 3
        have y3 := HS5.out.rs.frozen 3
        have z4 : w5.cell? ⟨w.heap.size, 4, none⟩ = some (.bool false) := HS5.out.rs.cell 4
        have y4 := HS5.out.rs.frozen 4
        have z5 : w5.cell? ⟨w.heap.size, 5, none⟩ = some (.bool false) := HS5.out.rs.cell 5
        have y5 := HS5.out.rs.frozen 5
        have HF := Lib.hid (HS5.out.res)
        have HRM := Lib.hid (CF.rum_unl (sh := sh) HNM.out)
        go_wp2
        refine bodyPost_ret (rule_ret rfl (HF.out _ rfl).1 rfl) rfl ?_
        exact ⟨⟨_, HRM.out, rfl⟩, (HF.out _ rfl).2⟩
      · have hrb : ((r : Int) == 0) = false := by simpa using hr0
        have hrc : (r == 0) = false := by simpa using hr0
        have HN3 := Lib.hid (mnext_any HS2.out.tp 4 (by decide) (by decide))
        rw [show ((4 : Nat) : Int) = 4 from rfl] at HN3
        go_upto_region 8 with (go_at_call 25; refine HN3.out.mono ?_; rintro e w4 ⟨⟨u, hu, rfl⟩, ht, hk⟩; have HS4 := Lib.hid (HS2.out.next ht hk); have hui : (u : Int) < 4 := (by omega); have c1 := HS4.out.br.cell 1; have f1 := HS4.out.br.frozen 1; simp only [List.getElem?_toArray, List.getElem?_cons_zero, List.getElem?_cons_succ] at c1; clear ht hk)
        have hs5 := HS4.out.set 1 (.int .i64 (1 + (u : Int)))
        simp only [List.setIfInBounds_toArray, List.set_cons_zero, List.set_cons_succ] at hs5
        have HS5 := Lib.hid hs5
        have HU := Lib.hid hu
        generalize w4.setCell ⟨b, 1, none⟩ (.int .i64 (1 + (u : Int))) = w5 at *
        clear hs5 c1 f1 HS4 HN3 HS2 hr hr0 hrb hrc hui hu
        obtain ⟨U, hUU⟩ : ∃ U, 1 + (u : Int) = U := ⟨_, rfl⟩
        have HUU := Lib.hid hUU
        rw [hUU] at HS5 ⊢
        clear hUU
        have B6 := below_alloc w5 (.cells (ints CF.mLimits).toArray 3)
        have HS6 := Lib.hid (HS5.out.calm B6)
        have ho6 : Own (w5.alloc (.cells (ints CF.mLimits).toArray 3)) w5.heap.size 3 (.slice (some ⟨w5.heap.size, 0, none⟩) (ints CF.mLimits).length (ints CF.mLimits).length) (ints CF.mLimits) := Own.lit w5 _ (Nat.le_refl _) (by decide)
        have HO6 := Lib.hid ho6
        have HN6 := Lib.hid (mnext_any HS6.out.tp 7 (by decide) (by decide))
        rw [show ((7 : Nat) : Int) = 7 from rfl] at HN6
        clear B6 ho6
        go_upto_region 9 with (go_at_call 25; refine HN6.out.mono ?_; rintro e w7 ⟨⟨v, hv, rfl⟩, ht, hk⟩; have HS7 := Lib.hid (HS6.out.next ht hk); have hvi : (v : Int) < 7 := (by omega); have hv0 : (0 : Int) ≤ (v : Int) := (by omega); obtain ⟨z, hz⟩ : ∃ z, CF.mLimits[v]? = some z := ⟨CF.mLimits[v]'hv, List.getElem?_eq_getElem _⟩; obtain ⟨kk, _, hst⟩ := HS6.out.tp.st; obtain ⟨b3, o3, c3, e3, u3⟩ := (HO6.out.kb hk (HO6.out.ne_str hst (by decide)) no_or).rd.atv (j := v) (u := .int .i64 z) (by simp [ints, hz]); simp only [Value.slice.injEq, Option.some.injEq, Addr.mk.injEq, and_true] at e3; obtain ⟨⟨rfl, rfl⟩, -, -⟩ := e3; simp only [Nat.zero_add] at u3; have HZ := Lib.hid (List.mem_of_getElem? hz); have c2 := HS7.out.br.cell 2; have f2 := HS7.out.br.frozen 2; simp only [List.getElem?_toArray, List.getElem?_cons_zero, List.getElem?_cons_succ] at c2; clear ht hk hst hz)
        have hs8 := HS7.out.set 2 (.int .i64 z)
        simp only [List.setIfInBounds_toArray, List.set_cons_zero, List.set_cons_succ] at hs8
        have HS8 := Lib.hid hs8
        generalize w7.setCell ⟨b, 2, none⟩ (.int .i64 z) = w8 at *
        clear hs8 c2 f2 HS7 HN6 HS6 HO6 u3 hvi hv0 hv
        have B9 := below_alloc w8 (.cells (sv CF.mNears).toArray 9)
        have HS9 := Lib.hid (HS8.out.calm B9)
        have HO9 := Lib.hid (mof_any HS9.out.tp (lit_sv (w := w8) CF.mNears (by decide)) (by decide) (by decide))
        clear B9
        go_upto_region 10 with (first
          | (go_at_call 49; refine HO9.out.mono ?_; rintro e wa ⟨⟨s, hs, rfl⟩, ht, hk⟩; have HSA := Lib.hid (HS9.out.next ht hk); have HM := Lib.hid hs; have HRD := Lib.hid (fun x => read_any s (by have := (CF.nears_len s hs); unfold maxLen; omega) x); obtain ⟨nf, hnf⟩ : ∃ f, parF s = f := ⟨_, rfl⟩; obtain ⟨nk, hnk⟩ : ∃ f, parOk s = f := ⟨_, rfl⟩; have HNF := Lib.hid hnf; rw [hnf, hnk] at HRD; have c3 := HSA.out.br.cell 3; have f3 := HSA.out.br.frozen 3; simp only [List.getElem?_toArray, List.getElem?_cons_zero, List.getElem?_cons_succ] at c3; clear ht hk hs hnf hnk)
          | (go_at_call 80; refine (HRD.out _).mono ?_; rintro e wb ⟨rfl, rfl⟩))
        have hsb := HSA.out.set 3 (.float .f64 nf)
        simp only [List.setIfInBounds_toArray, List.set_cons_zero, List.set_cons_succ] at hsb
        have HSB := Lib.hid hsb
        generalize wa.setCell ⟨b, 3, none⟩ (.float .f64 nf) = w9 at *
        clear hsb c3 f3 HSA HO9 HS9 HS8 HS5
        have q0 : w9.cell? ⟨b, 0, none⟩ = some (.string ⟨nm.toArray⟩) := HSB.out.br.cell 0
        have q1 : w9.cell? ⟨b, 1, none⟩ = some (.int .i64 U) := HSB.out.br.cell 1
        have q2 : w9.cell? ⟨b, 2, none⟩ = some (.int .i64 z) := HSB.out.br.cell 2
        have q3 : w9.cell? ⟨b, 3, none⟩ = some (.float .f64 nf) := HSB.out.br.cell 3
        have q4 : w9.cell? ⟨b, 4, none⟩ = some (.bool sh) := HSB.out.br.cell 4
        have q5 : w9.cell? ⟨b, 5, none⟩ = some (.bool false) := HSB.out.br.cell 5
        have z0 : w9.cell? ⟨w.heap.size, 0, none⟩ = some (.string ⟨#[]⟩) := HSB.out.rs.cell 0
        have y0 := HSB.out.rs.frozen 0
        have z1 : w9.cell? ⟨w.heap.size, 1, none⟩ = some (.int .i64 0) := HSB.out.rs.cell 1
        have y1 := HSB.out.rs.frozen 1
        have z2 : w9.cell? ⟨w.heap.size, 2, none⟩ = some (.int .i64 0) := HSB.out.rs.cell 2
        have y2 := HSB.out.rs.frozen 2
        have z3 : w9.cell? ⟨w.heap.size, 3, none⟩ = some (.float .f64 0) := HSB.out.rs.cell 3
        have y3 := HSB.out.rs.frozen 3
        have z4 : w9.cell? ⟨w.heap.size, 4, none⟩ = some (.bool false) := HSB.out.rs.cell 4
        have y4 := HSB.out.rs.frozen 4
        have z5 : w9.cell? ⟨w.heap.size, 5, none⟩ = some (.bool false) := HSB.out.rs.cell 5
        have y5 := HSB.out.rs.frozen 5
        have HF := Lib.hid (HSB.out.res)
        have HRM : Hid (CF.RuM ⟨nm, U, z, nf, sh, false⟩) := by
          show CF.RuM _
          rw [← HUU.out, ← HNF.out]
          exact CF.rum_lim HNM.out HU.out HZ.out HM.out
        go_wp2
        refine bodyPost_ret (rule_ret rfl (HF.out _ rfl).1 rfl) rfl ?_
        exact ⟨⟨_, HRM.out, rfl⟩, (HF.out _ rfl).2⟩
end Go.Proofs.YtgfhabofhefaaaaGreatDoor
