/- The walk of tell.Decode. -/
import Derived.Test.YtokmpfkmkhnopaaTlF
import Derived.Test.YtokmpfkmkhnopaaTlE
namespace Go.Proofs.Ytokmpfkmkhnopaa
open Go.RowKit

/-- What Decode answers, at its end. -/
def DecT (w : World) (o : Option TL.T) (e : Ending) (w' : World) : Prop :=
  Below w.heap.size w w' ∧ ((∃ (t : TL.T) (vs vh : Value), o = some t ∧ e = .returned (.tuple #[.agg #[.int .i64 t.1, .int .i64 t.2.1, .bool t.2.2.1, vs, vh], .int .i64 0]) ∧ Rdt w' vs vh t.2.2.2.1 t.2.2.2.2) ∨
    (o = none ∧ e = .returned (.tuple #[.agg noTell, .int .i64 2])))
/-- The results of Decode are read where they lie. -/
theorem tret_both {tmps : Array Value} {w : World} {p q : Nat} {cs : Array Value} {z : Int} (hp : tmps.getD 2 undef = .pointer (some ⟨p, 0, none⟩)) (hq : tmps.getD 3 undef = .pointer (some ⟨q, 0, none⟩)) (h1 : Str w p 25 cs) (h2 : Str w q 29 #[.int .i64 z]) (h4 : cs.size = 5) :
    (results Try.f14 tmps).run Try.prog w = .ok (.tuple #[.agg cs, .int .i64 z]) w := by
  have hs' : w.heap[p]? = some (.cells cs 25 (0, 0)) := h1
  have l1 := run_loadVar_row (P := Try.prog) w p 25 25 cs (0, 0) _ hs' Try.underlying25 rfl (by rw [h4]; exact tell_size)
  have c2 : w.cell? ⟨q, 0, none⟩ = some (.int .i64 z) := h2.cell 0
  have l2 : (loadVar 29 ⟨q, 0, none⟩).run Try.prog w = .ok (.int .i64 z) w := by
    simp [loadVar, isAgg, go_sem, c2]
  have hp' : (asAddr (tmps.getD 2 undef)).run Try.prog w = .ok ⟨p, 0, none⟩ w := by rw [hp]; simp [asAddr]
  have hq' : (asAddr (tmps.getD 3 undef)).run Try.prog w = .ok ⟨q, 0, none⟩ w := by rw [hq]; simp [asAddr]
  simp only [Array.getD_eq_getD_getElem?] at hp' hq'
  simp only [results, Try.results14]
  simp [Sem.run_bind, Result.andThen, hp', hq', l1, l2]
/-- At the door, behind a reader that gave up. -/
theorem tdoor_gave {w wr : World} {tmps : Array Value} {x0 x1 x2 x3 x4 y : Value} {o : Option TL.T} (hp : tmps.getD 2 undef = .pointer (some ⟨w.heap.size, 0, none⟩)) (hq : tmps.getD 3 undef = .pointer (some ⟨w.heap.size + 1, 0, none⟩)) (hb : Below w.heap.size w wr) (h1 : Str wr w.heap.size 25 #[x0, x1, x2, x3, x4]) (h2 : Str wr (w.heap.size + 1) 29 #[y]) (ho : o = none) :
    Leaves Try.prog Try.f14 tmps (DecT w o) [{ target := .fn (.func 31) #[.pointer (some ⟨w.heap.size, 0, none⟩), .pointer (some ⟨w.heap.size + 1, 0, none⟩)], args := #[] }] (.panicking gaveUp) wr := by
  refine leaves_cons (f := 31) (args := #[.pointer (some ⟨w.heap.size, 0, none⟩), .pointer (some ⟨w.heap.size + 1, 0, none⟩)]) (by simp) (by simp [go_sem]) ?_
  refine (tcatch_panicking w.heap.size (w.heap.size + 1) x0 x1 x2 x3 x4 y wr h1 h2).mono ?_
  rintro e u' w' ⟨rfl, rfl, s1, s2, kb⟩
  refine ⟨_, tret_both hp hq s1 s2 rfl, ?_, .inr ⟨ho, rfl⟩⟩
  exact hb.trans (kb.below hb.size (fun g hg => by have := Option.some.inj hg; omega) (fun g hg => by have := Option.some.inj hg; omega))
/-- At the door, behind a return. -/
theorem tdoor_done {w wr : World} {tmps : Array Value} {t : TL.T} {vs vh : Value} {o : Option TL.T} (hp : tmps.getD 2 undef = .pointer (some ⟨w.heap.size, 0, none⟩)) (hq : tmps.getD 3 undef = .pointer (some ⟨w.heap.size + 1, 0, none⟩)) (hb : Below w.heap.size w wr) (h1 : Str wr w.heap.size 25 #[.int .i64 t.1, .int .i64 t.2.1, .bool t.2.2.1, vs, vh]) (h2 : Str wr (w.heap.size + 1) 29 #[.int .i64 0]) (ho : o = some t) (hr : Rdt wr vs vh t.2.2.2.1 t.2.2.2.2) :
    Leaves Try.prog Try.f14 tmps (DecT w o) [{ target := .fn (.func 31) #[.pointer (some ⟨w.heap.size, 0, none⟩), .pointer (some ⟨w.heap.size + 1, 0, none⟩)], args := #[] }] .returning wr := by
  refine leaves_cons (f := 31) (args := #[.pointer (some ⟨w.heap.size, 0, none⟩), .pointer (some ⟨w.heap.size + 1, 0, none⟩)]) (by simp) (by simp [go_sem]) ?_
  refine (tcatch_idle _ _ wr).mono ?_
  rintro e u' w' ⟨rfl, rfl, rfl⟩
  exact ⟨_, tret_both hp hq h1 h2 rfl, hb, .inl ⟨t, vs, vh, ho, rfl, hr⟩⟩

/-- Where Decode stands. -/
structure DT (w wr : World) (cs : Array Value) : Prop where
  below : Below w.heap.size w wr
  big : w.heap.size + 3 ≤ wr.heap.size
  res : Str wr w.heap.size 25 cs
  code : Str wr (w.heap.size + 1) 29 #[.int .i64 0]
theorem DT.later {w wr w1 : World} {cs : Array Value} (h : DT w wr cs) (hk : Kb wr w1 (some (w.heap.size + 2)) none) : DT w w1 cs := by
  have hbig := h.big
  refine ⟨h.below.trans (hk.below (by omega) (fun g hg => by have := Option.some.inj hg; omega) (fun g hg => by cases hg)), Nat.le_trans hbig hk.size, h.res.kb hk (by simp) (by simp), h.code.kb hk (by simp) (by simp)⟩
theorem DT.calm {w wr w1 : World} {cs : Array Value} (h : DT w wr cs) (hb : Below wr.heap.size wr w1) : DT w w1 cs :=
  ⟨below_trans h.below hb, Nat.le_trans h.big hb.size, h.res.below hb, h.code.below hb⟩
theorem DT.laid {w wr : World} {a b c d e : Value} (h : DT w wr #[a, b, c, d, e]) (x y z u v : Value) : DT w (five wr w.heap.size x y z u v) #[x, y, z, u, v] := by
  have kb := Kb.five wr w.heap.size x y z u v none
  have hbig := h.big
  exact ⟨h.below.trans (kb.below (by omega) (fun g hg => by have := Option.some.inj hg; omega) (fun g hg => by cases hg)), Nat.le_trans hbig kb.size, h.res.five _ _ _ _ _, h.code.kb kb (by simp) (by simp)⟩
theorem noTell_no (i : Nat) (z : Int) : (#[.int .i64 0, .int .i64 0, .bool false, .slice none 0 0, .slice none 0 0] : Array Value)[i]? ≠ some (Value.int .u8 z) := by
  match i with
  | 0 => simp
  | 1 => simp
  | 2 => simp
  | 3 => simp
  | 4 => simp
  | i + 5 => simp
theorem inT_fits {t : TL.T} (h : TL.inT t) : Fits t.2.2.2.2 := fun e he => by have := h.2 e he; unfold TL.okL at this; omega

set_option maxHeartbeats 8000000 in
theorem tdecode_any (v : Value) (bs : List UInt8) (w : World) (hr : Rdv w v (bv bs)) :
    Calls Try.prog 14 #[v] w (DecT w (TL.dec bs)) := by
  have hmf : ∀ (fn : Fn) (first cap : Array Value) (w : World), (Instr.makeFunc fn first cap).run Try.prog w = .ok (.func fn first cap) w := fun _ _ _ _ => rfl
  obtain ⟨ao, cap, rfl, g1, g2, g3, g4⟩ := id hr
  have HNR := Lib.hid (fun x => newr_any ao (bv bs).length cap x)
  have HST : Hid (DT w (((w.alloc (.cells noTell 25)).alloc (.cells #[.int .i64 0] 29)).alloc (.cells #[.slice ao (bv bs).length cap] 69)) noTell ∧ Rdr (((w.alloc (.cells noTell 25)).alloc (.cells #[.int .i64 0] 29)).alloc (.cells #[.slice ao (bv bs).length cap] 69)) (w.heap.size + 2) bs) := by
    have B1 := below_alloc w (.cells noTell 25)
    have B2 := below_alloc (w.alloc (.cells noTell 25)) (.cells #[.int .i64 0] 29)
    have B3 := below_alloc ((w.alloc (.cells noTell 25)).alloc (.cells #[.int .i64 0] 29)) (.cells #[.slice ao (bv bs).length cap] 69)
    have BB := below_trans B1 (below_trans B2 B3)
    refine Lib.hid ⟨⟨BB, by rw [box_size, box_size, box_size]; omega, (Str.new w _ _).below (below_trans B2 B3), ?_⟩, ?_⟩
    · have := (Str.new (w.alloc (.cells noTell 25)) 29 #[.int .i64 0]).below B3
      rwa [box_size] at this
    · have := Str.new ((w.alloc (.cells noTell 25)).alloc (.cells #[.int .i64 0] 29)) 69 #[.slice ao (bv bs).length cap]
      rw [box_size, box_size] at this
      refine ⟨_, this, hr.below BB, fun hne => ?_⟩
      have hpos : 0 < bs.length := List.length_pos_iff.2 hne
      obtain ⟨x, rfl, hc⟩ := g4 0 _ (bv_get hpos)
      refine ⟨x, _, _, rfl, ?_⟩
      have := cell_lt hc
      rw [add_block] at this
      omega
  unfold noTell at HST
  clear hr g1 g2 g3 g4
  go_enter_defers Try.func14, Try.ntmps14
  go_wp2_with fail
  refine (HNR.out _).mono ?_
  rintro e w1 ⟨rfl, hw1⟩
  rw [← hw1] at HST
  rw [box_size, box_size]
  obtain ⟨hdc, hrd⟩ := HST.out
  have HD1 := Lib.hid hdc
  have HRD := Lib.hid (tread_any (w.heap.size + 2) bs w1 hrd)
  clear hw1 HNR HST hdc hrd
  cases hpar : TL.par bs with
  | none =>
    have E := Lib.hid (TL.dec_of_par hpar)
    rw [hpar] at HRD
    clear hpar
    go_wp2_with fail
    refine HRD.out.mono ?_
    rintro e w2 (⟨_, _, _, _, hno, _⟩ | ⟨_, rfl, hk⟩)
    · cases hno
    · have hd2 := HD1.out.later hk
      exact tdoor_gave rfl rfl hd2.below hd2.res hd2.code E.out
  | some x =>
    obtain ⟨t, r⟩ := x
    have HFIT := Lib.hid (inT_fits (TL.par_some hpar).2)
    have HDEC := Lib.hid (TL.dec_of_par2 hpar)
    rw [hpar] at HRD
    clear hpar
    go_wp2_with fail
    refine HRD.out.mono ?_
    rintro e w2 (⟨t', r', vs, vh, ho, rfl, hod, hr2, hk2⟩ | ⟨hno, _⟩)
    case inr => cases hno
    obtain ⟨rfl, rfl⟩ := Prod.mk.inj (Option.some.inj ho)
    obtain ⟨av, cv, rfl⟩ := hod.s.slice
    obtain ⟨ah, ch, rfl⟩ := own_slice hod.h
    obtain ⟨id, code, full, ss, hs⟩ := t
    simp only at hod HFIT HDEC ⊢
    have HD2 := Lib.hid (HD1.out.later hk2)
    have HOD := Lib.hid hod
    have HR2 := Lib.hid hr2
    clear hod hr2 hk2 ho HRD HD1
    obtain ⟨c0, c1, c2, c3, c4⟩ := HD2.out.res.cells5
    obtain ⟨f0, f1, f2, f3, f4⟩ := HD2.out.res.frozen5
    have KB2 := Kb.five w2 w.heap.size (.int .i64 id) (.int .i64 code) (.bool full) (.slice av ss.length cv) (.slice ah hs.length ch) none
    have HD3 := Lib.hid (HD2.out.laid (.int .i64 id) (.int .i64 code) (.bool full) (.slice av ss.length cv) (.slice ah hs.length ch))
    have HR3 := Lib.hid (HR2.out.kb HD2.out.res noTell_no (by omega) KB2)
    have HO3 := Lib.hid (HOD.out.kb HD2.out.res (by decide) (by decide) KB2)
    have HEND := Lib.hid (end_any (w.heap.size + 2) r _ HR3.out)
    clear HD2 HR2 HOD KB2
    go_wp2_with fail
    refine HEND.out.mono ?_
    clear HEND c0 c1 c2 c3 c4 f0 f1 f2 f3 f4
    rintro e w3 ⟨he, rfl⟩
    generalize five w2 w.heap.size (.int .i64 id) (.int .i64 code) (.bool full) (.slice av ss.length cv) (.slice ah hs.length ch) = w3 at *
    by_cases hr0 : r = []
    · rw [if_pos hr0] at he
      subst he
      obtain ⟨c0, c1, c2, c3, c4⟩ := HD3.out.res.cells5
      have HCK := Lib.hid (tcheck_any (id, code, full, ss, hs) (.slice av ss.length cv) (.slice ah hs.length ch) w3 HO3.out.rd HFIT.out)
      simp only at HCK
      cases hck : TL.chk (id, code, full, ss, hs)
      · have E := Lib.hid (show TL.dec bs = none by rw [HDEC.out, if_neg (by rw [hck]; simp)])
        rw [hck] at HCK
        clear hck
        go_wp2_with (first
          | (go_at_call 11; refine HCK.out.mono ?_; rintro e w4 ⟨rfl, b4⟩; have HD4 := Lib.hid (HD3.out.calm b4); clear b4)
          | (go_at_call 36; refine (must_false _ _).mono ?_; rintro e w5 ⟨rfl, rfl⟩))
        exact tdoor_gave rfl rfl HD4.out.below HD4.out.res HD4.out.code E.out
      · have E := Lib.hid (show TL.dec bs = some (id, code, full, ss, hs) by rw [HDEC.out, if_pos ⟨hr0, hck⟩])
        rw [hck] at HCK
        clear hck
        go_wp2_with fail
        refine HCK.out.mono ?_
        rintro e w4 ⟨rfl, b4⟩
        have HD4 := Lib.hid (HD3.out.calm b4)
        have HO4 := Lib.hid (HO3.out.below b4)
        clear b4 c0 c1 c2 c3 c4 HCK
        obtain ⟨c0, c1, c2, c3, c4⟩ := HD4.out.res.cells5
        obtain ⟨f0, f1, f2, f3, f4⟩ := HD4.out.res.frozen5
        have KB4 := Kb.five w4 w.heap.size (.int .i64 id) (.int .i64 code) (.bool full) (.slice av ss.length cv) (.slice ah hs.length ch) none
        have HD5 := Lib.hid (HD4.out.laid (.int .i64 id) (.int .i64 code) (.bool full) (.slice av ss.length cv) (.slice ah hs.length ch))
        have HO5 := Lib.hid (HO4.out.kb HD4.out.res (by decide) (by decide) KB4)
        have k0 := HD5.out.code.cell 0
        have k1 := HD5.out.code.frozen 0
        unfold five at k0 k1
        simp only [List.getElem?_toArray, List.getElem?_cons_zero] at k0
        clear KB4
        go_wp2_with (go_at_call 36; refine (must_true _ _).mono ?_; rintro e w5 ⟨rfl, rfl⟩)
        have kc := Kb.set (five w5 w.heap.size (.int .i64 id) (.int .i64 code) (.bool full) (.slice av ss.length cv) (.slice ah hs.length ch)) (w.heap.size + 1) 0 (.int .i64 0) none
        have hbig := HD5.out.big
        exact tdoor_done (t := (id, code, full, ss, hs)) rfl rfl (HD5.out.below.trans (kc.below (by omega) (fun g hg => by have := Option.some.inj hg; omega) (fun g hg => by cases hg))) (HD5.out.res.kb kc (by simp) (by simp)) (HD5.out.code.one _) E.out (HO5.out.kb HD5.out.code (by decide) (by decide) kc).rd
    · rw [if_neg hr0] at he
      subst he
      have E := Lib.hid (show TL.dec bs = none by rw [HDEC.out, if_neg (by simp [hr0])])
      exact tdoor_gave rfl rfl HD3.out.below HD3.out.res HD3.out.code E.out
end Go.Proofs.Ytokmpfkmkhnopaa
