/- The walk of ask.Decode. -/
import Derived.Test.YthbmmnjpiflgdaaAkF
import Derived.Test.YthbmmnjpiflgdaaAkC
namespace Go.Proofs.Ythbmmnjpiflgdaa
open Go.RowKit

/-- What Decode answers, at its end. -/
def Dec (w : World) (o : Option K.A) (e : Ending) (w' : World) : Prop :=
  Below w.heap.size w w' ∧ ((∃ (a : K.A) (vs : Value), o = some a ∧ e = .returned (.tuple #[.agg #[.int .i64 a.1, .string ⟨a.2.1.toArray⟩, .int .i64 a.2.2.1, vs], .int .i64 0]) ∧ Rdd w' vs a.2.2.2) ∨
    (o = none ∧ e = .returned (.tuple #[.agg noAsk, .int .i64 2])))
/-- The results of Decode are read where they lie. -/
theorem ret_both {tmps : Array Value} {w : World} {p q : Nat} {cs : Array Value} {z : Int} (hp : tmps.getD 2 undef = .pointer (some ⟨p, 0, none⟩)) (hq : tmps.getD 3 undef = .pointer (some ⟨q, 0, none⟩)) (h1 : Str w p 24 cs) (h2 : Str w q 28 #[.int .i64 z]) (h4 : cs.size = 4) :
    (results Try.f18 tmps).run Try.prog w = .ok (.tuple #[.agg cs, .int .i64 z]) w := by
  have hs' : w.heap[p]? = some (.cells cs 24 (0, 0)) := h1
  have l1 := run_loadVar_row (P := Try.prog) w p 24 24 cs (0, 0) _ hs' Try.underlying24 rfl (by rw [h4]; exact ask_size)
  have c2 : w.cell? ⟨q, 0, none⟩ = some (.int .i64 z) := h2.cell 0
  have l2 : (loadVar 28 ⟨q, 0, none⟩).run Try.prog w = .ok (.int .i64 z) w := by
    simp [loadVar, isAgg, go_sem, c2]
  have hp' : (asAddr (tmps.getD 2 undef)).run Try.prog w = .ok ⟨p, 0, none⟩ w := by rw [hp]; simp [asAddr]
  have hq' : (asAddr (tmps.getD 3 undef)).run Try.prog w = .ok ⟨q, 0, none⟩ w := by rw [hq]; simp [asAddr]
  simp only [Array.getD_eq_getD_getElem?] at hp' hq'
  simp only [results, Try.results18]
  simp [Sem.run_bind, Result.andThen, hp', hq', l1, l2]
/-- At the door, behind a reader that gave up. -/
theorem door_gave {w wr : World} {tmps : Array Value} {x0 x1 x2 x3 y : Value} {o : Option K.A} (hp : tmps.getD 2 undef = .pointer (some ⟨w.heap.size, 0, none⟩)) (hq : tmps.getD 3 undef = .pointer (some ⟨w.heap.size + 1, 0, none⟩)) (hb : Below w.heap.size w wr) (h1 : Str wr w.heap.size 24 #[x0, x1, x2, x3]) (h2 : Str wr (w.heap.size + 1) 28 #[y]) (ho : o = none) :
    Leaves Try.prog Try.f18 tmps (Dec w o) [{ target := .fn (.func 31) #[.pointer (some ⟨w.heap.size, 0, none⟩), .pointer (some ⟨w.heap.size + 1, 0, none⟩)], args := #[] }] (.panicking gaveUp) wr := by
  refine leaves_cons (f := 31) (args := #[.pointer (some ⟨w.heap.size, 0, none⟩), .pointer (some ⟨w.heap.size + 1, 0, none⟩)]) (by simp) (by simp [go_sem]) ?_
  refine (catch_panicking w.heap.size (w.heap.size + 1) x0 x1 x2 x3 y wr h1 h2).mono ?_
  rintro e u' w' ⟨rfl, rfl, s1, s2, kb⟩
  refine ⟨_, ret_both hp hq s1 s2 rfl, ?_, .inr ⟨ho, rfl⟩⟩
  exact hb.trans (kb.below hb.size (fun g hg => by have := Option.some.inj hg; omega) (fun g hg => by have := Option.some.inj hg; omega))
/-- At the door, behind a return. -/
theorem door_done {w wr : World} {tmps : Array Value} {a : K.A} {vs : Value} {o : Option K.A} (hp : tmps.getD 2 undef = .pointer (some ⟨w.heap.size, 0, none⟩)) (hq : tmps.getD 3 undef = .pointer (some ⟨w.heap.size + 1, 0, none⟩)) (hb : Below w.heap.size w wr) (h1 : Str wr w.heap.size 24 #[.int .i64 a.1, .string ⟨a.2.1.toArray⟩, .int .i64 a.2.2.1, vs]) (h2 : Str wr (w.heap.size + 1) 28 #[.int .i64 0]) (ho : o = some a) (hr : Rdd wr vs a.2.2.2) :
    Leaves Try.prog Try.f18 tmps (Dec w o) [{ target := .fn (.func 31) #[.pointer (some ⟨w.heap.size, 0, none⟩), .pointer (some ⟨w.heap.size + 1, 0, none⟩)], args := #[] }] .returning wr := by
  refine leaves_cons (f := 31) (args := #[.pointer (some ⟨w.heap.size, 0, none⟩), .pointer (some ⟨w.heap.size + 1, 0, none⟩)]) (by simp) (by simp [go_sem]) ?_
  refine (catch_idle _ _ wr).mono ?_
  rintro e u' w' ⟨rfl, rfl, rfl⟩
  exact ⟨_, ret_both hp hq h1 h2 rfl, hb, .inl ⟨a, vs, ho, rfl, hr⟩⟩

/-- Where Decode stands. -/
structure DC (w wr : World) (cs : Array Value) : Prop where
  below : Below w.heap.size w wr
  big : w.heap.size + 3 ≤ wr.heap.size
  res : Str wr w.heap.size 24 cs
  code : Str wr (w.heap.size + 1) 28 #[.int .i64 0]
theorem DC.later {w wr w1 : World} {cs : Array Value} (h : DC w wr cs) (hk : Kb wr w1 (some (w.heap.size + 2)) none) : DC w w1 cs := by
  have hbig := h.big
  refine ⟨h.below.trans (hk.below (by omega) (fun g hg => by have := Option.some.inj hg; omega) (fun g hg => by cases hg)), Nat.le_trans hbig hk.size, h.res.kb hk (by simp) (by simp), h.code.kb hk (by simp) (by simp)⟩
theorem DC.calm {w wr w1 : World} {cs : Array Value} (h : DC w wr cs) (hb : Below wr.heap.size wr w1) : DC w w1 cs :=
  ⟨below_trans h.below hb, Nat.le_trans h.big hb.size, h.res.below hb, h.code.below hb⟩
theorem DC.laid {w wr : World} {a b c d : Value} (h : DC w wr #[a, b, c, d]) (x y z u : Value) : DC w (four wr w.heap.size x y z u) #[x, y, z, u] ∧ ∀ k, k ≠ w.heap.size → k < wr.heap.size → (four wr w.heap.size x y z u).heap[k]? = wr.heap[k]? := by
  have kb := Kb.four wr w.heap.size x y z u none
  have hbig := h.big
  refine ⟨⟨h.below.trans (kb.below (by omega) (fun g hg => by have := Option.some.inj hg; omega) (fun g hg => by cases hg)), Nat.le_trans hbig kb.size, h.res.four _ _ _ _, h.code.kb kb (by simp) (by simp)⟩, fun k hk hl => kb.block k hl (by simpa using hk) (by simp)⟩
theorem Rdr.kb {w w' : World} {p q : Nat} {T : TypeId} {cs : Array Value} {bs : List UInt8} (h : Rdr w p bs) (hs : Str w q T cs) (hcs : ∀ (i : Nat) (z : Int), cs[i]? ≠ some (Value.int .u8 z)) (hpq : p ≠ q) (hk : Kb w w' (some q) none) : Rdr w' p bs := by
  obtain ⟨v, h1, h2, h3⟩ := h
  exact ⟨v, h1.kb hk (by simpa using hpq) (by simp), h2.kb hs hcs hk, h3⟩
theorem noAsk_no (i : Nat) (z : Int) : (#[.int .i64 0, .string ⟨#[]⟩, .int .i64 0, .slice none 0 0] : Array Value)[i]? ≠ some (Value.int .u8 z) := by
  match i with
  | 0 => simp
  | 1 => simp
  | 2 => simp
  | 3 => simp
  | i + 4 => simp
theorem okD_fits {d : List D.E} (h : K.okD d) : Fits d := fun e he => by have := h.2 e he; unfold K.okL at this; omega
/-- What is read fits in an int. -/
theorem par_fits {bs r : List UInt8} {a : K.A} (h : K.par bs = some (a, r)) : FitA a := by
  unfold K.par at h
  obtain ⟨b0, h0, h⟩ := Option.bind_eq_some_iff.1 h
  obtain ⟨⟨id, b1⟩, h1, h⟩ := Option.bind_eq_some_iff.1 h
  obtain ⟨⟨dom, b2⟩, h2, h⟩ := Option.bind_eq_some_iff.1 h
  obtain ⟨⟨hs, b3⟩, h3, h⟩ := Option.bind_eq_some_iff.1 h
  obtain ⟨⟨n, b4⟩, h4, h⟩ := Option.bind_eq_some_iff.1 h
  obtain ⟨⟨ds, b5⟩, h5, h⟩ := Option.map_eq_some_iff.1 h
  simp only [Prod.mk.injEq] at h
  obtain ⟨rfl, rfl⟩ := h
  have k2 := (K.text_some h2).2.1
  have k5 := (K.descs_some h5).2.2
  refine ⟨?_, fun d hd => okD_fits (k5 d hd)⟩
  show dom.length ≤ _
  omega

set_option maxHeartbeats 8000000 in
theorem decode_any (v : Value) (bs : List UInt8) (w : World) (hr : Rdv w v (bv bs)) :
    Calls Try.prog 18 #[v] w (Dec w (K.dec bs)) := by
  have hmf : ∀ (fn : Fn) (first cap : Array Value) (w : World), (Instr.makeFunc fn first cap).run Try.prog w = .ok (.func fn first cap) w := fun _ _ _ _ => rfl
  obtain ⟨ao, cap, rfl, g1, g2, g3, g4⟩ := id hr
  have HNR := Lib.hid (fun x => newr_any ao (bv bs).length cap x)
  have HST : Hid (DC w (((w.alloc (.cells noAsk 24)).alloc (.cells #[.int .i64 0] 28)).alloc (.cells #[.slice ao (bv bs).length cap] 69)) noAsk ∧ Rdr (((w.alloc (.cells noAsk 24)).alloc (.cells #[.int .i64 0] 28)).alloc (.cells #[.slice ao (bv bs).length cap] 69)) (w.heap.size + 2) bs) := by
    have B1 := below_alloc w (.cells noAsk 24)
    have B2 := below_alloc (w.alloc (.cells noAsk 24)) (.cells #[.int .i64 0] 28)
    have B3 := below_alloc ((w.alloc (.cells noAsk 24)).alloc (.cells #[.int .i64 0] 28)) (.cells #[.slice ao (bv bs).length cap] 69)
    have BB := below_trans B1 (below_trans B2 B3)
    refine Lib.hid ⟨⟨BB, by rw [box_size, box_size, box_size]; omega, (Str.new w _ _).below (below_trans B2 B3), ?_⟩, ?_⟩
    · have := (Str.new (w.alloc (.cells noAsk 24)) 28 #[.int .i64 0]).below B3
      rwa [box_size] at this
    · have := Str.new ((w.alloc (.cells noAsk 24)).alloc (.cells #[.int .i64 0] 28)) 69 #[.slice ao (bv bs).length cap]
      rw [box_size, box_size] at this
      refine ⟨_, this, hr.below BB, fun hne => ?_⟩
      have hpos : 0 < bs.length := List.length_pos_iff.2 hne
      obtain ⟨x, rfl, hc⟩ := g4 0 _ (bv_get hpos)
      refine ⟨x, _, _, rfl, ?_⟩
      have := cell_lt hc
      rw [add_block] at this
      omega
  unfold noAsk at HST
  clear hr g1 g2 g3 g4
  go_enter_defers Try.func18, Try.ntmps18
  go_wp2_with fail
  refine (HNR.out _).mono ?_
  rintro e w1 ⟨rfl, hw1⟩
  rw [← hw1] at HST
  rw [box_size, box_size]
  obtain ⟨hdc, hrd⟩ := HST.out
  have HD1 := Lib.hid hdc
  have HRD := Lib.hid (read_any (w.heap.size + 2) bs w1 hrd)
  clear hw1 HNR HST hdc hrd
  cases hpar : K.par bs with
  | none =>
    have E := Lib.hid (show K.dec bs = none by unfold K.dec; rw [hpar]; rfl)
    rw [hpar] at HRD
    clear hpar
    go_wp2_with fail
    refine HRD.out.mono ?_
    rintro e w2 (⟨_, _, _, hno, _⟩ | ⟨_, rfl, hk⟩)
    · cases hno
    · have hd2 := HD1.out.later hk
      exact door_gave rfl rfl hd2.below hd2.res hd2.code E.out
  | some x =>
    obtain ⟨a, r⟩ := x
    have HFIT := Lib.hid (par_fits hpar)
    have HDEC := Lib.hid (show K.dec bs = if r = [] ∧ K.chk a = true then some a else none by unfold K.dec; rw [hpar]; rfl)
    rw [hpar] at HRD
    clear hpar
    go_wp2_with fail
    refine HRD.out.mono ?_
    rintro e w2 (⟨a', r', vs, ho, rfl, hod, hr2, hk2⟩ | ⟨hno, _⟩)
    case inr => cases hno
    obtain ⟨rfl, rfl⟩ := Prod.mk.inj (Option.some.inj ho)
    obtain ⟨av, cv, rfl⟩ := hod.slice
    obtain ⟨id, dom, hs, ds⟩ := a
    simp only at hod HFIT HDEC ⊢
    have HD2 := Lib.hid (HD1.out.later hk2)
    have HOD := Lib.hid hod
    have HR2 := Lib.hid hr2
    clear hod hr2 hk2 ho HRD HD1
    have c0 := HD2.out.res.cell 0
    have c1 := HD2.out.res.cell 1
    have c2 := HD2.out.res.cell 2
    have c3 := HD2.out.res.cell 3
    have f0 := HD2.out.res.frozen 0
    have f1 := HD2.out.res.frozen 1
    have f2 := HD2.out.res.frozen 2
    have f3 := HD2.out.res.frozen 3
    simp only [List.getElem?_toArray, List.getElem?_cons_zero, List.getElem?_cons_succ] at c0 c1 c2 c3
    have KB2 := Kb.four w2 w.heap.size (.int .i64 id) (.string ⟨dom.toArray⟩) (.int .i64 hs) (.slice av ds.length cv) none
    have HD3 := Lib.hid (HD2.out.laid (.int .i64 id) (.string ⟨dom.toArray⟩) (.int .i64 hs) (.slice av ds.length cv)).1
    have HR3 := Lib.hid (HR2.out.kb HD2.out.res noAsk_no (by omega) KB2)
    have HO3 := Lib.hid (HOD.out.kb HD2.out.res (by decide) (by decide) KB2)
    have HEND := Lib.hid (end_any (w.heap.size + 2) r _ HR3.out)
    clear HD2 HR2 HOD KB2
    go_wp2_with fail
    refine HEND.out.mono ?_
    clear HEND c0 c1 c2 c3 f0 f1 f2 f3
    rintro e w3 ⟨he, rfl⟩
    generalize four w2 w.heap.size (.int .i64 id) (.string ⟨dom.toArray⟩) (.int .i64 hs) (.slice av ds.length cv) = w3 at *
    by_cases hr0 : r = []
    · rw [if_pos hr0] at he
      subst he
      have c0 := HD3.out.res.cell 0
      have c1 := HD3.out.res.cell 1
      have c2 := HD3.out.res.cell 2
      have c3 := HD3.out.res.cell 3
      simp only [List.getElem?_toArray, List.getElem?_cons_zero, List.getElem?_cons_succ] at c0 c1 c2 c3
      have HCK := Lib.hid (acheck_any (id, dom, hs, ds) (.slice av ds.length cv) w3 HO3.out.rd HFIT.out)
      simp only at HCK
      cases hck : K.chk (id, dom, hs, ds)
      · have E := Lib.hid (show K.dec bs = none by rw [HDEC.out, if_neg (by rw [hck]; simp)])
        rw [hck] at HCK
        clear hck
        go_wp2_with (first
          | (go_at_call 12; refine HCK.out.mono ?_; rintro e w4 ⟨rfl, b4⟩; have HD4 := Lib.hid (HD3.out.calm b4); clear b4)
          | (go_at_call 36; refine (must_false _ _).mono ?_; rintro e w5 ⟨rfl, rfl⟩))
        exact door_gave rfl rfl HD4.out.below HD4.out.res HD4.out.code E.out
      · have E := Lib.hid (show K.dec bs = some (id, dom, hs, ds) by rw [HDEC.out, if_pos ⟨hr0, hck⟩])
        rw [hck] at HCK
        clear hck
        go_wp2_with fail
        refine HCK.out.mono ?_
        rintro e w4 ⟨rfl, b4⟩
        have HD4 := Lib.hid (HD3.out.calm b4)
        have HO4 := Lib.hid (HO3.out.below b4)
        clear b4 c0 c1 c2 c3 HCK
        have c0 := HD4.out.res.cell 0
        have c1 := HD4.out.res.cell 1
        have c2 := HD4.out.res.cell 2
        have c3 := HD4.out.res.cell 3
        have f0 := HD4.out.res.frozen 0
        have f1 := HD4.out.res.frozen 1
        have f2 := HD4.out.res.frozen 2
        have f3 := HD4.out.res.frozen 3
        have KB4 := Kb.four w4 w.heap.size (.int .i64 id) (.string ⟨dom.toArray⟩) (.int .i64 hs) (.slice av ds.length cv) none
        have HD5 := Lib.hid (HD4.out.laid (.int .i64 id) (.string ⟨dom.toArray⟩) (.int .i64 hs) (.slice av ds.length cv)).1
        have HO5 := Lib.hid (HO4.out.kb HD4.out.res (by decide) (by decide) KB4)
        have k0 := HD5.out.code.cell 0
        have k1 := HD5.out.code.frozen 0
        unfold four at k0 k1
        simp only [List.getElem?_toArray, List.getElem?_cons_zero, List.getElem?_cons_succ] at c0 c1 c2 c3 k0
        clear KB4
        go_wp2_with (go_at_call 36; refine (must_true _ _).mono ?_; rintro e w5 ⟨rfl, rfl⟩)
        have kc := Kb.set (four w5 w.heap.size (.int .i64 id) (.string ⟨dom.toArray⟩) (.int .i64 hs) (.slice av ds.length cv)) (w.heap.size + 1) 0 (.int .i64 0) none
        have hbig := HD5.out.big
        exact door_done (a := (id, dom, hs, ds)) rfl rfl (HD5.out.below.trans (kc.below (by omega) (fun g hg => by have := Option.some.inj hg; omega) (fun g hg => by cases hg))) (HD5.out.res.kb kc (by simp) (by simp)) (HD5.out.code.one _) E.out (HO5.out.kb HD5.out.code (by decide) (by decide) kc).rd
    · rw [if_neg hr0] at he
      subst he
      have E := Lib.hid (show K.dec bs = none by rw [HDEC.out, if_neg (by simp [hr0])])
      exact door_gave rfl rfl HD3.out.below HD3.out.res HD3.out.code E.out
end Go.Proofs.Ythbmmnjpiflgdaa
