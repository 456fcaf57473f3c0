/- The walks of TellMakes and TellSame. -/
import Derived.Test.YtokmpfkmkhnopaaTlL
namespace Go.Proofs.Ytokmpfkmkhnopaa
open Go.RowKit

theorem LT.five {w x : World} {p : Nat} {t : TL.T} {vs vh : Value} (h : LT w p t vs vh x) : x.cell? ⟨p, 0, none⟩ = some (.int .i64 t.1) ∧ x.cell? ⟨p, 1, none⟩ = some (.int .i64 t.2.1) ∧ x.cell? ⟨p, 2, none⟩ = some (.bool t.2.2.1) ∧ x.cell? ⟨p, 3, none⟩ = some vs ∧ x.cell? ⟨p, 4, none⟩ = some vh := h.st.cells5
/-- What both Encodes answer: the same bytes. -/
def EncT2 (w : World) (c : Bool) (bs : List UInt8) (e : Ending) (w' : World) : Prop := ∃ ao n cap, e = .returned (.tuple #[.slice ao n cap, .int .i64 (errOf c)]) ∧ Rdv w' (.slice ao n cap) (bv bs) ∧ Below w.heap.size w w'
def tencOf (t : TL.T) : List UInt8 := if TL.chk t then TL.enc t else []
theorem encT2_of {w : World} {t : TL.T} {e : Ending} {w' : World} (h : EncT w t e w') : EncT2 w (TL.chk t) (tencOf t) e w' := by
  obtain ⟨b, hc⟩ := h
  rcases hc with ⟨h1, v', rfl, hv⟩ | ⟨h1, rfl⟩
  · unfold tencOf
    rw [h1, if_pos rfl]
    obtain ⟨ao, cap, rfl, -⟩ := id hv
    exact ⟨ao, _, cap, rfl, hv, b⟩
  · unfold tencOf
    rw [h1]
    exact ⟨none, 0, 0, rfl, Rdv.nil _, b⟩

set_option maxHeartbeats 8000000 in
theorem tellMakes_walk (vs vh : Value) (t : TL.T) (w : World) (hr : Rdt w vs vh t.2.2.2.1 t.2.2.2.2) (hf : Fits t.2.2.2.2) :
    Calls Try.prog 3 #[.agg #[.int .i64 t.1, .int .i64 t.2.1, .bool t.2.2.1, vs, vh]] w (Holds w) := by
  have HA0 := Lib.hid (LT.start hr)
  have HHV := Lib.hid (fun x (h : LT w w.heap.size t vs vh x) => theavy_any t vs vh x h.rd)
  have HE1 := Lib.hid (fun x (h : LT w w.heap.size t vs vh x) => (tencode_any t vs vh x h.rd hf).mono fun _ _ => encT2_of)
  have HE2 := Lib.hid (fun x (h : LT w w.heap.size t vs vh x) => (rencodeTell_any t vs vh x h.rd hf).mono fun _ _ => encT2_of)
  have HC1 := Lib.hid (fun x (h : LT w w.heap.size t vs vh x) => tcheck_any t vs vh x h.rd hf)
  have HC2 := Lib.hid (fun x (h : LT w w.heap.size t vs vh x) => rcheckTell_any t vs vh x h.rd hf)
  obtain ⟨⟨ad, cd, rfl, -⟩, ⟨ae, ce, rfl, -⟩⟩ := hr
  generalize TL.chk t = r at *
  generalize tencOf t = bs at *
  obtain ⟨id, code, full, ss, hs⟩ := t
  simp only at *
  go_enter Try.func3, Try.ntmps3
  go_wp2_with fail
  refine (HHV.out _ HA0.out).mono ?_
  rintro e w1 ⟨b, rfl, b1⟩
  have HA1 := Lib.hid (HA0.out.later b1)
  clear b1 HA0 HHV
  cases b
  case true =>
    go_wp2_with fail
    refine (awake8 _).mono ?_
    rintro e w2 ⟨rfl, b2⟩
    have HB2 := Lib.hid (below_trans HA1.out.below b2)
    clear b2
    go_wp2
    go_ret
    exact ⟨rfl, HB2.out⟩
  obtain ⟨k0, k1, k2, k3, k4⟩ := HA1.out.five
  go_wp2_with fail
  refine (HE1.out _ HA1.out).mono ?_
  rintro e w2 ⟨a2, n2, c2, rfl, hv2, b2⟩
  have HA2 := Lib.hid (HA1.out.later b2)
  have HV2 := Lib.hid hv2
  clear b2 HA1 HE1 hv2 k0 k1 k2 k3 k4
  obtain ⟨k0, k1, k2, k3, k4⟩ := HA2.out.five
  go_wp2_with fail
  refine (HE2.out _ HA2.out).mono ?_
  rintro e w3 ⟨a3, n3, c3, rfl, hv3, b3⟩
  have HA3 := Lib.hid (HA2.out.later b3)
  have HV3 := Lib.hid hv3
  have HU3 := Lib.hid (HV2.out.below b3)
  have HBY := Lib.hid (fun x (h : Below w3.heap.size w3 x) => rbytes_true (HU3.out.below h) (HV3.out.below h) rfl)
  have HA4 := Lib.hid (HA3.out.later (below_drew _))
  clear b3 HA2 HV2 HE2 hv3 k0 k1 k2 k3 k4
  have er : ((errOf r) == (errOf r)) = true := by simp
  have ec : ((errOf r) == 0) = r := by cases r <;> rfl
  have eq : (r == r) = true := by simp
  go_wp2
  go_region_held3 (fun x => x.cell? ⟨w.heap.size, 0, none⟩ = some (.int .i64 id) ∧ x.cell? ⟨w.heap.size, 1, none⟩ = some (.int .i64 code) ∧ x.cell? ⟨w.heap.size, 2, none⟩ = some (.bool full) ∧ x.cell? ⟨w.heap.size, 3, none⟩ = some (.slice ad ss.length cd) ∧ x.cell? ⟨w.heap.size, 4, none⟩ = some (.slice ae hs.length ce)) (first | exact HA4.out.five | exact HA5.out.five | exact HA6.out.five | exact HA9.out.five) (first
    | (go_at_call 11; refine (HC1.out _ HA4.out).mono ?_; rintro e w5 ⟨rfl, b5⟩; have HA5 := Lib.hid (HA4.out.later b5); have B5 := Lib.hid (below_undrew b5); clear b5)
    | (go_at_call 12; refine (HC2.out _ HA5.out).mono ?_; rintro e w6 ⟨rfl, b6⟩; have HA6 := Lib.hid (HA5.out.later b6); have B6 := Lib.hid (below_trans B5.out b6); clear b6)
    | (go_at_call 13; refine (HBY.out _ B6.out).mono ?_; rintro e w88 ⟨rfl, hw88⟩; subst hw88)
    | (go_at_call 8; refine (awake8 _).mono ?_; rintro e w9 ⟨rfl, b9⟩; have HA9 := Lib.hid (HA6.out.later b9); clear b9))
  have HB9 := Lib.hid HA9.out.below
  clear HA4 HA5 HA6 HA9 B5 B6
  go_wp2
  go_ret
  exact ⟨rfl, HB9.out⟩

/-- Two replies, as they lie. -/
structure LU (w : World) (a b : TL.T) (va vh vb vg : Value) (x : World) : Prop where
  below : Below w.heap.size w x
  sa : Str x w.heap.size 25 #[.int .i64 a.1, .int .i64 a.2.1, .bool a.2.2.1, va, vh]
  sb : Str x (w.heap.size + 1) 25 #[.int .i64 b.1, .int .i64 b.2.1, .bool b.2.2.1, vb, vg]
  ra : Rdt x va vh a.2.2.2.1 a.2.2.2.2
  rb : Rdt x vb vg b.2.2.2.1 b.2.2.2.2
theorem LU.later {w x y : World} {a b : TL.T} {va vh vb vg : Value} (h : LU w a b va vh vb vg x) (hb : Below x.heap.size x y) : LU w a b va vh vb vg y := ⟨below_trans h.below hb, h.sa.below hb, h.sb.below hb, h.ra.below hb, h.rb.below hb⟩
theorem LU.start {w : World} {a b : TL.T} {va vh vb vg : Value} (ha : Rdt w va vh a.2.2.2.1 a.2.2.2.2) (hb : Rdt w vb vg b.2.2.2.1 b.2.2.2.2) : LU w a b va vh vb vg ((w.alloc (.cells #[.int .i64 a.1, .int .i64 a.2.1, .bool a.2.2.1, va, vh] 25)).alloc (.cells #[.int .i64 b.1, .int .i64 b.2.1, .bool b.2.2.1, vb, vg] 25)) := by
  have h := TwoT.new w #[.int .i64 a.1, .int .i64 a.2.1, .bool a.2.2.1, va, vh] #[.int .i64 b.1, .int .i64 b.2.1, .bool b.2.2.1, vb, vg]
  exact ⟨h.below, h.first, h.second, ha.below h.below, hb.below h.below⟩
theorem LU.ten {w x : World} {a b : TL.T} {va vh vb vg : Value} (h : LU w a b va vh vb vg x) : (x.cell? ⟨w.heap.size, 0, none⟩ = some (.int .i64 a.1) ∧ x.cell? ⟨w.heap.size, 1, none⟩ = some (.int .i64 a.2.1) ∧ x.cell? ⟨w.heap.size, 2, none⟩ = some (.bool a.2.2.1) ∧ x.cell? ⟨w.heap.size, 3, none⟩ = some va ∧ x.cell? ⟨w.heap.size, 4, none⟩ = some vh) ∧ x.cell? ⟨w.heap.size + 1, 0, none⟩ = some (.int .i64 b.1) ∧ x.cell? ⟨w.heap.size + 1, 1, none⟩ = some (.int .i64 b.2.1) ∧ x.cell? ⟨w.heap.size + 1, 2, none⟩ = some (.bool b.2.2.1) ∧ x.cell? ⟨w.heap.size + 1, 3, none⟩ = some vb ∧ x.cell? ⟨w.heap.size + 1, 4, none⟩ = some vg := ⟨h.sa.cells5, h.sb.cells5⟩

set_option maxHeartbeats 8000000 in
theorem tellSame_walk (va vh : Value) (a : TL.T) (vb vg : Value) (b : TL.T) (w : World) (ha : Rdt w va vh a.2.2.2.1 a.2.2.2.2) (_hfa : Fits a.2.2.2.2) (hb : Rdt w vb vg b.2.2.2.1 b.2.2.2.2) (_hfb : Fits b.2.2.2.2) :
    Calls Try.prog 6 #[.agg #[.int .i64 a.1, .int .i64 a.2.1, .bool a.2.2.1, va, vh], .agg #[.int .i64 b.1, .int .i64 b.2.1, .bool b.2.2.1, vb, vg]] w (Holds w) := by
  have HA0 := Lib.hid (LU.start ha hb)
  have HH1 := Lib.hid (fun x (h : LU w a b va vh vb vg x) => theavy_any a va vh x h.ra)
  have HH2 := Lib.hid (fun x (h : LU w a b va vh vb vg x) => theavy_any b vb vg x h.rb)
  have HS1 := Lib.hid (fun x (h : LU w a b va vh vb vg x) => tsame_any a b va vh vb vg x h.ra h.rb)
  have HS2 := Lib.hid (fun x (h : LU w a b va vh vb vg x) => rsameTell_any a b va vh vb vg x h.ra h.rb)
  have HS3 := Lib.hid (fun x (h : LU w a b va vh vb vg x) => tsame_any a a va vh va vh x h.ra h.ra)
  rw [TL.same_self] at HS3
  obtain ⟨⟨aa, ca, rfl, -⟩, ⟨ae, ce, rfl, -⟩⟩ := ha
  obtain ⟨⟨ab, cb, rfl, -⟩, ⟨ag, cg, rfl, -⟩⟩ := hb
  generalize TL.same a b = sm at *
  obtain ⟨id, code, full, ss, hs⟩ := a
  obtain ⟨id', code', full', ss', hs'⟩ := b
  simp only at *
  go_enter Try.func6, Try.ntmps6
  go_wp2_with fail
  refine (HH1.out _ HA0.out).mono ?_
  rintro e w1 ⟨b1, rfl, q1⟩
  have HA1 := Lib.hid (HA0.out.later q1)
  clear q1 HA0 HH1
  obtain ⟨⟨k0, k1, k2, k3, k4⟩, l0, l1, l2, l3, l4⟩ := HA1.out.ten
  cases b1
  case true =>
    go_wp2_with fail
    refine (awake8 _).mono ?_
    rintro e w2 ⟨rfl, b2⟩
    have HB2 := Lib.hid (below_trans HA1.out.below b2)
    clear b2
    go_wp2
    go_ret
    exact ⟨rfl, HB2.out⟩
  go_wp2_with fail
  refine (HH2.out _ HA1.out).mono ?_
  rintro e w2 ⟨b2, rfl, q2⟩
  have HA2 := Lib.hid (HA1.out.later q2)
  clear q2 HA1 HH2 k0 k1 k2 k3 k4 l0 l1 l2 l3 l4
  cases b2
  case true =>
    go_wp2_with fail
    refine (awake8 _).mono ?_
    rintro e w3 ⟨rfl, b3⟩
    have HB3 := Lib.hid (below_trans HA2.out.below b3)
    clear b3
    go_wp2
    go_ret
    exact ⟨rfl, HB3.out⟩
  have HA3 := Lib.hid (HA2.out.later (below_drew _))
  have es2 : (sm == sm) = true := by simp
  go_wp2
  go_region_held3 (fun x => (x.cell? ⟨w.heap.size, 0, none⟩ = some (.int .i64 id) ∧ x.cell? ⟨w.heap.size, 1, none⟩ = some (.int .i64 code) ∧ x.cell? ⟨w.heap.size, 2, none⟩ = some (.bool full) ∧ x.cell? ⟨w.heap.size, 3, none⟩ = some (.slice aa ss.length ca) ∧ x.cell? ⟨w.heap.size, 4, none⟩ = some (.slice ae hs.length ce)) ∧ x.cell? ⟨w.heap.size + 1, 0, none⟩ = some (.int .i64 id') ∧ x.cell? ⟨w.heap.size + 1, 1, none⟩ = some (.int .i64 code') ∧ x.cell? ⟨w.heap.size + 1, 2, none⟩ = some (.bool full') ∧ x.cell? ⟨w.heap.size + 1, 3, none⟩ = some (.slice ab ss'.length cb) ∧ x.cell? ⟨w.heap.size + 1, 4, none⟩ = some (.slice ag hs'.length cg)) (first | exact HA3.out.ten | exact HA4.out.ten | exact HA5.out.ten | exact HA6.out.ten | exact HA7.out.ten) (first
    | (go_at_call 16; refine (HS3.out _ HA5.out).mono ?_; rintro e w6 ⟨rfl, b6⟩; have HA6 := Lib.hid (HA5.out.later b6); clear b6)
    | (go_at_call 16; refine (HS1.out _ HA3.out).mono ?_; rintro e w4 ⟨rfl, b4⟩; have HA4 := Lib.hid (HA3.out.later b4); clear b4)
    | (go_at_call 15; refine (HS2.out _ HA4.out).mono ?_; rintro e w5 ⟨rfl, b5⟩; have HA5 := Lib.hid (HA4.out.later b5); clear b5)
    | (go_at_call 8; refine (awake8 _).mono ?_; rintro e w7 ⟨rfl, b7⟩; have HA7 := Lib.hid (HA6.out.later b7); clear b7))
  have HB7 := Lib.hid HA7.out.below
  clear HA2 HA3 HA4 HA5 HA6 HA7
  go_wp2
  go_ret
  exact ⟨rfl, HB7.out⟩
end Go.Proofs.Ytokmpfkmkhnopaa
