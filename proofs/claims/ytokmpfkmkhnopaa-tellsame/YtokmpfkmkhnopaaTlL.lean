/- The walks of TellBack and TellReads. -/
import Derived.Test.YtokmpfkmkhnopaaTlAw
import Derived.Test.YtokmpfkmkhnopaaTlDA
import Derived.Test.YtokmpfkmkhnopaaTlK
import Derived.Test.YtokmpfkmkhnopaaTlV
namespace Go.Proofs.Ytokmpfkmkhnopaa
open Go.RowKit

/-- A law's reply, as it lies. -/
structure LT (w : World) (p : Nat) (t : TL.T) (vs vh : Value) (x : World) : Prop where
  below : Below w.heap.size w x
  st : Str x p 25 #[.int .i64 t.1, .int .i64 t.2.1, .bool t.2.2.1, vs, vh]
  rd : Rdt x vs vh t.2.2.2.1 t.2.2.2.2
theorem LT.later {w x y : World} {p : Nat} {t : TL.T} {vs vh : Value} (h : LT w p t vs vh x) (hb : Below x.heap.size x y) : LT w p t vs vh y := ⟨below_trans h.below hb, h.st.below hb, h.rd.below hb⟩
theorem LT.start {w : World} {t : TL.T} {vs vh : Value} (hr : Rdt w vs vh t.2.2.2.1 t.2.2.2.2) : LT w w.heap.size t vs vh (w.alloc (.cells #[.int .i64 t.1, .int .i64 t.2.1, .bool t.2.2.1, vs, vh] 25)) :=
  ⟨below_alloc _ _, Str.new _ _ _, hr.below (below_alloc _ _)⟩
theorem LT.box {w x : World} {t : TL.T} {vs vh : Value} (hb : Below w.heap.size w x) (hr : Rdt x vs vh t.2.2.2.1 t.2.2.2.2) : LT w x.heap.size t vs vh (x.alloc (.cells #[.int .i64 t.1, .int .i64 t.2.1, .bool t.2.2.1, vs, vh] 25)) :=
  ⟨below_trans hb (below_alloc _ _), Str.new _ _ _, hr.below (below_alloc _ _)⟩
def Holds (w : World) (e : Ending) (w' : World) : Prop := e = .returned (.bool true) ∧ Below w.heap.size w w'

set_option maxHeartbeats 8000000 in
theorem tellBack_walk (vs vh : Value) (t : TL.T) (w : World) (hr : Rdt w vs vh t.2.2.2.1 t.2.2.2.2) (hf : Fits t.2.2.2.2) :
    Calls Try.prog 4 #[.agg #[.int .i64 t.1, .int .i64 t.2.1, .bool t.2.2.1, vs, vh]] w (Holds w) := by
  have HA0 := Lib.hid (LT.start hr)
  have HHV := Lib.hid (fun x (h : LT w w.heap.size t vs vh x) => theavy_any t vs vh x h.rd)
  have HEN := Lib.hid (fun x (h : LT w w.heap.size t vs vh x) => tencode_any t vs vh x h.rd hf)
  have HCK := Lib.hid (fun x (h : LT w w.heap.size t vs vh x) => rcheckTell_any t vs vh x h.rd hf)
  have HS1 := Lib.hid (fun x v v' (h : LT w w.heap.size t vs vh x) (hv : Rdt x v v' t.2.2.2.1 t.2.2.2.2) => rsameTell_any t t v v' vs vh x hv h.rd)
  have HS2 := Lib.hid (fun x v v' (h : LT w w.heap.size t vs vh x) (hv : Rdt x v v' t.2.2.2.1 t.2.2.2.2) => tsame_any t t vs vh v v' x h.rd hv)
  rw [TL.same_self] at HS1 HS2
  obtain ⟨⟨ad, cd, rfl, -⟩, ⟨ae, ce, rfl, -⟩⟩ := hr
  go_enter Try.func4, Try.ntmps4
  go_wp2_with fail
  refine (HHV.out _ HA0.out).mono ?_
  rintro e w1 ⟨b, rfl, b1⟩
  have HA1 := Lib.hid (HA0.out.later b1)
  clear b1 HA0 HHV
  cases b
  case true =>
    go_wp2_with fail
    refine (awake8 _).mono ?_
    rintro e w2 ⟨rfl, b2⟩
    have HB2 := Lib.hid (below_trans HA1.out.below b2)
    clear b2
    go_wp2
    go_ret
    exact ⟨rfl, HB2.out⟩
  obtain ⟨k0, k1, k2, k3, k4⟩ := HA1.out.st.cells5
  go_wp2_with fail
  refine (HEN.out _ HA1.out).mono ?_
  rintro e w2 ⟨b2, hcase⟩
  have HA2 := Lib.hid (HA1.out.later b2)
  clear b2 HA1 HEN k0 k1 k2 k3 k4
  obtain ⟨k0, k1, k2, k3, k4⟩ := HA2.out.st.cells5
  rcases hcase with ⟨hck, v2, rfl, hv2⟩ | ⟨hck, rfl⟩
  · have HD := Lib.hid (tdecode_any v2 (TL.enc t) w2 hv2)
    rw [TL.dec_enc hck] at HD
    obtain ⟨a2, c2, rfl, -⟩ := hv2
    obtain ⟨N, hN⟩ : ∃ N, (bv (TL.enc t)).length = N := ⟨_, rfl⟩
    rw [hN] at HD ⊢
    clear hN HCK hck
    go_wp2_with fail
    refine HD.out.mono ?_
    rintro e w3 ⟨b3, hcase⟩
    rcases hcase with ⟨a', v3, u3, ho, rfl, hv3⟩ | ⟨hno, _⟩
    case inr => cases hno
    obtain rfl := Option.some.inj ho
    have HA3 := Lib.hid (HA2.out.later (below_trans b3 (below_alloc w3 (.cells #[.int .i64 t.1, .int .i64 t.2.1, .bool t.2.2.1, v3, u3] 25))))
    have HX3 := Lib.hid (LT.box (w := w3) (Below.refl _ _) hv3)
    obtain ⟨⟨a3, c3, rfl, -⟩, ⟨a3', c3', rfl, -⟩⟩ := hv3
    clear b3 HA2 HD k0 k1 k2 k3 k4 ho
    obtain ⟨k0, k1, k2, k3, k4⟩ := HA3.out.st.cells5
    obtain ⟨x0, x1, x2, x3, x4⟩ := HX3.out.st.cells5
    go_wp2_with fail
    refine (HS1.out _ _ _ HA3.out HX3.out.rd).mono ?_
    rintro e w4 ⟨rfl, b4⟩
    have HA4 := Lib.hid (HA3.out.later b4)
    have HX4 := Lib.hid (HX3.out.later b4)
    clear b4 HA3 HX3 HS1 k0 k1 k2 k3 k4 x0 x1 x2 x3 x4
    obtain ⟨k0, k1, k2, k3, k4⟩ := HA4.out.st.cells5
    obtain ⟨x0, x1, x2, x3, x4⟩ := HX4.out.st.cells5
    go_wp2_with fail
    refine (HS2.out _ _ _ HA4.out HX4.out.rd).mono ?_
    rintro e w5 ⟨rfl, b5⟩
    have HB5 := Lib.hid (below_trans HA4.out.below b5)
    clear b5 HA4 HX4 HS2 k0 k1 k2 k3 k4 x0 x1 x2 x3 x4
    go_wp2_with fail
    refine (awake8 _).mono ?_
    rintro e w6 ⟨rfl, b6⟩
    have HB6 := Lib.hid (below_trans HB5.out b6)
    clear b6
    go_wp2
    go_ret
    exact ⟨rfl, HB6.out⟩
  · rw [hck] at HCK
    clear hck
    go_wp2_with fail
    refine (HCK.out _ HA2.out).mono ?_
    rintro e w3 ⟨rfl, b3⟩
    have HB3 := Lib.hid (below_trans HA2.out.below b3)
    clear b3 HA2 HCK k0 k1 k2 k3 k4
    go_wp2_with fail
    refine (awake8 _).mono ?_
    rintro e w6 ⟨rfl, b6⟩
    have HB6 := Lib.hid (below_trans HB3.out b6)
    clear b6
    go_wp2
    go_ret
    exact ⟨rfl, HB6.out⟩

set_option maxHeartbeats 8000000 in
theorem tellReads_walk (v : Value) (bs : List UInt8) (w : World) (hr : Rdv w v (bv bs)) (_hl : bs.length ≤ 140737488351232) :
    Calls Try.prog 5 #[v] w (Holds w) := by
  have HR := Lib.hid hr
  have HD := Lib.hid (fun x (h : Below w.heap.size w x) => tdecode_any v bs x (hr.below h))
  have HRD := Lib.hid (fun x (h : Below w.heap.size w x) => rdecodeTell_any v bs x (hr.below h))
  obtain ⟨ao, cap, rfl, -⟩ := hr
  rw [bv_len] at HR HD HRD ⊢
  by_cases hl : bs.length ≤ 5000
  case neg =>
    have g0 : (5000 : Int) < (bs.length : Int) := by omega
    clear HD HRD HR
    go_enter Try.func5, Try.ntmps5
    go_wp2_with fail
    refine (awake8 _).mono ?_
    rintro e w6 ⟨rfl, b6⟩
    have HB6 := Lib.hid b6
    clear b6
    go_wp2
    go_ret
    exact ⟨rfl, HB6.out⟩
  obtain ⟨L, hL⟩ : ∃ L, bs.length = L := ⟨_, rfl⟩
  rw [hL] at HR HD HRD hl ⊢
  have g0 : ¬ (5000 : Int) < (L : Int) := by omega
  clear hL
  cases hdec : TL.dec bs with
  | none =>
    rw [hdec] at HD HRD
    clear hdec
    go_enter Try.func5, Try.ntmps5
    go_wp2_with fail
    refine (HD.out _ (Below.refl _ _)).mono ?_
    rintro e w1 ⟨b1, hcase⟩
    rcases hcase with ⟨_, _, _, hno, _⟩ | ⟨_, rfl⟩
    case inl => cases hno
    unfold noTell
    have HB1 := Lib.hid (below_trans b1 (below_alloc w1 (.cells #[.int .i64 0, .int .i64 0, .bool false, .slice none 0 0, .slice none 0 0] 25)))
    have HX1 := Lib.hid (LT.box (w := w1) (t := tN) (Below.refl _ _) (Rdt.nil w1))
    clear b1 HD
    go_wp2_with fail
    refine (HRD.out _ HB1.out).mono ?_
    rintro e w2 ⟨b2, hcase⟩
    rcases hcase with ⟨_, _, _, hno, _⟩ | ⟨_, rfl⟩
    case inl => cases hno
    unfold noTell
    have B2 := below_alloc w2 (.cells #[.int .i64 0, .int .i64 0, .bool false, .slice none 0 0, .slice none 0 0] 25)
    have HB2 := Lib.hid (below_trans HB1.out (below_trans b2 B2))
    have HX2 := Lib.hid (HX1.out.later (below_trans b2 B2))
    have HY2 := Lib.hid (LT.box (w := w2) (t := tN) (Below.refl _ _) (Rdt.nil w2))
    clear b2 B2 HRD HX1 HB1
    have HS := Lib.hid (rsameTell_any tN tN _ _ _ _ _ HX2.out.rd HY2.out.rd)
    rw [TL.same_self] at HS
    obtain ⟨x0, x1, x2, x3, x4⟩ := HX2.out.st.cells5
    unfold tN at x0 x1 x2
    simp only at x0 x1 x2
    go_wp2_with fail
    refine HS.out.mono ?_
    rintro e w3 ⟨rfl, b3⟩
    have HB3 := Lib.hid (below_trans HB2.out b3)
    have HX3 := Lib.hid (HX2.out.later b3)
    clear b3 HX2 HY2 HB2 HS x0 x1 x2 x3 x4
    have HE := Lib.hid (tencode_any tN _ _ w3 HX3.out.rd fits_nil)
    obtain ⟨x0, x1, x2, x3, x4⟩ := HX3.out.st.cells5
    unfold tN at x0 x1 x2
    simp only at x0 x1 x2
    go_wp2_with fail
    refine HE.out.mono ?_
    rintro e w4 ⟨b4, hcase⟩
    rcases hcase with ⟨hno, _⟩ | ⟨_, rfl⟩
    case inl => rw [chk_tN] at hno; cases hno
    have HB4 := Lib.hid (below_trans HB3.out b4)
    clear b4 HX3 HB3 HE x0 x1 x2 x3 x4
    go_wp2_with fail
    refine (awake8 _).mono ?_
    rintro e w6 ⟨rfl, b6⟩
    have HB6 := Lib.hid (below_trans HB4.out b6)
    clear b6
    go_wp2
    go_ret
    exact ⟨rfl, HB6.out⟩
  | some t =>
    obtain ⟨hbs, hck, hin⟩ := TL.dec_some hdec
    have HFIT := Lib.hid (inT_fits hin)
    have HBS := Lib.hid hbs
    have HCK := Lib.hid hck
    rw [hdec] at HD HRD
    clear hdec hbs hck hin
    go_enter Try.func5, Try.ntmps5
    go_wp2_with fail
    refine (HD.out _ (Below.refl _ _)).mono ?_
    rintro e w1 ⟨b1, hcase⟩
    rcases hcase with ⟨a', v1, u1, ho, rfl, hv1⟩ | ⟨hno, _⟩
    case inr => cases hno
    obtain rfl := Option.some.inj ho
    have HB1 := Lib.hid (below_trans b1 (below_alloc w1 (.cells #[.int .i64 t.1, .int .i64 t.2.1, .bool t.2.2.1, v1, u1] 25)))
    have HX1 := Lib.hid (LT.box (w := w1) (Below.refl _ _) hv1)
    obtain ⟨⟨a1, c1, rfl, -⟩, ⟨a1', c1', rfl, -⟩⟩ := hv1
    clear b1 HD ho
    go_wp2_with fail
    refine (HRD.out _ HB1.out).mono ?_
    rintro e w2 ⟨b2, hcase⟩
    rcases hcase with ⟨a', v2, u2, ho, rfl, hv2⟩ | ⟨hno, _⟩
    case inr => cases hno
    obtain rfl := Option.some.inj ho
    have B2 := below_alloc w2 (.cells #[.int .i64 t.1, .int .i64 t.2.1, .bool t.2.2.1, v2, u2] 25)
    have HB2 := Lib.hid (below_trans HB1.out (below_trans b2 B2))
    have HX2 := Lib.hid (HX1.out.later (below_trans b2 B2))
    have HY2 := Lib.hid (LT.box (w := w2) (Below.refl _ _) hv2)
    obtain ⟨⟨a2, c2, rfl, -⟩, ⟨a2', c2', rfl, -⟩⟩ := hv2
    clear b2 B2 HRD HX1 HB1 ho
    have HS := Lib.hid (rsameTell_any t t _ _ _ _ _ HX2.out.rd HY2.out.rd)
    rw [TL.same_self] at HS
    obtain ⟨x0, x1, x2, x3, x4⟩ := HX2.out.st.cells5
    obtain ⟨y0, y1, y2, y3, y4⟩ := HY2.out.st.cells5
    go_wp2_with fail
    refine HS.out.mono ?_
    rintro e w3 ⟨rfl, b3⟩
    have HB3 := Lib.hid (below_trans HB2.out b3)
    have HX3 := Lib.hid (HX2.out.later b3)
    clear b3 HX2 HY2 HB2 HS x0 x1 x2 x3 x4 y0 y1 y2 y3 y4
    have HE := Lib.hid (tencode_any t _ _ w3 HX3.out.rd HFIT.out)
    obtain ⟨x0, x1, x2, x3, x4⟩ := HX3.out.st.cells5
    go_wp2_with fail
    refine HE.out.mono ?_
    rintro e w4 ⟨b4, hcase⟩
    rcases hcase with ⟨_, v4, rfl, hv4⟩ | ⟨hno, _⟩
    case inr => rw [HCK.out] at hno; cases hno
    have HB4 := Lib.hid (below_trans HB3.out b4)
    have HBY := Lib.hid (rbytes_true (HR.out.below HB4.out) hv4 HBS.out)
    obtain ⟨a4, c4, rfl, -⟩ := hv4
    obtain ⟨N, hN⟩ : ∃ N, (bv (TL.enc t)).length = N := ⟨_, rfl⟩
    rw [hN] at HBY ⊢
    clear b4 HX3 HB3 HE x0 x1 x2 x3 x4 hN
    go_wp2_with fail
    refine HBY.out.mono ?_
    rintro e w5 ⟨rfl, rfl⟩
    clear HBY
    go_wp2_with fail
    refine (awake8 _).mono ?_
    rintro e w6 ⟨rfl, b6⟩
    have HB6 := Lib.hid (below_trans HB4.out b6)
    clear b6
    go_wp2
    go_ret
    exact ⟨rfl, HB6.out⟩
end Go.Proofs.Ytokmpfkmkhnopaa
