/- The walks of AskBack and AskReads. -/
import Derived.Test.YthbmmnjpiflgdaaAkAw
import Derived.Test.YthbmmnjpiflgdaaAkDA
import Derived.Test.YthbmmnjpiflgdaaAkK
import Derived.Test.YthbmmnjpiflgdaaAkW
import Derived.Test.YthbmmnjpiflgdaaAkV
namespace Go.Proofs.Ythbmmnjpiflgdaa
open Go.RowKit

/-- A law's request, as it lies. -/
structure LA (w : World) (p : Nat) (a : K.A) (vd : Value) (x : World) : Prop where
  below : Below w.heap.size w x
  st : Str x p 24 #[.int .i64 a.1, .string ⟨a.2.1.toArray⟩, .int .i64 a.2.2.1, vd]
  rd : Rdd x vd a.2.2.2
theorem LA.later {w x y : World} {p : Nat} {a : K.A} {vd : Value} (h : LA w p a vd x) (hb : Below x.heap.size x y) : LA w p a vd y := ⟨below_trans h.below hb, h.st.below hb, h.rd.below hb⟩
theorem LA.start {w : World} {a : K.A} {vd : Value} (hr : Rdd w vd a.2.2.2) : LA w w.heap.size a vd (w.alloc (.cells #[.int .i64 a.1, .string ⟨a.2.1.toArray⟩, .int .i64 a.2.2.1, vd] 24)) :=
  ⟨below_alloc _ _, Str.new _ _ _, hr.below (below_alloc _ _)⟩
theorem LA.box {w x : World} {a : K.A} {vd : Value} (hb : Below w.heap.size w x) (hr : Rdd x vd a.2.2.2) : LA w x.heap.size a vd (x.alloc (.cells #[.int .i64 a.1, .string ⟨a.2.1.toArray⟩, .int .i64 a.2.2.1, vd] 24)) :=
  ⟨below_trans hb (below_alloc _ _), Str.new _ _ _, hr.below (below_alloc _ _)⟩
def Holds (w : World) (e : Ending) (w' : World) : Prop := e = .returned (.bool true) ∧ Below w.heap.size w w'
theorem same_self (a : K.A) : K.same a a = true := K.same_iff.2 rfl

set_option maxHeartbeats 8000000 in
theorem askBack_walk (vd : Value) (a : K.A) (w : World) (hr : Rdd w vd a.2.2.2) (hf : FitA a) :
    Calls Try.prog 4 #[.agg #[.int .i64 a.1, .string ⟨a.2.1.toArray⟩, .int .i64 a.2.2.1, vd]] w (Holds w) := by
  have HA0 := Lib.hid (LA.start hr)
  have HHV := Lib.hid (fun x (h : LA w w.heap.size a vd x) => heavy_any a vd x h.rd)
  have HEN := Lib.hid (fun x (h : LA w w.heap.size a vd x) => encode_any a vd x h.rd hf)
  have HCK := Lib.hid (fun x (h : LA w w.heap.size a vd x) => rcheckAsk_any a vd x h.rd hf)
  have HS1 := Lib.hid (fun x v (h : LA w w.heap.size a vd x) (hv : Rdd x v a.2.2.2) => rsameAsk_any a a v vd x hv h.rd)
  have HS2 := Lib.hid (fun x v (h : LA w w.heap.size a vd x) (hv : Rdd x v a.2.2.2) => asame_any a a vd v x h.rd hv)
  rw [same_self] at HS1 HS2
  obtain ⟨ad, cd, rfl, -⟩ := hr
  go_enter Try.func4, Try.ntmps4
  go_wp2_with fail
  refine (HHV.out _ HA0.out).mono ?_
  rintro e w1 ⟨b, rfl, b1⟩
  have HA1 := Lib.hid (HA0.out.later b1)
  clear b1 HA0 HHV
  cases b
  case true =>
    go_wp2_with fail
    refine (awake7 _).mono ?_
    rintro e w2 ⟨rfl, b2⟩
    have HB2 := Lib.hid (below_trans HA1.out.below b2)
    clear b2
    go_wp2
    go_ret
    exact ⟨rfl, HB2.out⟩
  obtain ⟨k0, k1, k2, k3⟩ := HA1.out.st.cells
  go_wp2_with fail
  refine (HEN.out _ HA1.out).mono ?_
  rintro e w2 ⟨b2, hcase⟩
  have HA2 := Lib.hid (HA1.out.later b2)
  clear b2 HA1 HEN k0 k1 k2 k3
  obtain ⟨k0, k1, k2, k3⟩ := HA2.out.st.cells
  rcases hcase with ⟨hck, v2, rfl, hv2⟩ | ⟨hck, rfl⟩
  · have HD := Lib.hid (decode_any v2 (K.enc a) w2 hv2)
    rw [K.dec_enc hck] at HD
    obtain ⟨a2, c2, rfl, -⟩ := hv2
    obtain ⟨N, hN⟩ : ∃ N, (bv (K.enc a)).length = N := ⟨_, rfl⟩
    rw [hN] at HD ⊢
    clear hN HCK hck
    go_wp2_with fail
    refine HD.out.mono ?_
    rintro e w3 ⟨b3, hcase⟩
    rcases hcase with ⟨a', v3, ho, rfl, hv3⟩ | ⟨hno, _⟩
    case inr => cases hno
    obtain rfl := Option.some.inj ho
    have HA3 := Lib.hid (HA2.out.later (below_trans b3 (below_alloc w3 (.cells #[.int .i64 a.1, .string ⟨a.2.1.toArray⟩, .int .i64 a.2.2.1, v3] 24))))
    have HX3 := Lib.hid (LA.box (w := w3) (Below.refl _ _) hv3)
    obtain ⟨a3, c3, rfl, -⟩ := hv3
    clear b3 HA2 HD k0 k1 k2 k3 ho
    obtain ⟨k0, k1, k2, k3⟩ := HA3.out.st.cells
    obtain ⟨x0, x1, x2, x3⟩ := HX3.out.st.cells
    go_wp2_with fail
    refine (HS1.out _ _ HA3.out HX3.out.rd).mono ?_
    rintro e w4 ⟨rfl, b4⟩
    have HA4 := Lib.hid (HA3.out.later b4)
    have HX4 := Lib.hid (HX3.out.later b4)
    clear b4 HA3 HX3 HS1 k0 k1 k2 k3 x0 x1 x2 x3
    obtain ⟨k0, k1, k2, k3⟩ := HA4.out.st.cells
    obtain ⟨x0, x1, x2, x3⟩ := HX4.out.st.cells
    go_wp2_with fail
    refine (HS2.out _ _ HA4.out HX4.out.rd).mono ?_
    rintro e w5 ⟨rfl, b5⟩
    have HB5 := Lib.hid (below_trans HA4.out.below b5)
    clear b5 HA4 HX4 HS2 k0 k1 k2 k3 x0 x1 x2 x3
    go_wp2_with fail
    refine (awake7 _).mono ?_
    rintro e w6 ⟨rfl, b6⟩
    have HB6 := Lib.hid (below_trans HB5.out b6)
    clear b6
    go_wp2
    go_ret
    exact ⟨rfl, HB6.out⟩
  · rw [hck] at HCK
    clear hck
    go_wp2_with fail
    refine (HCK.out _ HA2.out).mono ?_
    rintro e w3 ⟨rfl, b3⟩
    have HB3 := Lib.hid (below_trans HA2.out.below b3)
    clear b3 HA2 HCK k0 k1 k2 k3
    go_wp2_with fail
    refine (awake7 _).mono ?_
    rintro e w6 ⟨rfl, b6⟩
    have HB6 := Lib.hid (below_trans HB3.out b6)
    clear b6
    go_wp2
    go_ret
    exact ⟨rfl, HB6.out⟩

theorem fit_dec {bs : List UInt8} {a : K.A} (h : K.dec bs = some a) : FitA a := by
  unfold K.dec at h
  obtain ⟨⟨a', r⟩, h1, h⟩ := Option.bind_eq_some_iff.1 h
  simp only at h
  split at h
  · obtain rfl := Option.some.inj h
    exact par_fits h1
  · cases h

set_option maxHeartbeats 8000000 in
theorem askReads_walk (v : Value) (bs : List UInt8) (w : World) (hr : Rdv w v (bv bs)) (_hl : bs.length ≤ 140737488351232) :
    Calls Try.prog 5 #[v] w (Holds w) := by
  have HR := Lib.hid hr
  have HD := Lib.hid (fun x (h : Below w.heap.size w x) => decode_any v bs x (hr.below h))
  have HRD := Lib.hid (fun x (h : Below w.heap.size w x) => rdecode_any v bs x (hr.below h))
  obtain ⟨ao, cap, rfl, -⟩ := hr
  rw [bv_len] at HR HD HRD ⊢
  by_cases hl : bs.length ≤ 5000
  case neg =>
    have g0 : (5000 : Int) < (bs.length : Int) := by omega
    clear HD HRD HR
    go_enter Try.func5, Try.ntmps5
    go_wp2_with fail
    refine (awake7 _).mono ?_
    rintro e w6 ⟨rfl, b6⟩
    have HB6 := Lib.hid b6
    clear b6
    go_wp2
    go_ret
    exact ⟨rfl, HB6.out⟩
  obtain ⟨L, hL⟩ : ∃ L, bs.length = L := ⟨_, rfl⟩
  rw [hL] at HR HD HRD hl ⊢
  have g0 : ¬ (5000 : Int) < (L : Int) := by omega
  clear hL
  cases hdec : K.dec bs with
  | none =>
    rw [hdec] at HD HRD
    clear hdec
    go_enter Try.func5, Try.ntmps5
    go_wp2_with fail
    refine (HD.out _ (Below.refl _ _)).mono ?_
    rintro e w1 ⟨b1, hcase⟩
    rcases hcase with ⟨_, _, hno, _⟩ | ⟨_, rfl⟩
    case inl => cases hno
    unfold noAsk
    have HB1 := Lib.hid (below_trans b1 (below_alloc w1 (.cells #[.int .i64 0, .string ⟨#[]⟩, .int .i64 0, .slice none 0 0] 24)))
    have HX1 := Lib.hid (LA.box (w := w1) (a := aN) (Below.refl _ _) (Rdd.nil w1))
    clear b1 HD
    go_wp2_with fail
    refine (HRD.out _ HB1.out).mono ?_
    rintro e w2 ⟨b2, hcase⟩
    rcases hcase with ⟨_, _, hno, _⟩ | ⟨_, rfl⟩
    case inl => cases hno
    unfold noAsk
    have B2 := below_alloc w2 (.cells #[.int .i64 0, .string ⟨#[]⟩, .int .i64 0, .slice none 0 0] 24)
    have HB2 := Lib.hid (below_trans HB1.out (below_trans b2 B2))
    have HX2 := Lib.hid (HX1.out.later (below_trans b2 B2))
    have HY2 := Lib.hid (LA.box (w := w2) (a := aN) (Below.refl _ _) (Rdd.nil w2))
    clear b2 B2 HRD HX1 HB1
    have HS := Lib.hid (rsameAsk_any aN aN _ _ _ HX2.out.rd HY2.out.rd)
    rw [same_self] at HS
    have x0 := HX2.out.st.cell 0
    have x1 := HX2.out.st.cell 1
    have x2 := HX2.out.st.cell 2
    have x3 := HX2.out.st.cell 3
    unfold aN at x0 x1 x2 x3
    simp only [List.getElem?_toArray, List.getElem?_cons_zero, List.getElem?_cons_succ] at x0 x1 x2 x3
    go_wp2_with fail
    refine HS.out.mono ?_
    rintro e w3 ⟨rfl, b3⟩
    have HB3 := Lib.hid (below_trans HB2.out b3)
    have HX3 := Lib.hid (HX2.out.later b3)
    clear b3 HX2 HY2 HB2 HS x0 x1 x2 x3
    have HE := Lib.hid (encode_any aN _ w3 HX3.out.rd fit_aN)
    have x0 := HX3.out.st.cell 0
    have x1 := HX3.out.st.cell 1
    have x2 := HX3.out.st.cell 2
    have x3 := HX3.out.st.cell 3
    unfold aN at x0 x1 x2 x3
    simp only [List.getElem?_toArray, List.getElem?_cons_zero, List.getElem?_cons_succ] at x0 x1 x2 x3
    go_wp2_with fail
    refine HE.out.mono ?_
    rintro e w4 ⟨b4, hcase⟩
    rcases hcase with ⟨hno, _⟩ | ⟨_, rfl⟩
    case inl => rw [chk_aN] at hno; cases hno
    have HB4 := Lib.hid (below_trans HB3.out b4)
    clear b4 HX3 HB3 HE x0 x1 x2 x3
    go_wp2_with fail
    refine (awake7 _).mono ?_
    rintro e w6 ⟨rfl, b6⟩
    have HB6 := Lib.hid (below_trans HB4.out b6)
    clear b6
    go_wp2
    go_ret
    exact ⟨rfl, HB6.out⟩
  | some a =>
    have HFIT := Lib.hid (fit_dec hdec)
    obtain ⟨hbs, hck⟩ := K.dec_some hdec
    have HBS := Lib.hid hbs
    have HCK := Lib.hid hck
    rw [hdec] at HD HRD
    clear hdec hbs hck
    go_enter Try.func5, Try.ntmps5
    go_wp2_with fail
    refine (HD.out _ (Below.refl _ _)).mono ?_
    rintro e w1 ⟨b1, hcase⟩
    rcases hcase with ⟨a', v1, ho, rfl, hv1⟩ | ⟨hno, _⟩
    case inr => cases hno
    obtain rfl := Option.some.inj ho
    have HB1 := Lib.hid (below_trans b1 (below_alloc w1 (.cells #[.int .i64 a.1, .string ⟨a.2.1.toArray⟩, .int .i64 a.2.2.1, v1] 24)))
    have HX1 := Lib.hid (LA.box (w := w1) (Below.refl _ _) hv1)
    obtain ⟨a1, c1, rfl, -⟩ := hv1
    clear b1 HD ho
    go_wp2_with fail
    refine (HRD.out _ HB1.out).mono ?_
    rintro e w2 ⟨b2, hcase⟩
    rcases hcase with ⟨a', v2, ho, rfl, hv2⟩ | ⟨hno, _⟩
    case inr => cases hno
    obtain rfl := Option.some.inj ho
    have B2 := below_alloc w2 (.cells #[.int .i64 a.1, .string ⟨a.2.1.toArray⟩, .int .i64 a.2.2.1, v2] 24)
    have HB2 := Lib.hid (below_trans HB1.out (below_trans b2 B2))
    have HX2 := Lib.hid (HX1.out.later (below_trans b2 B2))
    have HY2 := Lib.hid (LA.box (w := w2) (Below.refl _ _) hv2)
    obtain ⟨a2, c2, rfl, -⟩ := hv2
    clear b2 B2 HRD HX1 HB1 ho
    have HS := Lib.hid (rsameAsk_any a a _ _ _ HX2.out.rd HY2.out.rd)
    rw [same_self] at HS
    obtain ⟨x0, x1, x2, x3⟩ := HX2.out.st.cells
    obtain ⟨y0, y1, y2, y3⟩ := HY2.out.st.cells
    go_wp2_with fail
    refine HS.out.mono ?_
    rintro e w3 ⟨rfl, b3⟩
    have HB3 := Lib.hid (below_trans HB2.out b3)
    have HX3 := Lib.hid (HX2.out.later b3)
    clear b3 HX2 HY2 HB2 HS x0 x1 x2 x3 y0 y1 y2 y3
    have HE := Lib.hid (encode_any a _ w3 HX3.out.rd HFIT.out)
    obtain ⟨x0, x1, x2, x3⟩ := HX3.out.st.cells
    go_wp2_with fail
    refine HE.out.mono ?_
    rintro e w4 ⟨b4, hcase⟩
    rcases hcase with ⟨_, v4, rfl, hv4⟩ | ⟨hno, _⟩
    case inr => rw [HCK.out] at hno; cases hno
    have HB4 := Lib.hid (below_trans HB3.out b4)
    have HBY := Lib.hid (rbytes_true (HR.out.below HB4.out) hv4 HBS.out)
    obtain ⟨a4, c4, rfl, -⟩ := hv4
    obtain ⟨N, hN⟩ : ∃ N, (bv (K.enc a)).length = N := ⟨_, rfl⟩
    rw [hN] at HBY ⊢
    clear b4 HX3 HB3 HE x0 x1 x2 x3 hN
    go_wp2_with fail
    refine HBY.out.mono ?_
    rintro e w5 ⟨rfl, rfl⟩
    clear HBY
    go_wp2_with fail
    refine (awake7 _).mono ?_
    rintro e w6 ⟨rfl, b6⟩
    have HB6 := Lib.hid (below_trans HB4.out b6)
    clear b6
    go_wp2
    go_ret
    exact ⟨rfl, HB6.out⟩
end Go.Proofs.Ythbmmnjpiflgdaa
