/- The walk of AdminOnly. -/
import Derived.Test.YtfpdcljeepjogaaAdM
namespace Go.Proofs.Ytfpdcljeepjogaa
open Go.RowKit

theorem decN_facts (kd : UInt8) (most : Nat) (bs : List UInt8) : codeA (AD.decN kd most bs) = 2 ∨ (codeA (AD.decN kd most bs) = 0 ∧ AD.okN most (ansN (AD.decN kd most bs)) = true ∧ bytesN kd most (ansN (AD.decN kd most bs)) = bs ∧ (ansN (AD.decN kd most bs)).2.2.length ≤ most) := by
  cases h : AD.decN kd most bs with
  | none => exact .inl rfl
  | some n =>
    obtain ⟨h1, h2⟩ := AD.decN_some h
    refine .inr ⟨rfl, h2, ?_, (AD.okN_iff.1 h2).2.2⟩
    rw [h1]
    exact bytesN_ok h2
theorem decO_facts (bs : List UInt8) : codeA (AD.decO bs) = 2 ∨ (codeA (AD.decO bs) = 0 ∧ AD.okO (ansO (AD.decO bs)) = true ∧ bytesO (ansO (AD.decO bs)) = bs) := by
  cases h : AD.decO bs with
  | none => exact .inl rfl
  | some n =>
    obtain ⟨h1, h2⟩ := AD.decO_some h
    refine .inr ⟨rfl, h2, ?_⟩
    rw [h1]
    exact bytesO_ok h2

set_option maxHeartbeats 16000000 in
theorem AdminOnly_walk (v : Value) (bs : List UInt8) (w : World) (hr : Rdv w v (bv bs)) (_hl : bs.length ≤ 140737488351232) :
    Calls Try.prog 7 #[v] w (HoldsA w) := by
  have HR := Lib.hid hr
  have HD1 := Lib.hid (fun x (h : Below w.heap.size w x) => decode_query v bs x (hr.below h))
  have HD2 := Lib.hid (fun x (h : Below w.heap.size w x) => decode_report v bs x (hr.below h))
  have HD3 := Lib.hid (fun x (h : Below w.heap.size w x) => decode_oops v bs x (hr.below h))
  have HF1 := Lib.hid (decN_facts 3 16384 bs)
  have HF2 := Lib.hid (decN_facts 4 60000 bs)
  have HF3 := Lib.hid (decO_facts bs)
  generalize codeA (AD.decN 3 16384 bs) = e1 at *
  generalize codeA (AD.decN 4 60000 bs) = e2 at *
  generalize codeA (AD.decO bs) = e3 at *
  generalize ansN (AD.decN 3 16384 bs) = x1 at *
  generalize ansN (AD.decN 4 60000 bs) = x2 at *
  generalize ansO (AD.decO bs) = x3 at *
  obtain ⟨ao, cap, rfl, -⟩ := hr
  rw [bv_len] at HR HD1 HD2 HD3 ⊢
  obtain ⟨L, hL⟩ : ∃ L, bs.length = L := ⟨_, rfl⟩
  rw [hL] at HR HD1 HD2 HD3 ⊢
  by_cases hl : L ≤ 5000
  case neg =>
    have g0 : (5000 : Int) < (L : Int) := by omega
    clear HD1 HD2 HD3 HF1 HF2 HF3
    go_enter Try.func7, Try.ntmps7
    go_wp2_with fail
    refine (awake9 _).mono ?_
    rintro e w6 ⟨rfl, b6⟩
    have HB6 := Lib.hid b6
    clear b6
    go_wp2
    go_ret
    exact ⟨rfl, HB6.out⟩
  have g0 : ¬ (5000 : Int) < (L : Int) := by omega
  clear hL hl _hl
  go_enter Try.func7, Try.ntmps7
  go_wp2_with fail
  refine (HD1.out _ (Below.refl _ _)).mono ?_
  rintro e w1 ⟨rfl, b1⟩
  clear HD1
  obtain ⟨qa, qb, qs⟩ := x1
  simp only [cellsN] at *
  have HB1 := Lib.hid (below_trans b1 (below_alloc w1 (.cells #[.int .i64 qa, .int .i64 qb, .string ⟨qs.toArray⟩] 23)))
  have HX1 := Lib.hid (LA.box (T := 23) (cs := #[.int .i64 qa, .int .i64 qb, .string ⟨qs.toArray⟩]) (b1))
  clear b1
  rcases HF1.out with rfl | ⟨rfl, f1, f2, f3⟩
  case inr =>
    have HE := Lib.hid (fun x => encode_query (qa, qb, qs) (by simp only; omega) x)
    rw [f1, f2] at HE
    simp only at HE
    clear f1 f2 f3 HF1
    obtain ⟨c0, c1, c2⟩ := HX1.out.st.cells3
    go_wp2_with fail
    refine (HE.out _).mono ?_
    rintro e y1 he
    obtain ⟨a1, n1, q1, rfl, hv1, b1⟩ := he.ok
    have HBY := Lib.hid (rbytes_true (HR.out.below (below_trans HB1.out b1)) hv1 rfl)
    have HC1 := Lib.hid (below_trans HB1.out b1)
    clear he hv1 b1 HE HB1 HX1 c0 c1 c2
    go_wp2_with fail
    refine HBY.out.mono ?_
    rintro e y2 ⟨rfl, hy2⟩
    rw [hy2] at HC1
    clear HBY hy2
    go_wp2_with fail
    refine (awake9 _).mono ?_
    rintro e y3 ⟨rfl, b3⟩
    have HC3 := Lib.hid (below_trans HC1.out b3)
    clear b3 HC1
    go_wp2
    go_ret
    exact ⟨rfl, HC3.out⟩
  clear HX1 HF1
  go_wp2_with fail
  refine (HD2.out _ HB1.out).mono ?_
  rintro e w2 ⟨rfl, b2⟩
  clear HD2
  obtain ⟨pa, pb, ps⟩ := x2
  (try simp only at *)
  have HB2 := Lib.hid (below_trans HB1.out (below_trans b2 (below_alloc w2 (.cells #[.int .i64 pa, .int .i64 pb, .string ⟨ps.toArray⟩] 33))))
  have HX2 := Lib.hid (LA.box (T := 33) (cs := #[.int .i64 pa, .int .i64 pb, .string ⟨ps.toArray⟩]) (below_trans HB1.out b2))
  clear b2
  rcases HF2.out with rfl | ⟨rfl, f1, f2, f3⟩
  case inr =>
    have HE := Lib.hid (fun x => encode_report (pa, pb, ps) (by simp only; omega) x)
    rw [f1, f2] at HE
    simp only at HE
    clear f1 f2 f3 HF2
    obtain ⟨c0, c1, c2⟩ := HX2.out.st.cells3
    go_wp2_with fail
    refine (HE.out _).mono ?_
    rintro e y1 he
    obtain ⟨a1, n1, q1, rfl, hv1, b1⟩ := he.ok
    have HBY := Lib.hid (rbytes_true (HR.out.below (below_trans HB2.out b1)) hv1 rfl)
    have HC1 := Lib.hid (below_trans HB2.out b1)
    clear he hv1 b1 HE HB2 HX2 c0 c1 c2
    go_wp2_with fail
    refine HBY.out.mono ?_
    rintro e y2 ⟨rfl, hy2⟩
    rw [hy2] at HC1
    clear HBY hy2
    go_wp2_with fail
    refine (awake9 _).mono ?_
    rintro e y3 ⟨rfl, b3⟩
    have HC3 := Lib.hid (below_trans HC1.out b3)
    clear b3 HC1
    go_wp2
    go_ret
    exact ⟨rfl, HC3.out⟩
  clear HX2 HF2
  go_wp2_with fail
  refine (HD3.out _ HB2.out).mono ?_
  rintro e w3 ⟨rfl, b3⟩
  clear HD3
  obtain ⟨oa, ob, oc, od⟩ := x3
  simp only [cellsO] at *
  have HB3 := Lib.hid (below_trans HB2.out (below_trans b3 (below_alloc w3 (.cells #[.int .i64 oa, .int .i64 ob, .int .i64 oc, .int .i64 od] 39))))
  have HX3 := Lib.hid (LA.box (T := 39) (cs := #[.int .i64 oa, .int .i64 ob, .int .i64 oc, .int .i64 od]) (below_trans HB2.out b3))
  clear b3
  rcases HF3.out with rfl | ⟨rfl, f1, f2⟩
  case inr =>
    have HE := Lib.hid (fun x => encode_oops (oa, ob, oc, od) x)
    rw [f1, f2] at HE
    simp only at HE
    clear f1 f2 HF3
    obtain ⟨c0, c1, c2, c3⟩ := HX3.out.st.cells4
    go_wp2_with fail
    refine (HE.out _).mono ?_
    rintro e y1 he
    obtain ⟨a1, n1, q1, rfl, hv1, b1⟩ := he.ok
    have HBY := Lib.hid (rbytes_true (HR.out.below (below_trans HB3.out b1)) hv1 rfl)
    have HC1 := Lib.hid (below_trans HB3.out b1)
    clear he hv1 b1 HE HB3 HX3 c0 c1 c2 c3
    go_wp2_with fail
    refine HBY.out.mono ?_
    rintro e y2 ⟨rfl, hy2⟩
    rw [hy2] at HC1
    clear HBY hy2
    go_wp2_with fail
    refine (awake9 _).mono ?_
    rintro e y3 ⟨rfl, b3⟩
    have HC3 := Lib.hid (below_trans HC1.out b3)
    clear b3 HC1
    go_wp2
    go_ret
    exact ⟨rfl, HC3.out⟩
  clear HX3 HF3
  go_wp2_with fail
  refine (awake9 _).mono ?_
  rintro e y3 ⟨rfl, b4⟩
  have HC3 := Lib.hid (below_trans HB3.out b4)
  clear b4 HB3
  go_wp2
  go_ret
  exact ⟨rfl, HC3.out⟩
end Go.Proofs.Ytfpdcljeepjogaa
