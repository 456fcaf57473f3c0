/- The walks of AdminReads and AdminOnly. -/
import Derived.Test.YtfpdcljeepjogaaAdL
namespace Go.Proofs.Ytfpdcljeepjogaa
open Go.RowKit

theorem LA.box {T : TypeId} {cs : Array Value} {w x : World} (hb : Below w.heap.size w x) : LA T cs w x.heap.size (x.alloc (.cells cs T)) := ⟨below_trans hb (below_alloc _ _), Str.new _ _ _⟩
theorem codeA_none {α : Type} {o : Option α} (h : o = none) : codeA o = 2 := by rw [h]; rfl
theorem codeA_two {α : Type} (o : Option α) : codeA o = 0 ∨ codeA o = 2 := by cases o <;> simp [codeA]
theorem codes (bs : List UInt8) : (codeA (AD.decN 3 16384 bs) = 2 ∧ codeA (AD.decN 4 60000 bs) = 2 ∧ codeA (AD.decO bs) = 2) ∨ (codeA (AD.decN 3 16384 bs) = 0 ∧ codeA (AD.decN 4 60000 bs) = 2 ∧ codeA (AD.decO bs) = 2) ∨ (codeA (AD.decN 3 16384 bs) = 2 ∧ codeA (AD.decN 4 60000 bs) = 0 ∧ codeA (AD.decO bs) = 2) ∨ (codeA (AD.decN 3 16384 bs) = 2 ∧ codeA (AD.decN 4 60000 bs) = 2 ∧ codeA (AD.decO bs) = 0) := by
  rcases AD.one_of (bs := bs) (m := 16384) (m' := 60000) with ⟨h1, h2⟩ | ⟨h1, h2⟩ | ⟨h1, h2⟩
  · rw [codeA_none h1, codeA_none h2]
    rcases codeA_two (AD.decO bs) with h | h <;> simp [h]
  · rw [codeA_none h1, codeA_none h2]
    rcases codeA_two (AD.decN 4 60000 bs) with h | h <;> simp [h]
  · rw [codeA_none h1, codeA_none h2]
    rcases codeA_two (AD.decN 3 16384 bs) with h | h <;> simp [h]

set_option maxHeartbeats 16000000 in
theorem AdminReads_walk (v : Value) (bs : List UInt8) (w : World) (hr : Rdv w v (bv bs)) (_hl : bs.length ≤ 140737488351232) :
    Calls Try.prog 6 #[v] w (HoldsA w) := by
  have HD1 := Lib.hid (fun x (h : Below w.heap.size w x) => decode_query v bs x (hr.below h))
  have HD2 := Lib.hid (fun x (h : Below w.heap.size w x) => decode_report v bs x (hr.below h))
  have HD3 := Lib.hid (fun x (h : Below w.heap.size w x) => decode_oops v bs x (hr.below h))
  have HD4 := Lib.hid (fun x (h : Below w.heap.size w x) => rdecode_query v bs x (hr.below h))
  have HD5 := Lib.hid (fun x (h : Below w.heap.size w x) => rdecode_report v bs x (hr.below h))
  have HD6 := Lib.hid (fun x (h : Below w.heap.size w x) => rdecode_oops v bs x (hr.below h))
  have HK1 := Lib.hid (fun x (h : Below w.heap.size w x) => akind_any v bs x (hr.below h))
  have HK2 := Lib.hid (fun x (h : Below w.heap.size w x) => rkind_any v bs x (hr.below h))
  have hco := codes bs
  have g1 := query_guard
  have g2 := report_guard
  have g3 := oops_guard
  generalize codeA (AD.decN 3 16384 bs) = e1 at *
  generalize codeA (AD.decN 4 60000 bs) = e2 at *
  generalize codeA (AD.decO bs) = e3 at *
  generalize ansN (AD.decN 3 16384 bs) = x1 at *
  generalize ansN (AD.decN 4 60000 bs) = x2 at *
  generalize ansO (AD.decO bs) = x3 at *
  generalize AD.kindOf bs = kd at *
  obtain ⟨ao, cap, rfl, -⟩ := hr
  rw [bv_len] at HD1 HD2 HD3 HD4 HD5 HD6 HK1 HK2 ⊢
  obtain ⟨L, hL⟩ : ∃ L, bs.length = L := ⟨_, rfl⟩
  rw [hL] at HD1 HD2 HD3 HD4 HD5 HD6 HK1 HK2 ⊢
  obtain ⟨qa, qb, qs⟩ := x1
  obtain ⟨pa, pb, ps⟩ := x2
  obtain ⟨oa, ob, oc, od⟩ := x3
  simp only [cellsN, cellsO] at HD1 HD2 HD3 HD4 HD5 HD6
  have hq := eq_query qa qb qs
  have hp := eq_report pa pb ps
  have ho := eq_oops oa ob oc od
  by_cases hl : L ≤ 5000
  case neg =>
    have g0 : (5000 : Int) < (L : Int) := by omega
    clear HD1 HD2 HD3 HD4 HD5 HD6 HK1 HK2 hco hq hp ho
    go_enter Try.func6, Try.ntmps6
    go_wp2_with fail
    refine (awake9 _).mono ?_
    rintro e w6 ⟨rfl, b6⟩
    have HB6 := Lib.hid b6
    clear b6
    go_wp2
    go_ret
    exact ⟨rfl, HB6.out⟩
  have g0 : ¬ (5000 : Int) < (L : Int) := by omega
  have HCO := Lib.hid hco
  have HQ := Lib.hid hq
  have HP := Lib.hid hp
  have HO := Lib.hid ho
  clear hL hl hco _hl hq hp ho
  go_enter Try.func6, Try.ntmps6
  go_wp2_with fail
  refine (HD1.out _ (Below.refl _ _)).mono ?_
  rintro e w1 ⟨rfl, b1⟩
  have B1 := below_trans b1 (below_alloc w1 (.cells #[.int .i64 qa, .int .i64 qb, .string ⟨qs.toArray⟩] 23))
  have HB1 := Lib.hid B1
  have HX1_1 := Lib.hid (LA.box (T := 23) (cs := #[.int .i64 qa, .int .i64 qb, .string ⟨qs.toArray⟩]) b1)
  clear b1 B1 HD1
  go_wp2_with fail
  refine (HD2.out _ HB1.out).mono ?_
  rintro e w2 ⟨rfl, b2⟩
  have B2 := below_trans b2 (below_alloc w2 (.cells #[.int .i64 pa, .int .i64 pb, .string ⟨ps.toArray⟩] 33))
  have HB2 := Lib.hid (below_trans HB1.out B2)
  have HX1_2 := Lib.hid (HX1_1.out.later B2)
  have HX2_2 := Lib.hid (LA.box (T := 33) (cs := #[.int .i64 pa, .int .i64 pb, .string ⟨ps.toArray⟩]) (below_trans HB1.out b2))
  clear b2 B2 HD2 HB1 HX1_1
  go_wp2_with fail
  refine (HD3.out _ HB2.out).mono ?_
  rintro e w3 ⟨rfl, b3⟩
  have B3 := below_trans b3 (below_alloc w3 (.cells #[.int .i64 oa, .int .i64 ob, .int .i64 oc, .int .i64 od] 39))
  have HB3 := Lib.hid (below_trans HB2.out B3)
  have HX1_3 := Lib.hid (HX1_2.out.later B3)
  have HX2_3 := Lib.hid (HX2_2.out.later B3)
  have HX3_3 := Lib.hid (LA.box (T := 39) (cs := #[.int .i64 oa, .int .i64 ob, .int .i64 oc, .int .i64 od]) (below_trans HB2.out b3))
  clear b3 B3 HD3 HB2 HX1_2 HX2_2
  go_wp2_with fail
  refine (HD4.out _ HB3.out).mono ?_
  rintro e w4 ⟨rfl, b4⟩
  have B4 := below_trans b4 (below_alloc w4 (.cells #[.int .i64 qa, .int .i64 qb, .string ⟨qs.toArray⟩] 23))
  have HB4 := Lib.hid (below_trans HB3.out B4)
  have HX1_4 := Lib.hid (HX1_3.out.later B4)
  have HX2_4 := Lib.hid (HX2_3.out.later B4)
  have HX3_4 := Lib.hid (HX3_3.out.later B4)
  have HX4_4 := Lib.hid (LA.box (T := 23) (cs := #[.int .i64 qa, .int .i64 qb, .string ⟨qs.toArray⟩]) (below_trans HB3.out b4))
  clear b4 B4 HD4 HB3 HX1_3 HX2_3 HX3_3
  go_wp2_with fail
  refine (HD5.out _ HB4.out).mono ?_
  rintro e w5 ⟨rfl, b5⟩
  have B5 := below_trans b5 (below_alloc w5 (.cells #[.int .i64 pa, .int .i64 pb, .string ⟨ps.toArray⟩] 33))
  have HB5 := Lib.hid (below_trans HB4.out B5)
  have HX1_5 := Lib.hid (HX1_4.out.later B5)
  have HX2_5 := Lib.hid (HX2_4.out.later B5)
  have HX3_5 := Lib.hid (HX3_4.out.later B5)
  have HX4_5 := Lib.hid (HX4_4.out.later B5)
  have HX5_5 := Lib.hid (LA.box (T := 33) (cs := #[.int .i64 pa, .int .i64 pb, .string ⟨ps.toArray⟩]) (below_trans HB4.out b5))
  clear b5 B5 HD5 HB4 HX1_4 HX2_4 HX3_4 HX4_4
  go_wp2_with fail
  refine (HD6.out _ HB5.out).mono ?_
  rintro e w6 ⟨rfl, b6⟩
  have B6 := below_trans b6 (below_alloc w6 (.cells #[.int .i64 oa, .int .i64 ob, .int .i64 oc, .int .i64 od] 39))
  have HB6 := Lib.hid (below_trans HB5.out B6)
  have HX1_6 := Lib.hid (HX1_5.out.later B6)
  have HX2_6 := Lib.hid (HX2_5.out.later B6)
  have HX3_6 := Lib.hid (HX3_5.out.later B6)
  have HX4_6 := Lib.hid (HX4_5.out.later B6)
  have HX5_6 := Lib.hid (HX5_5.out.later B6)
  have HX6_6 := Lib.hid (LA.box (T := 39) (cs := #[.int .i64 oa, .int .i64 ob, .int .i64 oc, .int .i64 od]) (below_trans HB5.out b6))
  clear b6 B6 HD6 HB5 HX1_5 HX2_5 HX3_5 HX4_5 HX5_5
  obtain ⟨m1a, m1b, m1c⟩ := HX1_6.out.st.cells3
  obtain ⟨m2a, m2b, m2c⟩ := HX2_6.out.st.cells3
  obtain ⟨m3a, m3b, m3c, m3d⟩ := HX3_6.out.st.cells4
  obtain ⟨m4a, m4b, m4c⟩ := HX4_6.out.st.cells3
  obtain ⟨m5a, m5b, m5c⟩ := HX5_6.out.st.cells3
  obtain ⟨m6a, m6b, m6c, m6d⟩ := HX6_6.out.st.cells4
  have hq := HQ.out
  have hp := HP.out
  have ho := HO.out
  clear HX1_6 HX2_6 HX3_6 HX4_6 HX5_6 HX6_6
  have hkd : (kd == kd) = true := by simp
  rcases HCO.out with ⟨rfl, rfl, rfl⟩ | ⟨rfl, rfl, rfl⟩ | ⟨rfl, rfl, rfl⟩ | ⟨rfl, rfl, rfl⟩
  all_goals
    go_wp2_with fail
    refine (HK1.out _ HB6.out).mono ?_
    rintro e w7 ⟨rfl, hw7⟩
    rw [← hw7] at HB6
    clear hw7 m1a m1b m1c m2a m2b m2c m3a m3b m3c m3d m4a m4b m4c m5a m5b m5c m6a m6b m6c m6d
    go_wp2_with fail
    refine (HK2.out _ HB6.out).mono ?_
    rintro e w8 ⟨rfl, hw8⟩
    rw [← hw8] at HB6
    clear hw8
    go_wp2_with fail
    refine (awake9 _).mono ?_
    rintro e w9 ⟨rfl, b9⟩
    have HB9 := Lib.hid (below_trans HB6.out b9)
    clear b9 HB6
    go_wp2
    go_ret
    exact ⟨rfl, HB9.out⟩
end Go.Proofs.Ytfpdcljeepjogaa
