/- The walks of AdminQueries, AdminReports, AdminOops. -/
import Derived.Test.YtfpdcljeepjogaaAdAw
import Derived.Test.YtfpdcljeepjogaaAdT
import Derived.Test.YtfpdcljeepjogaaAdKO
namespace Go.Proofs.Ytfpdcljeepjogaa
open Go.RowKit

def HoldsA (w : World) (e : Ending) (w' : World) : Prop := e = .returned (.bool true) ∧ Below w.heap.size w w'
/-- A struct as it lies. -/
structure LA (T : TypeId) (cs : Array Value) (w : World) (p : Nat) (x : World) : Prop where
  below : Below w.heap.size w x
  st : Str x p T cs
theorem LA.later {T : TypeId} {cs : Array Value} {w x y : World} {p : Nat} (h : LA T cs w p x) (hb : Below x.heap.size x y) : LA T cs w p y := ⟨below_trans h.below hb, h.st.below hb⟩
theorem LA.start (T : TypeId) (cs : Array Value) (w : World) : LA T cs w w.heap.size (w.alloc (.cells cs T)) := ⟨below_alloc _ _, Str.new _ _ _⟩
theorem bytesN_ok {kd : UInt8} {most : Nat} {n : AD.N} (h : AD.okN most n = true) : bytesN kd most n = AD.encN kd n := by unfold bytesN; rw [if_pos h]
theorem bytesO_ok {o : AD.O} (h : AD.okO o = true) : bytesO o = AD.encO o := by unfold bytesO; rw [if_pos h]

set_option maxHeartbeats 8000000 in
theorem AdminQueries_walk (n : AD.N) (hn : n.2.2.length ≤ 9223372036854775807) (w : World) :
    Calls Try.prog 3 #[.agg #[.int .i64 n.1, .int .i64 n.2.1, .string ⟨n.2.2.toArray⟩]] w (HoldsA w) := by
  have HE1 := Lib.hid (fun x => encode_query n (by omega) x)
  have HE2 := Lib.hid (fun x => rencode_query n (by omega) x)
  have HD := Lib.hid (fun v x (h : Rdv x v (bv (bytesN 3 16384 n))) => decode_query v (bytesN 3 16384 n) x h)
  have hde : AD.okN 16384 n = true → AD.decN 3 16384 (bytesN 3 16384 n) = some n := fun h => by rw [bytesN_ok h]; exact AD.decN_enc (by omega) h
  have hsz := str_size n.2.2
  have HQ := Lib.hid (eq_query n.1 n.2.1 n.2.2)
  have hg := query_guard
  generalize hk : AD.okN 16384 n = k at *
  generalize bytesN 3 16384 n = bs at *
  clear hk
  obtain ⟨a, b, s⟩ := n
  simp only at *
  have HA0 := Lib.hid (LA.start 23 #[.int .i64 a, .int .i64 b, .string ⟨s.toArray⟩] w)
  by_cases hl : 16394 < s.length
  · have g0 : (16394 : Int) < (s.length : Int) := by omega
    clear hde HE1 HE2 HD HQ hl
    go_enter Try.func3, Try.ntmps3
    go_wp2_with fail
    refine (awake9 _).mono ?_
    rintro e w1 ⟨rfl, b1⟩
    have HB1 := Lib.hid (below_trans HA0.out.below b1)
    clear b1
    go_wp2
    go_ret
    exact ⟨rfl, HB1.out⟩
  have g0 : ¬ (16394 : Int) < (s.length : Int) := by omega
  cases k
  · clear hde
    go_enter Try.func3, Try.ntmps3
    go_wp2_with fail
    refine (HE1.out _).mono ?_
    rintro e w1 he
    obtain ⟨a1, n1, c1, rfl, hv1, b1⟩ := he.bad
    have HV1 := Lib.hid hv1
    have HA1 := Lib.hid (HA0.out.later b1)
    clear he hv1 b1 HA0 HE1
    obtain ⟨k0, k1, k2⟩ := HA1.out.st.cells3
    go_wp2_with fail
    refine (HE2.out _).mono ?_
    rintro e w2 he
    obtain ⟨a2, n2, c2, rfl, hv2, b2⟩ := he.bad
    have HV2 := Lib.hid hv2
    have HU2 := Lib.hid (HV1.out.below b2)
    have HA2 := Lib.hid (HA1.out.later b2)
    clear he hv2 b2 HA1 HV1 HE2 k0 k1 k2
    go_wp2_with fail
    refine (HD.out _ _ HU2.out).mono ?_
    rintro e w3 ⟨rfl, b3⟩
    generalize codeA (AD.decN 3 16384 bs) = cd at *
    generalize ansN (AD.decN 3 16384 bs) = an at *
    obtain ⟨xa, xb, xs⟩ := an
    simp only [cellsN]
    have B3 := below_trans b3 (below_alloc w3 (.cells #[.int .i64 xa, .int .i64 xb, .string ⟨xs.toArray⟩] 23))
    have HA3 := Lib.hid (HA2.out.later B3)
    have HBY := Lib.hid (rbytes_true (HU2.out.below B3) (HV2.out.below B3) rfl)
    clear b3 B3 HA2 HV2 HU2 HD
    go_wp2_with fail
    refine HBY.out.mono ?_
    rintro e w4 ⟨rfl, hw4⟩
    rw [hw4] at HA3
    clear hw4 HBY
    go_wp2_with fail
    refine (awake9 _).mono ?_
    rintro e w5 ⟨rfl, b5⟩
    have HB5 := Lib.hid (below_trans HA3.out.below b5)
    clear b5 HA3
    go_wp2
    go_ret
    exact ⟨rfl, HB5.out⟩
  · rw [hde rfl] at HD
    simp only [ansN, codeA, cellsN, Option.getD_some, Option.isSome_some, if_true] at HD
    clear hde
    go_enter Try.func3, Try.ntmps3
    go_wp2_with fail
    refine (HE1.out _).mono ?_
    rintro e w1 he
    obtain ⟨a1, n1, c1, rfl, hv1, b1⟩ := he.ok
    have HV1 := Lib.hid hv1
    have HA1 := Lib.hid (HA0.out.later b1)
    clear he hv1 b1 HA0 HE1
    obtain ⟨k0, k1, k2⟩ := HA1.out.st.cells3
    go_wp2_with fail
    refine (HE2.out _).mono ?_
    rintro e w2 he
    obtain ⟨a2, n2, c2, rfl, hv2, b2⟩ := he.ok
    have HV2 := Lib.hid hv2
    have HU2 := Lib.hid (HV1.out.below b2)
    have HA2 := Lib.hid (HA1.out.later b2)
    clear he hv2 b2 HA1 HV1 HE2 k0 k1 k2
    go_wp2_with fail
    refine (HD.out _ _ HU2.out).mono ?_
    rintro e w3 ⟨rfl, b3⟩
    have B3 := below_trans b3 (below_alloc w3 (.cells #[.int .i64 a, .int .i64 b, .string ⟨s.toArray⟩] 23))
    have HA3 := Lib.hid (HA2.out.later B3)
    have HX3 := Lib.hid (LA.start 23 #[.int .i64 a, .int .i64 b, .string ⟨s.toArray⟩] w3)
    have HBY := Lib.hid (rbytes_true (HU2.out.below B3) (HV2.out.below B3) rfl)
    clear b3 B3 HA2 HV2 HU2 HD
    go_wp2_with fail
    refine HBY.out.mono ?_
    rintro e w4 ⟨rfl, hw4⟩
    rw [hw4] at HA3 HX3
    clear hw4 HBY
    obtain ⟨k0, k1, k2⟩ := HA3.out.st.cells3
    obtain ⟨x0, x1, x2⟩ := HX3.out.st.cells3
    have hq := HQ.out
    go_wp2_with fail
    refine (awake9 _).mono ?_
    rintro e w5 ⟨rfl, b5⟩
    have HB5 := Lib.hid (below_trans HA3.out.below b5)
    clear b5 HA3
    go_wp2
    go_ret
    exact ⟨rfl, HB5.out⟩
set_option maxHeartbeats 8000000 in
theorem AdminReports_walk (n : AD.N) (hn : n.2.2.length ≤ 9223372036854775807) (w : World) :
    Calls Try.prog 4 #[.agg #[.int .i64 n.1, .int .i64 n.2.1, .string ⟨n.2.2.toArray⟩]] w (HoldsA w) := by
  have HE1 := Lib.hid (fun x => encode_report n (by omega) x)
  have HE2 := Lib.hid (fun x => rencode_report n (by omega) x)
  have HD := Lib.hid (fun v x (h : Rdv x v (bv (bytesN 4 60000 n))) => decode_report v (bytesN 4 60000 n) x h)
  have hde : AD.okN 60000 n = true → AD.decN 4 60000 (bytesN 4 60000 n) = some n := fun h => by rw [bytesN_ok h]; exact AD.decN_enc (by omega) h
  have hsz := str_size n.2.2
  have HQ := Lib.hid (eq_report n.1 n.2.1 n.2.2)
  have hg := report_guard
  generalize hk : AD.okN 60000 n = k at *
  generalize bytesN 4 60000 n = bs at *
  clear hk
  obtain ⟨a, b, s⟩ := n
  simp only at *
  have HA0 := Lib.hid (LA.start 33 #[.int .i64 a, .int .i64 b, .string ⟨s.toArray⟩] w)
  by_cases hl : 60010 < s.length
  · have g0 : (60010 : Int) < (s.length : Int) := by omega
    clear hde HE1 HE2 HD HQ hl
    go_enter Try.func4, Try.ntmps4
    go_wp2_with fail
    refine (awake9 _).mono ?_
    rintro e w1 ⟨rfl, b1⟩
    have HB1 := Lib.hid (below_trans HA0.out.below b1)
    clear b1
    go_wp2
    go_ret
    exact ⟨rfl, HB1.out⟩
  have g0 : ¬ (60010 : Int) < (s.length : Int) := by omega
  cases k
  · clear hde
    go_enter Try.func4, Try.ntmps4
    go_wp2_with fail
    refine (HE1.out _).mono ?_
    rintro e w1 he
    obtain ⟨a1, n1, c1, rfl, hv1, b1⟩ := he.bad
    have HV1 := Lib.hid hv1
    have HA1 := Lib.hid (HA0.out.later b1)
    clear he hv1 b1 HA0 HE1
    obtain ⟨k0, k1, k2⟩ := HA1.out.st.cells3
    go_wp2_with fail
    refine (HE2.out _).mono ?_
    rintro e w2 he
    obtain ⟨a2, n2, c2, rfl, hv2, b2⟩ := he.bad
    have HV2 := Lib.hid hv2
    have HU2 := Lib.hid (HV1.out.below b2)
    have HA2 := Lib.hid (HA1.out.later b2)
    clear he hv2 b2 HA1 HV1 HE2 k0 k1 k2
    go_wp2_with fail
    refine (HD.out _ _ HU2.out).mono ?_
    rintro e w3 ⟨rfl, b3⟩
    generalize codeA (AD.decN 4 60000 bs) = cd at *
    generalize ansN (AD.decN 4 60000 bs) = an at *
    obtain ⟨xa, xb, xs⟩ := an
    simp only [cellsN]
    have B3 := below_trans b3 (below_alloc w3 (.cells #[.int .i64 xa, .int .i64 xb, .string ⟨xs.toArray⟩] 33))
    have HA3 := Lib.hid (HA2.out.later B3)
    have HBY := Lib.hid (rbytes_true (HU2.out.below B3) (HV2.out.below B3) rfl)
    clear b3 B3 HA2 HV2 HU2 HD
    go_wp2_with fail
    refine HBY.out.mono ?_
    rintro e w4 ⟨rfl, hw4⟩
    rw [hw4] at HA3
    clear hw4 HBY
    go_wp2_with fail
    refine (awake9 _).mono ?_
    rintro e w5 ⟨rfl, b5⟩
    have HB5 := Lib.hid (below_trans HA3.out.below b5)
    clear b5 HA3
    go_wp2
    go_ret
    exact ⟨rfl, HB5.out⟩
  · rw [hde rfl] at HD
    simp only [ansN, codeA, cellsN, Option.getD_some, Option.isSome_some, if_true] at HD
    clear hde
    go_enter Try.func4, Try.ntmps4
    go_wp2_with fail
    refine (HE1.out _).mono ?_
    rintro e w1 he
    obtain ⟨a1, n1, c1, rfl, hv1, b1⟩ := he.ok
    have HV1 := Lib.hid hv1
    have HA1 := Lib.hid (HA0.out.later b1)
    clear he hv1 b1 HA0 HE1
    obtain ⟨k0, k1, k2⟩ := HA1.out.st.cells3
    go_wp2_with fail
    refine (HE2.out _).mono ?_
    rintro e w2 he
    obtain ⟨a2, n2, c2, rfl, hv2, b2⟩ := he.ok
    have HV2 := Lib.hid hv2
    have HU2 := Lib.hid (HV1.out.below b2)
    have HA2 := Lib.hid (HA1.out.later b2)
    clear he hv2 b2 HA1 HV1 HE2 k0 k1 k2
    go_wp2_with fail
    refine (HD.out _ _ HU2.out).mono ?_
    rintro e w3 ⟨rfl, b3⟩
    have B3 := below_trans b3 (below_alloc w3 (.cells #[.int .i64 a, .int .i64 b, .string ⟨s.toArray⟩] 33))
    have HA3 := Lib.hid (HA2.out.later B3)
    have HX3 := Lib.hid (LA.start 33 #[.int .i64 a, .int .i64 b, .string ⟨s.toArray⟩] w3)
    have HBY := Lib.hid (rbytes_true (HU2.out.below B3) (HV2.out.below B3) rfl)
    clear b3 B3 HA2 HV2 HU2 HD
    go_wp2_with fail
    refine HBY.out.mono ?_
    rintro e w4 ⟨rfl, hw4⟩
    rw [hw4] at HA3 HX3
    clear hw4 HBY
    obtain ⟨k0, k1, k2⟩ := HA3.out.st.cells3
    obtain ⟨x0, x1, x2⟩ := HX3.out.st.cells3
    have hq := HQ.out
    go_wp2_with fail
    refine (awake9 _).mono ?_
    rintro e w5 ⟨rfl, b5⟩
    have HB5 := Lib.hid (below_trans HA3.out.below b5)
    clear b5 HA3
    go_wp2
    go_ret
    exact ⟨rfl, HB5.out⟩
set_option maxHeartbeats 8000000 in
theorem AdminOops_walk (n : AD.O) (w : World) :
    Calls Try.prog 5 #[.agg #[.int .i64 n.1, .int .i64 n.2.1, .int .i64 n.2.2.1, .int .i64 n.2.2.2]] w (HoldsA w) := by
  have HE1 := Lib.hid (fun x => encode_oops n x)
  have HE2 := Lib.hid (fun x => rencode_oops n x)
  have HD := Lib.hid (fun v x (h : Rdv x v (bv (bytesO n))) => decode_oops v (bytesO n) x h)
  have hde : AD.okO n = true → AD.decO (bytesO n) = some n := fun h => by rw [bytesO_ok h]; exact AD.decO_enc h
  have HQ := Lib.hid (eq_oops n.1 n.2.1 n.2.2.1 n.2.2.2)
  have hg := oops_guard
  generalize hk : AD.okO n = k at *
  generalize bytesO n = bs at *
  clear hk
  obtain ⟨a, b, c, d⟩ := n
  simp only at *
  have HA0 := Lib.hid (LA.start 39 #[.int .i64 a, .int .i64 b, .int .i64 c, .int .i64 d] w)
  cases k
  · clear hde
    go_enter Try.func5, Try.ntmps5
    go_wp2_with fail
    refine (HE1.out _).mono ?_
    rintro e w1 he
    obtain ⟨a1, n1, c1, rfl, hv1, b1⟩ := he.bad
    have HV1 := Lib.hid hv1
    have HA1 := Lib.hid (HA0.out.later b1)
    clear he hv1 b1 HA0 HE1
    obtain ⟨k0, k1, k2, k3⟩ := HA1.out.st.cells4
    go_wp2_with fail
    refine (HE2.out _).mono ?_
    rintro e w2 he
    obtain ⟨a2, n2, c2, rfl, hv2, b2⟩ := he.bad
    have HV2 := Lib.hid hv2
    have HU2 := Lib.hid (HV1.out.below b2)
    have HA2 := Lib.hid (HA1.out.later b2)
    clear he hv2 b2 HA1 HV1 HE2 k0 k1 k2 k3
    go_wp2_with fail
    refine (HD.out _ _ HU2.out).mono ?_
    rintro e w3 ⟨rfl, b3⟩
    generalize codeA (AD.decO bs) = cd at *
    generalize ansO (AD.decO bs) = an at *
    obtain ⟨xa, xb, xc, xd⟩ := an
    simp only [cellsO]
    have B3 := below_trans b3 (below_alloc w3 (.cells #[.int .i64 xa, .int .i64 xb, .int .i64 xc, .int .i64 xd] 39))
    have HA3 := Lib.hid (HA2.out.later B3)
    have HBY := Lib.hid (rbytes_true (HU2.out.below B3) (HV2.out.below B3) rfl)
    clear b3 B3 HA2 HV2 HU2 HD
    go_wp2_with fail
    refine HBY.out.mono ?_
    rintro e w4 ⟨rfl, hw4⟩
    rw [hw4] at HA3
    clear hw4 HBY
    go_wp2_with fail
    refine (awake9 _).mono ?_
    rintro e w5 ⟨rfl, b5⟩
    have HB5 := Lib.hid (below_trans HA3.out.below b5)
    clear b5 HA3
    go_wp2
    go_ret
    exact ⟨rfl, HB5.out⟩
  · rw [hde rfl] at HD
    simp only [ansO, codeA, cellsO, Option.getD_some, Option.isSome_some, if_true] at HD
    clear hde
    go_enter Try.func5, Try.ntmps5
    go_wp2_with fail
    refine (HE1.out _).mono ?_
    rintro e w1 he
    obtain ⟨a1, n1, c1, rfl, hv1, b1⟩ := he.ok
    have HV1 := Lib.hid hv1
    have HA1 := Lib.hid (HA0.out.later b1)
    clear he hv1 b1 HA0 HE1
    obtain ⟨k0, k1, k2, k3⟩ := HA1.out.st.cells4
    go_wp2_with fail
    refine (HE2.out _).mono ?_
    rintro e w2 he
    obtain ⟨a2, n2, c2, rfl, hv2, b2⟩ := he.ok
    have HV2 := Lib.hid hv2
    have HU2 := Lib.hid (HV1.out.below b2)
    have HA2 := Lib.hid (HA1.out.later b2)
    clear he hv2 b2 HA1 HV1 HE2 k0 k1 k2 k3
    go_wp2_with fail
    refine (HD.out _ _ HU2.out).mono ?_
    rintro e w3 ⟨rfl, b3⟩
    have B3 := below_trans b3 (below_alloc w3 (.cells #[.int .i64 a, .int .i64 b, .int .i64 c, .int .i64 d] 39))
    have HA3 := Lib.hid (HA2.out.later B3)
    have HX3 := Lib.hid (LA.start 39 #[.int .i64 a, .int .i64 b, .int .i64 c, .int .i64 d] w3)
    have HBY := Lib.hid (rbytes_true (HU2.out.below B3) (HV2.out.below B3) rfl)
    clear b3 B3 HA2 HV2 HU2 HD
    go_wp2_with fail
    refine HBY.out.mono ?_
    rintro e w4 ⟨rfl, hw4⟩
    rw [hw4] at HA3 HX3
    clear hw4 HBY
    obtain ⟨k0, k1, k2, k3⟩ := HA3.out.st.cells4
    obtain ⟨x0, x1, x2, x3⟩ := HX3.out.st.cells4
    have hq := HQ.out
    go_wp2_with fail
    refine (awake9 _).mono ?_
    rintro e w5 ⟨rfl, b5⟩
    have HB5 := Lib.hid (below_trans HA3.out.below b5)
    clear b5 HA3
    go_wp2
    go_ret
    exact ⟨rfl, HB5.out⟩
end Go.Proofs.Ytfpdcljeepjogaa
