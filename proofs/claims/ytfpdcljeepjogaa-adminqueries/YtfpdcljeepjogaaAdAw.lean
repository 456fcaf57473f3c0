/- The walk of awake. -/
import Derived.Test.YtfpdcljeepjogaaAdG
import Derived.Test.YtfpdcljeepjogaaAdE
import Derived.Test.YtfpdcljeepjogaaAdQ
import Derived.Test.YtfpdcljeepjogaaVarP
namespace Go.Proofs.Ytfpdcljeepjogaa
open Go.RowKit

theorem aw_p0 : V.put 0 = [0] := by rw [V.put_small (by omega)]; rfl
theorem aw_p1 : V.put 1 = [1] := by rw [V.put_small (by omega)]; rfl
theorem aw_p2 : V.put 2 = [2] := by rw [V.put_small (by omega)]; rfl
theorem aw_p4 : V.put 4 = [4] := by rw [V.put_small (by omega)]; rfl
theorem aw_ok1 : AD.okN 16384 (2, 2, []) = true := by decide
theorem aw_ok2 : AD.okN 60000 (1, 1, [97]) = true := by decide
theorem aw_ok3 : AD.okO (0, 4, 0, 0) = true := by decide
theorem aw_ok4 : AD.okO (0, 0, 0, 0) = false := by decide
theorem aw_enc1 : AD.encN 3 (2, 2, []) = [3, 2, 2, 0] := by simp [AD.encN, K.tx, aw_p0, aw_p2]
theorem aw_b1 : bytesN 3 16384 (2, 2, []) = [3, 2, 2, 0] := by unfold bytesN; rw [aw_ok1, if_pos rfl, aw_enc1]
theorem aw_b2 : bytesN 4 60000 (1, 1, [97]) = [4, 1, 1, 1, 97] := by unfold bytesN; rw [aw_ok2, if_pos rfl]; simp [AD.encN, K.tx, aw_p1]
theorem aw_b3 : bytesO (0, 4, 0, 0) = [5, 0, 4, 0, 0] := by unfold bytesO; rw [aw_ok3, if_pos rfl]; simp [AD.encO, aw_p0, aw_p4]
theorem aw_b4 : bytesO (0, 0, 0, 0) = [] := by unfold bytesO; rw [aw_ok4]; rfl
theorem aw_d1 : AD.decN 3 16384 [3, 2, 2, 0] = some (2, 2, []) := by rw [← aw_enc1]; exact AD.decN_enc (by omega) aw_ok1

theorem EncB.ok {w : World} {bs : List UInt8} {e : Ending} {w' : World} (h : EncB w true bs e w') : ∃ ao n cap, e = .returned (.tuple #[.slice ao n cap, .int .i64 0]) ∧ Rdv w' (.slice ao n cap) (bv bs) ∧ Below w.heap.size w w' := h
theorem EncB.bad {w : World} {bs : List UInt8} {e : Ending} {w' : World} (h : EncB w false bs e w') : ∃ ao n cap, e = .returned (.tuple #[.slice ao n cap, .int .i64 1]) ∧ Rdv w' (.slice ao n cap) (bv bs) ∧ Below w.heap.size w w' := h
/-- What is held of a query that lies. -/
structure AW (w x : World) (g : Nat) (v1 v2 v3 : Value) : Prop where
  below : Below w.heap.size w x
  r1 : Rdv x v1 (bv [3, 2, 2, 0])
  r2 : Rdv x v2 (bv [4, 1, 1, 1, 97])
  r3 : Rdv x v3 (bv [5, 0, 4, 0, 0])
  q : Str x g 23 #[.int .i64 2, .int .i64 2, .string ⟨#[]⟩]
theorem AW.later {w x y : World} {g : Nat} {v1 v2 v3 : Value} (h : AW w x g v1 v2 v3) (hb : Below x.heap.size x y) : AW w y g v1 v2 v3 := ⟨below_trans h.below hb, h.r1.below hb, h.r2.below hb, h.r3.below hb, h.q.below hb⟩

set_option maxRecDepth 10000 in
set_option maxHeartbeats 16000000 in
theorem awake9 (w : World) :
    Calls Try.prog 8 #[] w fun e w' => e = .returned (.bool true) ∧ Below w.heap.size w w' := by
  have HE1 := Lib.hid (fun x => encode_query (2, 2, []) (by decide) x)
  have HE2 := Lib.hid (fun x => encode_report (1, 1, [97]) (by decide) x)
  have HE3 := Lib.hid (fun x => encode_oops (0, 4, 0, 0) x)
  have HE4 := Lib.hid (fun x => encode_oops (0, 0, 0, 0) x)
  have HD1 := Lib.hid (fun v x (h : Rdv x v (bv [3, 2, 2, 0])) => decode_query v [3, 2, 2, 0] x h)
  have hq := eq_query 2 2 []
  have hg := query_guard
  rw [aw_ok1, aw_b1] at HE1
  rw [aw_ok2, aw_b2] at HE2
  rw [aw_ok3, aw_b3] at HE3
  rw [aw_ok4, aw_b4] at HE4
  rw [aw_d1] at HD1
  simp only [ansN, codeA, cellsN, Option.getD_some, Option.isSome_some, if_true] at HD1
  go_enter Try.func8, Try.ntmps8
  go_wp2_with fail
  refine (HE1.out _).mono ?_
  rintro e w1 he
  obtain ⟨a1, n1, c1, rfl, hv1, b1⟩ := he.ok
  have HB1 := Lib.hid b1
  have HV1 := Lib.hid hv1
  clear hv1 b1 HE1 he
  go_wp2_with fail
  refine (HE2.out _).mono ?_
  rintro e w2 he
  obtain ⟨a2, n2, c2, rfl, hv2, b2⟩ := he.ok
  have HB2 := Lib.hid (below_trans HB1.out b2)
  have HU2 := Lib.hid (HV1.out.below b2)
  have HV2 := Lib.hid hv2
  clear hv2 b2 HE2 he HB1 HV1
  go_wp2_with fail
  refine (HE3.out _).mono ?_
  rintro e w3 he
  obtain ⟨a3, n3, c3, rfl, hv3, b3⟩ := he.ok
  have HB3 := Lib.hid (below_trans HB2.out b3)
  have HU3 := Lib.hid (HU2.out.below b3)
  have HW3 := Lib.hid (HV2.out.below b3)
  have HV3 := Lib.hid hv3
  clear hv3 b3 HE3 he HB2 HU2 HV2
  go_wp2_with fail
  refine (HE4.out _).mono ?_
  rintro e w4 he
  obtain ⟨a4, n4, c4, rfl, hv4, b4⟩ := he.bad
  have HB4 := Lib.hid (below_trans HB3.out b4)
  have HU4 := Lib.hid (HU3.out.below b4)
  have HW4 := Lib.hid (HW3.out.below b4)
  have HX4 := Lib.hid (HV3.out.below b4)
  clear hv4 b4 HE4 he HB3 HU3 HW3 HV3
  go_wp2_with fail
  refine (HD1.out _ _ HU4.out).mono ?_
  rintro e w5 ⟨rfl, b5⟩
  have B5 := below_trans b5 (below_alloc w5 (.cells #[.int .i64 2, .int .i64 2, .string ⟨#[]⟩] 23))
  have HA5 : Hid (AW w _ w5.heap.size (.slice a1 n1 c1) (.slice a2 n2 c2) (.slice a3 n3 c3)) := Lib.hid ⟨below_trans HB4.out B5, HU4.out.below B5, HW4.out.below B5, HX4.out.below B5, Str.new w5 23 #[.int .i64 2, .int .i64 2, .string ⟨#[]⟩]⟩
  have HL5 := Lib.hid (lit_at (e := 5) [3, 2, 2, 0] (by decide) (box_size w5 (.cells #[.int .i64 2, .int .i64 2, .string ⟨#[]⟩] 23)))
  have B6 := below_alloc (w5.alloc (.cells #[.int .i64 2, .int .i64 2, .string ⟨#[]⟩] 23)) (.cells (bv [3, 2, 2, 0]).toArray 5)
  have HA6 := Lib.hid (HA5.out.later B6)
  have HB6 := Lib.hid (rbytes_true HA6.out.r1 HL5.out rfl)
  clear b5 B5 HB4 HU4 HW4 HX4 HD1 B6 HL5 HA5
  go_wp2_with fail
  refine HB6.out.mono ?_
  rintro e w6 ⟨rfl, hw6⟩
  rw [hw6] at HA6
  clear HB6 hw6
  have HL6 := Lib.hid (lit_rd (w := w6) (e := 5) [4, 1, 1, 1, 97] (by decide))
  have B7 := below_alloc w6 (.cells (bv [4, 1, 1, 1, 97]).toArray 5)
  have HA7 := Lib.hid (HA6.out.later B7)
  have HB7 := Lib.hid (rbytes_true HA7.out.r2 HL6.out rfl)
  clear B7 HL6 HA6
  go_wp2_with fail
  refine HB7.out.mono ?_
  rintro e w7 ⟨rfl, hw7⟩
  rw [hw7] at HA7
  clear HB7 hw7
  have HL7 := Lib.hid (lit_rd (w := w7) (e := 5) [5, 0, 4, 0, 0] (by decide))
  have B8 := below_alloc w7 (.cells (bv [5, 0, 4, 0, 0]).toArray 5)
  have HA8 := Lib.hid (HA7.out.later B8)
  have HB8 := Lib.hid (rbytes_true HA8.out.r3 HL7.out rfl)
  clear B8 HL7 HA7
  go_wp2_with fail
  refine HB8.out.mono ?_
  rintro e w8 ⟨rfl, hw8⟩
  rw [hw8] at HA8
  clear HB8 hw8
  obtain ⟨c0, c1, c2⟩ := HA8.out.q.cells3
  have HK8 := Lib.hid (akind_any _ _ w8 HA8.out.r2)
  rw [show AD.kindOf [4, 1, 1, 1, 97] = 4 by decide] at HK8
  go_wp2_with fail
  refine HK8.out.mono ?_
  rintro e w9 ⟨rfl, hw9⟩
  rw [← hw9] at HA8
  clear HK8 hw9 c0 c1 c2
  have HK9 := Lib.hid (akind_any (.slice none 0 0) [] w9 (Rdv.nil w9))
  rw [show AD.kindOf [] = 0 from rfl] at HK9
  go_wp2_with fail
  refine HK9.out.mono ?_
  rintro e w10 ⟨rfl, hw10⟩
  rw [← hw10] at HA8
  clear HK9 hw10
  have HK10 := Lib.hid (akind_any _ _ _ (lit_rd (w := w10) (e := 5) [6] (by decide)))
  rw [show AD.kindOf [6] = 0 by decide] at HK10
  have HB10 := Lib.hid (below_trans HA8.out.below (below_alloc w10 (.cells (bv [6]).toArray 5)))
  clear HA8
  go_wp2_with fail
  refine HK10.out.mono ?_
  rintro e w11 ⟨rfl, hw11⟩
  rw [← hw11] at HB10
  clear HK10 hw11
  go_wp2
  go_ret
  exact ⟨rfl, HB10.out⟩
end Go.Proofs.Ytfpdcljeepjogaa
