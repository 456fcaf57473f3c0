/- Walks of encodeNote, EncodeQuery, EncodeReport, EncodeOops. -/
import Derived.Test.YtfpdcljeepjogaaAdC
import Derived.Test.YtfpdcljeepjogaaAdB
import Derived.Test.YtfpdcljeepjogaaAkH
namespace Go.Proofs.Ytfpdcljeepjogaa
open Go.RowKit

/-- What an Encode answers: bytes, or none. -/
def EncB (w : World) (c : Bool) (bs : List UInt8) (e : Ending) (w' : World) : Prop := ∃ ao n cap, e = .returned (.tuple #[.slice ao n cap, .int .i64 (errOf c)]) ∧ Rdv w' (.slice ao n cap) (bv bs) ∧ Below w.heap.size w w'
def bytesN (kd : UInt8) (most : Nat) (n : AD.N) : List UInt8 := if AD.okN most n = true then AD.encN kd n else []
def bytesO (o : AD.O) : List UInt8 := if AD.okO o = true then AD.encO o else []
theorem EncB.no {w w' : World} {c : Bool} {bs : List UInt8} (hc : c = false) (hb : bs = []) (h : Below w.heap.size w w') : EncB w c bs (.returned (.tuple #[.slice none 0 0, .int .i64 1])) w' := by
  subst hc hb
  exact ⟨none, 0, 0, rfl, Rdv.nil _, h⟩
theorem EncB.yes {w w' : World} {c : Bool} {bs : List UInt8} {ao : Option Addr} {n cap B : Nat} (hc : c = true) (ho : Own w' B 5 (.slice ao n cap) (bv bs)) (h : Below w.heap.size w w') : EncB w c bs (.returned (.tuple #[.slice ao n cap, .int .i64 0])) w' := by
  subst hc
  exact ⟨ao, n, cap, rfl, ho.rd, h⟩

set_option maxHeartbeats 8000000 in
theorem encodeNote_any (kd : UInt8) (kz : Int) (hkz : (kd.toNat : Int) = kz) (most : Nat) (hm : most ≤ 1000000) (n : AD.N) (hn : n.2.2.length ≤ 9223372036854775807) (w : World) :
    Calls Try.prog 24 #[.int .u8 kz, .agg #[.int .i64 n.1, .int .i64 n.2.1, .string ⟨n.2.2.toArray⟩], .int .i64 (most : Int)] w (EncB w (AD.okN most n) (bytesN kd most n)) := by
  have HM := Lib.hid (fun x => mayNote_any most n hn x)
  have hok := @AD.okN_iff most n
  have hle := @AD.headN_le kd most n
  have hbn : bytesN kd most n = if AD.okN most n = true then AD.encN kd n else [] := rfl
  have hz0 : 0 ≤ kz := by omega
  have hz1 : kz < 256 := by have := kd.toNat_lt; omega
  obtain ⟨a, b, s⟩ := n
  simp only at *
  have B0 := below_alloc w (.cells #[.int .i64 a, .int .i64 b, .string ⟨s.toArray⟩] 47)
  have HS0 := Lib.hid (Str.new w 47 #[.int .i64 a, .int .i64 b, .string ⟨s.toArray⟩])
  have HB0 := Lib.hid B0
  clear B0
  generalize hc : AD.okN most (a, b, s) = c at *
  cases c
  · have E := Lib.hid (show bytesN kd most (a, b, s) = [] by rw [hbn]; rfl)
    clear hok hle hbn hc
    go_enter Try.func24, Try.ntmps24
    go_wp2_with (go_at_call 41; refine (HM.out _).mono ?_; rintro e w1 ⟨rfl, b1⟩; have B1 := Lib.hid b1; clear b1)
    go_ret2
    exact EncB.no rfl E.out (below_trans HB0.out B1.out)
  · obtain ⟨o1, o2, o3⟩ := hok.1 rfl
    obtain ⟨l1, l2⟩ := hle rfl
    obtain ⟨T1, hT1⟩ : ∃ T, [kd] ++ V.put a.toNat = T := ⟨_, rfl⟩
    obtain ⟨T2, hT2⟩ : ∃ T, T1 ++ V.put b.toNat = T := ⟨_, rfl⟩
    obtain ⟨T3, hT3⟩ : ∃ T, T2 ++ K.tx s = T := ⟨_, rfl⟩
    have E := Lib.hid (show bytesN kd most (a, b, s) = T3 by rw [hbn, if_pos rfl, ← hT3, ← hT2, ← hT1]; rfl)
    rw [hT1] at l1 l2
    rw [hT2] at l2
    have P1 := Lib.hid (putnE (T := [kd]) (n := a) (by omega) (by omega) (by simp) hT1)
    have P2 := Lib.hid (putnE (T := T1) (n := b) (by omega) (by omega) (by omega) hT2)
    have P3 := Lib.hid (puttE (T := T2) (s := s) (by omega) (by omega) hT3)
    have hlit : (bv [kd]).toArray = #[.int .u8 kz] := by simp [bv, hkz]
    rw [E.out]
    clear hok hle hbn hc hT1 hT2 hT3 l1 l2 E o1 o2 o3
    go_enter Try.func24, Try.ntmps24
    go_wp2_with fail
    refine (HM.out _).mono ?_
    rintro e w1 ⟨rfl, b1⟩
    have HB1 := Lib.hid (below_trans HB0.out b1)
    have B2 := below_alloc w1 (.cells #[.int .u8 kz] 5)
    have HS2 := Lib.hid ((HS0.out.below b1).below B2)
    have ho2 := Own.lit (base := w1.heap.size) w1 (e := 5) (bv [kd]) (Nat.le_refl _) (by simp [bv, maxLen])
    rw [hlit] at ho2
    have HO2 := Lib.hid ho2
    have HK2 := Lib.hid (KT.of_below w1.heap.size B2)
    obtain ⟨c0, c1, c2⟩ := HS2.out.cells3
    clear b1 HM HS0 HB0 B2 ho2 hlit
    go_wp2_with fail
    refine (P1.out _ _ _ HO2.out HK2.out.size).mono ?_
    rintro e w3 he
    obtain ⟨a3, n3, q3, rfl, ho3, k3⟩ := he.slice
    have HO3 := Lib.hid ho3
    have HS3 := Lib.hid (HS2.out.kt k3 (by decide))
    have HK3 := Lib.hid (HK2.out.trans k3)
    clear he ho3 k3 HO2 HS2 HK2 P1 c0 c1 c2
    obtain ⟨c0, c1, c2⟩ := HS3.out.cells3
    go_wp2_with fail
    refine (P2.out _ _ _ HO3.out HK3.out.size).mono ?_
    rintro e w4 he
    obtain ⟨a4, n4, q4, rfl, ho4, k4⟩ := he.slice
    have HO4 := Lib.hid ho4
    have HS4 := Lib.hid (HS3.out.kt k4 (by decide))
    have HK4 := Lib.hid (HK3.out.trans k4)
    clear he ho4 k4 HO3 HS3 HK3 P2 c0 c1 c2
    obtain ⟨c0, c1, c2⟩ := HS4.out.cells3
    go_wp2_with fail
    refine (P3.out _ _ _ HO4.out HK4.out.size).mono ?_
    rintro e w5 he
    obtain ⟨a5, n5, q5, rfl, ho5, k5⟩ := he.slice
    have HO5 := Lib.hid ho5
    have HK5 := Lib.hid (HK4.out.trans k5)
    clear he ho5 k5 HO4 HS4 HK4 P3 c0 c1 c2
    go_wp2
    go_ret2
    exact EncB.yes rfl HO5.out (below_trans HB1.out (HK5.out.below (Nat.le_refl _)))

set_option maxHeartbeats 1600000 in
theorem encode_query (n : AD.N) (hn : n.2.2.length ≤ 9223372036854775807) (w : World) :
    Calls Try.prog 9 #[.agg #[.int .i64 n.1, .int .i64 n.2.1, .string ⟨n.2.2.toArray⟩]] w (EncB w (AD.okN 16384 n) (bytesN 3 16384 n)) := by
  have B0 := below_alloc w (.cells #[.int .i64 n.1, .int .i64 n.2.1, .string ⟨n.2.2.toArray⟩] 23)
  have HB := Lib.hid B0
  have HN := Lib.hid (encodeNote_any 3 3 rfl 16384 (by omega) n hn (w.alloc (.cells #[.int .i64 n.1, .int .i64 n.2.1, .string ⟨n.2.2.toArray⟩] 23)))
  generalize AD.okN 16384 n = c at *
  generalize bytesN 3 16384 n = bs at *
  clear B0
  go_enter Try.func9, Try.ntmps9
  go_wp2_with fail
  refine HN.out.mono ?_
  rintro e w1 ⟨ao, k, cap, rfl, hv, b1⟩
  have HV := Lib.hid hv
  have HB1 := Lib.hid (below_trans HB.out b1)
  clear hv b1 HN HB
  go_wp2
  go_ret2
  exact ⟨ao, k, cap, rfl, HV.out, HB1.out⟩
set_option maxHeartbeats 1600000 in
theorem encode_report (n : AD.N) (hn : n.2.2.length ≤ 9223372036854775807) (w : World) :
    Calls Try.prog 13 #[.agg #[.int .i64 n.1, .int .i64 n.2.1, .string ⟨n.2.2.toArray⟩]] w (EncB w (AD.okN 60000 n) (bytesN 4 60000 n)) := by
  have B0 := below_alloc w (.cells #[.int .i64 n.1, .int .i64 n.2.1, .string ⟨n.2.2.toArray⟩] 33)
  have HB := Lib.hid B0
  have HN := Lib.hid (encodeNote_any 4 4 rfl 60000 (by omega) n hn (w.alloc (.cells #[.int .i64 n.1, .int .i64 n.2.1, .string ⟨n.2.2.toArray⟩] 33)))
  generalize AD.okN 60000 n = c at *
  generalize bytesN 4 60000 n = bs at *
  clear B0
  go_enter Try.func13, Try.ntmps13
  go_wp2_with fail
  refine HN.out.mono ?_
  rintro e w1 ⟨ao, k, cap, rfl, hv, b1⟩
  have HV := Lib.hid hv
  have HB1 := Lib.hid (below_trans HB.out b1)
  clear hv b1 HN HB
  go_wp2
  go_ret2
  exact ⟨ao, k, cap, rfl, HV.out, HB1.out⟩

set_option maxHeartbeats 8000000 in
theorem encode_oops (o : AD.O) (w : World) :
    Calls Try.prog 16 #[.agg #[.int .i64 o.1, .int .i64 o.2.1, .int .i64 o.2.2.1, .int .i64 o.2.2.2]] w (EncB w (AD.okO o) (bytesO o)) := by
  have HM := Lib.hid (fun x => mayOops_any o x)
  have hok := @AD.okO_iff o
  have hle := @AD.headO_le o
  have hbn : bytesO o = if AD.okO o = true then AD.encO o else [] := rfl
  obtain ⟨a, b, c, d⟩ := o
  simp only at *
  have B0 := below_alloc w (.cells #[.int .i64 a, .int .i64 b, .int .i64 c, .int .i64 d] 39)
  have HS0 := Lib.hid (Str.new w 39 #[.int .i64 a, .int .i64 b, .int .i64 c, .int .i64 d])
  have HB0 := Lib.hid B0
  clear B0
  generalize hc : AD.okO (a, b, c, d) = r at *
  cases r
  · have E := Lib.hid (show bytesO (a, b, c, d) = [] by rw [hbn]; rfl)
    clear hok hle hbn hc
    go_enter Try.func16, Try.ntmps16
    go_wp2_with (go_at_call 33; refine (HM.out _).mono ?_; rintro e w1 ⟨rfl, b1⟩; have B1 := Lib.hid b1; clear b1)
    go_ret2
    exact EncB.no rfl E.out (below_trans HB0.out B1.out)
  · obtain ⟨o1, o2, o3, o4⟩ := hok.1 rfl
    obtain ⟨l1, l2, l3⟩ := hle rfl
    obtain ⟨T1, hT1⟩ : ∃ T, [5] ++ V.put a.toNat = T := ⟨_, rfl⟩
    obtain ⟨T2, hT2⟩ : ∃ T, T1 ++ V.put b.toNat = T := ⟨_, rfl⟩
    obtain ⟨T3, hT3⟩ : ∃ T, T2 ++ V.put c.toNat = T := ⟨_, rfl⟩
    obtain ⟨T4, hT4⟩ : ∃ T, T3 ++ V.put d.toNat = T := ⟨_, rfl⟩
    have E := Lib.hid (show bytesO (a, b, c, d) = T4 by rw [hbn, if_pos rfl, ← hT4, ← hT3, ← hT2, ← hT1]; rfl)
    rw [hT1] at l1 l2 l3
    rw [hT2] at l2 l3
    rw [hT3] at l3
    have P1 := Lib.hid (putnE (T := [5]) (n := a) (by omega) (by omega) (by simp) hT1)
    have P2 := Lib.hid (putnE (T := T1) (n := b) (by omega) (by omega) (by omega) hT2)
    have P3 := Lib.hid (putnE (T := T2) (n := c) (by omega) (by omega) (by omega) hT3)
    have P4 := Lib.hid (putnE (T := T3) (n := d) (by omega) (by omega) (by omega) hT4)
    rw [E.out]
    clear hok hle hbn hc hT1 hT2 hT3 hT4 l1 l2 l3 E o1 o2 o3 o4
    go_enter Try.func16, Try.ntmps16
    go_wp2_with fail
    refine (HM.out _).mono ?_
    rintro e w1 ⟨rfl, b1⟩
    have HB1 := Lib.hid (below_trans HB0.out b1)
    have B2 := below_alloc w1 (.cells #[.int .u8 5] 5)
    have HS2 := Lib.hid ((HS0.out.below b1).below B2)
    have HO2 := Lib.hid (Own.lit (base := w1.heap.size) w1 (e := 5) (bv [5]) (Nat.le_refl _) (by simp [bv, maxLen]))
    have HK2 := Lib.hid (KT.of_below w1.heap.size B2)
    obtain ⟨c0, c1, c2, c3⟩ := HS2.out.cells4
    clear b1 HM HS0 HB0 B2
    go_wp2_with fail
    refine (P1.out _ _ _ HO2.out HK2.out.size).mono ?_
    rintro e w3 he
    obtain ⟨a3, n3, q3, rfl, ho3, k3⟩ := he.slice
    have HO3 := Lib.hid ho3
    have HS3 := Lib.hid (HS2.out.kt k3 (by decide))
    have HK3 := Lib.hid (HK2.out.trans k3)
    clear he ho3 k3 HO2 HS2 HK2 P1 c0 c1 c2 c3
    obtain ⟨c0, c1, c2, c3⟩ := HS3.out.cells4
    go_wp2_with fail
    refine (P2.out _ _ _ HO3.out HK3.out.size).mono ?_
    rintro e w4 he
    obtain ⟨a4, n4, q4, rfl, ho4, k4⟩ := he.slice
    have HO4 := Lib.hid ho4
    have HS4 := Lib.hid (HS3.out.kt k4 (by decide))
    have HK4 := Lib.hid (HK3.out.trans k4)
    clear he ho4 k4 HO3 HS3 HK3 P2 c0 c1 c2 c3
    obtain ⟨c0, c1, c2, c3⟩ := HS4.out.cells4
    go_wp2_with fail
    refine (P3.out _ _ _ HO4.out HK4.out.size).mono ?_
    rintro e w5 he
    obtain ⟨a5, n5, q5, rfl, ho5, k5⟩ := he.slice
    have HO5 := Lib.hid ho5
    have HS5 := Lib.hid (HS4.out.kt k5 (by decide))
    have HK5 := Lib.hid (HK4.out.trans k5)
    clear he ho5 k5 HO4 HS4 HK4 P3 c0 c1 c2 c3
    obtain ⟨c0, c1, c2, c3⟩ := HS5.out.cells4
    go_wp2_with fail
    refine (P4.out _ _ _ HO5.out HK5.out.size).mono ?_
    rintro e w6 he
    obtain ⟨a6, n6, q6, rfl, ho6, k6⟩ := he.slice
    have HO6 := Lib.hid ho6
    have HK6 := Lib.hid (HK5.out.trans k6)
    clear he ho6 k6 HO5 HS5 HK5 P4 c0 c1 c2 c3
    go_wp2
    go_ret2
    exact EncB.yes rfl HO6.out (below_trans HB1.out (HK6.out.below (Nat.le_refl _)))
end Go.Proofs.Ytfpdcljeepjogaa
