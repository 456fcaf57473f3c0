/- Walks of tell.putFull, tell.putStatus. -/
import Derived.Test.YtokmpfkmkhnopaaAkH
import Derived.Test.YtokmpfkmkhnopaaTlE
namespace Go.Proofs.Ytokmpfkmkhnopaa
open Go.RowKit

set_option maxHeartbeats 800000 in
theorem putFull_any (vb : Value) (bs : List UInt8) (base : Nat) (full : Bool) (w : World) (ho : Own w base 5 vb (bv bs)) (hl : bs.length ≤ 1000000) (hb : base ≤ w.heap.size) :
    Calls Try.prog 19 #[vb, .bool full] w (PutIs base w (bs ++ V.put (TL.fz full))) := by
  have H1 := Lib.hid (putn_any vb bs base 1 (by omega) (by omega) w ho hl hb)
  have H0 := Lib.hid (putn_any vb bs base 0 (by omega) (by omega) w ho hl hb)
  obtain ⟨ao, cap, rfl, -⟩ := ho.rd
  cases full
  · go_enter Try.func19, Try.ntmps19
    go_wp2_with fail
    refine H0.out.mono ?_
    rintro e w1 ⟨v1, rfl, ho1, k1⟩
    have HO := Lib.hid ho1
    have HK := Lib.hid k1
    clear ho1 k1
    go_wp2
    go_ret
    exact ⟨_, rfl, HO.out, HK.out⟩
  · go_enter Try.func19, Try.ntmps19
    go_wp2_with fail
    refine H1.out.mono ?_
    rintro e w1 ⟨v1, rfl, ho1, k1⟩
    have HO := Lib.hid ho1
    have HK := Lib.hid k1
    clear ho1 k1
    go_wp2
    go_ret
    exact ⟨_, rfl, HO.out, HK.out⟩

/-- A number is put, in letters. -/
theorem putnE {T T' : List UInt8} {n : Int} (h0 : 0 ≤ n) (h1 : n ≤ 9223372036854775807) (hl : T.length ≤ 1000000) (hT : T ++ V.put n.toNat = T') (B : Nat) (x : World) (v : Value) (ho : Own x B 5 v (bv T)) (hb : B ≤ x.heap.size) :
    Calls Try.prog 18 #[v, .int .i64 n] x (PutIs B x T') := by
  subst hT
  exact putn_any v T B n h0 h1 x ho hl hb
theorem PutIs.slice {B : Nat} {w : World} {bs : List UInt8} {e : Ending} {w' : World} (h : PutIs B w bs e w') : ∃ ao n c, e = .returned (.slice ao n c) ∧ Own w' B 5 (.slice ao n c) (bv bs) ∧ KT B w w' := by
  obtain ⟨v, rfl, ho, hk⟩ := h
  obtain ⟨ao, cap, rfl, -⟩ := id ho.rd
  exact ⟨ao, _, cap, rfl, ho, hk⟩

set_option maxHeartbeats 4000000 in
theorem putStatus_any (vb : Value) (bs : List UInt8) (base : Nat) (s : TL.S) (hok : TL.okS s = true) (w : World) (ho : Own w base 5 vb (bv bs)) (hl : bs.length ≤ 900000) (hb : base ≤ w.heap.size) :
    Calls Try.prog 20 #[vb, .agg #[.int .i64 s.1, .int .i64 s.2.1, .int .i64 s.2.2.1, .int .i64 s.2.2.2.1, .int .i64 s.2.2.2.2]] w (PutIs base w (bs ++ TL.enS s)) := by
  have hle := TL.enS_le hok
  obtain ⟨h1, h2, h3, h4, h5⟩ := TL.okS_iff.1 hok
  obtain ⟨a, b, c, d, f⟩ := s
  simp only at h1 h2 h3 h4 h5 ⊢
  have B0 := below_alloc w (.cells #[.int .i64 a, .int .i64 b, .int .i64 c, .int .i64 d, .int .i64 f] 41)
  have HS0 := Lib.hid (Str.new w 41 #[.int .i64 a, .int .i64 b, .int .i64 c, .int .i64 d, .int .i64 f])
  have HK0 := Lib.hid (KT.of_below base B0)
  have HO0 := Lib.hid (ho.below B0)
  have HB := Lib.hid hb
  obtain ⟨T1, hT1⟩ : ∃ T, bs ++ V.put a.toNat = T := ⟨_, rfl⟩
  obtain ⟨T2, hT2⟩ : ∃ T, T1 ++ V.put b.toNat = T := ⟨_, rfl⟩
  obtain ⟨T3, hT3⟩ : ∃ T, T2 ++ V.put c.toNat = T := ⟨_, rfl⟩
  obtain ⟨T4, hT4⟩ : ∃ T, T3 ++ V.put d.toNat = T := ⟨_, rfl⟩
  obtain ⟨T5, hT5⟩ : ∃ T, T4 ++ V.put f.toNat = T := ⟨_, rfl⟩
  have hE : bs ++ TL.enS (a, b, c, d, f) = T5 := by rw [← hT5, ← hT4, ← hT3, ← hT2, ← hT1]; simp [TL.enS]
  unfold TL.enS at hle
  simp only [List.length_append] at hle
  have l1 : T1.length ≤ 1000000 := by rw [← hT1, List.length_append]; omega
  have l2 : T2.length ≤ 1000000 := by rw [← hT2, ← hT1, List.length_append, List.length_append]; omega
  have l3 : T3.length ≤ 1000000 := by rw [← hT3, ← hT2, ← hT1, List.length_append, List.length_append, List.length_append]; omega
  have l4 : T4.length ≤ 1000000 := by rw [← hT4, ← hT3, ← hT2, ← hT1, List.length_append, List.length_append, List.length_append, List.length_append]; omega
  have P1 := Lib.hid (putnE (T := bs) (n := a) (by omega) (by omega) (by omega) hT1 base)
  have P2 := Lib.hid (putnE (T := T1) (n := b) (by omega) (by omega) l1 hT2 base)
  have P3 := Lib.hid (putnE (T := T2) (n := c) (by omega) (by omega) l2 hT3 base)
  have P4 := Lib.hid (putnE (T := T3) (n := d) (by omega) (by omega) l3 hT4 base)
  have P5 := Lib.hid (putnE (T := T4) (n := f) (by omega) (by omega) l4 hT5 base)
  rw [hE]
  obtain ⟨ao, cap, rfl, -⟩ := ho.rd
  obtain ⟨N0, hN0⟩ : ∃ N, (bv bs).length = N := ⟨_, rfl⟩
  rw [hN0] at HO0 ⊢
  clear h1 h2 h3 h4 h5 hok ho hb B0 hT1 hT2 hT3 hT4 hT5 hE l1 l2 l3 l4 hle hl hN0
  obtain ⟨c0, c1, c2, c3, c4⟩ := HS0.out.cells5
  go_enter Try.func20, Try.ntmps20
  go_wp2_with fail
  refine (P1.out _ _ HO0.out (Nat.le_trans HB.out HK0.out.size)).mono ?_
  rintro e w1 he
  obtain ⟨a1, n1, q1, rfl, ho1, k1⟩ := he.slice
  have HO1 := Lib.hid ho1
  have HS1 := Lib.hid (HS0.out.kt k1 (by decide))
  have HK1 := Lib.hid (HK0.out.trans k1)
  clear he ho1 k1 HO0 HS0 HK0 c0 c1 c2 c3 c4
  obtain ⟨c0, c1, c2, c3, c4⟩ := HS1.out.cells5
  go_wp2_with fail
  refine (P2.out _ _ HO1.out (Nat.le_trans HB.out HK1.out.size)).mono ?_
  rintro e w2 he
  obtain ⟨a2, n2, q2, rfl, ho2, k2⟩ := he.slice
  have HO2 := Lib.hid ho2
  have HS2 := Lib.hid (HS1.out.kt k2 (by decide))
  have HK2 := Lib.hid (HK1.out.trans k2)
  clear he ho2 k2 HO1 HS1 HK1 c0 c1 c2 c3 c4
  obtain ⟨c0, c1, c2, c3, c4⟩ := HS2.out.cells5
  go_wp2_with fail
  refine (P3.out _ _ HO2.out (Nat.le_trans HB.out HK2.out.size)).mono ?_
  rintro e w3 he
  obtain ⟨a3, n3, q3, rfl, ho3, k3⟩ := he.slice
  have HO3 := Lib.hid ho3
  have HS3 := Lib.hid (HS2.out.kt k3 (by decide))
  have HK3 := Lib.hid (HK2.out.trans k3)
  clear he ho3 k3 HO2 HS2 HK2 c0 c1 c2 c3 c4
  obtain ⟨c0, c1, c2, c3, c4⟩ := HS3.out.cells5
  go_wp2_with fail
  refine (P4.out _ _ HO3.out (Nat.le_trans HB.out HK3.out.size)).mono ?_
  rintro e w4 he
  obtain ⟨a4, n4, q4, rfl, ho4, k4⟩ := he.slice
  have HO4 := Lib.hid ho4
  have HS4 := Lib.hid (HS3.out.kt k4 (by decide))
  have HK4 := Lib.hid (HK3.out.trans k4)
  clear he ho4 k4 HO3 HS3 HK3 c0 c1 c2 c3 c4
  obtain ⟨c0, c1, c2, c3, c4⟩ := HS4.out.cells5
  go_wp2_with fail
  refine (P5.out _ _ HO4.out (Nat.le_trans HB.out HK4.out.size)).mono ?_
  rintro e w5 he
  obtain ⟨a5, n5, q5, rfl, ho5, k5⟩ := he.slice
  have HO5 := Lib.hid ho5
  have HS5 := Lib.hid (HS4.out.kt k5 (by decide))
  have HK5 := Lib.hid (HK4.out.trans k5)
  clear he ho5 k5 HO4 HS4 HK4 c0 c1 c2 c3 c4
  obtain ⟨c0, c1, c2, c3, c4⟩ := HS5.out.cells5
  go_wp2
  go_ret
  exact ⟨_, rfl, HO5.out, HK5.out⟩
end Go.Proofs.Ytokmpfkmkhnopaa
