/- The four laws of varint: the walks. -/
import Derived.Test.YtgogichgknnnoaaVarP
namespace Go.Proofs.Ytgogichgknnnoaa
open Go.RowKit

theorem q_put : [7] ++ V.put (300 : Int).toNat = ([7, 172, 2] : List UInt8) := by
  show [7] ++ V.put 300 = _
  rw [V.put_big (by decide), V.put_small (by decide)]
  rfl
theorem q_gv : V.gv [172, 2, 9] = 300 := by decide
theorem q_gn : V.gn [172, 2, 9] = 2 := by decide
theorem q_ge : V.ge [172, 2, 9] = 0 := by decide
theorem q_ge2 : V.ge [128, 0] = 2 := by decide
theorem q_ge3 : V.ge [128] = 3 := by decide
theorem q_len0 : V.len 0 = 1 := V.len_small (by decide)
theorem q_len10 : V.len 18446744073709551615 = 10 := by
  repeat rw [V.len_big (by decide)]
  rw [V.len_small (by decide)]

set_option maxRecDepth 100000 in
set_option maxHeartbeats 1000000 in
theorem awake2_any (w : World) :
    Calls Try.prog 7 #[] w fun e w' => e = .returned (.bool true) ∧ Below w.heap.size w w' := by
  have p1 := q_gv; have p2 := q_gn; have p3 := q_ge; have p4 := q_ge2; have p5 := q_ge3; have p6 := q_len0; have p7 := q_len10
  go_enter Try.func7, Try.ntmps7
  go_wp2_with fail
  refine (vput_any _ [7] 300 (by omega) (by omega) _ (lit_rd [7] (by simp [maxLen])) (by simp)).mono ?_
  rintro e w1 ⟨v1, rfl, ho1, hb1⟩
  have B1 := Lib.hid (below_tr (below_alloc _ _) hb1)
  have R1 := Lib.hid ho1.rd
  clear ho1 hb1
  go_wp2_with fail
  refine (vget_any _ [172, 2, 9] _ (lit_rd [172, 2, 9] (by simp [maxLen]))).mono ?_
  rintro e w2 ⟨rfl, hw⟩
  have B2 : Hid (Below w1.heap.size w1 w2) := by rw [← hw]; exact below_alloc _ _
  clear hw
  go_wp2_with fail
  refine (vget_any _ [128, 0] _ (lit_rd [128, 0] (by simp [maxLen]))).mono ?_
  rintro e w3 ⟨rfl, hw⟩
  have B3 : Hid (Below w2.heap.size w2 w3) := by rw [← hw]; exact below_alloc _ _
  clear hw
  go_wp2_with fail
  refine (vget_any _ [128] _ (lit_rd [128] (by simp [maxLen]))).mono ?_
  rintro e w4 ⟨rfl, hw⟩
  have B4 : Hid (Below w3.heap.size w3 w4) := by rw [← hw]; exact below_alloc _ _
  clear hw
  have B14 := Lib.hid (below_tr (below_tr B2.out B3.out) B4.out)
  clear B2 B3 B4
  go_wp2_with fail
  refine (rbytes_any _ _ ([7] ++ V.put (300 : Int).toNat) [7, 172, 2] _ ((R1.out.below B14.out).below (below_alloc _ _)) (lit_rd [7, 172, 2] (by simp [maxLen]))).mono ?_
  rw [q_put]
  rintro e w5 ⟨rfl, hw⟩
  have B5 : Hid (Below w4.heap.size w4 w5) := by rw [← hw]; exact below_alloc _ _
  clear hw
  go_wp2_with (go_at_call 12; refine (vlen_any _ (by omega) (by omega) _).mono ?_; rintro e w' ⟨rfl, rfl⟩)
  go_ret
  exact ⟨rfl, below_tr B1.out (below_tr B14.out B5.out)⟩

set_option maxHeartbeats 400000 in
theorem gets_any (v : Value) (bs : List UInt8) (w : World) (hr : Rdv w v (bv bs)) (_ : bs.length ≤ 140737488351232) :
    Calls Try.prog 4 #[v] w fun e w' => e = .returned (.bool true) ∧ Below w.heap.size w w' := by
  have HR := Lib.hid hr
  clear hr
  go_enter Try.func4, Try.ntmps4
  go_wp2_with (first
    | (go_at_call 11; refine (vget_any _ bs _ HR.out).mono ?_; rintro e w' ⟨rfl, rfl⟩)
    | (go_at_call 13; refine (rget_any _ bs _ HR.out).mono ?_; rintro e w' ⟨rfl, rfl⟩)
    | (go_at_call 7; refine (awake2_any _).mono ?_; rintro e w' ⟨rfl, hb⟩))
  go_ret
  exact ⟨rfl, hb⟩

theorem u64_of {n : Int} (h : (Lit.int .u64 n).wf = true) : 0 ≤ n ∧ n < 18446744073709551616 := by
  simp [Lit.wf, IntKind.min, IntKind.max, IntKind.signed, IntKind.bits] at h
  omega
theorem ord1 {u : Int} (h0 : 0 ≤ u) (h : (V.len u.toNat : Int) = 1) : u / 128 = 0 := by
  have := V.len_up u.toNat
  have e : V.len u.toNat = 1 := by omega
  rw [e] at this
  omega
theorem ord2 {u : Int} (h0 : 0 ≤ u) (h : ¬ (V.len u.toNat : Int) = 1) : 0 < u / 2 ^ (7 * (V.len u.toNat - 1)) := by
  have hp := V.len_pos u.toNat
  have := V.len_lo (v := u.toNat) (by omega)
  have e : (128 : Nat) ^ (V.len u.toNat - 1) = 2 ^ (7 * (V.len u.toNat - 1)) := by rw [show (128 : Nat) = 2 ^ 7 from rfl, ← Nat.pow_mul]
  rw [e] at this
  have h2 : (2 : Int) ^ (7 * (V.len u.toNat - 1)) ≤ u := by
    have h3 : ((2 ^ (7 * (V.len u.toNat - 1)) : Nat) : Int) ≤ u := by omega
    simpa using h3
  have hpos : (0 : Int) < 2 ^ (7 * (V.len u.toNat - 1)) := Int.pow_pos (by omega)
  have := Int.le_ediv_of_mul_le (a := 1) hpos (by rw [Int.one_mul]; exact h2)
  omega
theorem ord3 {u : Int} (h0 : 0 ≤ u) : u / 2 ^ (7 * V.len u.toNat) = 0 := by
  have := V.len_up u.toNat
  have e : (128 : Nat) ^ (V.len u.toNat) = 2 ^ (7 * V.len u.toNat) := by rw [show (128 : Nat) = 2 ^ 7 from rfl, ← Nat.pow_mul]
  rw [e] at this
  have h3 : u < ((2 ^ (7 * V.len u.toNat) : Nat) : Int) := by omega
  exact Int.ediv_eq_zero_of_lt h0 (by simpa using h3)

set_option maxHeartbeats 800000 in
theorem order_le (v u : Int) (h0 : 0 ≤ v) (h1 : v < 18446744073709551616) (k0 : 0 ≤ u) (k1 : u < 18446744073709551616) (h : v < u) (w : World) :
    Calls Try.prog 6 #[.int .u64 v, .int .u64 u] w fun e w' => e = .returned (.bool true) ∧ Below w.heap.size w w' := by
  have m1 := V.len_mono (v := v.toNat) (w := u.toNat) (by omega)
  have m2 := V.len_pos u.toNat
  have m3 := V.len_le10 (v := u.toNat) (by omega)
  have F1 := Lib.hid (ord1 k0)
  have F2 := Lib.hid (ord2 k0)
  have F3 := Lib.hid (ord3 k0)
  go_enter Try.func6, Try.ntmps6
  go_wp2_with (first
    | (go_at_call 12; refine (vlen_any _ (by assumption) (by assumption) _).mono ?_; rintro e w' ⟨rfl, rfl⟩)
    | (go_at_call 7; refine (awake2_any _).mono ?_; rintro e w' ⟨rfl, hb⟩))
  all_goals first
    | (go_ret; exact ⟨rfl, by assumption⟩)
    | exact absurd F3.out (by assumption)
    | exact absurd (F1.out (by assumption)) (by assumption)
    | exact absurd (F2.out (by assumption)) (Int.not_lt.2 (by assumption))

set_option maxHeartbeats 800000 in
theorem order_ge (v u : Int) (h0 : 0 ≤ v) (h1 : v < 18446744073709551616) (k0 : 0 ≤ u) (k1 : u < 18446744073709551616) (h : u ≤ v) (w : World) :
    Calls Try.prog 6 #[.int .u64 v, .int .u64 u] w fun e w' => e = .returned (.bool true) ∧ Below w.heap.size w w' := by
  have m1 := V.len_mono (v := u.toNat) (w := v.toNat) (by omega)
  have m2 := V.len_pos v.toNat
  have m3 := V.len_le10 (v := v.toNat) (by omega)
  have F1 := Lib.hid (ord1 h0)
  have F2 := Lib.hid (ord2 h0)
  have F3 := Lib.hid (ord3 h0)
  go_enter Try.func6, Try.ntmps6
  go_wp2_with (first
    | (go_at_call 12; refine (vlen_any _ (by assumption) (by assumption) _).mono ?_; rintro e w' ⟨rfl, rfl⟩)
    | (go_at_call 7; refine (awake2_any _).mono ?_; rintro e w' ⟨rfl, hb⟩))
  all_goals first
    | (go_ret; exact ⟨rfl, by assumption⟩)
    | exact absurd F3.out (by assumption)
    | exact absurd (F1.out (by assumption)) (by assumption)
    | exact absurd (F2.out (by assumption)) (Int.not_lt.2 (by assumption))

theorem order_any (v u : Int) (w : World) (hv : (Lit.int .u64 v).wf = true) (hu : (Lit.int .u64 u).wf = true) :
    Calls Try.prog 6 #[.int .u64 v, .int .u64 u] w fun e w' => e = .returned (.bool true) ∧ Below w.heap.size w w' := by
  have a : 0 ≤ v ∧ v < 18446744073709551616 := u64_of hv
  have b : 0 ≤ u ∧ u < 18446744073709551616 := u64_of hu
  by_cases h : v < u
  · exact order_le v u a.1 a.2 b.1 b.2 h w
  · exact order_ge v u a.1 a.2 b.1 b.2 (by omega) w

theorem puts_cut {w : World} {bs ps : List UInt8} {a1 : Option Addr} {c1 : Nat} (hr : Rdv w (.slice a1 (bs ++ ps).length c1) (bv (bs ++ ps))) (hc : bs.length + ps.length ≤ c1) (hne : ¬ bs.length + ps.length = bs.length) :
    Rdv w (.slice (a1.map (fun x => x.add bs.length)) (bs.length + ps.length - bs.length) (bs.length + ps.length - bs.length)) (bv ps) ∧
    ∃ ao, Value.slice (a1.map (fun x => x.add bs.length)) (bs.length + ps.length - bs.length) (bs.length + ps.length - bs.length) = .slice ao ps.length ps.length := by
  have := (Rdv.cutb hr (l := bs.length) (h := bs.length + ps.length) (m := bs.length + ps.length) (by omega) (by simp) (by omega) hc).1
  have e : ((bs ++ ps).take (bs.length + ps.length)).drop bs.length = ps := by rw [← List.length_append, List.take_length, List.drop_left]
  rw [e] at this
  have e2 : sliced a1 bs.length (bs.length + ps.length) (bs.length + ps.length) 1 = .slice (a1.map (fun x => x.add bs.length)) (bs.length + ps.length - bs.length) (bs.length + ps.length - bs.length) := by
    rw [sliced, if_neg hne, Nat.mul_one]
  rw [e2] at this
  exact ⟨this, _, by rw [Nat.add_sub_cancel_left]⟩
theorem puts_got {n : Int} (ts : List UInt8) (h0 : 0 ≤ n) (h1 : n < 18446744073709551616) : (V.gv (V.put n.toNat ++ ts) : Int) = n ∧ V.gn (V.put n.toNat ++ ts) = (V.put n.toNat).length ∧ V.ge (V.put n.toNat ++ ts) = 0 := by
  have := V.got (v := n.toNat) (by omega) ts
  unfold V.gv V.gn V.ge
  rw [this]
  exact ⟨by simp; omega, rfl, rfl⟩

set_option maxRecDepth 4000000 in
set_option maxHeartbeats 1600000 in
theorem puts_any (vb : Value) (bs : List UInt8) (n : Int) (vt : Value) (ts : List UInt8) (w : World) (hrb : Rdv w vb (bv bs)) (_ : bs.length ≤ 140737488351232) (hn : (Lit.int .u64 n).wf = true) (hrt : Rdv w vt (bv ts)) (_ : ts.length ≤ 140737488351232) :
    Calls Try.prog 3 #[vb, .int .u64 n, vt] w fun e w' => e = .returned (.bool true) ∧ Below w.heap.size w w' := by
  have HB := Lib.hid hrb
  have HT := Lib.hid hrt
  obtain ⟨n0, n1⟩ := u64_of hn
  clear hn
  obtain ⟨ab, cb, rfl, -⟩ := hrb
  obtain ⟨at', ct, rfl, -⟩ := hrt
  simp only [bv_len] at HB HT ⊢
  go_enter Try.func3, Try.ntmps3
  by_cases hbig : 1000 < bs.length ∨ 1000 < ts.length
  · have hbig' : (decide ((1000 : Int) < bs.length) || decide ((1000 : Int) < ts.length)) = true := by simp; omega
    go_wp2_with (go_at_call 7; refine (awake2_any _).mono ?_; rintro e w' ⟨rfl, hb⟩)
    all_goals go_ret
    all_goals exact ⟨rfl, by assumption⟩
  · have hb1 : ¬ (1000 : Int) < bs.length := by omega
    have hb2 : ¬ (1000 : Int) < ts.length := by omega
    go_wp2_with fail
    refine (vput_any _ bs n n0 n1 _ HB.out (by omega)).mono ?_
    rintro e w1 ⟨v1, rfl, ho1, b1⟩
    have O1 := Lib.hid ho1.rd
    have B1 := Lib.hid b1
    clear ho1 b1
    go_wp2_with fail
    refine (rput_any _ bs n n0 n1 _ (HB.out.below B1.out) (by omega)).mono ?_
    rintro e w2 ⟨v2, rfl, ho2, b2⟩
    have O2 := Lib.hid ho2.rd
    have B2 := Lib.hid b2
    clear ho2 b2
    go_wp2_with fail
    refine (rbytes_any _ _ _ _ _ (O1.out.below B2.out) O2.out).mono ?_
    rintro e w3 ⟨rfl, rfl⟩
    have R1 := Lib.hid (O1.out.below B2.out)
    obtain ⟨a1, c1, hv1, g1, g2, -⟩ := R1.out
    subst hv1
    simp only [bv_len, List.length_append] at R1 g1 ⊢
    have hl := V.len_le10 (v := n.toNat) (by omega)
    have hlp := V.len_pos n.toNat
    have p4 : V.len n.toNat = (V.put n.toNat).length := rfl
    rw [p4] at hl hlp
    have hne : ¬ bs.length + (V.put n.toNat).length = bs.length := by omega
    have C := Lib.hid (puts_cut (bs := bs) (by rw [List.length_append]; exact R1.out) g1 hne)
    have G := puts_got (n := n) ts n0 n1
    obtain ⟨p1, p2, p3⟩ := G
    have HT2 := Lib.hid ((HT.out.below B1.out).below B2.out)
    clear R1 O1 O2 HT HB
    go_wp2_with (at_builtin; refine wpList_append_full_bytes (xs := V.put n.toNat) (news := ts) rfl (.tmp 37) (.tmp 38) 22 rfl 5 Try.underlying22 Try.info_u8 (by rfl) C.out.1 C.out.2 (by rfl) HT2.out (by omega) ?_; intro v3 w3 ho3 hb3)
    refine (vget_any _ _ _ ho3).mono ?_
    rintro e w4 ⟨he, rfl⟩
    rw [p1, p2, p3] at he
    subst he
    have B3 := Lib.hid hb3
    have HL := Lib.hid (vlen_any n n0 n1)
    rw [p4] at HL
    clear ho3 hb3 C HT2 p1 p2 p3 p4
    have tb : (((V.put n.toNat).length : Int) == (bs.length : Int) + ((V.put n.toNat).length : Int) - (bs.length : Int)) = true := by simp; omega
    go_wp2_with (first
      | (go_at_call 12; refine (HL.out _).mono ?_; rintro e w' ⟨rfl, rfl⟩)
      | (go_at_call 7; refine (awake2_any _).mono ?_; rintro e w' ⟨rfl, hb⟩))
    go_ret
    exact ⟨rfl, below_tr (below_tr (below_tr B1.out B2.out) B3.out) hb⟩
end Go.Proofs.Ytgogichgknnnoaa
