/- The walk of AskSame. -/
import Derived.Test.YthbmmnjpiflgdaaAkO
namespace Go.Proofs.Ythbmmnjpiflgdaa
open Go.RowKit

/-- Two requests, as they lie. -/
structure LB (w : World) (a b : K.A) (va vb : Value) (x : World) : Prop where
  below : Below w.heap.size w x
  sa : Str x w.heap.size 24 #[.int .i64 a.1, .string ⟨a.2.1.toArray⟩, .int .i64 a.2.2.1, va]
  sb : Str x (w.heap.size + 1) 24 #[.int .i64 b.1, .string ⟨b.2.1.toArray⟩, .int .i64 b.2.2.1, vb]
  ra : Rdd x va a.2.2.2
  rb : Rdd x vb b.2.2.2
theorem LB.later {w x y : World} {a b : K.A} {va vb : Value} (h : LB w a b va vb x) (hb : Below x.heap.size x y) : LB w a b va vb y := ⟨below_trans h.below hb, h.sa.below hb, h.sb.below hb, h.ra.below hb, h.rb.below hb⟩
theorem LB.start {w : World} {a b : K.A} {va vb : Value} (ha : Rdd w va a.2.2.2) (hb : Rdd w vb b.2.2.2) : LB w a b va vb ((w.alloc (.cells #[.int .i64 a.1, .string ⟨a.2.1.toArray⟩, .int .i64 a.2.2.1, va] 24)).alloc (.cells #[.int .i64 b.1, .string ⟨b.2.1.toArray⟩, .int .i64 b.2.2.1, vb] 24)) := by
  have h := TwoA.new w #[.int .i64 a.1, .string ⟨a.2.1.toArray⟩, .int .i64 a.2.2.1, va] #[.int .i64 b.1, .string ⟨b.2.1.toArray⟩, .int .i64 b.2.2.1, vb]
  exact ⟨h.below, h.first, h.second, ha.below h.below, hb.below h.below⟩
theorem LB.eight {w x : World} {a b : K.A} {va vb : Value} (h : LB w a b va vb x) : (x.cell? ⟨w.heap.size, 0, none⟩ = some (.int .i64 a.1) ∧ x.cell? ⟨w.heap.size, 1, none⟩ = some (.string ⟨a.2.1.toArray⟩) ∧ x.cell? ⟨w.heap.size, 2, none⟩ = some (.int .i64 a.2.2.1) ∧ x.cell? ⟨w.heap.size, 3, none⟩ = some va) ∧ x.cell? ⟨w.heap.size + 1, 0, none⟩ = some (.int .i64 b.1) ∧ x.cell? ⟨w.heap.size + 1, 1, none⟩ = some (.string ⟨b.2.1.toArray⟩) ∧ x.cell? ⟨w.heap.size + 1, 2, none⟩ = some (.int .i64 b.2.2.1) ∧ x.cell? ⟨w.heap.size + 1, 3, none⟩ = some vb := ⟨h.sa.cells, h.sb.cells⟩
theorem enc_same {a b : K.A} (ha : K.chk a = true) (hb : K.chk b = true) : (encOf a == encOf b) = K.same a b := by
  unfold encOf
  rw [ha, hb, if_pos rfl, if_pos rfl, Bool.eq_iff_iff, K.same_iff, beq_iff_eq]
  exact K.enc_inj ha hb
theorem neq_self (b : Bool) : (b != b) = false := by cases b <;> rfl

set_option maxHeartbeats 8000000 in
theorem askSame_walk (va : Value) (a : K.A) (vb : Value) (b : K.A) (w : World) (ha : Rdd w va a.2.2.2) (hfa : FitA a) (hb : Rdd w vb b.2.2.2) (hfb : FitA b) :
    Calls Try.prog 7 #[.agg #[.int .i64 a.1, .string ⟨a.2.1.toArray⟩, .int .i64 a.2.2.1, va], .agg #[.int .i64 b.1, .string ⟨b.2.1.toArray⟩, .int .i64 b.2.2.1, vb]] w (Holds w) := by
  have HA0 := Lib.hid (LB.start ha hb)
  have HH1 := Lib.hid (fun x (h : LB w a b va vb x) => heavy_any a va x h.ra)
  have HH2 := Lib.hid (fun x (h : LB w a b va vb x) => heavy_any b vb x h.rb)
  have HE1 := Lib.hid (fun x (h : LB w a b va vb x) => (encode_any a va x h.ra hfa).mono fun _ _ => enc2_of)
  have HE2 := Lib.hid (fun x (h : LB w a b va vb x) => (encode_any b vb x h.rb hfb).mono fun _ _ => enc2_of)
  have HS1 := Lib.hid (fun x (h : LB w a b va vb x) => asame_any a b va vb x h.ra h.rb)
  have HS2 := Lib.hid (fun x (h : LB w a b va vb x) => rsameAsk_any a b va vb x h.ra h.rb)
  have HSM := Lib.hid (@enc_same a b)
  obtain ⟨aa, ca, rfl, -⟩ := ha
  obtain ⟨ab, cb, rfl, -⟩ := hb
  generalize K.chk a = r at *
  generalize K.chk b = t at *
  generalize encOf a = xs at *
  generalize encOf b = ys at *
  generalize K.same a b = sm at *
  go_enter Try.func7, Try.ntmps7
  go_wp2_with fail
  refine (HH1.out _ HA0.out).mono ?_
  rintro e w1 ⟨b1, rfl, q1⟩
  have HA1 := Lib.hid (HA0.out.later q1)
  clear q1 HA0 HH1
  obtain ⟨⟨k0, k1, k2, k3⟩, l0, l1, l2, l3⟩ := HA1.out.eight
  cases b1
  case true =>
    go_wp2_with fail
    refine (awake7 _).mono ?_
    rintro e w2 ⟨rfl, b2⟩
    have HB2 := Lib.hid (below_trans HA1.out.below b2)
    clear b2
    go_wp2
    go_ret
    exact ⟨rfl, HB2.out⟩
  go_wp2_with fail
  refine (HH2.out _ HA1.out).mono ?_
  rintro e w2 ⟨b2, rfl, q2⟩
  have HA2 := Lib.hid (HA1.out.later q2)
  clear q2 HA1 HH2 k0 k1 k2 k3 l0 l1 l2 l3
  cases b2
  case true =>
    go_wp2_with fail
    refine (awake7 _).mono ?_
    rintro e w3 ⟨rfl, b3⟩
    have HB3 := Lib.hid (below_trans HA2.out.below b3)
    clear b3
    go_wp2
    go_ret
    exact ⟨rfl, HB3.out⟩
  have HA3 := Lib.hid (HA2.out.later (below_drew _))
  have es : (sm != sm) = false := neq_self sm
  have es2 : (sm == sm) = true := by simp
  go_wp2
  go_region_held3 (fun x => (x.cell? ⟨w.heap.size, 0, none⟩ = some (.int .i64 a.1) ∧ x.cell? ⟨w.heap.size, 1, none⟩ = some (.string ⟨a.2.1.toArray⟩) ∧ x.cell? ⟨w.heap.size, 2, none⟩ = some (.int .i64 a.2.2.1) ∧ x.cell? ⟨w.heap.size, 3, none⟩ = some (.slice aa a.2.2.2.length ca)) ∧ x.cell? ⟨w.heap.size + 1, 0, none⟩ = some (.int .i64 b.1) ∧ x.cell? ⟨w.heap.size + 1, 1, none⟩ = some (.string ⟨b.2.1.toArray⟩) ∧ x.cell? ⟨w.heap.size + 1, 2, none⟩ = some (.int .i64 b.2.2.1) ∧ x.cell? ⟨w.heap.size + 1, 3, none⟩ = some (.slice ab b.2.2.2.length cb)) (first | exact HA3.out.eight | exact HA4.out.eight | exact HA5.out.eight) (first
    | (go_at_call 20; refine (HS1.out _ HA3.out).mono ?_; rintro e w4 ⟨rfl, b4⟩; have HA4 := Lib.hid (HA3.out.later b4); clear b4)
    | (go_at_call 19; refine (HS2.out _ HA4.out).mono ?_; rintro e w5 ⟨rfl, b5⟩; have HA5 := Lib.hid (HA4.out.later b5); clear b5))
  clear HA2 HA3 HA4 HS1
  obtain ⟨⟨k0, k1, k2, k3⟩, l0, l1, l2, l3⟩ := HA5.out.eight
  go_wp2_with fail
  refine (HE1.out _ HA5.out).mono ?_
  rintro e w6 ⟨a6, n6, c6, rfl, hv6, b6⟩
  have HA6 := Lib.hid (HA5.out.later b6)
  have HV6 := Lib.hid hv6
  clear b6 hv6 HA5 HE1 k0 k1 k2 k3 l0 l1 l2 l3
  obtain ⟨⟨k0, k1, k2, k3⟩, l0, l1, l2, l3⟩ := HA6.out.eight
  go_wp2_with fail
  refine (HE2.out _ HA6.out).mono ?_
  rintro e w7 ⟨a7, n7, c7, rfl, hv7, b7⟩
  have HA7 := Lib.hid (HA6.out.later b7)
  have HBY := Lib.hid (rbytes_any _ _ xs ys w7.drew ((HV6.out.below b7).below (below_drew _)) (hv7.below (below_drew _)))
  have HA8 := Lib.hid (HA7.out.later (below_drew _))
  clear b7 hv7 HA6 HV6 HE2 HA7 k0 k1 k2 k3 l0 l1 l2 l3
  cases r
  · rw [errOf_false]
    generalize errOf t = et
    clear HBY
    go_wp2
    refine wp_region_any (by kernel_rfl) ?_
    change wpAny _ _ _ _ _ _ _ (World.drew _)
    refine wpAny_take (i := 0) (v := ?v0) rfl (by kernel_rfl) (by kernel_rfl) (by kernel_rfl) (fun _ _ _ h => h) (Or.inl ⟨by rfl, ?h0⟩) ?r0
    case h0 => intro w; go_simp; with_reducible rfl
    (try simp only [List.getElem_toArray, List.getElem_cons_zero, Act.put, List.setIfInBounds_toArray, List.set_cons_zero, List.set_cons_succ])
    refine wpAny_take (i := 1) (v := ?v1) rfl (by kernel_rfl) (by kernel_rfl) (by kernel_rfl) (fun _ _ _ h => h) (Or.inl ⟨by rfl, ?h1⟩) ?r1
    case h1 => intro w; go_simp; with_reducible rfl
    (try simp only [List.getElem_toArray, List.getElem_cons_zero, List.getElem_cons_succ, Act.put, List.setIfInBounds_toArray, List.set_cons_zero, List.set_cons_succ])
    refine wpAny_take (i := 2) (v := ?v2) rfl (by kernel_rfl) (by kernel_rfl) (by kernel_rfl) (fun _ _ _ h => h) (Or.inl ⟨by rfl, ?h2⟩) ?r2
    case h2 => intro w; go_simp; with_reducible rfl
    (try simp only [List.getElem_toArray, List.getElem_cons_zero, List.getElem_cons_succ, Act.put, List.setIfInBounds_toArray, List.set_cons_zero, List.set_cons_succ])
    refine wpAny_take (i := 3) (v := undef) rfl (by kernel_rfl) (by kernel_rfl) (by kernel_rfl) (fun _ _ _ h => h) (Or.inr ⟨by rfl, rfl⟩) ?_
    (try simp only [List.getElem_toArray, List.getElem_cons_zero, List.getElem_cons_succ, Act.put, List.setIfInBounds_toArray, List.set_cons_zero, List.set_cons_succ])
    refine wpAny_take (i := 4) (v := undef) rfl (by kernel_rfl) (by kernel_rfl) (by kernel_rfl) (fun _ _ _ h => h) (Or.inr ⟨by rfl, rfl⟩) ?_
    (try simp only [List.getElem_toArray, List.getElem_cons_zero, List.getElem_cons_succ, Act.put, List.setIfInBounds_toArray, List.set_cons_zero, List.set_cons_succ])
    refine wpAny_take (i := 5) (v := ?v5) rfl (by kernel_rfl) (by kernel_rfl) (by kernel_rfl) (fun _ _ _ h => h) (Or.inl ⟨by rfl, ?h5⟩) ?r5
    case h5 => intro w; go_simp; with_reducible rfl
    (try simp only [List.getElem_toArray, List.getElem_cons_zero, List.getElem_cons_succ, Act.put, List.setIfInBounds_toArray, List.set_cons_zero, List.set_cons_succ])
    refine wpAny_take (i := 6) (v := ?v6) rfl (by kernel_rfl) (by kernel_rfl) (by kernel_rfl) (fun _ _ _ h => h) (Or.inl ⟨by rfl, ?h6⟩) ?r6
    case h6 => intro w; go_simp; with_reducible rfl
    (try simp only [List.getElem_toArray, List.getElem_cons_zero, List.getElem_cons_succ, Act.put, List.setIfInBounds_toArray, List.set_cons_zero, List.set_cons_succ])
    refine wpAny_take (i := 7) (v := undef) rfl (by kernel_rfl) (by kernel_rfl) (by kernel_rfl) (fun _ _ _ h => h) (Or.inr ⟨by rfl, rfl⟩) ?_
    (try simp only [List.getElem_toArray, List.getElem_cons_zero, List.getElem_cons_succ, Act.put, List.setIfInBounds_toArray, List.set_cons_zero, List.set_cons_succ])
    refine wpAny_take (i := 8) (v := undef) rfl (by kernel_rfl) (by kernel_rfl) (by kernel_rfl) (fun _ _ _ h => h) (Or.inr ⟨by rfl, rfl⟩) ?_
    (try simp only [List.getElem_toArray, List.getElem_cons_zero, List.getElem_cons_succ, Act.put, List.setIfInBounds_toArray, List.set_cons_zero, List.set_cons_succ])
    refine wpAny_take (i := 9) (v := undef) rfl (by kernel_rfl) (by kernel_rfl) (by kernel_rfl) (fun _ _ _ h => h) (Or.inr ⟨by rfl, rfl⟩) ?_
    (try simp only [List.getElem_toArray, List.getElem_cons_zero, List.getElem_cons_succ, Act.put, List.setIfInBounds_toArray, List.set_cons_zero, List.set_cons_succ])
    refine wpAny_take (i := 10) (v := undef) rfl (by kernel_rfl) (by kernel_rfl) (by kernel_rfl) (fun _ _ _ h => h) (Or.inr ⟨by rfl, rfl⟩) ?_
    (try simp only [List.getElem_toArray, List.getElem_cons_zero, List.getElem_cons_succ, Act.put, List.setIfInBounds_toArray, List.set_cons_zero, List.set_cons_succ])
    refine wpAny_take (i := 11) (v := undef) rfl (by kernel_rfl) (by kernel_rfl) (by kernel_rfl) (fun _ _ _ h => h) (Or.inr ⟨by rfl, rfl⟩) ?_
    (try simp only [List.getElem_toArray, List.getElem_cons_zero, List.getElem_cons_succ, Act.put, List.setIfInBounds_toArray, List.set_cons_zero, List.set_cons_succ])
    refine wpAny_take (i := 12) (v := undef) rfl (by kernel_rfl) (by kernel_rfl) (by kernel_rfl) (fun _ _ _ h => h) (Or.inr ⟨by rfl, rfl⟩) ?_
    (try simp only [List.getElem_toArray, List.getElem_cons_zero, List.getElem_cons_succ, Act.put, List.setIfInBounds_toArray, List.set_cons_zero, List.set_cons_succ])
    refine wpAny_take (i := 13) (v := undef) rfl (by kernel_rfl) (by kernel_rfl) (by kernel_rfl) (fun _ _ _ h => h) (Or.inr ⟨by rfl, rfl⟩) ?_
    (try simp only [List.getElem_toArray, List.getElem_cons_zero, List.getElem_cons_succ, Act.put, List.setIfInBounds_toArray, List.set_cons_zero, List.set_cons_succ])
    refine wpAny_take (i := 14) (v := ?v14) rfl (by kernel_rfl) (by kernel_rfl) (by kernel_rfl) (fun _ _ _ h => h) (Or.inl ⟨by rfl, ?h14⟩) ?r14
    case h14 => intro w; go_simp; with_reducible rfl
    (try simp only [List.getElem_toArray, List.getElem_cons_zero, List.getElem_cons_succ, Act.put, List.setIfInBounds_toArray, List.set_cons_zero, List.set_cons_succ])
    refine wpAny_take (i := 15) (v := ?v15) rfl (by kernel_rfl) (by kernel_rfl) (by kernel_rfl) (fun _ _ _ h => h) (Or.inl ⟨by rfl, ?h15⟩) ?r15
    case h15 => intro w; go_simp; with_reducible rfl
    (try simp only [List.getElem_toArray, List.getElem_cons_zero, List.getElem_cons_succ, Act.put, List.setIfInBounds_toArray, List.set_cons_zero, List.set_cons_succ])
    refine wpAny_ready (rs := [16]) (by kernel_rfl) (by simp) ?_
    refine AllReady.cons rfl (fun K hK => ?_) AllReady.nil
    go_simp
    go_at_call 9
    refine (awake7 _).mono ?_
    rintro e w9 ⟨rfl, b9⟩
    have HB9 := Lib.hid (below_trans HA8.out.below b9)
    clear b9 HA8
    refine hK _ _ ?_
    clear hK K
    refine wpAny_take (i := 17) (v := ?v17) rfl (by kernel_rfl) (by kernel_rfl) (by kernel_rfl) (fun _ _ _ h => h) (Or.inl ⟨by rfl, ?h17⟩) ?r17
    case h17 => intro w; go_simp; with_reducible rfl
    (try simp only [List.getElem_toArray, List.getElem_cons_zero, List.getElem_cons_succ, Act.put, List.setIfInBounds_toArray, List.set_cons_zero, List.set_cons_succ])
    refine wpAny_take (i := 18) (v := ?v18) rfl (by kernel_rfl) (by kernel_rfl) (by kernel_rfl) (fun _ _ _ h => h) (Or.inl ⟨by rfl, ?h18⟩) ?r18
    case h18 => intro w; go_simp; with_reducible rfl
    (try simp only [List.getElem_toArray, List.getElem_cons_zero, List.getElem_cons_succ, Act.put, List.setIfInBounds_toArray, List.set_cons_zero, List.set_cons_succ])
    refine wpAny_done (by kernel_rfl) ?_ _
    go_wp2
    go_ret
    exact ⟨rfl, HB9.out⟩
  · cases t
    · rw [errOf_true, errOf_false]
      clear HBY
      go_wp2
      refine wp_region_any (by kernel_rfl) ?_
      change wpAny _ _ _ _ _ _ _ (World.drew _)
      refine wpAny_take (i := 0) (v := ?vb0) rfl (by kernel_rfl) (by kernel_rfl) (by kernel_rfl) (fun _ _ _ h => h) (Or.inl ⟨by rfl, ?hb0⟩) ?rb0
      case hb0 => intro w; go_simp; with_reducible rfl
      (try simp only [List.getElem_toArray, List.getElem_cons_zero, Act.put, List.setIfInBounds_toArray, List.set_cons_zero, List.set_cons_succ])
      refine wpAny_take (i := 1) (v := ?vb1) rfl (by kernel_rfl) (by kernel_rfl) (by kernel_rfl) (fun _ _ _ h => h) (Or.inl ⟨by rfl, ?hb1⟩) ?rb1
      case hb1 => intro w; go_simp; with_reducible rfl
      (try simp only [List.getElem_toArray, List.getElem_cons_zero, List.getElem_cons_succ, Act.put, List.setIfInBounds_toArray, List.set_cons_zero, List.set_cons_succ])
      refine wpAny_take (i := 2) (v := ?vb2) rfl (by kernel_rfl) (by kernel_rfl) (by kernel_rfl) (fun _ _ _ h => h) (Or.inl ⟨by rfl, ?hb2⟩) ?rb2
      case hb2 => intro w; go_simp; with_reducible rfl
      (try simp only [List.getElem_toArray, List.getElem_cons_zero, List.getElem_cons_succ, Act.put, List.setIfInBounds_toArray, List.set_cons_zero, List.set_cons_succ])
      refine wpAny_take (i := 3) (v := ?vb3) rfl (by kernel_rfl) (by kernel_rfl) (by kernel_rfl) (fun _ _ _ h => h) (Or.inl ⟨by rfl, ?hb3⟩) ?rb3
      case hb3 => intro w; go_simp; with_reducible rfl
      (try simp only [List.getElem_toArray, List.getElem_cons_zero, List.getElem_cons_succ, Act.put, List.setIfInBounds_toArray, List.set_cons_zero, List.set_cons_succ])
      refine wpAny_take (i := 4) (v := ?vb4) rfl (by kernel_rfl) (by kernel_rfl) (by kernel_rfl) (fun _ _ _ h => h) (Or.inl ⟨by rfl, ?hb4⟩) ?rb4
      case hb4 => intro w; go_simp; with_reducible rfl
      (try simp only [List.getElem_toArray, List.getElem_cons_zero, List.getElem_cons_succ, Act.put, List.setIfInBounds_toArray, List.set_cons_zero, List.set_cons_succ])
      refine wpAny_take (i := 5) (v := ?vb5) rfl (by kernel_rfl) (by kernel_rfl) (by kernel_rfl) (fun _ _ _ h => h) (Or.inl ⟨by rfl, ?hb5⟩) ?rb5
      case hb5 => intro w; go_simp; with_reducible rfl
      (try simp only [List.getElem_toArray, List.getElem_cons_zero, List.getElem_cons_succ, Act.put, List.setIfInBounds_toArray, List.set_cons_zero, List.set_cons_succ])
      refine wpAny_take (i := 6) (v := ?vb6) rfl (by kernel_rfl) (by kernel_rfl) (by kernel_rfl) (fun _ _ _ h => h) (Or.inl ⟨by rfl, ?hb6⟩) ?rb6
      case hb6 => intro w; go_simp; with_reducible rfl
      (try simp only [List.getElem_toArray, List.getElem_cons_zero, List.getElem_cons_succ, Act.put, List.setIfInBounds_toArray, List.set_cons_zero, List.set_cons_succ])
      refine wpAny_take (i := 7) (v := undef) rfl (by kernel_rfl) (by kernel_rfl) (by kernel_rfl) (fun _ _ _ h => h) (Or.inr ⟨by rfl, rfl⟩) ?_
      (try simp only [List.getElem_toArray, List.getElem_cons_zero, List.getElem_cons_succ, Act.put, List.setIfInBounds_toArray, List.set_cons_zero, List.set_cons_succ])
      refine wpAny_take (i := 8) (v := undef) rfl (by kernel_rfl) (by kernel_rfl) (by kernel_rfl) (fun _ _ _ h => h) (Or.inr ⟨by rfl, rfl⟩) ?_
      (try simp only [List.getElem_toArray, List.getElem_cons_zero, List.getElem_cons_succ, Act.put, List.setIfInBounds_toArray, List.set_cons_zero, List.set_cons_succ])
      refine wpAny_take (i := 9) (v := undef) rfl (by kernel_rfl) (by kernel_rfl) (by kernel_rfl) (fun _ _ _ h => h) (Or.inr ⟨by rfl, rfl⟩) ?_
      (try simp only [List.getElem_toArray, List.getElem_cons_zero, List.getElem_cons_succ, Act.put, List.setIfInBounds_toArray, List.set_cons_zero, List.set_cons_succ])
      refine wpAny_take (i := 10) (v := undef) rfl (by kernel_rfl) (by kernel_rfl) (by kernel_rfl) (fun _ _ _ h => h) (Or.inr ⟨by rfl, rfl⟩) ?_
      (try simp only [List.getElem_toArray, List.getElem_cons_zero, List.getElem_cons_succ, Act.put, List.setIfInBounds_toArray, List.set_cons_zero, List.set_cons_succ])
      refine wpAny_take (i := 11) (v := undef) rfl (by kernel_rfl) (by kernel_rfl) (by kernel_rfl) (fun _ _ _ h => h) (Or.inr ⟨by rfl, rfl⟩) ?_
      (try simp only [List.getElem_toArray, List.getElem_cons_zero, List.getElem_cons_succ, Act.put, List.setIfInBounds_toArray, List.set_cons_zero, List.set_cons_succ])
      refine wpAny_take (i := 12) (v := undef) rfl (by kernel_rfl) (by kernel_rfl) (by kernel_rfl) (fun _ _ _ h => h) (Or.inr ⟨by rfl, rfl⟩) ?_
      (try simp only [List.getElem_toArray, List.getElem_cons_zero, List.getElem_cons_succ, Act.put, List.setIfInBounds_toArray, List.set_cons_zero, List.set_cons_succ])
      refine wpAny_take (i := 13) (v := undef) rfl (by kernel_rfl) (by kernel_rfl) (by kernel_rfl) (fun _ _ _ h => h) (Or.inr ⟨by rfl, rfl⟩) ?_
      (try simp only [List.getElem_toArray, List.getElem_cons_zero, List.getElem_cons_succ, Act.put, List.setIfInBounds_toArray, List.set_cons_zero, List.set_cons_succ])
      refine wpAny_take (i := 14) (v := ?vb14) rfl (by kernel_rfl) (by kernel_rfl) (by kernel_rfl) (fun _ _ _ h => h) (Or.inl ⟨by rfl, ?hb14⟩) ?rb14
      case hb14 => intro w; go_simp; with_reducible rfl
      (try simp only [List.getElem_toArray, List.getElem_cons_zero, List.getElem_cons_succ, Act.put, List.setIfInBounds_toArray, List.set_cons_zero, List.set_cons_succ])
      refine wpAny_take (i := 15) (v := ?vb15) rfl (by kernel_rfl) (by kernel_rfl) (by kernel_rfl) (fun _ _ _ h => h) (Or.inl ⟨by rfl, ?hb15⟩) ?rb15
      case hb15 => intro w; go_simp; with_reducible rfl
      (try simp only [List.getElem_toArray, List.getElem_cons_zero, List.getElem_cons_succ, Act.put, List.setIfInBounds_toArray, List.set_cons_zero, List.set_cons_succ])
      refine wpAny_ready (rs := [16]) (by kernel_rfl) (by simp) ?_
      refine AllReady.cons rfl (fun K hK => ?_) AllReady.nil
      go_simp
      go_at_call 9
      refine (awake7 _).mono ?_
      rintro e w9 ⟨rfl, b9⟩
      have HB9 := Lib.hid (below_trans HA8.out.below b9)
      clear b9 HA8
      refine hK _ _ ?_
      clear hK K
      refine wpAny_take (i := 17) (v := ?vb17) rfl (by kernel_rfl) (by kernel_rfl) (by kernel_rfl) (fun _ _ _ h => h) (Or.inl ⟨by rfl, ?hb17⟩) ?rb17
      case hb17 => intro w; go_simp; with_reducible rfl
      (try simp only [List.getElem_toArray, List.getElem_cons_zero, List.getElem_cons_succ, Act.put, List.setIfInBounds_toArray, List.set_cons_zero, List.set_cons_succ])
      refine wpAny_take (i := 18) (v := ?vb18) rfl (by kernel_rfl) (by kernel_rfl) (by kernel_rfl) (fun _ _ _ h => h) (Or.inl ⟨by rfl, ?hb18⟩) ?rb18
      case hb18 => intro w; go_simp; with_reducible rfl
      (try simp only [List.getElem_toArray, List.getElem_cons_zero, List.getElem_cons_succ, Act.put, List.setIfInBounds_toArray, List.set_cons_zero, List.set_cons_succ])
      refine wpAny_done (by kernel_rfl) ?_ _
      go_wp2
      go_ret
      exact ⟨rfl, HB9.out⟩
    · rw [errOf_true]
      rw [HSM.out rfl rfl] at HBY
      go_wp2
      go_region_held3 (fun x => (x.cell? ⟨w.heap.size, 0, none⟩ = some (.int .i64 a.1) ∧ x.cell? ⟨w.heap.size, 1, none⟩ = some (.string ⟨a.2.1.toArray⟩) ∧ x.cell? ⟨w.heap.size, 2, none⟩ = some (.int .i64 a.2.2.1) ∧ x.cell? ⟨w.heap.size, 3, none⟩ = some (.slice aa a.2.2.2.length ca)) ∧ x.cell? ⟨w.heap.size + 1, 0, none⟩ = some (.int .i64 b.1) ∧ x.cell? ⟨w.heap.size + 1, 1, none⟩ = some (.string ⟨b.2.1.toArray⟩) ∧ x.cell? ⟨w.heap.size + 1, 2, none⟩ = some (.int .i64 b.2.2.1) ∧ x.cell? ⟨w.heap.size + 1, 3, none⟩ = some (.slice ab b.2.2.2.length cb)) (first | exact HA8.out.eight | exact HA9.out.eight | exact HA10.out.eight) (first
        | (go_at_call 17; refine HBY.out.mono ?_; rintro e w88 ⟨rfl, hw88⟩; subst hw88)
        | (go_at_call 19; refine (HS2.out _ HA8.out).mono ?_; rintro e w9 ⟨rfl, b9⟩; have HA9 := Lib.hid (HA8.out.later b9); clear b9)
        | (go_at_call 9; refine (awake7 _).mono ?_; rintro e w10 ⟨rfl, b10⟩; have HA10 := Lib.hid (HA9.out.later b10); clear b10))
      have HB10 := Lib.hid HA10.out.below
      clear HA8 HA9 HA10
      go_wp2
      go_ret
      exact ⟨rfl, HB10.out⟩
end Go.Proofs.Ythbmmnjpiflgdaa
