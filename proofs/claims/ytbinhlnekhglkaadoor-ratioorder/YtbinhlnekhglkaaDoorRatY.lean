/- Walks of package ratio's Text and of the document's own twin. -/
import Derived.Test.YtbinhlnekhglkaaDoorRatX
namespace Go.Proofs.YtbinhlnekhglkaaDoor
open Go.RowKit

theorem text_nam {x : Nat} (h : isNam x = true) : TX.text x = nam x := by
  unfold isNam at h
  unfold TX.text nam
  cases hx : FM.nan x
  · rw [hx] at h
    have : FM.rg x = FM.infR := by simpa using h
    simp [this]
  · rfl
theorem not_nam {x : Nat} (h : isNam x = false) : FM.nan x = false ∧ FM.rg x ≠ FM.infR ∧ FM.rg x < FM.infR := by
  unfold isNam at h
  simp only [Bool.or_eq_false_iff, beq_eq_false_iff_ne] at h
  refine ⟨h.1, h.2, ?_⟩
  have := of_decide_eq_false h.1
  have := h.2
  omega
theorem nan_rg {x : Nat} (h : FM.nan x = false) : FM.nan (FM.rg x) = false := by unfold FM.nan at *; rw [rg_rg]; exact h
theorem sv_rg (x : Nat) : FM.sv (FM.rg x) = (FM.val (FM.rg x) : Int) := by unfold FM.sv; rw [sgn_rg, rg_rg]; rfl
theorem nan_big : FM.nan 4845873199050653696 = false := by decide
theorem sv_big : FM.sv 4845873199050653696 = (FM.val 4845873199050653696 : Int) := rfl
/-- How a size stands to another. -/
theorem size3 {x c : Nat} (hx : FM.nan x = false) (hc : FM.nan c = false) (hs : FM.sv c = (FM.val c : Int)) :
    (FloatKind.f64.format.order (FM.rg x) c = some .lt ∧ FM.rg x < c) ∨ (FloatKind.f64.format.order (FM.rg x) c = some .gt ∧ c ≤ FM.rg x) ∨ (FloatKind.f64.format.order (FM.rg x) c = some .eq ∧ c ≤ FM.rg x) := by
  rcases ord3 (nan_rg hx) hc with ⟨h1, h2⟩ | ⟨h1, h2⟩ | ⟨h1, h2⟩
  · rw [sv_rg, hs] at h2
    exact .inl ⟨h1, FM.val_lt_iff.1 (by omega)⟩
  · rw [sv_rg, hs] at h2
    exact .inr (.inl ⟨h1, FM.val_le_iff.1 (by omega)⟩)
  · rw [sv_rg, hs] at h2
    exact .inr (.inr ⟨h1, FM.val_le_iff.1 (by omega)⟩)
theorem flW_any (r : Nat) (hr : FM.nan r = false) (w : World) :
    Calls Tryd.prog 41 #[.float .f64 r] w fun e w' => e = .returned (.float .f64 (TX.flW r)) ∧ w = w' := mfloor_any r hr w
theorem conv_int {r : Nat} (h : r < FM.infR) (hb : FM.val r / FM.U ≤ 9223372036854775807) (w : World) : (convert 22 3 (.float .f64 r)).run Tryd.prog w = .ok (.int .i64 ((FM.val r / FM.U : Nat) : Int)) w :=
  run_convert_float_int w _ _ .f64 .i64 r _ (by kernel_rfl) (by kernel_rfl) (FM.toInt_num h hb)
theorem mns_len (x : Nat) : (TX.mns x).length ≤ 1 := by unfold TX.mns; split <;> simp
theorem pnt_len {a b k : Nat} (ha : a ≤ 9223372036854775807) (hb : b ≤ 9223372036854775807) (hk : k ≤ 6) : (TX.pnt a b k).length ≤ 50 := by
  have := dig_le ha; have := dig_le hb
  unfold TX.pnt TX.pad
  split
  · omega
  · simp; omega

set_option maxHeartbeats 1000000 in
theorem text_any (x : Nat) (bx : x < 18446744073709551616) (w : World) (ht : PowIs w) :
    Calls Tryd.prog 28 #[.float .f64 x] w fun e w' => e = .returned (.string ⟨(TX.text x).toArray⟩) ∧ Below w.heap.size w w' := by
  have BX := Lib.hid bx; have HT := Lib.hid ht
  clear bx ht
  cases hn : isNam x
  · obtain ⟨h1, h2, h3⟩ := not_nam hn
    have hm := mns_len x
    have hsm := str_size (TX.mns x)
    have hmin := Lib.hid (fun w => minus_any x BX.out w)
    rcases size3 h1 nan_big sv_big with ⟨ho, hr⟩ | ⟨ho, hr⟩ | ⟨ho, hr⟩
    · have E : TX.text x = TX.mns x ++ TX.pnt (FM.val (FM.rg x) / FM.U) (FM.val (TX.txP (FM.rg x)) / FM.U) 3 := by
        unfold TX.text; rw [h1, if_neg h2, if_neg (show ¬ 4845873199050653696 ≤ FM.rg x by omega)]; rfl
      obtain ⟨L, m1, m2, m3, m4, m5, m6, m7⟩ := TX.text_math hr
      have hfl := Lib.hid (fun w => flW_any (FM.rg x) (nan_rg h1) w)
      have hsub : ∀ w t, (binOp .sub t (.float .f64 (FM.rg x)) (.float .f64 (TX.flW (FM.rg x)))).run Tryd.prog w = .ok (.float .f64 L) w := fun w t => run_float_arith w .sub t .f64 _ _ L m4
      have hmul : ∀ w t, (binOp .mul t (.float .f64 L) (.float .f64 4652007308841189376)).run Tryd.prog w = .ok (.float .f64 (TX.txP (FM.rg x))) w := fun w t => run_float_arith w .mul t .f64 _ _ _ m5
      have ew : FM.val (TX.flW (FM.rg x)) / FM.U = FM.val (FM.rg x) / FM.U := by rw [m2, Nat.mul_div_cancel _ FM.U_pos]
      have c1 := fun w => conv_int (r := TX.flW (FM.rg x)) m1 (by rw [ew]; omega) w
      rw [ew] at c1
      have c2 := fun w => conv_int (r := TX.txP (FM.rg x)) m6 (by omega) w
      obtain ⟨W, hW⟩ : ∃ W, W = FM.val (FM.rg x) / FM.U := ⟨_, rfl⟩
      obtain ⟨Q, hQ⟩ : ∃ Q, Q = FM.val (TX.txP (FM.rg x)) / FM.U := ⟨_, rfl⟩
      rw [← hW] at c1 m3 E
      rw [← hQ] at c2 m7 E
      have HPT := Lib.hid (fun w ht => pointed_any W Q 3 (by omega) (by omega) (by decide) (.inr (TX.nDigits_lt (k := 3) (by omega) (by decide))) w ht)
      have hpl := pnt_len (a := W) (b := Q) (k := 3) (by omega) (by omega) (by decide)
      clear m1 m2 m3 m4 m5 m6 m7 ew hW hQ h1 h2 h3 hr
      obtain ⟨S, hS⟩ : ∃ S, S = TX.pnt W Q 3 := ⟨_, rfl⟩
      rw [← hS] at HPT hpl E
      have E' := Lib.hid E
      clear hS E
      have hsS := str_size S
      go_enter Tryd.func28, Tryd.ntmps28
      go_wp2_with (first | (go_at_call 42; refine (named_any _ BX.out _).mono ?_; rintro e w' ⟨rfl, rfl⟩) | (go_at_call 36; refine (abs_any _ BX.out _).mono ?_; rintro e w' ⟨rfl, rfl⟩) | (go_at_call 41; refine (hfl.out _).mono ?_; rintro e w' ⟨rfl, rfl⟩) | (go_at_call 43; refine (hmin.out _).mono ?_; rintro e w' ⟨rfl, rfl⟩))
      refine (HPT.out _ HT.out).mono ?_
      rintro e w1 ⟨rfl, b1⟩
      have B1 := Lib.hid b1
      clear b1
      go_wp2
      go_ret
      refine ⟨?_, B1.out⟩
      rw [E'.out, ← str_app]; rfl
    all_goals
      have E := Lib.hid (show TX.text x = TX.mns x ++ [98, 105, 103] by unfold TX.text; rw [h1, if_neg h2, if_pos hr]; rfl)
      clear h1 h2 h3 hr
      go_enter Tryd.func28, Tryd.ntmps28
      go_wp2_with (first | (go_at_call 42; refine (named_any _ BX.out _).mono ?_; rintro e w' ⟨rfl, rfl⟩) | (go_at_call 36; refine (abs_any _ BX.out _).mono ?_; rintro e w' ⟨rfl, rfl⟩) | (go_at_call 43; refine (hmin.out _).mono ?_; rintro e w' ⟨rfl, rfl⟩))
      go_ret
      refine ⟨?_, Below.refl _ _⟩
      rw [E.out, ← str_app]; rfl
  · have E := Lib.hid (text_nam hn)
    go_enter Tryd.func28, Tryd.ntmps28
    go_wp2_with (go_at_call 42; refine (named_any _ BX.out _).mono ?_; rintro e w' ⟨rfl, rfl⟩)
    go_ret
    exact ret_s E.out.symm (Below.refl _ _)

theorem str_pnt (A D B : List UInt8) : (⟨A.toArray⟩ : ByteArray) ++ ⟨D.toArray⟩ ++ ⟨#[46]⟩ ++ ⟨B.toArray⟩ = ⟨(A ++ (D ++ 46 :: B)).toArray⟩ := by
  have e : (⟨#[46]⟩ : ByteArray) = ⟨[46].toArray⟩ := rfl
  rw [e, str_app, str_app, str_app]; simp
set_option maxHeartbeats 1000000 in
theorem shown_any (x : Nat) (bx : x < 18446744073709551616) (w : World) :
    Calls Tryd.prog 29 #[.float .f64 x] w fun e w' => e = .returned (.string ⟨(TX.text x).toArray⟩) ∧ Below w.heap.size w w' := by
  have BX := Lib.hid bx
  clear bx
  cases hx : FM.nan x
  · obtain ⟨s, hs, hm⟩ : ∃ s : List UInt8, TX.mns x = s ∧ (if FM.sgn x then [45] else []) = s := ⟨_, rfl, rfl⟩
    by_cases hi : FM.rg x = FM.infR
    · have E := Lib.hid (show TX.text x = s ++ [105, 110, 102] by unfold TX.text; rw [hx, if_pos hi, hs]; rfl)
      have q0 : isInf x 0 = true := by unfold isInf; rw [hi]; simp
      clear hi hs
      cases hg : FM.sgn x
      all_goals
        rw [hg] at hm
        first | (obtain rfl : [45] = s := hm) | (obtain rfl : [] = s := hm)
        go_enter Tryd.func29, Tryd.ntmps29
        go_wp2_with (first | (go_at_call 16; refine (isnan_any _ _).mono ?_; rintro e w' ⟨rfl, rfl⟩) | (go_at_call 18; refine (isinf_any _ _ BX.out _).mono ?_; rintro e w' ⟨rfl, rfl⟩) | (go_at_call 19; refine (signbit_any _ BX.out _).mono ?_; rintro e w' ⟨rfl, rfl⟩))
        go_ret
        refine ⟨?_, Below.refl _ _⟩
        rw [E.out, ← str_app]; rfl
    · have hb : (FM.rg x == FM.infR) = false := by simpa using hi
      have q0 : isInf x 0 = false := by unfold isInf; rw [hb]; rfl
      rcases size3 hx nan_big sv_big with ⟨ho, hr⟩ | ⟨ho, hr⟩ | ⟨ho, hr⟩
      · have E : TX.text x = s ++ (Lib.decDigits (FM.val (FM.rg x) / FM.U) ++ 46 :: TX.pad (FM.val (TX.txP (FM.rg x)) / FM.U) 3) := by
          unfold TX.text; rw [hx, if_neg hi, if_neg (show ¬ 4845873199050653696 ≤ FM.rg x by omega), hs]; rfl
        obtain ⟨L, m1, m2, m3, m4, m5, m6, m7⟩ := TX.text_math hr
        have hfl := Lib.hid (fun w => flW_any (FM.rg x) (nan_rg hx) w)
        have hsub : ∀ w t, (binOp .sub t (.float .f64 (FM.rg x)) (.float .f64 (TX.flW (FM.rg x)))).run Tryd.prog w = .ok (.float .f64 L) w := fun w t => run_float_arith w .sub t .f64 _ _ L m4
        have hmul : ∀ w t, (binOp .mul t (.float .f64 L) (.float .f64 4652007308841189376)).run Tryd.prog w = .ok (.float .f64 (TX.txP (FM.rg x))) w := fun w t => run_float_arith w .mul t .f64 _ _ _ m5
        have ew : FM.val (TX.flW (FM.rg x)) / FM.U = FM.val (FM.rg x) / FM.U := by rw [m2, Nat.mul_div_cancel _ FM.U_pos]
        have c1 := fun w => conv_int (r := TX.flW (FM.rg x)) m1 (by rw [ew]; omega) w
        rw [ew] at c1
        obtain ⟨F, f1, f2, f3⟩ := FM.floor_num m6 (by omega)
        have hF : TX.flW (TX.txP (FM.rg x)) = F := f1
        have hnP : FM.nan (TX.txP (FM.rg x)) = false := by
          have := FM.infR_lt
          unfold FM.nan FM.rg at *; rw [decide_eq_false_iff_not]; omega
        have hfl2 := fun w => flW_any (TX.txP (FM.rg x)) hnP w
        rw [hF] at hfl2
        have HF2 := Lib.hid hfl2
        have ew2 : FM.val F / FM.U = FM.val (TX.txP (FM.rg x)) / FM.U := by rw [f3, Nat.mul_div_cancel _ FM.U_pos]
        have c2 := fun w => conv_int (r := F) f2 (by rw [ew2]; omega) w
        rw [ew2] at c2
        obtain ⟨P, hP⟩ : ∃ P, P = TX.txP (FM.rg x) := ⟨_, rfl⟩
        rw [← hP] at hmul HF2 c2 m7 E
        obtain ⟨W, hW⟩ : ∃ W, W = FM.val (FM.rg x) / FM.U := ⟨_, rfl⟩
        obtain ⟨Q, hQ⟩ : ∃ Q, Q = FM.val P / FM.U := ⟨_, rfl⟩
        rw [← hW] at c1 m3 E
        rw [← hQ] at c2 m7 E
        have hmn : min (Q : Int) 999 = (Q : Int) := by omega
        have HDG := Lib.hid (fun w => rdig_any W (by omega) w)
        have HFL := Lib.hid (fun w => rfilled_any Q 3 (by omega) (by decide) w)
        have hd1 := dig_le (n := W) (by omega)
        have hd2 : (TX.pad Q 3).length = 3 := TX.pad_length (TX.nDigits_lt (k := 3) (by omega) (by decide))
        clear m1 m2 m3 m4 m5 m6 m7 ew hW hQ hi hb hr f1 f2 f3 hF hnP hfl2 ew2 hs hP
        obtain ⟨D, hD⟩ : ∃ D, D = Lib.decDigits W := ⟨_, rfl⟩
        rw [← hD] at HDG hd1 E
        obtain ⟨B, hB⟩ : ∃ B, B = TX.pad Q 3 := ⟨_, rfl⟩
        rw [← hB] at HFL hd2 E
        clear hD hB
        have E' := Lib.hid E
        clear E
        have HAB := Lib.hid (fun w => abs_any x BX.out w)
        obtain ⟨r, hr⟩ : ∃ r, r = FM.rg x := ⟨_, rfl⟩
        rw [← hr] at HAB hfl hsub c1 ho
        obtain ⟨F0, hF0⟩ : ∃ F0, F0 = TX.flW r := ⟨_, rfl⟩
        rw [← hF0] at hfl hsub c1
        clear hr hF0
        have hsD := str_size D; have hsB := str_size B
        cases hg : FM.sgn x
        all_goals
          rw [hg] at hm
          first | (obtain rfl : [45] = s := hm) | (obtain rfl : [] = s := hm)
          go_enter Tryd.func29, Tryd.ntmps29
          go_wp2_with (first | (go_at_call 16; refine (isnan_any _ _).mono ?_; rintro e w' ⟨rfl, rfl⟩) | (go_at_call 18; refine (isinf_any _ _ BX.out _).mono ?_; rintro e w' ⟨rfl, rfl⟩) | (go_at_call 19; refine (signbit_any _ BX.out _).mono ?_; rintro e w' ⟨rfl, rfl⟩) | (go_at_call 36; refine (HAB.out _).mono ?_; rintro e w' ⟨rfl, rfl⟩))
          refine (hfl.out _).mono ?_
          rintro e w' ⟨rfl, rfl⟩
          go_wp2_with fail
          refine (HF2.out _).mono ?_
          rintro e w' ⟨rfl, rfl⟩
          go_wp2_with fail
          refine (HDG.out _).mono ?_
          rintro e w1 ⟨rfl, b1⟩
          have B1 := Lib.hid b1
          clear b1
          go_wp2_with fail
          refine (HFL.out _).mono ?_
          rintro e w2 ⟨rfl, b2⟩
          have B2 := Lib.hid (below_trans B1.out b2)
          clear b2
          go_wp2
          go_ret
          refine ⟨?_, B2.out⟩
          rw [E'.out, ← str_pnt]; rfl
      all_goals
        have E := Lib.hid (show TX.text x = s ++ [98, 105, 103] by unfold TX.text; rw [hx, if_neg hi, if_pos hr, hs]; rfl)
        clear hi hb hr hs
        cases hg : FM.sgn x
        all_goals
          rw [hg] at hm
          first | (obtain rfl : [45] = s := hm) | (obtain rfl : [] = s := hm)
          go_enter Tryd.func29, Tryd.ntmps29
          go_wp2_with (first | (go_at_call 16; refine (isnan_any _ _).mono ?_; rintro e w' ⟨rfl, rfl⟩) | (go_at_call 18; refine (isinf_any _ _ BX.out _).mono ?_; rintro e w' ⟨rfl, rfl⟩) | (go_at_call 19; refine (signbit_any _ BX.out _).mono ?_; rintro e w' ⟨rfl, rfl⟩) | (go_at_call 36; refine (abs_any _ BX.out _).mono ?_; rintro e w' ⟨rfl, rfl⟩))
          go_ret
          refine ⟨?_, Below.refl _ _⟩
          rw [E.out, ← str_app]; rfl
  · have E := Lib.hid (show TX.text x = [110, 97, 110] by unfold TX.text; rw [hx]; rfl)
    go_enter Tryd.func29, Tryd.ntmps29
    go_wp2_with (go_at_call 16; refine (isnan_any _ _).mono ?_; rintro e w' ⟨rfl, rfl⟩)
    go_ret
    exact ret_s E.out.symm (Below.refl _ _)
end Go.Proofs.YtbinhlnekhglkaaDoor
