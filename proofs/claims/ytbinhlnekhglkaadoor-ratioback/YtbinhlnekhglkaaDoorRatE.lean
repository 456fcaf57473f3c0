/- The walks of the document's own Read, and of turncocklaw5's RatioParse. -/
import Derived.Test.YtbinhlnekhglkaaDoorRatD
import Derived.Test.YtbinhlnekhglkaaDoorRatL1
namespace Go.Proofs.YtbinhlnekhglkaaDoor
open Go.RowKit

theorem psz_nil : TX.psz [] = none := psz_a rfl
set_option maxHeartbeats 1000000 in
theorem read_nil (w : World) :
    Calls Tryd.prog 31 #[.string ⟨([] : List UInt8).toArray⟩] w fun e w' => e = .returned (.tuple #[.float .f64 0, .bool false]) ∧ w = w' := by
  go_enter Tryd.func31, Tryd.ntmps31
  go_wp2
  go_loop [4, 5] (fun v u => v = .int .i64 0 ∧ u = .int .i64 0) (fun _ _ => 0)
  case atStart => exact ⟨rfl, rfl⟩
  case round =>
    obtain ⟨rfl, rfl⟩ := hrel
    go_wp2
    go_ret2
    exact ⟨rfl, rfl⟩
theorem k_nan1 : parF [110, 97, 110] = 9221120237041090561 := rfl
theorem k_nan2 : parOk [110, 97, 110] = true := rfl
theorem k_inf1 : parF [105, 110, 102] = 9218868437227405312 := rfl
theorem k_inf2 : parOk [105, 110, 102] = true := rfl
theorem k_ninf1 : parF [45, 105, 110, 102] = 18442240474082181120 := rfl
theorem k_ninf2 : parOk [45, 105, 110, 102] = true := rfl
set_option maxRecDepth 10000 in
set_option maxHeartbeats 2000000 in
theorem read_any (l : List UInt8) (hl : l.length ≤ maxLen) (w : World) :
    Calls Tryd.prog 31 #[.string ⟨l.toArray⟩] w fun e w' => e = .returned (.tuple #[.float .f64 (parF l), .bool (parOk l)]) ∧ w = w' := by
  by_cases n1 : l = [110, 97, 110]
  · subst n1
    clear hl
    go_enter Tryd.func31, Tryd.ntmps31
    go_wp2_with (go_at_call 27; refine (mnan_any _).mono ?_; rintro e w' ⟨rfl, rfl⟩)
    go_ret2
    exact ret_fb (P := w = w) k_nan1.symm k_nan2.symm rfl
  · by_cases n2 : l = [105, 110, 102]
    · subst n2
      clear hl n1
      go_enter Tryd.func31, Tryd.ntmps31
      go_wp2_with (go_at_call 39; refine (minf_any _ _).mono ?_; rintro e w' ⟨rfl, rfl⟩)
      go_ret2
      exact ret_fb (P := w = w) k_inf1.symm k_inf2.symm rfl
    · by_cases n3 : l = [45, 105, 110, 102]
      · subst n3
        clear hl n1 n2
        go_enter Tryd.func31, Tryd.ntmps31
        go_wp2_with (go_at_call 39; refine (minf_any _ _).mono ?_; rintro e w' ⟨rfl, rfl⟩)
        go_ret2
        exact ret_fb (P := w = w) k_ninf1.symm k_ninf2.symm rfl
      · have m1 := str_neq n1; have m2 := str_neq n2; have m3 := str_neq n3
        by_cases hm : ∃ t, l = 45 :: t
        · obtain ⟨t, ht⟩ := hm
          obtain ⟨p1, p2⟩ : parF l = (if pOk t then Ieee.double.word true (pF t) else 0) ∧ parOk l = pOk t := by
            have := par_minus (t := t) (by rw [← ht]; exact n3)
            rw [← ht] at this; exact this
          refine read_core1 l t m1 m2 m3 n1 n2 n3 ht hl ?_ ?_ ?_ w
          · have h0 : 0 < (⟨l.toArray⟩ : ByteArray).size := by rw [str_size, ht]; simp
            refine ⟨h0, ?_⟩
            have e : ((⟨l.toArray⟩ : ByteArray)[0]'h0) = 45 := at_l (pre := []) (t := l) rfl (j := 0) (c := 45) (by rw [ht]; rfl) rfl h0
            rw [e]; rfl
          · intro h
            have h1 : pOk t = false := by unfold pOk; rw [h]; rfl
            rw [p1, p2, h1]; exact ⟨rfl, rfl⟩
          · intro N K h
            have h1 : pOk t = true := by unfold pOk; rw [h]; rfl
            have h2 : pF t = TX.qw N K := by unfold pF; rw [h]
            rw [p1, p2, h1, h2]; exact ⟨rfl, rfl⟩
        · have hm' : ∀ t, l ≠ 45 :: t := fun t e => hm ⟨t, e⟩
          obtain ⟨p1, p2⟩ := par_plain n1 n2 hm'
          by_cases hnil : l = []
          · rw [hnil] at p1 p2 ⊢
            refine (read_nil w).mono ?_
            rintro e w' ⟨rfl, rfl⟩
            have h1 : pOk [] = false := by unfold pOk; rw [psz_nil]; rfl
            rw [p1, p2, pF_zero h1, h1]
            exact ⟨rfl, rfl⟩
          · obtain ⟨c0, l0, hL⟩ := List.exists_cons_of_ne_nil hnil
            refine read_core0 l l m1 m2 m3 n1 n2 n3 rfl hl ?_ ?_ ?_ w
            · have h0 : 0 < (⟨l.toArray⟩ : ByteArray).size := by rw [str_size, hL]; simp
              refine ⟨h0, ?_⟩
              have e : ((⟨l.toArray⟩ : ByteArray)[0]'h0) = c0 := at_l (pre := []) (t := l) rfl (j := 0) (c := c0) (by rw [hL]; rfl) rfl h0
              rw [e]
              have hc : c0 ≠ 45 := fun e => hm' l0 (by rw [hL, e])
              exact (byte_eq c0 45).trans (by simpa using hc)
            · intro h
              have h1 : pOk l = false := by unfold pOk; rw [h]; rfl
              rw [p1, p2, pF_zero h1, h1]; exact ⟨rfl, rfl⟩
            · intro N K h
              have h1 : pOk l = true := by unfold pOk; rw [h]; rfl
              have h2 : pF l = TX.qw N K := by unfold pF; rw [h]
              rw [p1, p2, h1, h2]; exact ⟨rfl, rfl⟩

theorem parF_lt (l : List UInt8) : parF l < 18446744073709551616 := by
  by_cases n1 : l = [110, 97, 110]
  · subst n1; decide
  · by_cases n2 : l = [105, 110, 102]
    · subst n2; decide
    · by_cases n3 : l = [45, 105, 110, 102]
      · subst n3; decide
      · have hb := FM.infR_lt
        by_cases hm : ∃ t, l = 45 :: t
        · obtain ⟨t, rfl⟩ := hm
          rw [(par_minus n3).1]
          have := pF_lt t
          split
          · exact word_lt64 _ (by omega)
          · omega
        · rw [(par_plain n1 n2 (fun t e => hm ⟨t, e⟩)).1]
          have := pF_lt l
          omega
theorem par_zero {l : List UInt8} (h : parOk l = false) : parF l = 0 := by
  unfold parOk at h
  unfold parF
  cases hp : TX.parse l with
  | none => rfl
  | some p => rw [hp] at h; cases h
theorem list_str (s : ByteArray) : s = ⟨s.data.toList.toArray⟩ := (Lib.mk_data s).symm
set_option maxHeartbeats 2000000 in
theorem ratioParse_walk (s : ByteArray) (w : World) (hs : s.size ≤ maxLen) (ht : PowIs w) :
    Calls Tryd.prog 9 #[.string s] w fun e w' => e = .returned (.bool true) ∧ Below w.heap.size w w' := by
  have HT := Lib.hid ht
  clear ht
  have hl : s.data.toList.length ≤ maxLen := by rw [← Lib.size_eq]; exact hs
  obtain ⟨l, hL⟩ : ∃ l, l = s.data.toList := ⟨_, rfl⟩
  have hs2 := list_str s
  rw [← hL] at hl hs2
  rw [hs2]
  clear hs hs2 hL
  have P1 := Lib.hid (fun w => parse_any l hl w); have P2 := Lib.hid (fun w => read_any l hl w)
  have HAL := fun w => alike_any (parF l) (parF l) (parF_lt l) (parF_lt l) w
  rw [ordI_self] at HAL
  have HAL := Lib.hid HAL
  cases ho : parOk l
  · have hz := par_zero ho
    rw [hz, ho] at P1 P2
    clear hz HAL
    go_enter Tryd.func9, Tryd.ntmps9
    go_wp2_with fail
    refine (P1.out _).mono ?_
    rintro e w1 ⟨rfl, b1⟩
    have B1 := Lib.hid b1
    have T1 := Lib.hid (HT.out.below b1)
    clear b1
    go_wp2_with fail
    refine (P2.out _).mono ?_
    rintro e w' ⟨rfl, rfl⟩
    go_wp2_with fail
    refine (awake5 _ T1.out).mono ?_
    rintro e w3 ⟨rfl, b3⟩
    have B3 := Lib.hid (below_trans B1.out b3)
    clear b3
    go_wp2
    go_ret
    exact ⟨rfl, B3.out⟩
  · rw [ho] at P1 P2
    obtain ⟨F, hF⟩ : ∃ F, F = parF l := ⟨_, rfl⟩
    rw [← hF] at P1 P2 HAL
    clear hF
    go_enter Tryd.func9, Tryd.ntmps9
    go_wp2_with fail
    refine (P1.out _).mono ?_
    rintro e w1 ⟨rfl, b1⟩
    have B1 := Lib.hid b1
    have T1 := Lib.hid (HT.out.below b1)
    clear b1
    go_wp2_with fail
    refine (P2.out _).mono ?_
    rintro e w' ⟨rfl, rfl⟩
    go_wp2_with fail
    refine (HAL.out _).mono ?_
    rintro e w' ⟨rfl, rfl⟩
    go_wp2_with fail
    refine (awake5 _ T1.out).mono ?_
    rintro e w3 ⟨rfl, b3⟩
    have B3 := Lib.hid (below_trans B1.out b3)
    clear b3
    go_wp2
    go_ret
    exact ⟨rfl, B3.out⟩
end Go.Proofs.YtbinhlnekhglkaaDoor
