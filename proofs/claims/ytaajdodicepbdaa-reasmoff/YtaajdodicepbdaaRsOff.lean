/- The law ReasmOff. -/
import Derived.Test.YtaajdodicepbdaaRsAwake
namespace Go.Proofs.Ytaajdodicepbdaa
open Go.RowKit

set_option maxHeartbeats 2000000 in
theorem roff_law (m : Int) (v : Value) (bs : List UInt8) (vl : Value) (l : List (List UInt8)) (w : World) (hr : Rdv w v (bv bs)) (_ : bs.length ≤ 140737488351232) (hl : Rdl w vl l) :
    Calls Try.prog 5 #[.int .i64 m, v, vl] w fun e w' => e = .returned (.bool true) ∧ Below w.heap.size w w' := by
  have HR := Lib.hid hr
  have HL := Lib.hid hl
  obtain ⟨ab, cb, rfl, -⟩ := hr
  obtain ⟨ao, cap, rfl, g1, g2⟩ := hl.slice
  simp only [bv_len] at HR ⊢
  unfold maxLen at g2
  clear hl
  go_enter Try.func5, Try.ntmps5
  by_cases hbig : (3000 : Int) < (bs.length : Int)
  · go_wp2_with (go_at_call 7; refine (awake4_any _).mono ?_; rintro e w4 ⟨rfl, hb4⟩)
    go_ret
    exact ⟨rfl, hb4⟩
  · have hbl : bs.length ≤ 3000 := by omega
    go_wp2_with fail
    refine (weight4_any _ l _ HL.out).mono ?_
    rintro e w' ⟨⟨n, rfl, hn⟩, rfl⟩
    by_cases hbig2 : (3000 : Int) < n
    · clear hn
      go_wp2_with (go_at_call 7; refine (awake4_any _).mono ?_; rintro e w4 ⟨rfl, hb4⟩)
      go_ret
      exact ⟨rfl, hb4⟩
    · have HX := Lib.hid (hn (by omega))
      have hl5 := HX.out.1
      clear hn
      go_wp2_with fail
      refine (new_any m w).mono ?_
      rintro e w1 ⟨rfl, hw⟩
      have R1 : Hid (Rd w1 w.heap.size w.heap.size m (.slice none 0 0) [] false) := by rw [hw]; exact Rd.new w m (Nat.le_refl _)
      have B1 : Hid (Below w.heap.size w w1) := by rw [hw]; exact below_alloc _ _
      clear hw
      have FE := Lib.hid (F.feed_e (F.most m) [] bs)
      obtain ⟨r, hr⟩ : ∃ r, Hid (F.feed (F.most m) [] false bs = r) := ⟨_, rfl⟩
      rw [hr.out] at FE
      obtain ⟨L, E, ws', off'⟩ := r
      simp only at FE
      have F1 := Lib.hid (feed_step R1.out (Below.refl _ _) bs hr.out (by simp; omega) (HR.out.below B1.out))
      clear hr
      unfold Step at F1
      go_wp2_with fail
      refine F1.out.mono ?_
      rintro e w2 ⟨va, v2, rfl, rd2, rows2, b2, -⟩
      have R2 := Lib.hid rd2
      have B2 := Lib.hid (B1.out.trans b2)
      clear rd2 rows2 b2 B1 R1 F1
      rcases FE.out with ⟨h1, h2⟩ | ⟨h1, h2, h3⟩
      · subst h1 h2
        clear FE
        go_wp2_with (first
          | (go_at_call 13; refine (off_any R2.out).mono ?_; rintro e w' ⟨rfl, rfl⟩)
          | (go_at_call 7; refine (awake4_any _).mono ?_; rintro e w4 ⟨rfl, hb4⟩))
        go_ret
        exact ⟨rfl, below_tr B2.out hb4⟩
      · subst h2 h3
        have he0 : ((E : Int) == 0) = false := by simp; omega
        have HE := Lib.hid h1
        clear FE h1
        go_wp2_with fail
        go_loopw [10] (fun i wr => ∃ (n : Nat), i = .int .i64 (n : Int) ∧ n ≤ l.length ∧ Hid (∃ v, Rd wr w.heap.size w.heap.size m v [] true) ∧ Hid (Below w.heap.size w wr)) (fun i _ => l.length - (intOf i).toNat)
        case atStart => exact ⟨0, rfl, by omega, ⟨_, R2.out⟩, B2.out⟩
        case round =>
          obtain ⟨n, rfl, hn, HB, B⟩ := hrel
          clear R2 B2
          obtain ⟨v, hv⟩ := HB.out
          have RV := Lib.hid hv
          clear HB hv
          by_cases hlt : n < l.length
          · obtain ⟨b1, o1, c1, a1, d1, e1, l1, cell1, r1⟩ := HL.out.at hlt
            obtain ⟨rfl, rfl⟩ : ao = some ⟨b1, o1, none⟩ ∧ cap = c1 := by simpa using e1
            clear e1
            have hx5 := HX.out.2 l[n] (List.getElem_mem hlt)
            have F1 := Lib.hid (feed_step RV.out (Below.refl _ _) l[n] (F.feed_off (F.most m) [] l[n]) (by simp; omega) (r1.below B.out))
            clear r1
            obtain ⟨x, hx⟩ : ∃ x, x = l[n] := ⟨_, rfl⟩
            rw [← hx] at F1 hx5 cell1
            clear hx
            unfold Step at F1
            have hlt' : (n : Int) < (l.length : Int) := by omega
            have h0' : (0 : Int) ≤ (n : Int) := by omega
            have hc1 : wr.cell? ⟨b1, o1 + n, none⟩ = some (.slice a1 x.length d1) := (B.out.cell l1).trans cell1
            go_wp2_with (first
              | (go_at_call 9; refine F1.out.mono ?_; rintro e w3 ⟨vd, v3, rfl, rd3, rows3, b3, -⟩; obtain ⟨ad, cd, rfl⟩ := rows_nil rows3; have R3 := Lib.hid rd3; have B3 := Lib.hid (B.out.trans b3); clear rd3 rows3 b3 F1)
              | (go_at_call 13; refine (off_any R3.out).mono ?_; rintro e w' ⟨rfl, rfl⟩)
              | (go_at_call 12; refine (wait_any R3.out).mono ?_; rintro e w' ⟨rfl, rfl⟩))
            go_roundw
            case rel => exact ⟨n + 1, by go_num, by omega, ⟨_, R3.out⟩, B3.out⟩
            case measure => simp [intOf]; omega
          · rcases HE.out with rfl | rfl
            · go_wp2_with (first
                | (go_at_call 13; refine (off_any RV.out).mono ?_; rintro e w' ⟨rfl, rfl⟩)
                | (go_at_call 7; refine (awake4_any _).mono ?_; rintro e w4 ⟨rfl, hb4⟩))
              go_ret
              exact ⟨rfl, below_tr B.out hb4⟩
            · go_wp2_with (first
                | (go_at_call 13; refine (off_any RV.out).mono ?_; rintro e w' ⟨rfl, rfl⟩)
                | (go_at_call 7; refine (awake4_any _).mono ?_; rintro e w4 ⟨rfl, hb4⟩))
              go_ret
              exact ⟨rfl, below_tr B.out hb4⟩
end Go.Proofs.Ytaajdodicepbdaa
