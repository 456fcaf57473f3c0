/- The law 'of frames that are cut off those are told that are whole': the walk. -/
import Derived.Test.YtlilicmnihgbdaaFrLaws
namespace Go.Proofs.Ytlilicmnihgbdaa
open Go.RowKit

theorem cut_most : F.most 65536 = 65536 := by decide
theorem cut_told {l : List (List UInt8)} {W E : Nat} {at_ : Int} (h : F.Cut l l.length at_ W E) (hx : ∀ x ∈ l, x.length ≤ 5000) {k : Nat} (hk : (k : Int) = max (min at_ ((F.frames l).length : Int)) 0) :
    W ≤ l.length ∧ E ≤ k ∧ (F.all ((F.frames l).take k) (F.most 65536)).1 = l.take W ∧ (F.all ((F.frames l).take k) (F.most 65536)).2.1 = E ∧ ((k = E ∧ (F.all ((F.frames l).take k) (F.most 65536)).2.2 = 0) ∨ (k ≠ E ∧ (F.all ((F.frames l).take k) (F.most 65536)).2.2 = 3)) := by
  rw [cut_most]
  exact ⟨h.le, h.told (m := 65536) (fun x hxl => by have := hx x hxl; omega) (by omega) hk⟩

set_option maxHeartbeats 4000000 in
theorem fcut_law (v : Value) (l : List (List UInt8)) (at_ : Int) (w : World) (hr : Rdl w v l) :
    Calls Try.prog 6 #[v, .int .i64 at_] w fun e w' => e = .returned (.bool true) ∧ Below w.heap.size w w' := by
  have HR := Lib.hid hr
  obtain ⟨ao, cap, rfl, g1, g2⟩ := hr.slice
  unfold maxLen at g2
  clear hr
  go_enter Try.func6, Try.ntmps6
  go_wp2_with fail
  refine (weight_any _ l _ HR.out).mono ?_
  rintro e w' ⟨⟨n, rfl, hn⟩, rfl⟩
  by_cases hbig : (5000 : Int) < n
  · clear hn
    go_wp2_with (go_at_call 8; refine (awake3_any _).mono ?_; rintro e w4 ⟨rfl, hb4⟩)
    go_ret
    exact ⟨rfl, hb4⟩
  · have hW := hn (by omega)
    obtain ⟨w1, w2, w3⟩ := F.weigh_all (l := l) (B := 5000) (by omega) (by omega)
    have HX := Lib.hid w2
    clear hW hn w2
    go_wp2_with fail
    go_loopw [5, 6, 7, 8] (fun b wh en i wr => ∃ (n W E : Nat), wh = .int .i64 (W : Int) ∧ en = .int .i64 (E : Int) ∧ i = .int .i64 (n : Int) ∧ n ≤ l.length ∧ W ≤ n ∧ E ≤ 220000 ∧ Hid (F.Cut l n at_ W E) ∧ Hid (Own wr w.heap.size 5 b (bv (F.frames (l.take n)))) ∧ Hid (Below w.heap.size w wr)) (fun _ _ _ i _ => l.length - (intOf i).toNat)
    case atStart => exact ⟨0, 0, 0, rfl, rfl, rfl, by omega, by omega, by omega, F.Cut.start _ _, by show Own _ _ _ _ _; simpa [F.frames_nil, bv] using Own.nil w w.heap.size _, Below.refl _ _⟩
    case round =>
      obtain ⟨n, W, E, rfl, rfl, rfl, hn, hWn, hE, HC, HO, HB⟩ := hrel
      by_cases hlt : n < l.length
      · obtain ⟨b1, o1, c1, a1, d1, e1, l1, cell1, r1⟩ := (HR.out.below HB.out).at hlt
        obtain ⟨rfl, rfl⟩ : ao = some ⟨b1, o1, none⟩ ∧ cap = c1 := by simpa using e1
        clear e1
        have hx := HX.out l[n] (List.getElem_mem hlt)
        have hM2 := frames_le (n := n + 1) w3
        have FP := Lib.hid (fput_any _ _ _ _ _ HO.out.rd r1 (by have := frames_le (n := n) w3; omega))
        rw [frames_go hlt] at FP
        have CG := Lib.hid HC.out.go
        have CS := Lib.hid HC.out.stay
        clear r1 HO HC
        obtain ⟨x, hxe⟩ : ∃ x, x = l[n].length := ⟨_, rfl⟩
        rw [← hxe] at cell1 hx FP
        clear hxe
        obtain ⟨Y, hY⟩ : ∃ Y, Y = F.frames (l.take (n + 1)) := ⟨_, rfl⟩
        have HY := Lib.hid hY
        rw [← hY] at FP CG CS hM2
        clear hY
        by_cases hat : (Y.length : Int) ≤ at_
        · go_wp2_with (first
            | (go_at_call 9; refine FP.out.mono ?_; rintro e w1 ⟨v1, rfl, ho1, hb1⟩; obtain ⟨a2, c2, hv2, -⟩ := id ho1.rd; rw [bv_len] at hv2; subst hv2))
          go_roundw
          case rel => exact ⟨n + 1, n + 1, Y.length, by go_num, by go_num, by go_num, by omega, by omega, hM2, CG.out hat, by rw [← HY.out]; exact ho1.base HB.out.size, HB.out.trans (hb1.mono HB.out.size)⟩
          case measure => simp [intOf]; omega
        · have hat' : at_ < (Y.length : Int) := by omega
          go_wp2_with (first
            | (go_at_call 9; refine FP.out.mono ?_; rintro e w1 ⟨v1, rfl, ho1, hb1⟩; obtain ⟨a2, c2, hv2, -⟩ := id ho1.rd; rw [bv_len] at hv2; subst hv2))
          go_roundw
          case rel => exact ⟨n + 1, W, E, by go_num, by go_num, by go_num, by omega, by omega, hE, CS.out hat', by rw [← HY.out]; exact ho1.base HB.out.size, HB.out.trans (hb1.mono HB.out.size)⟩
          case measure => simp [intOf]; omega
      · obtain rfl : n = l.length := by omega
        rw [List.take_length] at HO
        have HRB := Lib.hid HO.out.rd
        obtain ⟨a5, c5, h5, k5, k6, -⟩ := id HRB.out
        rw [bv_len] at h5 k5
        subst h5
        unfold maxLen at k6
        clear HO
        obtain ⟨k, hk⟩ : ∃ k : Nat, (k : Int) = max (min at_ ((F.frames l).length : Int)) 0 := ⟨(max (min at_ ((F.frames l).length : Int)) 0).toNat, by omega⟩
        have T := Lib.hid (cut_told HC.out HX.out hk)
        obtain ⟨t1, t2, -⟩ := T.out
        have AL := Lib.hid (all_any _ ((F.frames l).take k) 65536 wr (HRB.out.take (by omega)) (by simp; omega))
        have RW := Lib.hid (HR.out.take t1)
        obtain ⟨r, hr⟩ : ∃ r, r = F.all ((F.frames l).take k) (F.most 65536) := ⟨_, rfl⟩
        rw [← hr] at AL T
        clear hr HC HRB
        obtain ⟨X, N, e⟩ := r
        simp only at AL T
        obtain ⟨-, -, t3, t4, t5⟩ := T.out
        clear T
        subst t3 t4
        obtain ⟨M, hM⟩ : ∃ M, M = (F.frames l).length := ⟨_, rfl⟩
        rw [← hM] at hk w3 k5 ⊢
        clear hM
        have hWc : (W : Int) ≤ (cap : Int) := by omega
        by_cases ha : at_ < 0
        · obtain rfl : k = 0 := by omega
          obtain rfl : N = 0 := by omega
          obtain rfl : e = 0 := by omega
          clear hk t5
          go_wp2_with (first
            | (go_at_call 10; refine AL.out.mono ?_; rintro e w1 ⟨v1, rfl, ho1, hb1⟩)
            | (go_at_call 11; refine (rrows_true _ _ (l.take W) _ ho1.rd ((RW.out.below HB.out).below hb1)).mono ?_; rintro e w3 ⟨rfl, hb3⟩)
            | (go_at_call 8; refine (awake3_any _).mono ?_; rintro e w4 ⟨rfl, hb4⟩))
          go_ret
          exact ⟨rfl, below_tr (below_tr (below_tr HB.out hb1) hb3) hb4⟩
        · by_cases hb : at_ ≤ (M : Int)
          · obtain rfl : at_ = (k : Int) := by omega
            have hkc : (k : Int) ≤ (c5 : Int) := by omega
            clear hk
            rcases t5 with ⟨rfl, rfl⟩ | ⟨hne, rfl⟩
            · go_wp2_with (first
                | (go_at_call 10; refine AL.out.mono ?_; rintro e w1 ⟨v1, rfl, ho1, hb1⟩)
                | (go_at_call 11; refine (rrows_true _ _ (l.take W) _ ho1.rd ((RW.out.below HB.out).below hb1)).mono ?_; rintro e w3 ⟨rfl, hb3⟩)
                | (go_at_call 8; refine (awake3_any _).mono ?_; rintro e w4 ⟨rfl, hb4⟩))
              go_ret
              exact ⟨rfl, below_tr (below_tr (below_tr HB.out hb1) hb3) hb4⟩
            · have hne' : ((k : Int) == (N : Int)) = false := by simp; omega
              go_wp2_with (first
                | (go_at_call 10; refine AL.out.mono ?_; rintro e w1 ⟨v1, rfl, ho1, hb1⟩)
                | (go_at_call 11; refine (rrows_true _ _ (l.take W) _ ho1.rd ((RW.out.below HB.out).below hb1)).mono ?_; rintro e w3 ⟨rfl, hb3⟩)
                | (go_at_call 8; refine (awake3_any _).mono ?_; rintro e w4 ⟨rfl, hb4⟩))
              go_ret
              exact ⟨rfl, below_tr (below_tr (below_tr HB.out hb1) hb3) hb4⟩
          · obtain rfl : k = M := by omega
            have hkc : (k : Int) ≤ (c5 : Int) := by omega
            have hb' : (k : Int) < at_ := by omega
            clear hk
            rcases t5 with ⟨rfl, rfl⟩ | ⟨hne, rfl⟩
            · go_wp2_with (first
                | (go_at_call 10; refine AL.out.mono ?_; rintro e w1 ⟨v1, rfl, ho1, hb1⟩)
                | (go_at_call 11; refine (rrows_true _ _ (l.take W) _ ho1.rd ((RW.out.below HB.out).below hb1)).mono ?_; rintro e w3 ⟨rfl, hb3⟩)
                | (go_at_call 8; refine (awake3_any _).mono ?_; rintro e w4 ⟨rfl, hb4⟩))
              go_ret
              exact ⟨rfl, below_tr (below_tr (below_tr HB.out hb1) hb3) hb4⟩
            · have hne' : ((k : Int) == (N : Int)) = false := by simp; omega
              go_wp2_with (first
                | (go_at_call 10; refine AL.out.mono ?_; rintro e w1 ⟨v1, rfl, ho1, hb1⟩)
                | (go_at_call 11; refine (rrows_true _ _ (l.take W) _ ho1.rd ((RW.out.below HB.out).below hb1)).mono ?_; rintro e w3 ⟨rfl, hb3⟩)
                | (go_at_call 8; refine (awake3_any _).mono ?_; rintro e w4 ⟨rfl, hb4⟩))
              go_ret
              exact ⟨rfl, below_tr (below_tr (below_tr HB.out hb1) hb3) hb4⟩
end Go.Proofs.Ytlilicmnihgbdaa
