/- Walks of frame.All, of the document's own All, and of what holds two rows of bytes against each other. -/
import Derived.Test.YtlilicmnihgbdaaFrN
import Derived.BigQuiet
import Derived.Deep.QuietTactic
namespace Go.Proofs.Ytlilicmnihgbdaa
open Go.RowKit

theorem Try.info_row : (Try.prog.info? 25).map (fun i => (i.zero, i.size, i.bytes)) = some (some (.slice none 0 0), 1, 24) := by kernel_rfl

theorem rt_all {v : Value} {a a' b b' : Int} (h : a = a') (h2 : b = b') : Ending.returned (.tuple #[v, .int .i64 a, .int .i64 b]) = .returned (.tuple #[v, .int .i64 a', .int .i64 b']) := by rw [h, h2]

set_option maxHeartbeats 800000 in
theorem all_any (v : Value) (bs : List UInt8) (m : Int) (w : World) (hr : Rdv w v (bv bs)) (hlen : bs.length < 1099511627776) :
    Calls Try.prog 10 #[v, .int .i64 m] w fun e w' => ∃ v', e = .returned (.tuple #[v', .int .i64 ((F.all bs (F.most m)).2.1 : Int), .int .i64 ((F.all bs (F.most m)).2.2 : Int)]) ∧ Ownl w' w.heap.size 25 5 v' (F.all bs (F.most m)).1 ∧ Below w.heap.size w w' := by
  have HR := Lib.hid hr
  obtain ⟨ao, cap, rfl, g1, g2, g3, -⟩ := hr
  rw [bv_len] at g1
  simp only [bv_len] at HR ⊢
  unfold maxLen at g2
  clear g3
  go_enter Try.func10, Try.ntmps10
  go_wp2_with fail
  go_loopw [4, 5] (fun l i wr => ∃ (n : Nat) (L : List (List UInt8)), i = .int .i64 (n : Int) ∧ n ≤ bs.length ∧ L.length ≤ n ∧ Hid (Ownl wr w.heap.size 25 5 l L) ∧ Hid (F.Rest bs (F.most m) n L) ∧ Hid (Below w.heap.size w wr)) (fun _ i _ => bs.length - (intOf i).toNat)
  case atStart => exact ⟨0, [], rfl, by omega, by simp, Ownl.nil _ _ _ _, F.Rest.start _ _, Below.refl _ _⟩
  case round =>
    obtain ⟨n, L, rfl, hn, hL, HO, HF, HB⟩ := hrel
    by_cases hlt : n < bs.length
    · have NX := Lib.hid (next_any _ (bs.drop n) m wr (((HR.out.below HB.out).rest hn).1 (by omega)))
      have W := Lib.hid (HF.out.wrong hlt)
      have G := Lib.hid (HF.out.go hlt)
      obtain ⟨r, hr⟩ : ∃ r, r = F.next (bs.drop n) (F.most m) := ⟨_, rfl⟩
      rw [← hr] at NX W G
      clear hr HF
      obtain ⟨X, k, e⟩ := r
      simp only at NX W G
      by_cases he : e = 0
      · subst he
        have G1 := Lib.hid (G.out rfl).1
        have hk := (G.out rfl).2
        have hkl := G1.out.le
        clear G W
        go_wp2_with (first
          | (go_at_call 12; refine NX.out.mono ?_; rintro e w1 ⟨v1, rfl, ho1, hb1⟩; obtain ⟨a1, c1, hv1, -⟩ := id ho1.rd; subst hv1)
          | (at_builtin; (refine wpList_append_row rfl (.tmp 28) (.tmp 30) 22 rfl w.heap.size 25 5 (by decide) (.slice none 0 0) 24 Try.underlying22 Try.info_row rfl (by rfl) (HO.out.below hb1) (by rfl) (ho1.base HB.out.size) (by omega) (by decide) (Nat.le_trans HB.out.size hb1.size) ?_; intro v2 w2 ho2 hb2)))
        go_roundw
        case rel => exact ⟨n + k, L ++ [X], by go_num, hkl, by simp; omega, ho2, G1.out, (HB.out.trans (hb1.mono HB.out.size)).trans hb2⟩
        case measure => simp [intOf]; omega
      · have W1 := Lib.hid (W.out he)
        have he' : ¬ (e : Int) = 0 := by omega
        clear G W
        go_wp2_with (first
          | (go_at_call 12; refine NX.out.mono ?_; rintro e w1 ⟨v1, rfl, ho1, hb1⟩))
        go_ret3
        rw [W1.out.1, W1.out.2.1, W1.out.2.2]
        exact ⟨_, rfl, HO.out.below hb1, HB.out.trans (hb1.mono HB.out.size)⟩
    · have S := Lib.hid (HF.out.stop hlt)
      go_wp2
      go_ret3
      rw [S.out.1, S.out.2.1, S.out.2.2]
      exact ⟨_, rfl, HO.out, HB.out⟩

set_option maxHeartbeats 800000 in
theorem rall_any (v : Value) (bs : List UInt8) (m : Int) (w : World) (hr : Rdv w v (bv bs)) (hlen : bs.length < 1099511627776) :
    Calls Try.prog 15 #[v, .int .i64 m] w fun e w' => ∃ v', e = .returned (.tuple #[v', .int .i64 ((F.all bs (F.most m)).2.1 : Int), .int .i64 ((F.all bs (F.most m)).2.2 : Int)]) ∧ Ownl w' w.heap.size 25 5 v' (F.all bs (F.most m)).1 ∧ Below w.heap.size w w' := by
  have HR := Lib.hid hr
  obtain ⟨ao, cap, rfl, g1, g2, g3, -⟩ := hr
  rw [bv_len] at g1
  simp only [bv_len] at HR ⊢
  unfold maxLen at g2
  clear g3
  go_enter Try.func15, Try.ntmps15
  go_wp2_with fail
  go_loopw [7, 8] (fun l i wr => ∃ (n : Nat) (L : List (List UInt8)), i = .int .i64 (n : Int) ∧ n ≤ bs.length ∧ L.length ≤ n ∧ Hid (Ownl wr w.heap.size 25 5 l L) ∧ Hid (F.Rest bs (F.most m) n L) ∧ Hid (Below w.heap.size w wr)) (fun _ i _ => bs.length - (intOf i).toNat)
  case atStart => exact ⟨0, [], rfl, by omega, by simp, Ownl.nil _ _ _ _, F.Rest.start _ _, Below.refl _ _⟩
  case round =>
    obtain ⟨n, L, rfl, hn, hL, HO, HF, HB⟩ := hrel
    by_cases hlt : n < bs.length
    · have NX := Lib.hid (rnext_any _ (bs.drop n) m wr (((HR.out.below HB.out).rest hn).1 (by omega)))
      have W := Lib.hid (HF.out.wrong hlt)
      have G := Lib.hid (HF.out.go hlt)
      obtain ⟨r, hr⟩ : ∃ r, r = F.next (bs.drop n) (F.most m) := ⟨_, rfl⟩
      rw [← hr] at NX W G
      clear hr HF
      obtain ⟨X, k, e⟩ := r
      simp only at NX W G
      by_cases he : e = 0
      · subst he
        have G1 := Lib.hid (G.out rfl).1
        have hk := (G.out rfl).2
        have hkl := G1.out.le
        clear G W
        go_wp2_with (first
          | (go_at_call 13; refine NX.out.mono ?_; rintro e w1 ⟨v1, rfl, ho1, hb1⟩; obtain ⟨a1, c1, hv1, -⟩ := id ho1.rd; subst hv1)
          | (at_builtin; (refine wpList_append_row rfl (.tmp 30) (.tmp 32) 22 rfl w.heap.size 25 5 (by decide) (.slice none 0 0) 24 Try.underlying22 Try.info_row rfl (by rfl) (HO.out.below hb1) (by rfl) (ho1.base HB.out.size) (by omega) (by decide) (Nat.le_trans HB.out.size hb1.size) ?_; intro v2 w2 ho2 hb2)))
        go_roundw
        case rel => exact ⟨n + k, L ++ [X], by go_num, hkl, by simp; omega, ho2, G1.out, (HB.out.trans (hb1.mono HB.out.size)).trans hb2⟩
        case measure => simp [intOf]; omega
      · have W1 := Lib.hid (W.out he)
        have he' : ¬ (e : Int) = 0 := by omega
        clear G W
        go_wp2_with (first
          | (go_at_call 13; refine NX.out.mono ?_; rintro e w1 ⟨v1, rfl, ho1, hb1⟩))
        go_ret3
        rw [W1.out.1, W1.out.2.1, W1.out.2.2]
        exact ⟨_, rfl, HO.out.below hb1, HB.out.trans (hb1.mono HB.out.size)⟩
    · have S := Lib.hid (HF.out.stop hlt)
      go_wp2
      go_ret3
      rw [S.out.1, S.out.2.1, S.out.2.2]
      exact ⟨_, rfl, HO.out, HB.out⟩

theorem below_drewN (w : World) (k : Nat) : Below w.heap.size w (w.drewN k) := ⟨rfl, rfl, rfl, Nat.le_refl _, fun _ _ => rfl⟩
set_option maxHeartbeats 800000 in
theorem rrows_true (va vb : Value) (l : List (List UInt8)) (w : World) (ha : Rdl w va l) (hb : Rdl w vb l) :
    Calls Try.prog 11 #[va, vb] w fun e w' => e = .returned (.bool true) ∧ Below w.heap.size w w' := by
  have HA := Lib.hid ha
  have HB := Lib.hid hb
  obtain ⟨aa, ca, rfl, g1, g2⟩ := ha.slice
  obtain ⟨ab, cb, rfl, k1, k2⟩ := hb.slice
  unfold maxLen at g2 k2
  clear ha hb
  go_enter Try.func11, Try.ntmps11
  go_wp2_with fail
  go_loopw [5] (fun i wr => ∃ (n : Nat), i = .int .i64 (n : Int) ∧ n ≤ l.length ∧ Hid (Below w.heap.size w wr)) (fun i _ => l.length - (intOf i).toNat)
  case atStart => exact ⟨0, rfl, by omega, Below.refl _ _⟩
  case round =>
    obtain ⟨n, rfl, hn, B⟩ := hrel
    by_cases hlt : n < l.length
    · obtain ⟨b1, o1, c1, a1, d1, e1, l1, cell1, r1⟩ := (HA.out.below B.out).at hlt
      obtain ⟨b2, o2, c2, a2, d2, e2, l2, cell2, r2⟩ := (HB.out.below B.out).at hlt
      obtain ⟨rfl, rfl⟩ : aa = some ⟨b1, o1, none⟩ ∧ ca = c1 := by simpa using e1
      obtain ⟨rfl, rfl⟩ : ab = some ⟨b2, o2, none⟩ ∧ cb = c2 := by simpa using e2
      clear e1 e2
      have R : Hid (∀ k, Calls Try.prog 14 #[.slice a1 l[n].length d1, .slice a2 l[n].length d2] (wr.drewN k) fun e w' => e = .returned (.bool true) ∧ w' = wr.drewN k) :=
        Lib.hid (fun k => (rbytes_true (r1.below (below_drewN wr k)) (r2.below (below_drewN wr k)) rfl).mono fun _ _ h => ⟨h.1, h.2.symm⟩)
      clear r1 r2
      have hlt' : (n : Int) < (l.length : Int) := by omega
      have h0' : (0 : Int) ≤ (n : Int) := by omega
      go_wp2_with fail
      go_quiet (first | (go_at_call 14; refine Calls.quiet_of_same (R.out _)))
      go_wp2
      go_roundw
      case rel => exact ⟨n + 1, by go_num, by omega, B.out.trans ((below_drewN wr _).mono B.out.size)⟩
      case measure => simp [intOf]; omega
    · go_wp2
      go_ret
      exact ⟨rfl, B.out⟩

set_option maxHeartbeats 800000 in
theorem weight_any (v : Value) (l : List (List UInt8)) (w : World) (hr : Rdl w v l) :
    Calls Try.prog 7 #[v] w fun e w' => (∃ n : Int, e = .returned (.int .i64 n) ∧ (n ≤ 20000 → n = (F.weigh l l.length : Int))) ∧ w = w' := by
  have HR := Lib.hid hr
  obtain ⟨ao, cap, rfl, g1, g2⟩ := hr.slice
  unfold maxLen at g2
  clear hr
  go_enter Try.func7, Try.ntmps7
  go_wp2_with fail
  go_loop [3, 4] (fun x i => ∃ (X n : Nat), x = .int .i64 (X : Int) ∧ i = .int .i64 (n : Int) ∧ X < 9223372036854775808 ∧ n ≤ l.length ∧ Hid (X = F.weigh l n)) (fun _ i => l.length - (intOf i).toNat)
  case atStart => exact ⟨l.length, 0, rfl, rfl, by omega, by omega, (F.weigh_zero l).symm⟩
  case round =>
    obtain ⟨X, n, rfl, rfl, hX, hn, HX⟩ := hrel
    by_cases hlt : n < l.length
    · obtain ⟨b1, o1, c1, a1, d1, e1, l1, cell1, r1⟩ := HR.out.at hlt
      obtain ⟨rfl, rfl⟩ : ao = some ⟨b1, o1, none⟩ ∧ cap = c1 := by simpa using e1
      have HS := Lib.hid (F.weigh_succ hlt)
      have hm := r1.len_le
      rw [bv_len] at hm
      unfold maxLen at hm
      clear e1 r1
      obtain ⟨x, hx⟩ : ∃ x, x = l[n].length := ⟨_, rfl⟩
      rw [← hx] at cell1 HS hm
      clear hx
      by_cases hX2 : X ≤ 20000
      · have hX3 : (X : Int) ≤ 20000 := by omega
        by_cases hx2 : x ≤ 20001
        · have hx3 : (x : Int) ≤ 20001 := by omega
          go_wp2
          go_round
          case rel => exact ⟨X + min x 20001, n + 1, by rw [Nat.min_eq_left hx2]; go_num, by go_num, by omega, by omega, by show _ = _; rw [HS.out, HX.out]⟩
          case measure => simp [intOf]; omega
        · have hx3 : (20001 : Int) < (x : Int) := by omega
          go_wp2
          go_round
          case rel => exact ⟨X + min x 20001, n + 1, by rw [Nat.min_eq_right (by omega)]; go_num, by go_num, by omega, by omega, by show _ = _; rw [HS.out, HX.out]⟩
          case measure => simp [intOf]; omega
      · have hX3 : (20000 : Int) < (X : Int) := by omega
        go_wp2
        go_ret
        exact ⟨⟨_, rfl, fun h => absurd h (by omega)⟩, rfl⟩
    · obtain rfl : n = l.length := by omega
      go_wp2
      all_goals go_ret
      all_goals exact ⟨⟨_, rfl, fun _ => by rw [HX.out]⟩, rfl⟩
end Go.Proofs.Ytlilicmnihgbdaa
