/- Walks of frame.All, of the document's own All, and of what holds two rows of bytes against each other. -/
import Derived.Test.YtaajdodicepbdaaFrN
import Derived.BigQuiet
import Derived.Deep.QuietTactic
namespace Go.Proofs.Ytaajdodicepbdaa
open Go.RowKit

theorem Try.info_row : (Try.prog.info? 28).map (fun i => (i.zero, i.size, i.bytes)) = some (some (.slice none 0 0), 1, 24) := by kernel_rfl

theorem rt_all {v : Value} {a a' b b' : Int} (h : a = a') (h2 : b = b') : Ending.returned (.tuple #[v, .int .i64 a, .int .i64 b]) = .returned (.tuple #[v, .int .i64 a', .int .i64 b']) := by rw [h, h2]

set_option maxHeartbeats 800000 in
theorem all_any (v : Value) (bs : List UInt8) (m : Int) (w : World) (hr : Rdv w v (bv bs)) (hlen : bs.length < 1099511627776) :
    Calls Try.prog 15 #[v, .int .i64 m] w fun e w' => ∃ v', e = .returned (.tuple #[v', .int .i64 ((F.all bs (F.most m)).2.1 : Int), .int .i64 ((F.all bs (F.most m)).2.2 : Int)]) ∧ Ownl w' w.heap.size 28 5 v' (F.all bs (F.most m)).1 ∧ Below w.heap.size w w' := by
  have HR := Lib.hid hr
  obtain ⟨ao, cap, rfl, g1, g2, g3, -⟩ := hr
  rw [bv_len] at g1
  simp only [bv_len] at HR ⊢
  unfold maxLen at g2
  clear g3
  go_enter Try.func15, Try.ntmps15
  go_wp2_with fail
  go_loopw [4, 5] (fun l i wr => ∃ (n : Nat) (L : List (List UInt8)), i = .int .i64 (n : Int) ∧ n ≤ bs.length ∧ L.length ≤ n ∧ Hid (Ownl wr w.heap.size 28 5 l L) ∧ Hid (F.Rest bs (F.most m) n L) ∧ Hid (Below w.heap.size w wr)) (fun _ i _ => bs.length - (intOf i).toNat)
  case atStart => exact ⟨0, [], rfl, by omega, by simp, Ownl.nil _ _ _ _, F.Rest.start _ _, Below.refl _ _⟩
  case round =>
    obtain ⟨n, L, rfl, hn, hL, HO, HF, HB⟩ := hrel
    by_cases hlt : n < bs.length
    · have NX := Lib.hid (next_any _ (bs.drop n) m wr (((HR.out.below HB.out).rest hn).1 (by omega)))
      have W := Lib.hid (HF.out.wrong hlt)
      have G := Lib.hid (HF.out.go hlt)
      obtain ⟨r, hr⟩ : ∃ r, r = F.next (bs.drop n) (F.most m) := ⟨_, rfl⟩
      rw [← hr] at NX W G
      clear hr HF
      obtain ⟨X, k, e⟩ := r
      simp only at NX W G
      by_cases he : e = 0
      · subst he
        have G1 := Lib.hid (G.out rfl).1
        have hk := (G.out rfl).2
        have hkl := G1.out.le
        clear G W
        go_wp2_with (first
          | (go_at_call 19; refine NX.out.mono ?_; rintro e w1 ⟨v1, rfl, ho1, hb1⟩; obtain ⟨a1, c1, hv1, -⟩ := id ho1.rd; subst hv1)
          | (at_builtin; (refine wpList_append_row rfl (.tmp 28) (.tmp 30) 22 rfl w.heap.size 28 5 (by decide) (.slice none 0 0) 24 Try.underlying22 Try.info_row rfl (by rfl) (HO.out.below hb1) (by rfl) (ho1.base HB.out.size) (by omega) (by decide) (Nat.le_trans HB.out.size hb1.size) ?_; intro v2 w2 ho2 hb2)))
        go_roundw
        case rel => exact ⟨n + k, L ++ [X], by go_num, hkl, by simp; omega, ho2, G1.out, (HB.out.trans (hb1.mono HB.out.size)).trans hb2⟩
        case measure => simp [intOf]; omega
      · have W1 := Lib.hid (W.out he)
        have he' : ¬ (e : Int) = 0 := by omega
        clear G W
        go_wp2_with (first
          | (go_at_call 19; refine NX.out.mono ?_; rintro e w1 ⟨v1, rfl, ho1, hb1⟩))
        go_ret3
        rw [W1.out.1, W1.out.2.1, W1.out.2.2]
        exact ⟨_, rfl, HO.out.below hb1, HB.out.trans (hb1.mono HB.out.size)⟩
    · have S := Lib.hid (HF.out.stop hlt)
      go_wp2
      go_ret3
      rw [S.out.1, S.out.2.1, S.out.2.2]
      exact ⟨_, rfl, HO.out, HB.out⟩

set_option maxHeartbeats 800000 in
theorem rall_any (v : Value) (bs : List UInt8) (m : Int) (w : World) (hr : Rdv w v (bv bs)) (hlen : bs.length < 1099511627776) :
    Calls Try.prog 17 #[v, .int .i64 m] w fun e w' => ∃ v', e = .returned (.tuple #[v', .int .i64 ((F.all bs (F.most m)).2.1 : Int), .int .i64 ((F.all bs (F.most m)).2.2 : Int)]) ∧ Ownl w' w.heap.size 28 5 v' (F.all bs (F.most m)).1 ∧ Below w.heap.size w w' := by
  have HR := Lib.hid hr
  obtain ⟨ao, cap, rfl, g1, g2, g3, -⟩ := hr
  rw [bv_len] at g1
  simp only [bv_len] at HR ⊢
  unfold maxLen at g2
  clear g3
  go_enter Try.func17, Try.ntmps17
  go_wp2_with fail
  go_loopw [7, 8] (fun l i wr => ∃ (n : Nat) (L : List (List UInt8)), i = .int .i64 (n : Int) ∧ n ≤ bs.length ∧ L.length ≤ n ∧ Hid (Ownl wr w.heap.size 28 5 l L) ∧ Hid (F.Rest bs (F.most m) n L) ∧ Hid (Below w.heap.size w wr)) (fun _ i _ => bs.length - (intOf i).toNat)
  case atStart => exact ⟨0, [], rfl, by omega, by simp, Ownl.nil _ _ _ _, F.Rest.start _ _, Below.refl _ _⟩
  case round =>
    obtain ⟨n, L, rfl, hn, hL, HO, HF, HB⟩ := hrel
    by_cases hlt : n < bs.length
    · have NX := Lib.hid (rnext_any _ (bs.drop n) m wr (((HR.out.below HB.out).rest hn).1 (by omega)))
      have W := Lib.hid (HF.out.wrong hlt)
      have G := Lib.hid (HF.out.go hlt)
      obtain ⟨r, hr⟩ : ∃ r, r = F.next (bs.drop n) (F.most m) := ⟨_, rfl⟩
      rw [← hr] at NX W G
      clear hr HF
      obtain ⟨X, k, e⟩ := r
      simp only at NX W G
      by_cases he : e = 0
      · subst he
        have G1 := Lib.hid (G.out rfl).1
        have hk := (G.out rfl).2
        have hkl := G1.out.le
        clear G W
        go_wp2_with (first
          | (go_at_call 21; refine NX.out.mono ?_; rintro e w1 ⟨v1, rfl, ho1, hb1⟩; obtain ⟨a1, c1, hv1, -⟩ := id ho1.rd; subst hv1)
          | (at_builtin; (refine wpList_append_row rfl (.tmp 30) (.tmp 32) 22 rfl w.heap.size 28 5 (by decide) (.slice none 0 0) 24 Try.underlying22 Try.info_row rfl (by rfl) (HO.out.below hb1) (by rfl) (ho1.base HB.out.size) (by omega) (by decide) (Nat.le_trans HB.out.size hb1.size) ?_; intro v2 w2 ho2 hb2)))
        go_roundw
        case rel => exact ⟨n + k, L ++ [X], by go_num, hkl, by simp; omega, ho2, G1.out, (HB.out.trans (hb1.mono HB.out.size)).trans hb2⟩
        case measure => simp [intOf]; omega
      · have W1 := Lib.hid (W.out he)
        have he' : ¬ (e : Int) = 0 := by omega
        clear G W
        go_wp2_with (first
          | (go_at_call 21; refine NX.out.mono ?_; rintro e w1 ⟨v1, rfl, ho1, hb1⟩))
        go_ret3
        rw [W1.out.1, W1.out.2.1, W1.out.2.2]
        exact ⟨_, rfl, HO.out.below hb1, HB.out.trans (hb1.mono HB.out.size)⟩
    · have S := Lib.hid (HF.out.stop hlt)
      go_wp2
      go_ret3
      rw [S.out.1, S.out.2.1, S.out.2.2]
      exact ⟨_, rfl, HO.out, HB.out⟩

theorem below_drewN (w : World) (k : Nat) : Below w.heap.size w (w.drewN k) := ⟨rfl, rfl, rfl, Nat.le_refl _, fun _ _ => rfl⟩
set_option maxHeartbeats 800000 in
theorem rrows_quiet (va vb : Value) (l : List (List UInt8)) (w : World) (ha : Rdl w va l) (hb : Rdl w vb l) :
    Calls Try.prog 11 #[va, vb] w fun e w' => e = .returned (.bool true) ∧ ∃ k, w' = w.drewN k := by
  have HA := Lib.hid ha
  have HB := Lib.hid hb
  obtain ⟨aa, ca, rfl, g1, g2⟩ := ha.slice
  obtain ⟨ab, cb, rfl, k1, k2⟩ := hb.slice
  unfold maxLen at g2 k2
  clear ha hb
  go_enter Try.func11, Try.ntmps11
  go_wp2_with fail
  go_loopw [5] (fun i wr => ∃ (n : Nat), i = .int .i64 (n : Int) ∧ n ≤ l.length ∧ Hid (∃ k, wr = w.drewN k)) (fun i _ => l.length - (intOf i).toNat)
  case atStart => exact ⟨0, rfl, by omega, 0, rfl⟩
  case round =>
    obtain ⟨n, rfl, hn, D⟩ := hrel
    have B : Hid (Below w.heap.size w wr) := by
      obtain ⟨k, hk⟩ := D.out
      rw [hk]; exact below_drewN w k
    by_cases hlt : n < l.length
    · obtain ⟨b1, o1, c1, a1, d1, e1, l1, cell1, r1⟩ := (HA.out.below B.out).at hlt
      obtain ⟨b2, o2, c2, a2, d2, e2, l2, cell2, r2⟩ := (HB.out.below B.out).at hlt
      obtain ⟨rfl, rfl⟩ : aa = some ⟨b1, o1, none⟩ ∧ ca = c1 := by simpa using e1
      obtain ⟨rfl, rfl⟩ : ab = some ⟨b2, o2, none⟩ ∧ cb = c2 := by simpa using e2
      clear e1 e2
      have R : Hid (∀ k, Calls Try.prog 18 #[.slice a1 l[n].length d1, .slice a2 l[n].length d2] (wr.drewN k) fun e w' => e = .returned (.bool true) ∧ w' = wr.drewN k) :=
        Lib.hid (fun k => (rbytes_true (r1.below (below_drewN wr k)) (r2.below (below_drewN wr k)) rfl).mono fun _ _ h => ⟨h.1, h.2.symm⟩)
      clear r1 r2
      have hlt' : (n : Int) < (l.length : Int) := by omega
      have h0' : (0 : Int) ≤ (n : Int) := by omega
      go_wp2_with fail
      go_quiet (first | (go_at_call 18; refine Calls.quiet_of_same (R.out _)))
      go_wp2
      go_roundw
      case rel =>
        refine ⟨n + 1, by go_num, by omega, ?_⟩
        obtain ⟨k, hk⟩ := D.out
        exact ⟨k + _, by rw [hk, World.drewN_drewN]⟩
      case measure => simp [intOf]; omega
    · go_wp2
      go_ret
      exact ⟨rfl, D.out⟩
theorem rrows_true (va vb : Value) (l : List (List UInt8)) (w : World) (ha : Rdl w va l) (hb : Rdl w vb l) :
    Calls Try.prog 11 #[va, vb] w fun e w' => e = .returned (.bool true) ∧ Below w.heap.size w w' :=
  (rrows_quiet va vb l w ha hb).mono fun _ _ ⟨h, k, hk⟩ => ⟨h, by rw [hk]; exact below_drewN w k⟩

end Go.Proofs.Ytaajdodicepbdaa
