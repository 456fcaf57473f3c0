/- Walks of the document's own Next, of frame.Put and of the holding of two rows against each other. -/
import Derived.Test.YtaajdodicepbdaaFrW
namespace Go.Proofs.Ytaajdodicepbdaa
open Go.RowKit

set_option maxHeartbeats 800000 in
theorem rnext_any (v : Value) (bs : List UInt8) (m : Int) (w : World) (hr : Rdv w v (bv bs)) :
    Calls Try.prog 21 #[v, .int .i64 m] w fun e w' => ∃ v', e = .returned (.tuple #[v', .int .i64 ((F.next bs (F.most m)).2.1 : Int), .int .i64 ((F.next bs (F.most m)).2.2 : Int)]) ∧ Own w' w.heap.size 5 v' (bv (F.next bs (F.most m)).1) ∧ Below w.heap.size w w' := by
  have HR := Lib.hid hr
  obtain ⟨ao, cap, rfl, g1, g2, g3, -⟩ := hr
  rw [bv_len] at g1
  simp only [bv_len] at HR ⊢
  unfold maxLen at g2
  have hmost := F.most_le m
  have hn10 := V.gn_10 (bs := bs)
  have hv64 := V.gv_64 (bs := bs)
  have hnl := V.gn_le (bs := bs)
  go_enter Try.func21, Try.ntmps21
  by_cases he : V.ge bs = 0
  · have he' : (V.ge bs : Int) = 0 := by omega
    have hn1 := V.gn_pos he
    by_cases hbig : F.most m < V.gv bs
    · have hbig' : (F.most m : Int) < (V.gv bs : Int) := by omega
      have R := Lib.hid (F.next_big he hbig)
      clear he hbig
      go_wp2_with (first
        | (go_at_call 24; refine (rget_any _ bs _ HR.out).mono ?_; rintro e w' ⟨rfl, rfl⟩)
        | (go_at_call 25; refine (rmost_any _ _).mono ?_; rintro e w' ⟨rfl, rfl⟩))
      go_ret3
      rw [R.out]
      exact ⟨_, rfl, Own.nil _ _ _, Below.refl _ _⟩
    · have hbig' : (V.gv bs : Int) ≤ (F.most m : Int) := by omega
      by_cases hmo : bs.length < V.gn bs + V.gv bs
      · have hmo' : (bs.length : Int) - (V.gn bs : Int) < (V.gv bs : Int) := by omega
        have R := Lib.hid (F.next_more he hbig hmo)
        clear he hbig hmo
        go_wp2_with (first
          | (go_at_call 24; refine (rget_any _ bs _ HR.out).mono ?_; rintro e w' ⟨rfl, rfl⟩)
          | (go_at_call 25; refine (rmost_any _ _).mono ?_; rintro e w' ⟨rfl, rfl⟩))
        go_ret3
        rw [R.out]
        exact ⟨_, rfl, Own.nil _ _ _, Below.refl _ _⟩
      · have hmo' : (V.gv bs : Int) ≤ (bs.length : Int) - (V.gn bs : Int) := by omega
        have R := Lib.hid (F.next_ok he hbig hmo)
        have C := Lib.hid (Rdv.cut2 HR.out (l := V.gn bs) (k := V.gv bs) (by omega))
        have hlen := Lib.hid (next_room (bs := bs) (by omega : V.gv bs ≤ 1099511627776))
        clear he hbig hmo
        obtain ⟨X, hX⟩ : ∃ X, X = (bs.take (V.gn bs + V.gv bs)).drop (V.gn bs) := ⟨_, rfl⟩
        rw [← hX] at R C hlen
        clear hX
        by_cases hcap : cap = V.gn bs
        · have C2 := Lib.hid (C.out.2 hcap)
          clear C
          subst hcap
          go_wp2_with (first
            | (go_at_call 24; refine (rget_any _ bs _ HR.out).mono ?_; rintro e w' ⟨rfl, rfl⟩)
            | (go_at_call 25; refine (rmost_any _ _).mono ?_; rintro e w' ⟨rfl, rfl⟩)
            | (at_builtin; refine wpList_append_bytes (xs := []) (news := X) rfl (.tmp 31) (.tmp 38) 28 rfl w.heap.size 5 Try.underlying28 Try.info_u8 (by rfl) (Own.lit w [] (Nat.le_refl _) (by simp [maxLen])) (by first | rfl | (show Value.slice _ _ _ = Value.slice _ _ _; simp)) (C2.out.below (below_alloc _ _)) (by have := hlen.out; simp at this ⊢; omega) (by simp) ?_; intro v2 w2 ho2 _ hb2))
          go_ret3
          rw [R.out]
          exact ⟨_, rt_next (by simp) rfl, by simpa using ho2, (below_alloc w _).trans hb2⟩
        · have C2 := Lib.hid (C.out.1 hcap)
          clear C
          go_wp2_with (first
            | (go_at_call 24; refine (rget_any _ bs _ HR.out).mono ?_; rintro e w' ⟨rfl, rfl⟩)
            | (go_at_call 25; refine (rmost_any _ _).mono ?_; rintro e w' ⟨rfl, rfl⟩)
            | (at_builtin; refine wpList_append_bytes (xs := []) (news := X) rfl (.tmp 31) (.tmp 38) 28 rfl w.heap.size 5 Try.underlying28 Try.info_u8 (by rfl) (Own.lit w [] (Nat.le_refl _) (by simp [maxLen])) (by first | rfl | (show Value.slice _ _ _ = Value.slice _ _ _; simp)) (C2.out.below (below_alloc _ _)) (by have := hlen.out; simp at this ⊢; omega) (by simp) ?_; intro v2 w2 ho2 _ hb2))
          go_ret3
          rw [R.out]
          exact ⟨_, rt_next (by simp) rfl, by simpa using ho2, (below_alloc w _).trans hb2⟩
  · have he' : ¬ (V.ge bs : Int) = 0 := by omega
    have R := Lib.hid (F.next_wrong (m := F.most m) he)
    clear he
    go_wp2_with (first
      | (go_at_call 24; refine (rget_any _ bs _ HR.out).mono ?_; rintro e w' ⟨rfl, rfl⟩))
    go_ret3
    rw [R.out]
    exact ⟨_, rfl, Own.nil _ _ _, Below.refl _ _⟩

end Go.Proofs.Ytaajdodicepbdaa
