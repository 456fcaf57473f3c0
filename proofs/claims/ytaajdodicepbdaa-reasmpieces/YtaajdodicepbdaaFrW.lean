/- Walks of package frame and of the document's own twins: Next. -/
import Derived.Test.YtaajdodicepbdaaVarP
import Derived.Test.YtaajdodicepbdaaFrMath
import Derived.Test.YtaajdodicepbdaaSlcR
namespace Go.Proofs.Ytaajdodicepbdaa
open Go.RowKit

set_option maxHeartbeats 400000 in
theorem held_any (m : Int) (w : World) : Calls Try.prog 23 #[.int .i64 m] w fun e w' => e = .returned (.int .i64 (F.most m : Int)) ∧ w = w' := by
  go_enter Try.func23, Try.ntmps23
  by_cases h1 : m < 0
  · go_wp2
    all_goals go_ret
    all_goals exact ⟨rt_int (by unfold F.most; omega), rfl⟩
  · by_cases h2 : 65536 < m
    · go_wp2
      all_goals go_ret
      all_goals exact ⟨rt_int (by unfold F.most; omega), rfl⟩
    · go_wp2
      all_goals go_ret
      all_goals exact ⟨rt_int (by unfold F.most; omega), rfl⟩
set_option maxHeartbeats 400000 in
theorem rmost_any (m : Int) (w : World) : Calls Try.prog 25 #[.int .i64 m] w fun e w' => e = .returned (.int .i64 (F.most m : Int)) ∧ w = w' := by
  go_enter Try.func25, Try.ntmps25
  by_cases h1 : m < 0
  · go_wp2
    all_goals go_ret
    all_goals exact ⟨rt_int (by unfold F.most; omega), rfl⟩
  · by_cases h2 : 65536 < m
    · go_wp2
      all_goals go_ret
      all_goals exact ⟨rt_int (by unfold F.most; omega), rfl⟩
    · go_wp2
      all_goals go_ret
      all_goals exact ⟨rt_int (by unfold F.most; omega), rfl⟩

set_option maxHeartbeats 400000 in
theorem clone_any (v : Value) (bs : List UInt8) (w : World) (hr : Rdv w v (bv bs)) (hb : bs.length ≤ 1099511627776) :
    Calls Try.prog 20 #[v] w fun e w' => ∃ v', e = .returned v' ∧ Own w' w.heap.size 5 v' (bv bs) ∧ Below w.heap.size w w' := by
  have HR := Lib.hid hr
  obtain ⟨ao, cap, rfl, g1, g2, g3, g4⟩ := hr
  rw [bv_len] at g1
  simp only [bv_len] at HR ⊢
  have qn : ∀ (w : World) (a : Option Addr) (n c : Nat), (binOp .eql 28 (.slice a n c) (.slice none 0 0)).run Try.prog w = .ok (.bool a.isNone) w := fun w a n c => Lib.run_eql_slice_nil w _ _ a n c 0 0 Try.underlying28
  go_enter Try.func20, Try.ntmps20
  cases ao with
  | none =>
    have hc := g3 rfl
    have hn : bs = [] := List.length_eq_zero_iff.1 (by omega)
    subst hn
    clear g4
    go_wp2
    go_ret
    exact ⟨_, rfl, Own.nil _ _ _, Below.refl _ _⟩
  | some x =>
    clear g3 g4
    go_wp2_with (at_builtin; refine wpList_append_bytes (xs := []) rfl (.tmp 5) (.tmp 6) 28 rfl w.heap.size 5 Try.underlying28 Try.info_u8 (by rfl) (Own.lit w [] (Nat.le_refl _) (by simp [maxLen])) (by rfl) (HR.out.below (below_alloc _ _)) (by simp; omega) (by simp) ?_; intro v2 w2 ho2 _ hb2)
    go_ret
    exact ⟨_, rfl, by simpa using ho2, (below_alloc w _).trans hb2⟩

theorem next_room {bs : List UInt8} (h : V.gv bs ≤ 1099511627776) : ((bs.take (V.gn bs + V.gv bs)).drop (V.gn bs)).length ≤ 1099511627776 := by simp; omega
theorem rt_next {v : Value} {a a' b b' : Int} (h : a = a') (h2 : b = b') : Ending.returned (.tuple #[v, .int .i64 a, .int .i64 b]) = .returned (.tuple #[v, .int .i64 a', .int .i64 b']) := by rw [h, h2]

set_option maxHeartbeats 800000 in
theorem next_any (v : Value) (bs : List UInt8) (m : Int) (w : World) (hr : Rdv w v (bv bs)) :
    Calls Try.prog 19 #[v, .int .i64 m] w fun e w' => ∃ v', e = .returned (.tuple #[v', .int .i64 ((F.next bs (F.most m)).2.1 : Int), .int .i64 ((F.next bs (F.most m)).2.2 : Int)]) ∧ Own w' w.heap.size 5 v' (bv (F.next bs (F.most m)).1) ∧ Below w.heap.size w w' := by
  have HR := Lib.hid hr
  obtain ⟨ao, cap, rfl, g1, g2, g3, -⟩ := hr
  rw [bv_len] at g1
  simp only [bv_len] at HR ⊢
  unfold maxLen at g2
  have hmost := F.most_le m
  have hn10 := V.gn_10 (bs := bs)
  have hv64 := V.gv_64 (bs := bs)
  have hnl := V.gn_le (bs := bs)
  go_enter Try.func19, Try.ntmps19
  by_cases he : V.ge bs = 0
  · have he' : (V.ge bs : Int) = 0 := by omega
    have hn1 := V.gn_pos he
    by_cases hbig : F.most m < V.gv bs
    · have hbig' : (F.most m : Int) < (V.gv bs : Int) := by omega
      have R := Lib.hid (F.next_big he hbig)
      clear he hbig
      go_wp2_with (first
        | (go_at_call 22; refine (vget_any _ bs _ HR.out).mono ?_; rintro e w' ⟨rfl, rfl⟩)
        | (go_at_call 23; refine (held_any _ _).mono ?_; rintro e w' ⟨rfl, rfl⟩))
      go_ret3
      rw [R.out]
      exact ⟨_, rfl, Own.nil _ _ _, Below.refl _ _⟩
    · have hbig' : (V.gv bs : Int) ≤ (F.most m : Int) := by omega
      by_cases hmo : bs.length < V.gn bs + V.gv bs
      · have hmo' : (bs.length : Int) < (V.gn bs : Int) + (V.gv bs : Int) := by omega
        have R := Lib.hid (F.next_more he hbig hmo)
        clear he hbig hmo
        go_wp2_with (first
          | (go_at_call 22; refine (vget_any _ bs _ HR.out).mono ?_; rintro e w' ⟨rfl, rfl⟩)
          | (go_at_call 23; refine (held_any _ _).mono ?_; rintro e w' ⟨rfl, rfl⟩))
        go_ret3
        rw [R.out]
        exact ⟨_, rfl, Own.nil _ _ _, Below.refl _ _⟩
      · have hmo' : (V.gn bs : Int) + (V.gv bs : Int) ≤ (bs.length : Int) := by omega
        have R := Lib.hid (F.next_ok he hbig hmo)
        have C := Lib.hid (Rdv.cut2 HR.out (l := V.gn bs) (k := V.gv bs) (by omega))
        have hlen := Lib.hid (next_room (bs := bs) (by omega : V.gv bs ≤ 1099511627776))
        clear he hbig hmo
        obtain ⟨X, hX⟩ : ∃ X, X = (bs.take (V.gn bs + V.gv bs)).drop (V.gn bs) := ⟨_, rfl⟩
        rw [← hX] at R C hlen
        clear hX
        by_cases hcap : cap = V.gn bs
        · have C2 := Lib.hid (C.out.2 hcap)
          clear C
          subst hcap
          go_wp2_with (first
            | (go_at_call 22; refine (vget_any _ bs _ HR.out).mono ?_; rintro e w' ⟨rfl, rfl⟩)
            | (go_at_call 23; refine (held_any _ _).mono ?_; rintro e w' ⟨rfl, rfl⟩)
            | (go_at_call 20; refine (clone_any _ X _ C2.out hlen.out).mono ?_; rintro e w1 ⟨v1, rfl, ho1, hb1⟩))
          go_ret3
          rw [R.out]
          exact ⟨_, rt_next (by simp) rfl, ho1, hb1⟩
        · have C2 := Lib.hid (C.out.1 hcap)
          clear C
          go_wp2_with (first
            | (go_at_call 22; refine (vget_any _ bs _ HR.out).mono ?_; rintro e w' ⟨rfl, rfl⟩)
            | (go_at_call 23; refine (held_any _ _).mono ?_; rintro e w' ⟨rfl, rfl⟩)
            | (go_at_call 20; refine (clone_any _ X _ C2.out hlen.out).mono ?_; rintro e w1 ⟨v1, rfl, ho1, hb1⟩))
          go_ret3
          rw [R.out]
          exact ⟨_, rt_next (by simp) rfl, ho1, hb1⟩
  · have he' : ¬ (V.ge bs : Int) = 0 := by omega
    have R := Lib.hid (F.next_wrong (m := F.most m) he)
    clear he
    go_wp2_with (first
      | (go_at_call 22; refine (vget_any _ bs _ HR.out).mono ?_; rintro e w' ⟨rfl, rfl⟩))
    go_ret3
    rw [R.out]
    exact ⟨_, rfl, Own.nil _ _ _, Below.refl _ _⟩
end Go.Proofs.Ytaajdodicepbdaa
