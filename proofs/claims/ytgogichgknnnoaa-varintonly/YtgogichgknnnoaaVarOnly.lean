/- The law 'what is got has no other bytes': the walk. -/
import Derived.Test.YtgogichgknnnoaaVarLaws
import Derived.Deep.RegionHeld3
namespace Go.Proofs.Ytgogichgknnnoaa
open Go.RowKit

set_option maxRecDepth 4000000 in
set_option maxHeartbeats 1600000 in
theorem only_any (vb : Value) (bs : List UInt8) (w : World) (hrb : Rdv w vb (bv bs)) (_ : bs.length ≤ 140737488351232) :
    Calls Try.prog 5 #[vb] w fun e w' => e = .returned (.bool true) ∧ Below w.heap.size w w' := by
  have HB := Lib.hid hrb
  obtain ⟨ab, cb, rfl, g1, g2, -⟩ := hrb
  simp only [bv_len] at HB g1 ⊢
  go_enter Try.func5, Try.ntmps5
  rcases V.only bs with ⟨he, hv, hn⟩ | ⟨n, tail, hbs, hl, hn64, hv, hn, he⟩
  · have ne : ((V.ge bs : Int) != 0) = true := by simp; omega
    clear he
    go_wp2_with (first
      | (go_at_call 11; refine (vget_any _ bs _ HB.out).mono ?_; rintro e w' ⟨rfl, rfl⟩)
      | (go_at_call 7; refine (awake2_any _).mono ?_; rintro e w' ⟨rfl, hb⟩))
    go_ret
    exact ⟨rfl, hb⟩
  · have hlp := V.len_pos n
    have hlen : V.len n ≤ bs.length := by rw [hbs, List.length_append]; unfold V.len; omega
    have HBS := Lib.hid hbs
    clear hbs
    go_wp2_with fail
    refine (vget_any _ bs _ HB.out).mono ?_
    rintro e w' ⟨rfl, rfl⟩
    rw [hv, hn, he]
    clear hv hn he
    obtain ⟨L, hL⟩ : ∃ L, L = V.len n := ⟨_, rfl⟩
    rw [← hL] at hl hlp hlen ⊢
    have HL := Lib.hid hL
    clear hL
    have d1 : decide ((1 : Int) ≤ (L : Int)) = true := by simp; omega
    have d2 : decide ((L : Int) ≤ 10) = true := by simp; omega
    have d3 : decide ((L : Int) ≤ (bs.length : Int)) = true := by simp; omega
    have d3' : decide (L ≤ bs.length) = true := by simp; omega
    have d4 : (L : Int) ≤ (cb : Int) := by omega
    have RT := Lib.hid (HB.out.take hlen)
    have EQ : Hid ([] ++ V.put (n : Int).toNat = bs.take L) := by
      show _ = _
      rw [HL.out, V.len, HBS.out, List.take_left]; simp
    clear HBS HL hlen
    go_wp2_with fail
    go_region_held3 (fun _ => True) (trivial) (first
      | (go_at_call 8; refine (vput_any _ [] (n : Int) (by omega) (by omega) _ (Rdv.nil _) (by simp)).mono ?_; rintro e w1 ⟨v1, rfl, ho1, hb1⟩)
      | (go_at_call 9; refine (rbytes_true ho1.rd (Rdv.below RT.out (below_undrew hb1)) EQ.out).mono ?_; rintro e w2 ⟨rfl, rfl⟩)
      | (go_at_call 7; refine (awake2_any _).mono ?_; rintro e w3 ⟨rfl, hb3⟩))
    go_wp2
    go_ret
    exact ⟨rfl, below_tr (below_undrew (by assumption)) (by assumption)⟩
end Go.Proofs.Ytgogichgknnnoaa
