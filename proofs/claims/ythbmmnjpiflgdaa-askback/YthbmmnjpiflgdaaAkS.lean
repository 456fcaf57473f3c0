/- Walks of slices.EqualFunc at descriptors, of ask.Same, of the document's own SameAsk, and of Hits. -/
import Derived.Test.YthbmmnjpiflgdaaAkC
import Derived.Deep.RegionHeld3
namespace Go.Proofs.Ythbmmnjpiflgdaa
open Go.RowKit

theorem same_more2 {xs ys : List (List D.E)} {k : Nat} {d : List D.E} (h1 : xs[k]? = some d) (h2 : ys[k]? = some d) (h : xs.take k = ys.take k) : xs.take (k + 1) = ys.take (k + 1) := by
  rw [List.take_add_one, List.take_add_one, h1, h2, h]
theorem ne_of_at {xs ys : List (List D.E)} {k : Nat} {x y : List D.E} (h1 : xs[k]? = some x) (h2 : ys[k]? = some y) (h : x ≠ y) : decide (xs = ys) = false := by
  rw [decide_eq_false_iff_not]
  intro he
  rw [he] at h1
  exact h (Option.some.inj (h1.symm.trans h2))
theorem cell_below_box {w wr : World} {a : Addr} {v : Value} (hb : Below w.heap.size w wr) (h : w.cell? a = some v) (u : Value) : (wr.alloc (.cells #[u] 42)).cell? a = some v := by
  have h1 := (hb.cell (cell_lt h)).trans h
  exact ((below_alloc wr _).cell (cell_lt h1)).trans h1
set_option maxHeartbeats 2000000 in
theorem eqf_any (va vb : Value) (xs ys : List (List D.E)) (w : World) (ha : Rdd w va xs) (hb : Rdd w vb ys) :
    Calls Try.prog 38 #[va, vb, .func (.func 39) #[] #[]] w fun e w' => e = .returned (.bool (decide (xs = ys))) ∧ Below w.heap.size w w' := by
  have hla : xs.length ≤ 9223372036854775807 := by have := ha.len_le; unfold maxLen at this; omega
  have hlb : ys.length ≤ 9223372036854775807 := by have := hb.len_le; unfold maxLen at this; omega
  obtain ⟨ao, cap, rfl, h1, h2, h3, h4⟩ := ha
  obtain ⟨bo, cap', rfl, h1', h2', h3', h4'⟩ := hb
  obtain ⟨L, hL⟩ : ∃ L, xs.length = L := ⟨_, rfl⟩
  obtain ⟨M, hM⟩ : ∃ M, ys.length = M := ⟨_, rfl⟩
  have HL := Lib.hid hL
  have HM := Lib.hid hM
  have H4 := Lib.hid h4
  have H5 := Lib.hid h4'
  rw [hL, hM]
  rw [hL] at hla
  rw [hM] at hlb
  clear h4 h4' h1 h2 h3 h1' h2' h3'
  by_cases hne : L = M
  · subst hne
    clear hL hM
    go_enter Try.func38, Try.ntmps38
    go_wp2
    go_loopw [17] (fun i wr => ∃ (k : Nat), i = .int .i64 (k : Int) ∧ k ≤ L ∧ Hid (Below w.heap.size w wr) ∧ Hid (xs.take k = ys.take k)) (fun i _ => L - (intOf i).toNat)
    case atStart => exact ⟨0, rfl, Nat.zero_le _, Below.refl _ _, by show _ = _; simp⟩
    case round =>
      obtain ⟨k, rfl, hk, HW, HI⟩ := hrel
      by_cases hlt : k < L
      · obtain ⟨x, hx⟩ : ∃ x, xs[k]? = some x := ⟨xs[k]'(by have := HL.out; omega), List.getElem?_eq_getElem _⟩
        obtain ⟨y, hy⟩ : ∃ y, ys[k]? = some y := ⟨ys[k]'(by have := HM.out; omega), List.getElem?_eq_getElem _⟩
        obtain ⟨b, off, u, rfl, c1, c2⟩ := H4.out k x hx
        obtain ⟨b', off', u', rfl, c1', c2'⟩ := H5.out k y hy
        have d1 := (HW.out.cell (cell_lt c1)).trans c1
        have d1' := cell_below_box HW.out c1' u
        have HBX := Lib.hid (below_trans (below_alloc wr (.cells #[u] 42)) (below_alloc _ (.cells #[u'] 42)))
        have HSM := Lib.hid (same_any u u' x y _ (c2.below (below_trans HW.out HBX.out)) (c2'.below (below_trans HW.out HBX.out)))
        obtain ⟨au, cu, rfl, -⟩ := c2
        obtain ⟨au', cu', rfl, -⟩ := c2'
        have HX := Lib.hid hx
        have HY := Lib.hid hy
        have g0 : (k : Int) < (L : Int) := by omega
        clear c1 c1' hx hy
        by_cases hxy : x = y
        · rw [show decide (x = y) = true by simpa using hxy] at HSM
          have HI2 := Lib.hid (same_more2 HX.out (hxy ▸ HY.out) HI.out)
          clear hxy
          go_wp2_with (go_at_call 39; refine HSM.out.mono ?_; rintro e w2 ⟨rfl, b2⟩; have B2 := Lib.hid (below_trans HBX.out b2); clear b2)
          go_roundw
          case rel => exact ⟨k + 1, by go_num, by omega, below_trans HW.out B2.out, HI2.out⟩
          case measure => simp [intOf]; omega
        · rw [show decide (x = y) = false by simpa using hxy] at HSM
          have E := Lib.hid (ne_of_at HX.out HY.out hxy)
          clear hxy
          go_wp2_with (go_at_call 39; refine HSM.out.mono ?_; rintro e w2 ⟨rfl, b2⟩; have B2 := Lib.hid (below_trans HBX.out b2); clear b2)
          go_ret
          exact ret_b E.out.symm (below_trans HW.out B2.out)
      · have g0 : ¬ (k : Int) < (L : Int) := by omega
        have E := Lib.hid (show decide (xs = ys) = true by
          rw [decide_eq_true_eq]
          have h1 := HI.out; have h2 := HL.out; have h3 := HM.out
          rwa [List.take_of_length_le (by omega), List.take_of_length_le (by omega)] at h1)
        go_wp2
        go_ret
        exact ret_b E.out.symm HW.out
  · have E := Lib.hid (show decide (xs = ys) = false by
      rw [decide_eq_false_iff_not]
      intro he
      rw [he] at hL
      exact hne (hL.symm.trans hM))
    have b0 : ((L : Int) == (M : Int)) = false := by simp; omega
    have b1 : ¬ (L : Int) = (M : Int) := by omega
    clear hL hM
    go_enter Try.func38, Try.ntmps38
    go_wp2
    go_ret
    exact ret_b E.out.symm (Below.refl _ _)
end Go.Proofs.Ythbmmnjpiflgdaa
