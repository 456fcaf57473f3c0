/- The walk of the document's own SameAsk. -/
import Derived.Test.YthbmmnjpiflgdaaAkU
namespace Go.Proofs.Ythbmmnjpiflgdaa
open Go.RowKit

theorem neq_len {i : Int} {d : List UInt8} {h : Int} {x y : List (List D.E)} (hn : x.length ≠ y.length) : K.same (i, d, h, x) (i, d, h, y) = false := by
  rw [eq_descs, decide_eq_false_iff_not]
  rintro rfl
  exact hn rfl
theorem fourth {x : World} {p : Nat} {T : TypeId} {a b c d : Value} (h : Str x p T #[a, b, c, d]) : x.cell? ⟨p, 3, none⟩ = some d := by
  have c3 := h.cell 3
  simp only [List.getElem?_toArray, List.getElem?_cons_zero, List.getElem?_cons_succ] at c3
  exact c3
theorem old_cell {w w' : World} {a : Addr} {v : Value} (hb : Below w.heap.size w w') (h : w.cell? a = some v) : w'.cell? a = some v := (hb.cell (cell_lt h)).trans h
set_option maxHeartbeats 4000000 in
theorem rsameAsk_any (a b : K.A) (va vb : Value) (w : World) (ha : Rdd w va a.2.2.2) (hb : Rdd w vb b.2.2.2) :
    Calls Try.prog 19 #[.agg #[.int .i64 a.1, .string ⟨a.2.1.toArray⟩, .int .i64 a.2.2.1, va], .agg #[.int .i64 b.1, .string ⟨b.2.1.toArray⟩, .int .i64 b.2.2.1, vb]] w fun e w' => e = .returned (.bool (K.same a b)) ∧ Below w.heap.size w w' := by
  have hla : a.2.2.2.length ≤ 9223372036854775807 := by have := ha.len_le; unfold maxLen at this; omega
  have hlb : b.2.2.2.length ≤ 9223372036854775807 := by have := hb.len_le; unfold maxLen at this; omega
  obtain ⟨i, d, h, xs⟩ := a
  obtain ⟨j, d', h', ys⟩ := b
  simp only at ha hb hla hlb ⊢
  obtain ⟨ao, cap, rfl, h1, h2, h3, h4⟩ := ha
  obtain ⟨bo, cap', rfl, h1', h2', h3', h4'⟩ := hb
  have HT := Lib.hid (TwoA.new w #[.int .i64 i, .string ⟨d.toArray⟩, .int .i64 h, .slice ao xs.length cap] #[.int .i64 j, .string ⟨d'.toArray⟩, .int .i64 h', .slice bo ys.length cap'])
  have H4 := Lib.hid h4
  have H5 := Lib.hid h4'
  clear h4 h4' h1 h2 h3 h1' h2' h3'
  by_cases h1 : i = j
  case neg =>
    have E := Lib.hid (neq_id (d := d) (e := d') (h := h) (k := h') (x := xs) (y := ys) h1)
    have b0 : (i == j) = false := by simpa using h1
    go_enter Try.func19, Try.ntmps19
    go_wp2
    go_ret
    exact ret_b E.out.symm HT.out.below
  subst h1
  by_cases h2 : d = d'
  case neg =>
    have E := Lib.hid (neq_dom (i := i) (j := i) (h := h) (k := h') (x := xs) (y := ys) h2)
    have b0 : (d == d') = false := by simpa using h2
    go_enter Try.func19, Try.ntmps19
    go_wp2
    go_ret
    exact ret_b E.out.symm HT.out.below
  subst h2
  by_cases h3 : h = h'
  case neg =>
    have E := Lib.hid (neq_hits (i := i) (j := i) (d := d) (e := d) (x := xs) (y := ys) h3)
    have b0 : (h == h') = false := by simpa using h3
    go_enter Try.func19, Try.ntmps19
    go_wp2
    go_ret
    exact ret_b E.out.symm HT.out.below
  subst h3
  obtain ⟨L, hL⟩ : ∃ L, xs.length = L := ⟨_, rfl⟩
  obtain ⟨M, hM⟩ : ∃ M, ys.length = M := ⟨_, rfl⟩
  have HL := Lib.hid hL
  have HM := Lib.hid hM
  by_cases h4 : L = M
  case neg =>
    have E := Lib.hid (neq_len (i := i) (d := d) (h := h) (x := xs) (y := ys) (by omega))
    rw [hL, hM] at HT ⊢
    have b0 : ((L : Int) == (M : Int)) = false := by simp; omega
    have b1 : ¬ (L : Int) = (M : Int) := by omega
    clear hL hM
    go_enter Try.func19, Try.ntmps19
    go_wp2
    go_ret
    exact ret_b E.out.symm HT.out.below
  subst h4
  rw [eq_descs]
  rw [hL, hM] at HT ⊢
  rw [hL] at hla
  clear hL hM hlb
  go_enter Try.func19, Try.ntmps19
  go_wp2
  go_loopw [5] (fun n wr => ∃ (k : Nat), n = .int .i64 (k : Int) ∧ k ≤ L ∧ Hid (TwoA w #[.int .i64 i, .string ⟨d.toArray⟩, .int .i64 h, .slice ao L cap] #[.int .i64 i, .string ⟨d.toArray⟩, .int .i64 h, .slice bo L cap'] wr) ∧ Hid (xs.take k = ys.take k)) (fun n _ => L - (intOf n).toNat)
  case atStart => exact ⟨0, rfl, Nat.zero_le _, HT.out, by show _ = _; simp⟩
  case round =>
    obtain ⟨k, rfl, hk, HW, HI⟩ := hrel
    have s1 := fourth HW.out.first
    have s2 := fourth HW.out.second
    by_cases hlt : k < L
    · obtain ⟨x, hx⟩ : ∃ x, xs[k]? = some x := ⟨xs[k]'(by have := HL.out; omega), List.getElem?_eq_getElem _⟩
      obtain ⟨y, hy⟩ : ∃ y, ys[k]? = some y := ⟨ys[k]'(by have := HM.out; omega), List.getElem?_eq_getElem _⟩
      obtain ⟨b, off, u, rfl, c1, c2⟩ := H4.out k x hx
      obtain ⟨b', off', u', rfl, c1', c2'⟩ := H5.out k y hy
      have d1 := old_cell HW.out.below c1
      have d1' := old_cell HW.out.below c1'
      have HSM := Lib.hid (rsame_any u u' x y wr.drew (c2.below (below_trans HW.out.below (below_drew _))) (c2'.below (below_trans HW.out.below (below_drew _))))
      obtain ⟨au, cu, rfl, -⟩ := c2
      obtain ⟨au', cu', rfl, -⟩ := c2'
      have HX := Lib.hid hx
      have HY := Lib.hid hy
      have g0 : (k : Int) < (L : Int) := by omega
      clear c1 c1' hx hy
      by_cases hxy : x = y
      · rw [show decide (x = y) = true by simpa using hxy] at HSM
        have HI2 := Lib.hid (same_more2 HX.out (hxy ▸ HY.out) HI.out)
        clear hxy
        go_wp2
        go_region_held3 (fun z => z.cell? ⟨w.heap.size, 3, none⟩ = some (.slice (some ⟨b, off, none⟩) L cap) ∧ z.cell? ⟨w.heap.size + 1, 3, none⟩ = some (.slice (some ⟨b', off', none⟩) L cap') ∧ z.cell? ⟨b, off + k, none⟩ = some (.slice au x.length cu) ∧ z.cell? ⟨b', off' + k, none⟩ = some (.slice au' y.length cu')) (first | exact ⟨s1, s2, d1, d1'⟩ | exact ⟨old_cell b2 s1, old_cell b2 s2, old_cell b2 d1, old_cell b2 d1'⟩) (first | (go_at_call 37; refine HSM.out.mono ?_; rintro e w2 ⟨rfl, b2'⟩; have b2 := below_undrew b2'))
        have B2 := Lib.hid b2
        clear b2 b2'
        go_wp2
        go_roundw
        case rel => exact ⟨k + 1, by go_num, by omega, HW.out.later B2.out, HI2.out⟩
        case measure => simp [intOf]; omega
      · rw [show decide (x = y) = false by simpa using hxy] at HSM
        have E := Lib.hid (ne_of_at HX.out HY.out hxy)
        clear hxy
        go_wp2
        go_region_held3 (fun z => z.cell? ⟨w.heap.size, 3, none⟩ = some (.slice (some ⟨b, off, none⟩) L cap) ∧ z.cell? ⟨w.heap.size + 1, 3, none⟩ = some (.slice (some ⟨b', off', none⟩) L cap') ∧ z.cell? ⟨b, off + k, none⟩ = some (.slice au x.length cu) ∧ z.cell? ⟨b', off' + k, none⟩ = some (.slice au' y.length cu')) (first | exact ⟨s1, s2, d1, d1'⟩ | exact ⟨old_cell b2 s1, old_cell b2 s2, old_cell b2 d1, old_cell b2 d1'⟩) (first | (go_at_call 37; refine HSM.out.mono ?_; rintro e w2 ⟨rfl, b2'⟩; have b2 := below_undrew b2'))
        have B2 := Lib.hid b2
        clear b2 b2'
        go_wp2
        go_ret
        exact ret_b E.out.symm (below_trans HW.out.below B2.out)
    · have g0 : ¬ (k : Int) < (L : Int) := by omega
      have E := Lib.hid (show decide (xs = ys) = true by
        rw [decide_eq_true_eq]
        have h1 := HI.out; have h2 := HL.out; have h3 := HM.out
        rwa [List.take_of_length_le (by omega), List.take_of_length_le (by omega)] at h1)
      go_wp2
      go_ret
      exact ret_b E.out.symm HW.out.below
end Go.Proofs.Ythbmmnjpiflgdaa
