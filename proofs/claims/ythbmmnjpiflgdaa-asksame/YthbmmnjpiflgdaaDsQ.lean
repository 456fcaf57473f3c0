/- Walks of slices.Equal at entries, of desc.Same, and of the document's own SameDesc. -/
import Derived.Test.YthbmmnjpiflgdaaDsC
import Derived.Laws.StructEq
namespace Go.Proofs.Ythbmmnjpiflgdaa
open Go.RowKit

theorem entry_under : Try.prog.underlying 44 = some (.struct (Try.prog.fieldsOf 44)) := by kernel_rfl
theorem entry_held : Try.prog.stoodInHeld 44 = false := by kernel_rfl
theorem entry_guard : Try.prog.eqGuardType Try.prog.depth 44 = false := by kernel_rfl
theorem entry_fields : ∃ f g, (Try.prog.fieldsOf 44).toList = [f, g] ∧ f.type = 9 ∧ g.type = 9 ∧ f.offset = 0 ∧ g.offset = 1 ∧ f.name = "Key" ∧ g.name = "Value" := by
  refine ⟨(Try.prog.fieldsOf 44).getD 0 default, (Try.prog.fieldsOf 44).getD 1 default, ?_, ?_, ?_, ?_, ?_, ?_, ?_⟩ <;> kernel_rfl
theorem part0 (x y : Value) (w : World) : (part 9 #[x, y] 0).run Try.prog w = .ok x w := by kernel_rfl
theorem part1 (x y : Value) (w : World) : (part 9 #[x, y] 1).run Try.prog w = .ok y w := by kernel_rfl
theorem list_beq (a b : List UInt8) : ((⟨a.toArray⟩ : ByteArray).toList == (⟨b.toArray⟩ : ByteArray).toList) = decide (a = b) := by
  rw [ByteArray.toList_eq, ByteArray.toList_eq, Bool.eq_iff_iff, beq_iff_eq, decide_eq_true_eq]
theorem neq_entry (a b c d : List UInt8) (w : World) : (binOp .neq 44 (.agg #[.string ⟨a.toArray⟩, .string ⟨b.toArray⟩]) (.agg #[.string ⟨c.toArray⟩, .string ⟨d.toArray⟩])).run Try.prog w = .ok (.bool (!decide ((a, b) = (c, d)))) w := by
  rw [run_neq_struct, run_equalIn_agg w 9999 _ _ _ entry_under entry_held]
  obtain ⟨f, g, hl, h1, h2, h3, h4, h5, h6⟩ := entry_fields
  rw [hl]
  have k1 : f.name ≠ "_" := by rw [h5]; decide
  have k2 : g.name ≠ "_" := by rw [h6]; decide
  simp only [Op.eqFields, k1, k2, if_true, ne_eq, not_false_eq_true, h1, h2, h3, h4, Sem.run_bind, part0, part1, Result.andThen_ok, run_equalIn_string w 9998 _ _ _ Try.underlying9, list_beq, Sem.run_ite, Sem.run_pure]
  by_cases e1 : a = c <;> by_cases e2 : b = d <;> simp [e1, e2]
theorem entry_sizes : Try.prog.cellsOf 44 = 2 := by kernel_rfl

theorem same_more {xs ys : List D.E} {k : Nat} {e : D.E} (h1 : xs[k]? = some e) (h2 : ys[k]? = some e) (h : xs.take k = ys.take k) : xs.take (k + 1) = ys.take (k + 1) := by
  rw [List.take_add_one, List.take_add_one, h1, h2, h]
/-- Two boxes that were laid at the start. -/
structure Two (w : World) (x y : Value) (wr : World) : Prop where
  below : Below w.heap.size w wr
  first : wr.cell? ⟨w.heap.size, 0, none⟩ = some x
  second : wr.cell? ⟨w.heap.size + 1, 0, none⟩ = some y
theorem Two.drew {w wr : World} {x y : Value} (h : Two w x y wr) : Two w x y wr.drew := ⟨h.below.drew, h.first, h.second⟩
theorem Two.later {w wr w1 : World} {x y : Value} (h : Two w x y wr) (hb : Below wr.heap.size wr w1) : Two w x y w1 :=
  ⟨below_trans h.below hb, (hb.cell (cell_lt h.first)).trans h.first, (hb.cell (cell_lt h.second)).trans h.second⟩
theorem two_boxes (w : World) (t : TypeId) (x y : Value) : Two w x y ((w.alloc (.cells #[x] t)).alloc (.cells #[y] t)) := by
  refine ⟨below_trans (below_alloc _ _) (below_alloc _ _), ?_, ?_⟩
  · have h := box_cell w t x
    exact ((below_alloc (w.alloc (.cells #[x] t)) _).cell (cell_lt h)).trans h
  · have h := box_cell (w.alloc (.cells #[x] t)) t y
    rwa [box_size] at h
set_option maxHeartbeats 2000000 in
theorem equal_any (va vb : Value) (xs ys : List D.E) (w : World) (ha : Rde w va xs) (hb : Rde w vb ys) :
    Calls Try.prog 50 #[va, vb] w fun e w' => e = .returned (.bool (decide (xs = ys))) ∧ Below w.heap.size w w' := by
  have hla : xs.length ≤ 9223372036854775807 := by have := ha.len_le; unfold maxLen at this; omega
  have hlb : ys.length ≤ 9223372036854775807 := by have := hb.len_le; unfold maxLen at this; omega
  obtain ⟨ao, cap, rfl, h1, h2, h3, h4⟩ := ha
  obtain ⟨bo, cap', rfl, h1', h2', h3', h4'⟩ := hb
  obtain ⟨L, hL⟩ : ∃ L, xs.length = L := ⟨_, rfl⟩
  obtain ⟨M, hM⟩ : ∃ M, ys.length = M := ⟨_, rfl⟩
  have HL := Lib.hid hL
  have HM := Lib.hid hM
  have H4 := Lib.hid h4
  have H5 := Lib.hid h4'
  rw [hL, hM]
  rw [hL] at hla
  rw [hM] at hlb
  clear h4 h4' h1 h2 h3 h1' h2' h3'
  have hg := entry_guard
  by_cases hne : L = M
  · subst hne
    clear hL hM
    go_enter Try.func50, Try.ntmps50
    go_wp2
    go_loopw [13] (fun i wr => ∃ (k : Nat), i = .int .i64 (k : Int) ∧ k ≤ L ∧ Hid (Below w.heap.size w wr) ∧ Hid (xs.take k = ys.take k)) (fun i _ => L - (intOf i).toNat)
    case atStart => exact ⟨0, rfl, Nat.zero_le _, Below.refl _ _, by show _ = _; simp⟩
    case round =>
      obtain ⟨k, rfl, hk, HW, HI⟩ := hrel
      by_cases hlt : k < L
      · obtain ⟨x, hx⟩ : ∃ x, xs[k]? = some x := ⟨xs[k]'(by have := HL.out; omega), List.getElem?_eq_getElem _⟩
        obtain ⟨y, hy⟩ : ∃ y, ys[k]? = some y := ⟨ys[k]'(by have := HM.out; omega), List.getElem?_eq_getElem _⟩
        obtain ⟨b, off, rfl, c1, c2⟩ := H4.out k x hx
        obtain ⟨b', off', rfl, c1', c2'⟩ := H5.out k y hy
        have d1 := (HW.out.cell (cell_lt c1)).trans c1
        have d2 := (HW.out.cell (cell_lt c2)).trans c2
        have d1' := (HW.out.cell (cell_lt c1')).trans c1'
        have d2' := (HW.out.cell (cell_lt c2')).trans c2'
        unfold tv at d1 d2 d1' d2'
        have hq := neq_entry x.1 x.2 y.1 y.2
        have HX := Lib.hid hx
        have HY := Lib.hid hy
        have g0 : (k : Int) < (L : Int) := by omega
        clear c1 c2 c1' c2' hx hy
        by_cases hxy : x = y
        · have e : decide ((x.1, x.2) = (y.1, y.2)) = true := by rw [hxy]; simp
          rw [e] at hq
          have HI2 := Lib.hid (same_more HX.out (hxy ▸ HY.out) HI.out)
          clear e hxy
          go_wp2
          go_region
          all_goals
            go_wp2
            go_roundw
            case rel => exact ⟨k + 1, by go_num, by omega, HW.out.drew, HI2.out⟩
            case measure => simp [intOf]; omega
        · have e : decide ((x.1, x.2) = (y.1, y.2)) = false := by simpa using fun h1 h2 => hxy (Prod.ext h1 h2)
          rw [e] at hq
          have E := Lib.hid (show decide (xs = ys) = false by
            rw [decide_eq_false_iff_not]
            intro he
            have h1 := HX.out; have h2 := HY.out
            rw [he] at h1
            exact hxy (Option.some.inj (h1.symm.trans h2)))
          clear e hxy
          go_wp2
          go_region
          all_goals
            go_wp2
            go_ret
            exact ret_b E.out.symm HW.out.drew
      · have g0 : ¬ (k : Int) < (L : Int) := by omega
        have E := Lib.hid (show decide (xs = ys) = true by
          rw [decide_eq_true_eq]
          have h1 := HI.out; have h2 := HL.out; have h3 := HM.out
          rwa [List.take_of_length_le (by omega), List.take_of_length_le (by omega)] at h1)
        go_wp2
        go_ret
        exact ret_b E.out.symm HW.out
  · have E := Lib.hid (show decide (xs = ys) = false by
      rw [decide_eq_false_iff_not]
      intro he
      rw [he] at hL
      exact hne (hL.symm.trans hM))
    have b0 : ((L : Int) == (M : Int)) = false := by simp; omega
    have b1 : ¬ (L : Int) = (M : Int) := by omega
    clear hL hM
    go_enter Try.func50, Try.ntmps50
    go_wp2
    go_ret
    exact ret_b E.out.symm (Below.refl _ _)

set_option maxHeartbeats 800000 in
theorem same_any (va vb : Value) (xs ys : List D.E) (w : World) (ha : Rde w va xs) (hb : Rde w vb ys) :
    Calls Try.prog 39 #[.agg #[va], .agg #[vb]] w fun e w' => e = .returned (.bool (decide (xs = ys))) ∧ Below w.heap.size w w' := by
  have HQ := Lib.hid (fun w' (h : Below w.heap.size w w') => equal_any va vb xs ys w' (ha.below h) (hb.below h))
  clear ha hb
  generalize decide (xs = ys) = r at *
  go_enter Try.func39, Try.ntmps39
  go_wp2_with fail
  have hbb := (two_boxes w 42 va vb).below
  refine (HQ.out _ hbb).mono ?_
  rintro e w1 ⟨rfl, b1⟩
  have B1 := Lib.hid (below_trans hbb b1)
  clear b1 hbb
  go_wp2
  go_ret
  exact ⟨rfl, B1.out⟩

set_option maxHeartbeats 2000000 in
theorem rsame_any (va vb : Value) (xs ys : List D.E) (w : World) (ha : Rde w va xs) (hb : Rde w vb ys) :
    Calls Try.prog 37 #[.agg #[va], .agg #[vb]] w fun e w' => e = .returned (.bool (decide (xs = ys))) ∧ Below w.heap.size w w' := by
  have hla : xs.length ≤ 9223372036854775807 := by have := ha.len_le; unfold maxLen at this; omega
  have hlb : ys.length ≤ 9223372036854775807 := by have := hb.len_le; unfold maxLen at this; omega
  obtain ⟨ao, cap, rfl, h1, h2, h3, h4⟩ := ha
  obtain ⟨bo, cap', rfl, h1', h2', h3', h4'⟩ := hb
  obtain ⟨L, hL⟩ : ∃ L, xs.length = L := ⟨_, rfl⟩
  obtain ⟨M, hM⟩ : ∃ M, ys.length = M := ⟨_, rfl⟩
  have HL := Lib.hid hL
  have HM := Lib.hid hM
  have H4 := Lib.hid h4
  have H5 := Lib.hid h4'
  rw [hL, hM]
  rw [hL] at hla
  rw [hM] at hlb
  clear h4 h4' h1 h2 h3 h1' h2' h3'
  have hg := entry_guard
  by_cases hne : L = M
  · subst hne
    clear hL hM
    go_enter Try.func37, Try.ntmps37
    go_wp2
    go_loopw [5] (fun i wr => ∃ (k : Nat), i = .int .i64 (k : Int) ∧ k ≤ L ∧ Hid (Two w (.slice ao L cap) (.slice bo L cap') wr) ∧ Hid (xs.take k = ys.take k)) (fun i _ => L - (intOf i).toNat)
    case atStart => exact ⟨0, rfl, Nat.zero_le _, two_boxes _ _ _ _, by show _ = _; simp⟩
    case round =>
      obtain ⟨k, rfl, hk, HW, HI⟩ := hrel
      obtain ⟨hbw, hb1, hb2⟩ := HW.out
      have HB := Lib.hid hbw
      clear hbw
      by_cases hlt : k < L
      · obtain ⟨x, hx⟩ : ∃ x, xs[k]? = some x := ⟨xs[k]'(by have := HL.out; omega), List.getElem?_eq_getElem _⟩
        obtain ⟨y, hy⟩ : ∃ y, ys[k]? = some y := ⟨ys[k]'(by have := HM.out; omega), List.getElem?_eq_getElem _⟩
        obtain ⟨b, off, rfl, c1, c2⟩ := H4.out k x hx
        obtain ⟨b', off', rfl, c1', c2'⟩ := H5.out k y hy
        have d1 := (HB.out.cell (cell_lt c1)).trans c1
        have d2 := (HB.out.cell (cell_lt c2)).trans c2
        have d1' := (HB.out.cell (cell_lt c1')).trans c1'
        have d2' := (HB.out.cell (cell_lt c2')).trans c2'
        unfold tv at d1 d2 d1' d2'
        have hq := neq_entry x.1 x.2 y.1 y.2
        have HX := Lib.hid hx
        have HY := Lib.hid hy
        have g0 : (k : Int) < (L : Int) := by omega
        clear c1 c2 c1' c2' hx hy
        by_cases hxy : x = y
        · have e : decide ((x.1, x.2) = (y.1, y.2)) = true := by rw [hxy]; simp
          rw [e] at hq
          have HI2 := Lib.hid (same_more HX.out (hxy ▸ HY.out) HI.out)
          clear e hxy
          go_wp2
          go_region
          all_goals
            go_wp2
            go_roundw
            case rel => exact ⟨k + 1, by go_num, by omega, HW.out.drew, HI2.out⟩
            case measure => simp [intOf]; omega
        · have e : decide ((x.1, x.2) = (y.1, y.2)) = false := by simpa using fun h1 h2 => hxy (Prod.ext h1 h2)
          rw [e] at hq
          have E := Lib.hid (show decide (xs = ys) = false by
            rw [decide_eq_false_iff_not]
            intro he
            have h1 := HX.out; have h2 := HY.out
            rw [he] at h1
            exact hxy (Option.some.inj (h1.symm.trans h2)))
          clear e hxy
          go_wp2
          go_region
          all_goals
            go_wp2
            go_ret
            exact ret_b E.out.symm HB.out.drew
      · have g0 : ¬ (k : Int) < (L : Int) := by omega
        have E := Lib.hid (show decide (xs = ys) = true by
          rw [decide_eq_true_eq]
          have h1 := HI.out; have h2 := HL.out; have h3 := HM.out
          rwa [List.take_of_length_le (by omega), List.take_of_length_le (by omega)] at h1)
        go_wp2
        go_ret
        exact ret_b E.out.symm HB.out
  · have E := Lib.hid (show decide (xs = ys) = false by
      rw [decide_eq_false_iff_not]
      intro he
      rw [he] at hL
      exact hne (hL.symm.trans hM))
    have b0 : ((L : Int) == (M : Int)) = false := by simp; omega
    have b1 : ¬ (L : Int) = (M : Int) := by omega
    clear hL hM
    go_enter Try.func37, Try.ntmps37
    go_wp2
    go_ret
    exact ret_b E.out.symm (below_trans (below_alloc _ _) (below_alloc _ _))
end Go.Proofs.Ythbmmnjpiflgdaa
