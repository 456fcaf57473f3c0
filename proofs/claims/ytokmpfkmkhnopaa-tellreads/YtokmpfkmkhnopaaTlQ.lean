/- Walks of slices.Equal at statuses and at headers, of the document's own two, of tell.Same and SameTell. -/
import Derived.Test.YtokmpfkmkhnopaaTlE
import Derived.Laws.StructEq
namespace Go.Proofs.Ytokmpfkmkhnopaa
open Go.RowKit

theorem head_under : Try.prog.underlying 39 = some (.struct (Try.prog.fieldsOf 39)) := by kernel_rfl
theorem head_held : Try.prog.stoodInHeld 39 = false := by kernel_rfl
theorem head_guard : Try.prog.eqGuardType Try.prog.depth 39 = false := by kernel_rfl
theorem head_fields : ∃ f g, (Try.prog.fieldsOf 39).toList = [f, g] ∧ f.type = 9 ∧ g.type = 9 ∧ f.offset = 0 ∧ g.offset = 1 ∧ f.name = "Name" ∧ g.name = "Value" := by
  refine ⟨(Try.prog.fieldsOf 39).getD 0 default, (Try.prog.fieldsOf 39).getD 1 default, ?_, ?_, ?_, ?_, ?_, ?_, ?_⟩ <;> kernel_rfl
theorem hpart0 (x y : Value) (w : World) : (part 9 #[x, y] 0).run Try.prog w = .ok x w := by kernel_rfl
theorem hpart1 (x y : Value) (w : World) : (part 9 #[x, y] 1).run Try.prog w = .ok y w := by kernel_rfl
theorem tlist_beq (a b : List UInt8) : ((⟨a.toArray⟩ : ByteArray).toList == (⟨b.toArray⟩ : ByteArray).toList) = decide (a = b) := by
  rw [ByteArray.toList_eq, ByteArray.toList_eq, Bool.eq_iff_iff, beq_iff_eq, decide_eq_true_eq]
theorem neq_head (x y : D.E) (w : World) : (binOp .neq 39 (.agg #[.string ⟨x.1.toArray⟩, .string ⟨x.2.toArray⟩]) (.agg #[.string ⟨y.1.toArray⟩, .string ⟨y.2.toArray⟩])).run Try.prog w = .ok (.bool (!decide (x = y))) w := by
  obtain ⟨a, b⟩ := x
  obtain ⟨c, d⟩ := y
  rw [run_neq_struct, run_equalIn_agg w 9999 _ _ _ head_under head_held]
  obtain ⟨f, g, hl, h1, h2, h3, h4, h5, h6⟩ := head_fields
  rw [hl]
  have k1 : f.name ≠ "_" := by rw [h5]; decide
  have k2 : g.name ≠ "_" := by rw [h6]; decide
  simp only [Op.eqFields, k1, k2, if_true, ne_eq, not_false_eq_true, h1, h2, h3, h4, Sem.run_bind, hpart0, hpart1, Result.andThen_ok, run_equalIn_string w 9998 _ _ _ Try.underlying9, tlist_beq, Sem.run_ite, Sem.run_pure]
  by_cases e1 : a = c <;> by_cases e2 : b = d <;> simp [e1, e2]
theorem head_sizes : Try.prog.cellsOf 39 = 2 := by kernel_rfl
theorem status_under : Try.prog.underlying 41 = some (.struct (Try.prog.fieldsOf 41)) := by kernel_rfl
theorem status_held : Try.prog.stoodInHeld 41 = false := by kernel_rfl
theorem status_guard : Try.prog.eqGuardType Try.prog.depth 41 = false := by kernel_rfl
theorem status_sizes : Try.prog.cellsOf 41 = 5 := by kernel_rfl
theorem status_fields : ∃ f0 f1 f2 f3 f4, (Try.prog.fieldsOf 41).toList = [f0, f1, f2, f3, f4] ∧ f0.type = 3 ∧ f1.type = 3 ∧ f2.type = 3 ∧ f3.type = 3 ∧ f4.type = 3 ∧ f0.offset = 0 ∧ f1.offset = 1 ∧ f2.offset = 2 ∧ f3.offset = 3 ∧ f4.offset = 4 ∧ f0.name = "Code" ∧ f1.name = "Limit" ∧ f2.name = "Unit" ∧ f3.name = "Left" ∧ f4.name = "Reset" := by
  refine ⟨(Try.prog.fieldsOf 41).getD 0 default, (Try.prog.fieldsOf 41).getD 1 default, (Try.prog.fieldsOf 41).getD 2 default, (Try.prog.fieldsOf 41).getD 3 default, (Try.prog.fieldsOf 41).getD 4 default, ?_, ?_, ?_, ?_, ?_, ?_, ?_, ?_, ?_, ?_, ?_, ?_, ?_, ?_, ?_, ?_⟩ <;> kernel_rfl
theorem spart0 (x y z u v : Value) (w : World) : (part 3 #[x, y, z, u, v] 0).run Try.prog w = .ok x w := by kernel_rfl
theorem spart1 (x y z u v : Value) (w : World) : (part 3 #[x, y, z, u, v] 1).run Try.prog w = .ok y w := by kernel_rfl
theorem spart2 (x y z u v : Value) (w : World) : (part 3 #[x, y, z, u, v] 2).run Try.prog w = .ok z w := by kernel_rfl
theorem spart3 (x y z u v : Value) (w : World) : (part 3 #[x, y, z, u, v] 3).run Try.prog w = .ok u w := by kernel_rfl
theorem spart4 (x y z u v : Value) (w : World) : (part 3 #[x, y, z, u, v] 4).run Try.prog w = .ok v w := by kernel_rfl
theorem neq_status (x y : TL.S) (w : World) : (binOp .neq 41 (.agg #[.int .i64 x.1, .int .i64 x.2.1, .int .i64 x.2.2.1, .int .i64 x.2.2.2.1, .int .i64 x.2.2.2.2]) (.agg #[.int .i64 y.1, .int .i64 y.2.1, .int .i64 y.2.2.1, .int .i64 y.2.2.2.1, .int .i64 y.2.2.2.2])).run Try.prog w = .ok (.bool (!decide (x = y))) w := by
  obtain ⟨a, b, c, d, e⟩ := x
  obtain ⟨a', b', c', d', e'⟩ := y
  rw [run_neq_struct, run_equalIn_agg w 9999 _ _ _ status_under status_held]
  obtain ⟨f0, f1, f2, f3, f4, hl, t0, t1, t2, t3, t4, o0, o1, o2, o3, o4, n0, n1, n2, n3, n4⟩ := status_fields
  rw [hl]
  have k0 : f0.name ≠ "_" := by rw [n0]; decide
  have k1 : f1.name ≠ "_" := by rw [n1]; decide
  have k2 : f2.name ≠ "_" := by rw [n2]; decide
  have k3 : f3.name ≠ "_" := by rw [n3]; decide
  have k4 : f4.name ≠ "_" := by rw [n4]; decide
  simp only [Op.eqFields, k0, k1, k2, k3, k4, if_true, ne_eq, not_false_eq_true, t0, t1, t2, t3, t4, o0, o1, o2, o3, o4, Sem.run_bind, spart0, spart1, spart2, spart3, spart4, Result.andThen_ok, run_equalIn_int w 9998 _ .i64 _ _ _ Try.underlying3, Sem.run_ite, Sem.run_pure]
  by_cases e0 : a = a' <;> by_cases e1 : b = b' <;> by_cases e2 : c = c' <;> by_cases e3 : d = d' <;> by_cases e4 : e = e' <;> simp [e0, e1, e2, e3, e4]
theorem same_moreA {α : Type} {xs ys : List α} {k : Nat} {e : α} (h1 : xs[k]? = some e) (h2 : ys[k]? = some e) (h : xs.take k = ys.take k) : xs.take (k + 1) = ys.take (k + 1) := by
  rw [List.take_add_one, List.take_add_one, h1, h2, h]
theorem ne_atA {α : Type} [DecidableEq α] {xs ys : List α} {k : Nat} {x y : α} (h1 : xs[k]? = some x) (h2 : ys[k]? = some y) (h : x ≠ y) : decide (xs = ys) = false := by
  rw [decide_eq_false_iff_not]
  rintro rfl
  exact h (Option.some.inj (h1.symm.trans h2))
theorem ne_lenA {α : Type} [DecidableEq α] {xs ys : List α} (h : xs.length ≠ ys.length) : decide (xs = ys) = false := by
  rw [decide_eq_false_iff_not]
  rintro rfl
  exact h rfl
theorem eq_allA {α : Type} [DecidableEq α] {xs ys : List α} {k : Nat} (h : xs.take k = ys.take k) (h1 : xs.length ≤ k) (h2 : ys.length ≤ k) : decide (xs = ys) = true := by
  rw [decide_eq_true_eq]
  rwa [List.take_of_length_le h1, List.take_of_length_le h2] at h

set_option maxHeartbeats 4000000 in
theorem equalS_any (va vb : Value) (xs ys : List TL.S) (w : World) (ha : Rds w va xs) (hb : Rds w vb ys) :
    Calls Try.prog 39 #[va, vb] w fun e w' => e = .returned (.bool (decide (xs = ys))) ∧ Below w.heap.size w w' := by
  have hla : xs.length ≤ 9223372036854775807 := by have := ha.len_le; unfold maxLen at this; omega
  have hlb : ys.length ≤ 9223372036854775807 := by have := hb.len_le; unfold maxLen at this; omega
  obtain ⟨ao, cap, rfl, h1, h2, h3, h4⟩ := ha
  obtain ⟨bo, cap', rfl, h1', h2', h3', h4'⟩ := hb
  obtain ⟨L, hL⟩ : ∃ L, xs.length = L := ⟨_, rfl⟩
  obtain ⟨M, hM⟩ : ∃ M, ys.length = M := ⟨_, rfl⟩
  have HL := Lib.hid hL
  have HM := Lib.hid hM
  have H4 := Lib.hid h4
  have H5 := Lib.hid h4'
  rw [hL, hM]
  rw [hL] at hla
  rw [hM] at hlb
  clear h4 h4' h1 h2 h3 h1' h2' h3'
  have hg := status_guard
  by_cases hne : L = M
  · subst hne
    clear hL hM
    go_enter Try.func39, Try.ntmps39
    go_wp2
    go_loopw [13] (fun i wr => ∃ (k : Nat), i = .int .i64 (k : Int) ∧ k ≤ L ∧ Hid (Below w.heap.size w wr) ∧ Hid (xs.take k = ys.take k)) (fun i _ => L - (intOf i).toNat)
    case atStart => exact ⟨0, rfl, Nat.zero_le _, Below.refl _ _, by show _ = _; simp⟩
    case round =>
      obtain ⟨k, rfl, hk, HW, HI⟩ := hrel
      by_cases hlt : k < L
      · obtain ⟨x, hx⟩ : ∃ x, xs[k]? = some x := ⟨xs[k]'(by have := HL.out; omega), List.getElem?_eq_getElem _⟩
        obtain ⟨y, hy⟩ : ∃ y, ys[k]? = some y := ⟨ys[k]'(by have := HM.out; omega), List.getElem?_eq_getElem _⟩
        obtain ⟨b, off, rfl, c⟩ := H4.out k x hx
        obtain ⟨b', off', rfl, c'⟩ := H5.out k y hy
        obtain ⟨d0, d1, d2, d3, d4⟩ := c.below HW.out
        obtain ⟨d0', d1', d2', d3', d4'⟩ := c'.below HW.out
        have hq := neq_status x y
        have HX := Lib.hid hx
        have HY := Lib.hid hy
        have g0 : (k : Int) < (L : Int) := by omega
        clear c c' hx hy
        by_cases hxy : x = y
        · rw [show decide (x = y) = true by simpa using hxy] at hq
          have HI2 := Lib.hid (same_moreA HX.out (hxy ▸ HY.out) HI.out)
          clear hxy
          go_wp2
          go_region
          all_goals
            go_wp2
            go_roundw
            case rel => exact ⟨k + 1, by go_num, by omega, HW.out.drew, HI2.out⟩
            case measure => simp [intOf]; omega
        · rw [show decide (x = y) = false by simpa using hxy] at hq
          have E := Lib.hid (ne_atA HX.out HY.out hxy)
          clear hxy
          go_wp2
          go_region
          all_goals
            go_wp2
            go_ret
            exact ret_b E.out.symm HW.out.drew
      · have g0 : ¬ (k : Int) < (L : Int) := by omega
        have E := Lib.hid (eq_allA HI.out (by have := HL.out; omega) (by have := HM.out; omega))
        go_wp2
        go_ret
        exact ret_b E.out.symm HW.out
  · have E := Lib.hid (ne_lenA (xs := xs) (ys := ys) (by omega))
    have b0 : ((L : Int) == (M : Int)) = false := by simp; omega
    have b1 : ¬ (L : Int) = (M : Int) := by omega
    clear hL hM
    go_enter Try.func39, Try.ntmps39
    go_wp2
    go_ret
    exact ret_b E.out.symm (Below.refl _ _)

set_option maxHeartbeats 4000000 in
theorem equalH_any (va vb : Value) (xs ys : List D.E) (w : World) (ha : Rde w va xs) (hb : Rde w vb ys) :
    Calls Try.prog 40 #[va, vb] w fun e w' => e = .returned (.bool (decide (xs = ys))) ∧ Below w.heap.size w w' := by
  have hla : xs.length ≤ 9223372036854775807 := by have := ha.len_le; unfold maxLen at this; omega
  have hlb : ys.length ≤ 9223372036854775807 := by have := hb.len_le; unfold maxLen at this; omega
  obtain ⟨ao, cap, rfl, h1, h2, h3, h4⟩ := ha
  obtain ⟨bo, cap', rfl, h1', h2', h3', h4'⟩ := hb
  obtain ⟨L, hL⟩ : ∃ L, xs.length = L := ⟨_, rfl⟩
  obtain ⟨M, hM⟩ : ∃ M, ys.length = M := ⟨_, rfl⟩
  have HL := Lib.hid hL
  have HM := Lib.hid hM
  have H4 := Lib.hid h4
  have H5 := Lib.hid h4'
  rw [hL, hM]
  rw [hL] at hla
  rw [hM] at hlb
  clear h4 h4' h1 h2 h3 h1' h2' h3'
  have hg := head_guard
  by_cases hne : L = M
  · subst hne
    clear hL hM
    go_enter Try.func40, Try.ntmps40
    go_wp2
    go_loopw [13] (fun i wr => ∃ (k : Nat), i = .int .i64 (k : Int) ∧ k ≤ L ∧ Hid (Below w.heap.size w wr) ∧ Hid (xs.take k = ys.take k)) (fun i _ => L - (intOf i).toNat)
    case atStart => exact ⟨0, rfl, Nat.zero_le _, Below.refl _ _, by show _ = _; simp⟩
    case round =>
      obtain ⟨k, rfl, hk, HW, HI⟩ := hrel
      by_cases hlt : k < L
      · obtain ⟨x, hx⟩ : ∃ x, xs[k]? = some x := ⟨xs[k]'(by have := HL.out; omega), List.getElem?_eq_getElem _⟩
        obtain ⟨y, hy⟩ : ∃ y, ys[k]? = some y := ⟨ys[k]'(by have := HM.out; omega), List.getElem?_eq_getElem _⟩
        obtain ⟨b, off, rfl, c1, c2⟩ := H4.out k x hx
        obtain ⟨b', off', rfl, c1', c2'⟩ := H5.out k y hy
        have d1 := (HW.out.cell (cell_lt c1)).trans c1
        have d2 := (HW.out.cell (cell_lt c2)).trans c2
        have d1' := (HW.out.cell (cell_lt c1')).trans c1'
        have d2' := (HW.out.cell (cell_lt c2')).trans c2'
        unfold tv at d1 d2 d1' d2'
        have hq := neq_head x y
        have HX := Lib.hid hx
        have HY := Lib.hid hy
        have g0 : (k : Int) < (L : Int) := by omega
        clear c1 c2 c1' c2' hx hy
        by_cases hxy : x = y
        · rw [show decide (x = y) = true by simpa using hxy] at hq
          have HI2 := Lib.hid (same_moreA HX.out (hxy ▸ HY.out) HI.out)
          clear hxy
          go_wp2
          go_region
          all_goals
            go_wp2
            go_roundw
            case rel => exact ⟨k + 1, by go_num, by omega, HW.out.drew, HI2.out⟩
            case measure => simp [intOf]; omega
        · rw [show decide (x = y) = false by simpa using hxy] at hq
          have E := Lib.hid (ne_atA HX.out HY.out hxy)
          clear hxy
          go_wp2
          go_region
          all_goals
            go_wp2
            go_ret
            exact ret_b E.out.symm HW.out.drew
      · have g0 : ¬ (k : Int) < (L : Int) := by omega
        have E := Lib.hid (eq_allA HI.out (by have := HL.out; omega) (by have := HM.out; omega))
        go_wp2
        go_ret
        exact ret_b E.out.symm HW.out
  · have E := Lib.hid (ne_lenA (xs := xs) (ys := ys) (by omega))
    have b0 : ((L : Int) == (M : Int)) = false := by simp; omega
    have b1 : ¬ (L : Int) = (M : Int) := by omega
    clear hL hM
    go_enter Try.func40, Try.ntmps40
    go_wp2
    go_ret
    exact ret_b E.out.symm (Below.refl _ _)

set_option maxHeartbeats 4000000 in
theorem sameStatuses_any (va vb : Value) (xs ys : List TL.S) (w : World) (ha : Rds w va xs) (hb : Rds w vb ys) :
    Calls Try.prog 37 #[va, vb] w fun e w' => e = .returned (.bool (decide (xs = ys))) ∧ Below w.heap.size w w' := by
  have hla : xs.length ≤ 9223372036854775807 := by have := ha.len_le; unfold maxLen at this; omega
  have hlb : ys.length ≤ 9223372036854775807 := by have := hb.len_le; unfold maxLen at this; omega
  obtain ⟨ao, cap, rfl, h1, h2, h3, h4⟩ := ha
  obtain ⟨bo, cap', rfl, h1', h2', h3', h4'⟩ := hb
  obtain ⟨L, hL⟩ : ∃ L, xs.length = L := ⟨_, rfl⟩
  obtain ⟨M, hM⟩ : ∃ M, ys.length = M := ⟨_, rfl⟩
  have HL := Lib.hid hL
  have HM := Lib.hid hM
  have H4 := Lib.hid h4
  have H5 := Lib.hid h4'
  rw [hL, hM]
  rw [hL] at hla
  rw [hM] at hlb
  clear h4 h4' h1 h2 h3 h1' h2' h3'
  have hg := status_guard
  by_cases hne : L = M
  · subst hne
    clear hL hM
    go_enter Try.func37, Try.ntmps37
    go_wp2
    go_loopw [5] (fun i wr => ∃ (k : Nat), i = .int .i64 (k : Int) ∧ k ≤ L ∧ Hid (Below w.heap.size w wr) ∧ Hid (xs.take k = ys.take k)) (fun i _ => L - (intOf i).toNat)
    case atStart => exact ⟨0, rfl, Nat.zero_le _, Below.refl _ _, by show _ = _; simp⟩
    case round =>
      obtain ⟨k, rfl, hk, HW, HI⟩ := hrel
      by_cases hlt : k < L
      · obtain ⟨x, hx⟩ : ∃ x, xs[k]? = some x := ⟨xs[k]'(by have := HL.out; omega), List.getElem?_eq_getElem _⟩
        obtain ⟨y, hy⟩ : ∃ y, ys[k]? = some y := ⟨ys[k]'(by have := HM.out; omega), List.getElem?_eq_getElem _⟩
        obtain ⟨b, off, rfl, c⟩ := H4.out k x hx
        obtain ⟨b', off', rfl, c'⟩ := H5.out k y hy
        obtain ⟨d0, d1, d2, d3, d4⟩ := c.below HW.out
        obtain ⟨d0', d1', d2', d3', d4'⟩ := c'.below HW.out
        have hq := neq_status x y
        have HX := Lib.hid hx
        have HY := Lib.hid hy
        have g0 : (k : Int) < (L : Int) := by omega
        clear c c' hx hy
        by_cases hxy : x = y
        · rw [show decide (x = y) = true by simpa using hxy] at hq
          have HI2 := Lib.hid (same_moreA HX.out (hxy ▸ HY.out) HI.out)
          clear hxy
          go_wp2
          go_region
          all_goals
            go_wp2
            go_roundw
            case rel => exact ⟨k + 1, by go_num, by omega, HW.out.drew, HI2.out⟩
            case measure => simp [intOf]; omega
        · rw [show decide (x = y) = false by simpa using hxy] at hq
          have E := Lib.hid (ne_atA HX.out HY.out hxy)
          clear hxy
          go_wp2
          go_region
          all_goals
            go_wp2
            go_ret
            exact ret_b E.out.symm HW.out.drew
      · have g0 : ¬ (k : Int) < (L : Int) := by omega
        have E := Lib.hid (eq_allA HI.out (by have := HL.out; omega) (by have := HM.out; omega))
        go_wp2
        go_ret
        exact ret_b E.out.symm HW.out
  · have E := Lib.hid (ne_lenA (xs := xs) (ys := ys) (by omega))
    have b0 : ((L : Int) == (M : Int)) = false := by simp; omega
    have b1 : ¬ (L : Int) = (M : Int) := by omega
    clear hL hM
    go_enter Try.func37, Try.ntmps37
    go_wp2
    go_ret
    exact ret_b E.out.symm (Below.refl _ _)

set_option maxHeartbeats 4000000 in
theorem sameHeads_any (va vb : Value) (xs ys : List D.E) (w : World) (ha : Rde w va xs) (hb : Rde w vb ys) :
    Calls Try.prog 38 #[va, vb] w fun e w' => e = .returned (.bool (decide (xs = ys))) ∧ Below w.heap.size w w' := by
  have hla : xs.length ≤ 9223372036854775807 := by have := ha.len_le; unfold maxLen at this; omega
  have hlb : ys.length ≤ 9223372036854775807 := by have := hb.len_le; unfold maxLen at this; omega
  obtain ⟨ao, cap, rfl, h1, h2, h3, h4⟩ := ha
  obtain ⟨bo, cap', rfl, h1', h2', h3', h4'⟩ := hb
  obtain ⟨L, hL⟩ : ∃ L, xs.length = L := ⟨_, rfl⟩
  obtain ⟨M, hM⟩ : ∃ M, ys.length = M := ⟨_, rfl⟩
  have HL := Lib.hid hL
  have HM := Lib.hid hM
  have H4 := Lib.hid h4
  have H5 := Lib.hid h4'
  rw [hL, hM]
  rw [hL] at hla
  rw [hM] at hlb
  clear h4 h4' h1 h2 h3 h1' h2' h3'
  have hg := head_guard
  by_cases hne : L = M
  · subst hne
    clear hL hM
    go_enter Try.func38, Try.ntmps38
    go_wp2
    go_loopw [5] (fun i wr => ∃ (k : Nat), i = .int .i64 (k : Int) ∧ k ≤ L ∧ Hid (Below w.heap.size w wr) ∧ Hid (xs.take k = ys.take k)) (fun i _ => L - (intOf i).toNat)
    case atStart => exact ⟨0, rfl, Nat.zero_le _, Below.refl _ _, by show _ = _; simp⟩
    case round =>
      obtain ⟨k, rfl, hk, HW, HI⟩ := hrel
      by_cases hlt : k < L
      · obtain ⟨x, hx⟩ : ∃ x, xs[k]? = some x := ⟨xs[k]'(by have := HL.out; omega), List.getElem?_eq_getElem _⟩
        obtain ⟨y, hy⟩ : ∃ y, ys[k]? = some y := ⟨ys[k]'(by have := HM.out; omega), List.getElem?_eq_getElem _⟩
        obtain ⟨b, off, rfl, c1, c2⟩ := H4.out k x hx
        obtain ⟨b', off', rfl, c1', c2'⟩ := H5.out k y hy
        have d1 := (HW.out.cell (cell_lt c1)).trans c1
        have d2 := (HW.out.cell (cell_lt c2)).trans c2
        have d1' := (HW.out.cell (cell_lt c1')).trans c1'
        have d2' := (HW.out.cell (cell_lt c2')).trans c2'
        unfold tv at d1 d2 d1' d2'
        have hq := neq_head x y
        have HX := Lib.hid hx
        have HY := Lib.hid hy
        have g0 : (k : Int) < (L : Int) := by omega
        clear c1 c2 c1' c2' hx hy
        by_cases hxy : x = y
        · rw [show decide (x = y) = true by simpa using hxy] at hq
          have HI2 := Lib.hid (same_moreA HX.out (hxy ▸ HY.out) HI.out)
          clear hxy
          go_wp2
          go_region
          all_goals
            go_wp2
            go_roundw
            case rel => exact ⟨k + 1, by go_num, by omega, HW.out.drew, HI2.out⟩
            case measure => simp [intOf]; omega
        · rw [show decide (x = y) = false by simpa using hxy] at hq
          have E := Lib.hid (ne_atA HX.out HY.out hxy)
          clear hxy
          go_wp2
          go_region
          all_goals
            go_wp2
            go_ret
            exact ret_b E.out.symm HW.out.drew
      · have g0 : ¬ (k : Int) < (L : Int) := by omega
        have E := Lib.hid (eq_allA HI.out (by have := HL.out; omega) (by have := HM.out; omega))
        go_wp2
        go_ret
        exact ret_b E.out.symm HW.out
  · have E := Lib.hid (ne_lenA (xs := xs) (ys := ys) (by omega))
    have b0 : ((L : Int) == (M : Int)) = false := by simp; omega
    have b1 : ¬ (L : Int) = (M : Int) := by omega
    clear hL hM
    go_enter Try.func38, Try.ntmps38
    go_wp2
    go_ret
    exact ret_b E.out.symm (Below.refl _ _)

theorem bool_beq (a b : Bool) : (a == b) = decide (a = b) := by cases a <;> cases b <;> rfl
theorem tsame_id {a b : TL.T} (h : a.1 ≠ b.1) : TL.same a b = false := by simp [TL.same, h]
theorem tsame_code {a b : TL.T} (h : a.2.1 ≠ b.2.1) : TL.same a b = false := by simp [TL.same, h]
theorem tsame_full {a b : TL.T} (h : a.2.2.1 ≠ b.2.2.1) : TL.same a b = false := by simp [TL.same, h]
theorem tsame_ss {a b : TL.T} (h : decide (a.2.2.2.1 = b.2.2.2.1) = false) : TL.same a b = false := by simp [TL.same, h]
theorem tsame_hs {id code : Int} {full : Bool} {ss : List TL.S} {hs hs' : List D.E} : TL.same (id, code, full, ss, hs) (id, code, full, ss, hs') = decide (hs = hs') := by simp [TL.same]
/-- Two replies as they lie. -/
structure TwoT (w : World) (a b : Array Value) (wr : World) : Prop where
  below : Below w.heap.size w wr
  first : Str wr w.heap.size 25 a
  second : Str wr (w.heap.size + 1) 25 b
theorem TwoT.new (w : World) (a b : Array Value) : TwoT w a b ((w.alloc (.cells a 25)).alloc (.cells b 25)) := by
  refine ⟨below_trans (below_alloc _ _) (below_alloc _ _), (Str.new w _ _).below (below_alloc _ _), ?_⟩
  have := Str.new (w.alloc (.cells a 25)) 25 b
  rwa [box_size] at this
theorem TwoT.later {w wr w1 : World} {a b : Array Value} (h : TwoT w a b wr) (hb : Below wr.heap.size wr w1) : TwoT w a b w1 := ⟨below_trans h.below hb, h.first.below hb, h.second.below hb⟩

set_option maxHeartbeats 4000000 in
theorem tsame_any (a b : TL.T) (va vh va' vh' : Value) (w : World) (ha : Rdt w va vh a.2.2.2.1 a.2.2.2.2) (hb : Rdt w va' vh' b.2.2.2.1 b.2.2.2.2) :
    Calls Try.prog 16 #[.agg #[.int .i64 a.1, .int .i64 a.2.1, .bool a.2.2.1, va, vh], .agg #[.int .i64 b.1, .int .i64 b.2.1, .bool b.2.2.1, va', vh']] w fun e w' => e = .returned (.bool (TL.same a b)) ∧ Below w.heap.size w w' := by
  have HQS := Lib.hid (fun x (hx : Below w.heap.size w x) => equalS_any va va' a.2.2.2.1 b.2.2.2.1 x (ha.s.below hx) (hb.s.below hx))
  have HQH := Lib.hid (fun x (hx : Below w.heap.size w x) => equalH_any vh vh' a.2.2.2.2 b.2.2.2.2 x (ha.h.below hx) (hb.h.below hx))
  have N1 := Lib.hid (@tsame_id a b)
  have N2 := Lib.hid (@tsame_code a b)
  have N3 := Lib.hid (@tsame_full a b)
  have N4 := Lib.hid (@tsame_ss a b)
  obtain ⟨i, c, f, ss, hs⟩ := a
  obtain ⟨i', c', f', ss', hs'⟩ := b
  simp only at HQS HQH N1 N2 N3 N4 ha hb ⊢
  obtain ⟨⟨az, cz, rfl, -⟩, ⟨ah, ch, rfl, -⟩⟩ := ha
  obtain ⟨⟨az', cz', rfl, -⟩, ⟨ah', ch', rfl, -⟩⟩ := hb
  have HT := Lib.hid (TwoT.new w #[.int .i64 i, .int .i64 c, .bool f, .slice az ss.length cz, .slice ah hs.length ch] #[.int .i64 i', .int .i64 c', .bool f', .slice az' ss'.length cz', .slice ah' hs'.length ch'])
  obtain ⟨L1, hL1⟩ : ∃ L, ss.length = L := ⟨_, rfl⟩
  obtain ⟨L2, hL2⟩ : ∃ L, hs.length = L := ⟨_, rfl⟩
  obtain ⟨L3, hL3⟩ : ∃ L, ss'.length = L := ⟨_, rfl⟩
  obtain ⟨L4, hL4⟩ : ∃ L, hs'.length = L := ⟨_, rfl⟩
  rw [hL1, hL2, hL3, hL4] at HT ⊢
  rw [hL1, hL3] at HQS
  rw [hL2, hL4] at HQH
  clear hL1 hL2 hL3 hL4
  by_cases h1 : i = i'
  case neg =>
    have E := Lib.hid (N1.out h1)
    have b0 : (i == i') = false := by simpa using h1
    clear HQS HQH N1 N2 N3 N4
    go_enter Try.func16, Try.ntmps16
    go_wp2
    go_ret
    exact ret_b E.out.symm HT.out.below
  subst h1
  by_cases h2 : c = c'
  case neg =>
    have E := Lib.hid (N2.out h2)
    have b0 : (c == c') = false := by simpa using h2
    clear HQS HQH N1 N2 N3 N4
    go_enter Try.func16, Try.ntmps16
    go_wp2
    go_ret
    exact ret_b E.out.symm HT.out.below
  subst h2
  by_cases h3 : f = f'
  case neg =>
    have E := Lib.hid (N3.out h3)
    have b0 : (f == f') = false := by simpa using h3
    clear HQS HQH N1 N2 N3 N4
    go_enter Try.func16, Try.ntmps16
    go_wp2
    go_ret
    exact ret_b E.out.symm HT.out.below
  subst h3
  have bf : (f == f) = true := by simp
  have HS1 := Lib.hid (HQS.out _ HT.out.below)
  cases hss : decide (ss = ss')
  · have E := Lib.hid (N4.out hss)
    rw [hss] at HS1
    clear HQS HQH N1 N2 N3 N4 hss
    go_enter Try.func16, Try.ntmps16
    go_wp2_with fail
    refine HS1.out.mono ?_
    rintro e w1 ⟨rfl, b1⟩
    have B1 := Lib.hid (below_trans HT.out.below b1)
    clear b1
    go_wp2
    go_ret
    exact ret_b E.out.symm B1.out
  · have hss' := of_decide_eq_true hss
    rw [hss] at HS1
    subst hss'
    rw [tsame_hs]
    generalize decide (hs = hs') = r at *
    clear HQS N1 N2 N3 N4 hss
    go_enter Try.func16, Try.ntmps16
    go_wp2_with fail
    refine HS1.out.mono ?_
    rintro e w1 ⟨rfl, b1⟩
    have HT1 := Lib.hid (HT.out.later b1)
    obtain ⟨c0, c1, c2, c3, c4⟩ := HT1.out.first.cells5
    obtain ⟨d0, d1, d2, d3, d4⟩ := HT1.out.second.cells5
    have HH1 := Lib.hid (HQH.out _ HT1.out.below)
    clear b1 HS1 HQH HT
    go_wp2_with fail
    refine HH1.out.mono ?_
    rintro e w2 ⟨rfl, b2⟩
    have B2 := Lib.hid (below_trans HT1.out.below b2)
    clear b2 c0 c1 c2 c3 c4 d0 d1 d2 d3 d4
    go_wp2
    go_ret
    exact ⟨rfl, B2.out⟩

set_option maxHeartbeats 4000000 in
theorem rsameTell_any (a b : TL.T) (va vh va' vh' : Value) (w : World) (ha : Rdt w va vh a.2.2.2.1 a.2.2.2.2) (hb : Rdt w va' vh' b.2.2.2.1 b.2.2.2.2) :
    Calls Try.prog 15 #[.agg #[.int .i64 a.1, .int .i64 a.2.1, .bool a.2.2.1, va, vh], .agg #[.int .i64 b.1, .int .i64 b.2.1, .bool b.2.2.1, va', vh']] w fun e w' => e = .returned (.bool (TL.same a b)) ∧ Below w.heap.size w w' := by
  have HQS := Lib.hid (fun x (hx : Below w.heap.size w x) => sameStatuses_any va va' a.2.2.2.1 b.2.2.2.1 x (ha.s.below hx) (hb.s.below hx))
  have HQH := Lib.hid (fun x (hx : Below w.heap.size w x) => sameHeads_any vh vh' a.2.2.2.2 b.2.2.2.2 x (ha.h.below hx) (hb.h.below hx))
  have N1 := Lib.hid (@tsame_id a b)
  have N2 := Lib.hid (@tsame_code a b)
  have N3 := Lib.hid (@tsame_full a b)
  have N4 := Lib.hid (@tsame_ss a b)
  obtain ⟨i, c, f, ss, hs⟩ := a
  obtain ⟨i', c', f', ss', hs'⟩ := b
  simp only at HQS HQH N1 N2 N3 N4 ha hb ⊢
  obtain ⟨⟨az, cz, rfl, -⟩, ⟨ah, ch, rfl, -⟩⟩ := ha
  obtain ⟨⟨az', cz', rfl, -⟩, ⟨ah', ch', rfl, -⟩⟩ := hb
  have HT := Lib.hid (TwoT.new w #[.int .i64 i, .int .i64 c, .bool f, .slice az ss.length cz, .slice ah hs.length ch] #[.int .i64 i', .int .i64 c', .bool f', .slice az' ss'.length cz', .slice ah' hs'.length ch'])
  obtain ⟨L1, hL1⟩ : ∃ L, ss.length = L := ⟨_, rfl⟩
  obtain ⟨L2, hL2⟩ : ∃ L, hs.length = L := ⟨_, rfl⟩
  obtain ⟨L3, hL3⟩ : ∃ L, ss'.length = L := ⟨_, rfl⟩
  obtain ⟨L4, hL4⟩ : ∃ L, hs'.length = L := ⟨_, rfl⟩
  rw [hL1, hL2, hL3, hL4] at HT ⊢
  rw [hL1, hL3] at HQS
  rw [hL2, hL4] at HQH
  clear hL1 hL2 hL3 hL4
  by_cases h1 : i = i'
  case neg =>
    have E := Lib.hid (N1.out h1)
    have b0 : (i == i') = false := by simpa using h1
    clear HQS HQH N1 N2 N3 N4
    go_enter Try.func15, Try.ntmps15
    go_wp2
    go_ret
    exact ret_b E.out.symm HT.out.below
  subst h1
  by_cases h2 : c = c'
  case neg =>
    have E := Lib.hid (N2.out h2)
    have b0 : (c == c') = false := by simpa using h2
    clear HQS HQH N1 N2 N3 N4
    go_enter Try.func15, Try.ntmps15
    go_wp2
    go_ret
    exact ret_b E.out.symm HT.out.below
  subst h2
  by_cases h3 : f = f'
  case neg =>
    have E := Lib.hid (N3.out h3)
    have b0 : (f == f') = false := by simpa using h3
    clear HQS HQH N1 N2 N3 N4
    go_enter Try.func15, Try.ntmps15
    go_wp2
    go_ret
    exact ret_b E.out.symm HT.out.below
  subst h3
  have bf : (f == f) = true := by simp
  have HS1 := Lib.hid (HQS.out _ HT.out.below)
  cases hss : decide (ss = ss')
  · have E := Lib.hid (N4.out hss)
    rw [hss] at HS1
    clear HQS HQH N1 N2 N3 N4 hss
    go_enter Try.func15, Try.ntmps15
    go_wp2_with fail
    refine HS1.out.mono ?_
    rintro e w1 ⟨rfl, b1⟩
    have B1 := Lib.hid (below_trans HT.out.below b1)
    clear b1
    go_wp2
    go_ret
    exact ret_b E.out.symm B1.out
  · have hss' := of_decide_eq_true hss
    rw [hss] at HS1
    subst hss'
    rw [tsame_hs]
    generalize decide (hs = hs') = r at *
    clear HQS N1 N2 N3 N4 hss
    go_enter Try.func15, Try.ntmps15
    go_wp2_with fail
    refine HS1.out.mono ?_
    rintro e w1 ⟨rfl, b1⟩
    have HT1 := Lib.hid (HT.out.later b1)
    obtain ⟨c0, c1, c2, c3, c4⟩ := HT1.out.first.cells5
    obtain ⟨d0, d1, d2, d3, d4⟩ := HT1.out.second.cells5
    have HH1 := Lib.hid (HQH.out _ HT1.out.below)
    clear b1 HS1 HQH HT
    go_wp2_with fail
    refine HH1.out.mono ?_
    rintro e w2 ⟨rfl, b2⟩
    have B2 := Lib.hid (below_trans HT1.out.below b2)
    clear b2 c0 c1 c2 c3 c4 d0 d1 d2 d3 d4
    go_wp2
    go_ret
    exact ⟨rfl, B2.out⟩
end Go.Proofs.Ytokmpfkmkhnopaa
