/- Walks of heavy, Check, and the document's own CheckDesc. -/
import Derived.Test.YthbmmnjpiflgdaaDsE
namespace Go.Proofs.Ythbmmnjpiflgdaa
open Go.RowKit

theorem box_cell (w : World) (t : TypeId) (x : Value) : (w.alloc (.cells #[x] t)).cell? ⟨w.heap.size, 0, none⟩ = some x := by
  have h : (w.alloc (.cells #[x] t)).heap[w.heap.size]? = some (.cells #[x] t) := heap_alloc_new w _
  unfold World.cell?
  simp only [h]
  simp
theorem box_below {w wr : World} {t : TypeId} {x : Value} (h : Below (w.heap.size + 1) (w.alloc (.cells #[x] t)) wr) : wr.cell? ⟨w.heap.size, 0, none⟩ = some x :=
  (h.cell (Nat.lt_succ_self _)).trans (box_cell w t x)
theorem box_size (w : World) (o : Obj) : (w.alloc o).heap.size = w.heap.size + 1 := Array.size_push ..
theorem below_box {w wr : World} {o : Obj} (h : Below (w.heap.size + 1) (w.alloc o) wr) : Below w.heap.size w wr := (below_alloc w o).trans (h.mono (Nat.le_succ _))
theorem step_box {w wr w1 : World} {o : Obj} (h : Below (w.heap.size + 1) (w.alloc o) wr) (k : Below wr.heap.size wr w1) : Below (w.heap.size + 1) (w.alloc o) w1 :=
  h.trans (k.mono (by have := h.size; rw [box_size] at this; exact this))
theorem old_below {w wr : World} {o : Obj} {a : Addr} {v : Value} (h : Below (w.heap.size + 1) (w.alloc o) wr) (hc : w.cell? a = some v) : wr.cell? a = some v := ((below_box h).cell (cell_lt hc)).trans hc

theorem two_later {wr w1 : World} {t : TypeId} {x y : Value} (h : Below (wr.alloc (.cells #[x, y] t)).heap.size (wr.alloc (.cells #[x, y] t)) w1) : w1.cell? ⟨wr.heap.size, 1, none⟩ = some y := by
  have hh : (wr.alloc (.cells #[x, y] t)).heap[wr.heap.size]? = some (.cells #[x, y] t) := heap_alloc_new wr _
  have hc : (wr.alloc (.cells #[x, y] t)).cell? ⟨wr.heap.size, 1, none⟩ = some y := by
    unfold World.cell?
    simp only [hh]
    simp
  exact (h.cell (cell_lt hc)).trans hc
def errOf (b : Bool) : Int := if b then 0 else 1
theorem chk_empty : D.chk [] = false := rfl
theorem chk_long {es : List D.E} (h : 8 < es.length) : D.chk es = false := by
  unfold D.chk
  have : decide (es.length ≤ 8) = false := by simp; omega
  rw [this]; simp
theorem chk_bad {es : List D.E} {j : Nat} {e : D.E} (h : es[j]? = some e) (he : D.okE e = false) : D.chk es = false := by
  unfold D.chk
  have : es.all D.okE = false := by
    rw [List.all_eq_false]
    exact ⟨e, List.mem_of_getElem? h, by simp [he]⟩
  rw [this]; simp
theorem chk_good {es : List D.E} (h0 : 1 ≤ es.length) (h1 : es.length ≤ 8) (h : ∀ e ∈ es, D.okE e = true) : D.chk es = true := by
  unfold D.chk
  have e2 : es.all D.okE = true := List.all_eq_true.2 h
  rw [e2]; simp [h0, h1]
theorem okE_cases (e : D.E) : (D.nm e.1 = false ∧ D.okE e = false) ∨ (D.nm e.1 = true ∧ 128 < e.2.length ∧ D.okE e = false) ∨ (D.nm e.1 = true ∧ e.2.length ≤ 128 ∧ D.okE e = true) := by
  unfold D.okE
  cases D.nm e.1
  · exact .inl ⟨rfl, rfl⟩
  · by_cases h : e.2.length ≤ 128
    · exact .inr (.inr ⟨rfl, h, by simp [h]⟩)
    · exact .inr (.inl ⟨rfl, by omega, by simp; omega⟩)
theorem ret_i {a b : Int} {P : Prop} (h : a = b) (hp : P) : Ending.returned (.int .i64 a) = .returned (.int .i64 b) ∧ P := ⟨by rw [h], hp⟩

set_option maxHeartbeats 2000000 in
theorem check_any (v : Value) (es : List D.E) (w : World) (hr : Rde w v es) (hf : Fits es) :
    Calls Try.prog 28 #[.agg #[v]] w fun e w' => e = .returned (.int .i64 (errOf (D.chk es))) ∧ Below w.heap.size w w' := by
  have hlm : es.length ≤ 9223372036854775807 := by have := hr.len_le; unfold maxLen at this; omega
  obtain ⟨ao, cap, rfl, h1, h2, h3, h4⟩ := hr
  obtain ⟨L, hL⟩ : ∃ L, es.length = L := ⟨_, rfl⟩
  have HL := Lib.hid hL
  have HF := Lib.hid hf
  have H4 := Lib.hid h4
  rw [hL] at hlm ⊢
  clear hf h4 h1 h2 h3
  by_cases h0 : L = 0
  · have E := Lib.hid (show D.chk es = false by rw [List.length_eq_zero_iff.1 (hL.trans h0)]; rfl)
    subst h0
    clear hL
    go_enter Try.func28, Try.ntmps28
    go_wp2
    go_ret
    exact ret_i (by rw [E.out]; rfl) (below_alloc _ _)
  · by_cases h8 : L ≤ 8
    · have b0 : ((L : Int) == 0) = false := by simp; omega
      have b8 : ¬ (8 : Int) < (L : Int) := by omega
      clear hL
      go_enter Try.func28, Try.ntmps28
      go_wp2
      go_loopw [18] (fun i wr => ∃ (k : Nat), i = .int .i64 (k : Int) ∧ k ≤ L ∧ Hid (Below (w.heap.size + 1) (w.alloc (.cells #[.slice ao L cap] 42)) wr) ∧ Hid (∀ e ∈ es.take k, D.okE e = true)) (fun i _ => L - (intOf i).toNat)
      case atStart => exact ⟨0, rfl, Nat.zero_le _, Below.refl _ _, by show ∀ _, _; simp⟩
      case round =>
        obtain ⟨k, rfl, hk, HW, HI⟩ := hrel
        by_cases hlt : k < L
        · obtain ⟨e, he⟩ : ∃ e, es[k]? = some e := ⟨es[k]'(by have := HL.out; omega), List.getElem?_eq_getElem _⟩
          obtain ⟨b, off, rfl, c1, c2⟩ := H4.out k e he
          have d1 := old_below HW.out c1
          have d2 := old_below HW.out c2
          unfold tv at d1 d2
          have hfe := HF.out e (List.mem_of_getElem? he)
          have HE := Lib.hid he
          have HN := Lib.hid (fun w => name_any e.1 (by unfold maxLen; omega) w)
          have s2 := str_size e.2
          have f2 := hfe.2
          have g0 : (k : Int) < (L : Int) := by omega
          clear c1 c2 he hfe
          rcases okE_cases e with ⟨n1, n2⟩ | ⟨n1, n3, n2⟩ | ⟨n1, n3, n2⟩
          · rw [n1] at HN
            have E := Lib.hid (chk_bad HE.out n2)
            clear n1 n2
            go_wp2_with (go_at_call 27; refine (HN.out _).mono ?_; rintro e w1 ⟨rfl, b1⟩; have B1 := Lib.hid b1; clear b1)
            go_ret
            exact ret_i (by rw [E.out]; rfl) (below_box (step_box HW.out (below_trans (below_alloc wr _) B1.out)))
          · rw [n1] at HN
            have E := Lib.hid (chk_bad HE.out n2)
            have g3 : (128 : Int) < (e.2.length : Int) := by omega
            clear n1 n2
            go_wp2_with (go_at_call 27; refine (HN.out _).mono ?_; rintro e w1 ⟨rfl, b1⟩; have B1 := Lib.hid b1; have k2 := two_later b1; clear b1)
            go_ret
            exact ret_i (by rw [E.out]; rfl) (below_box (step_box HW.out (below_trans (below_alloc wr _) B1.out)))
          · rw [n1] at HN
            have HI2 := Lib.hid (take_entry HE.out HI.out n2)
            have g3 : ¬ (128 : Int) < (e.2.length : Int) := by omega
            clear n1 n2
            go_wp2_with (go_at_call 27; refine (HN.out _).mono ?_; rintro e w1 ⟨rfl, b1⟩; have B1 := Lib.hid b1; have k2 := two_later b1; clear b1)
            go_roundw
            case rel => exact ⟨k + 1, by go_num, by omega, step_box HW.out (below_trans (below_alloc wr _) B1.out), HI2.out⟩
            case measure => simp [intOf]; omega
        · have E := Lib.hid (chk_good (es := es) (by have := HL.out; omega) (by have := HL.out; omega) (by
            have h1 := HI.out; have h2 := HL.out
            rw [List.take_of_length_le (by omega)] at h1
            exact h1))
          have g0 : ¬ (k : Int) < (L : Int) := by omega
          go_wp2
          go_ret
          exact ret_i (by rw [E.out]; rfl) (below_box HW.out)
    · have E := Lib.hid (chk_long (es := es) (by omega))
      have b0 : ((L : Int) == 0) = false := by simp; omega
      have b8 : (8 : Int) < (L : Int) := by omega
      clear hL
      go_enter Try.func28, Try.ntmps28
      go_wp2
      go_ret
      exact ret_i (by rw [E.out]; rfl) (below_alloc _ _)

set_option maxHeartbeats 2000000 in
theorem rcheck_any (v : Value) (es : List D.E) (w : World) (hr : Rde w v es) (hf : Fits es) :
    Calls Try.prog 30 #[.agg #[v]] w fun e w' => e = .returned (.bool (D.chk es)) ∧ Below w.heap.size w w' := by
  have hlm : es.length ≤ 9223372036854775807 := by have := hr.len_le; unfold maxLen at this; omega
  obtain ⟨ao, cap, rfl, h1, h2, h3, h4⟩ := hr
  obtain ⟨L, hL⟩ : ∃ L, es.length = L := ⟨_, rfl⟩
  have HL := Lib.hid hL
  have HF := Lib.hid hf
  have H4 := Lib.hid h4
  rw [hL] at hlm ⊢
  clear hf h4 h1 h2 h3
  by_cases h0 : L = 0
  · have E := Lib.hid (show D.chk es = false by rw [List.length_eq_zero_iff.1 (hL.trans h0)]; rfl)
    subst h0
    clear hL
    go_enter Try.func30, Try.ntmps30
    go_wp2
    go_ret
    exact ret_b E.out.symm (below_alloc _ _)
  · by_cases h8 : L ≤ 8
    · have b0 : ¬ (L : Int) < 1 := by omega
      have b8 : ¬ (8 : Int) < (L : Int) := by omega
      clear hL
      go_enter Try.func30, Try.ntmps30
      go_wp2
      go_loopw [3] (fun i wr => ∃ (k : Nat), i = .int .i64 (k : Int) ∧ k ≤ L ∧ Hid (Below (w.heap.size + 1) (w.alloc (.cells #[.slice ao L cap] 42)) wr) ∧ Hid (∀ e ∈ es.take k, D.okE e = true)) (fun i _ => L - (intOf i).toNat)
      case atStart => exact ⟨0, rfl, Nat.zero_le _, Below.refl _ _, by show ∀ _, _; simp⟩
      case round =>
        obtain ⟨k, rfl, hk, HW, HI⟩ := hrel
        have hbox := box_below HW.out
        by_cases hlt : k < L
        · obtain ⟨e, he⟩ : ∃ e, es[k]? = some e := ⟨es[k]'(by have := HL.out; omega), List.getElem?_eq_getElem _⟩
          obtain ⟨b, off, rfl, c1, c2⟩ := H4.out k e he
          have d1 := old_below HW.out c1
          have d2 := old_below HW.out c2
          unfold tv at d1 d2
          have hfe := HF.out e (List.mem_of_getElem? he)
          have HE := Lib.hid he
          have HN := Lib.hid (fun w => rname_any e.1 (by unfold maxLen; omega) w)
          have s2 := str_size e.2
          have f2 := hfe.2
          have g0 : (k : Int) < (L : Int) := by omega
          clear c1 c2 he hfe
          rcases okE_cases e with ⟨n1, n2⟩ | ⟨n1, n3, n2⟩ | ⟨n1, n3, n2⟩
          · rw [n1] at HN
            have E := Lib.hid (chk_bad HE.out n2)
            clear n1 n2
            go_wp2_with (go_at_call 29; refine (HN.out _).mono ?_; rintro e w1 ⟨rfl, rfl⟩)
            go_ret
            exact ret_b E.out.symm (below_box HW.out)
          · rw [n1] at HN
            have E := Lib.hid (chk_bad HE.out n2)
            have g3 : (128 : Int) < (e.2.length : Int) := by omega
            clear n1 n2
            go_wp2_with (go_at_call 29; refine (HN.out _).mono ?_; rintro e w1 ⟨rfl, rfl⟩)
            go_ret
            exact ret_b E.out.symm (below_box HW.out)
          · rw [n1] at HN
            have HI2 := Lib.hid (take_entry HE.out HI.out n2)
            have g3 : ¬ (128 : Int) < (e.2.length : Int) := by omega
            clear n1 n2
            go_wp2_with (go_at_call 29; refine (HN.out _).mono ?_; rintro e w1 ⟨rfl, rfl⟩)
            go_roundw
            case rel => exact ⟨k + 1, by go_num, by omega, HW.out, HI2.out⟩
            case measure => simp [intOf]; omega
        · have E := Lib.hid (chk_good (es := es) (by have := HL.out; omega) (by have := HL.out; omega) (by
            have h1 := HI.out; have h2 := HL.out
            rw [List.take_of_length_le (by omega)] at h1
            exact h1))
          have g0 : ¬ (k : Int) < (L : Int) := by omega
          go_wp2
          go_ret
          exact ret_b E.out.symm (below_box HW.out)
    · have E := Lib.hid (chk_long (es := es) (by omega))
      have b0 : ¬ (L : Int) < 1 := by omega
      have b8 : (8 : Int) < (L : Int) := by omega
      clear hL
      go_enter Try.func30, Try.ntmps30
      go_wp2
      go_ret
      exact ret_b E.out.symm (below_alloc _ _)
end Go.Proofs.Ythbmmnjpiflgdaa
