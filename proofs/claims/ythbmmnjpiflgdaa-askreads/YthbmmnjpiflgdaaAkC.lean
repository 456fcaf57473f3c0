/- Walks of ask.Check, ask.Hits, and the document's own. -/
import Derived.Test.YthbmmnjpiflgdaaAkB
namespace Go.Proofs.Ythbmmnjpiflgdaa
open Go.RowKit

/-- Every text of it fits in an int. -/
def FitA (a : K.A) : Prop := a.2.1.length ≤ 9223372036854775807 ∧ ∀ d ∈ a.2.2.2, Fits d
theorem kchk_cases (a : K.A) : (a.1 < 0 ∧ K.chk a = false) ∨ (¬ a.1 < 0 ∧ 2147483647 < a.1 ∧ K.chk a = false) ∨ (¬ a.1 < 0 ∧ ¬ 2147483647 < a.1 ∧ D.nm a.2.1 = false ∧ K.chk a = false) ∨
    (¬ a.1 < 0 ∧ ¬ 2147483647 < a.1 ∧ D.nm a.2.1 = true ∧ a.2.2.1 < 0 ∧ K.chk a = false) ∨ (¬ a.1 < 0 ∧ ¬ 2147483647 < a.1 ∧ D.nm a.2.1 = true ∧ ¬ a.2.2.1 < 0 ∧ 4294967295 < a.2.2.1 ∧ K.chk a = false) ∨
    (¬ a.1 < 0 ∧ ¬ 2147483647 < a.1 ∧ D.nm a.2.1 = true ∧ ¬ a.2.2.1 < 0 ∧ ¬ 4294967295 < a.2.2.1 ∧ a.2.2.2.length = 0 ∧ K.chk a = false) ∨
    (¬ a.1 < 0 ∧ ¬ 2147483647 < a.1 ∧ D.nm a.2.1 = true ∧ ¬ a.2.2.1 < 0 ∧ ¬ 4294967295 < a.2.2.1 ∧ 16 < a.2.2.2.length ∧ K.chk a = false) ∨
    (¬ a.1 < 0 ∧ ¬ 2147483647 < a.1 ∧ D.nm a.2.1 = true ∧ ¬ a.2.2.1 < 0 ∧ ¬ 4294967295 < a.2.2.1 ∧ 1 ≤ a.2.2.2.length ∧ a.2.2.2.length ≤ 16 ∧ K.chk a = a.2.2.2.all D.chk) := by
  unfold K.chk
  by_cases h1 : a.1 < 0
  · exact .inl ⟨h1, by simp; omega⟩
  by_cases h2 : 2147483647 < a.1
  · exact .inr (.inl ⟨h1, h2, by simp; omega⟩)
  cases h3 : D.nm a.2.1
  · exact .inr (.inr (.inl ⟨h1, h2, rfl, by simp⟩))
  by_cases h4 : a.2.2.1 < 0
  · exact .inr (.inr (.inr (.inl ⟨h1, h2, rfl, h4, by simp; omega⟩)))
  by_cases h5 : 4294967295 < a.2.2.1
  · exact .inr (.inr (.inr (.inr (.inl ⟨h1, h2, rfl, h4, h5, by simp; omega⟩))))
  by_cases h6 : a.2.2.2.length = 0
  · exact .inr (.inr (.inr (.inr (.inr (.inl ⟨h1, h2, rfl, h4, h5, h6, by simp; omega⟩)))))
  by_cases h7 : 16 < a.2.2.2.length
  · exact .inr (.inr (.inr (.inr (.inr (.inr (.inl ⟨h1, h2, rfl, h4, h5, h7, by simp; omega⟩))))))
  · refine .inr (.inr (.inr (.inr (.inr (.inr (.inr ⟨h1, h2, rfl, h4, h5, by omega, by omega, ?_⟩))))))
    have e1 : decide (0 ≤ a.1 ∧ a.1 ≤ 2147483647) = true := by simp; omega
    have e2 : decide (0 ≤ a.2.2.1 ∧ a.2.2.1 ≤ 4294967295) = true := by simp; omega
    have e3 : decide (1 ≤ a.2.2.2.length ∧ a.2.2.2.length ≤ 16) = true := by simp; omega
    rw [e1, e2, e3]
    simp
theorem all_bad {ds : List (List D.E)} {j : Nat} {d : List D.E} (h : ds[j]? = some d) (hd : D.chk d = false) : ds.all D.chk = false := by
  rw [List.all_eq_false]
  exact ⟨d, List.mem_of_getElem? h, by simp [hd]⟩
theorem take_desc {ds : List (List D.E)} {k : Nat} {d : List D.E} {p : List D.E → Prop} (h : ds[k]? = some d) (hd : ∀ x ∈ ds.take k, p x) (he : p d) : ∀ x ∈ ds.take (k + 1), p x := by
  intro x hm
  rw [List.take_add_one, h] at hm
  rcases List.mem_append.1 hm with h1 | h1
  · exact hd x h1
  · have : x = d := by simpa using h1
    rw [this]; exact he

set_option maxHeartbeats 4000000 in
theorem acheck_any (a : K.A) (vd : Value) (w : World) (hr : Rdd w vd a.2.2.2) (hf : FitA a) :
    Calls Try.prog 12 #[.agg #[.int .i64 a.1, .string ⟨a.2.1.toArray⟩, .int .i64 a.2.2.1, vd]] w fun e w' => e = .returned (.int .i64 (errOf (K.chk a))) ∧ Below w.heap.size w w' := by
  have hlm : a.2.2.2.length ≤ 9223372036854775807 := by have := hr.len_le; unfold maxLen at this; omega
  have hcases := kchk_cases a
  have HN := Lib.hid (fun w => name_any a.2.1 (by have := hf.1; unfold maxLen; omega) w)
  have HF := Lib.hid hf.2
  clear hf
  obtain ⟨id, dom, hs, ds⟩ := a
  simp only at hcases HN HF hr hlm ⊢
  obtain ⟨ao, cap, rfl, h1, h2, h3, h4⟩ := hr
  have HS := Lib.hid (Str.new w 24 #[.int .i64 id, .string ⟨dom.toArray⟩, .int .i64 hs, .slice ao ds.length cap])
  have HB := Lib.hid (below_alloc w (.cells #[.int .i64 id, .string ⟨dom.toArray⟩, .int .i64 hs, .slice ao ds.length cap] 24))
  have H4 := Lib.hid h4
  clear h1 h2 h3 h4
  rcases hcases with ⟨q1, E⟩ | ⟨q1, q2, E⟩ | ⟨q1, q2, q3, E⟩ | ⟨q1, q2, q3, q4, E⟩ | ⟨q1, q2, q3, q4, q5, E⟩ | ⟨q1, q2, q3, q4, q5, q6, E⟩ | ⟨q1, q2, q3, q4, q5, q7, E⟩ | ⟨q1, q2, q3, q4, q5, q6, q7, E⟩
  · have HE := Lib.hid E
    clear E
    go_enter Try.func12, Try.ntmps12
    go_wp2
    go_ret
    exact ret_i (by rw [HE.out]; rfl) HB.out
  · have HE := Lib.hid E
    clear E
    go_enter Try.func12, Try.ntmps12
    go_wp2
    go_ret
    exact ret_i (by rw [HE.out]; rfl) HB.out
  · have HE := Lib.hid E
    rw [q3] at HN
    clear E q3
    go_enter Try.func12, Try.ntmps12
    go_wp2_with (go_at_call 27; refine (HN.out _).mono ?_; rintro e w1 ⟨rfl, b1⟩; have B1 := Lib.hid b1; clear b1)
    go_ret
    exact ret_i (by rw [HE.out]; rfl) (below_trans HB.out B1.out)
  · have HE := Lib.hid E
    rw [q3] at HN
    clear E q3
    go_enter Try.func12, Try.ntmps12
    go_wp2_with (go_at_call 27; refine (HN.out _).mono ?_; rintro e w1 ⟨rfl, b1⟩; have B1 := Lib.hid b1; have s1 := (HS.out.below b1).cell 2; simp only [List.getElem?_toArray, List.getElem?_cons_zero, List.getElem?_cons_succ] at s1; clear b1)
    go_ret
    exact ret_i (by rw [HE.out]; rfl) (below_trans HB.out B1.out)
  · have HE := Lib.hid E
    rw [q3] at HN
    clear E q3
    go_enter Try.func12, Try.ntmps12
    go_wp2_with (go_at_call 27; refine (HN.out _).mono ?_; rintro e w1 ⟨rfl, b1⟩; have B1 := Lib.hid b1; have s1 := (HS.out.below b1).cell 2; simp only [List.getElem?_toArray, List.getElem?_cons_zero, List.getElem?_cons_succ] at s1; clear b1)
    go_ret
    exact ret_i (by rw [HE.out]; rfl) (below_trans HB.out B1.out)
  · have HE := Lib.hid E
    rw [q3] at HN
    rw [q6] at HS HB ⊢
    clear E q3
    go_enter Try.func12, Try.ntmps12
    go_wp2_with (go_at_call 27; refine (HN.out _).mono ?_; rintro e w1 ⟨rfl, b1⟩; have B1 := Lib.hid b1; have s1 := (HS.out.below b1).cell 2; have s3 := (HS.out.below b1).cell 3; simp only [List.getElem?_toArray, List.getElem?_cons_zero, List.getElem?_cons_succ] at s1 s3; clear b1)
    go_ret
    exact ret_i (by rw [HE.out]; rfl) (below_trans HB.out B1.out)
  · have HE := Lib.hid E
    rw [q3] at HN
    obtain ⟨L, hL⟩ : ∃ L, ds.length = L := ⟨_, rfl⟩
    rw [hL] at HS HB q7 hlm ⊢
    have b0 : ((L : Int) == 0) = false := by simp; omega
    have b8 : (16 : Int) < (L : Int) := by omega
    clear E q3 hL
    go_enter Try.func12, Try.ntmps12
    go_wp2_with (go_at_call 27; refine (HN.out _).mono ?_; rintro e w1 ⟨rfl, b1⟩; have B1 := Lib.hid b1; have s1 := (HS.out.below b1).cell 2; have s3 := (HS.out.below b1).cell 3; simp only [List.getElem?_toArray, List.getElem?_cons_zero, List.getElem?_cons_succ] at s1 s3; clear b1)
    go_ret
    exact ret_i (by rw [HE.out]; rfl) (below_trans HB.out B1.out)
  · rw [q3] at HN
    obtain ⟨L, hL⟩ : ∃ L, ds.length = L := ⟨_, rfl⟩
    have HL := Lib.hid hL
    have HE := Lib.hid E
    rw [hL] at HS HB q6 q7 hlm ⊢
    have b0 : ((L : Int) == 0) = false := by simp; omega
    have b8 : ¬ (16 : Int) < (L : Int) := by omega
    clear E q3 hL
    go_enter Try.func12, Try.ntmps12
    go_wp2_with (go_at_call 27; refine (HN.out _).mono ?_; rintro e w1 ⟨rfl, b1⟩; have B1 := Lib.hid (below_trans HB.out b1); have s1 := (HS.out.below b1).cell 2; have s3 := (HS.out.below b1).cell 3; simp only [List.getElem?_toArray, List.getElem?_cons_zero, List.getElem?_cons_succ] at s1 s3; clear b1)
    go_loopw [42] (fun i wr => ∃ (k : Nat), i = .int .i64 (k : Int) ∧ k ≤ L ∧ Hid (Below w.heap.size w wr) ∧ Hid (∀ d ∈ ds.take k, D.chk d = true)) (fun i _ => L - (intOf i).toNat)
    case atStart => exact ⟨0, rfl, Nat.zero_le _, B1.out, by show ∀ _, _; simp⟩
    case round =>
      obtain ⟨k, rfl, hk, HW, HI⟩ := hrel
      by_cases hlt : k < L
      · obtain ⟨d, hd⟩ : ∃ d, ds[k]? = some d := ⟨ds[k]'(by have := HL.out; omega), List.getElem?_eq_getElem _⟩
        obtain ⟨b, off, u, rfl, c1, c2⟩ := H4.out k d hd
        have d1 := (HW.out.cell (cell_lt c1)).trans c1
        have HU := Lib.hid (fun x (hx : Below wr.heap.size wr x) => check_any u d x (c2.below (below_trans HW.out hx)) (HF.out d (List.mem_of_getElem? hd)))
        obtain ⟨ao', cap', rfl, _⟩ := c2
        have HD := Lib.hid hd
        have g0 : (k : Int) < (L : Int) := by omega
        clear c1 hd
        cases hck : D.chk d
        · rw [hck] at HU
          have E := Lib.hid (HE.out.trans (all_bad HD.out hck))
          clear hck
          go_wp2_with (go_at_call 28; refine (HU.out _ (below_alloc _ _)).mono ?_; rintro e w2 ⟨rfl, b2⟩; have B2 := Lib.hid (below_trans (below_alloc wr _) b2); clear b2)
          go_ret
          exact ret_i (by rw [E.out]; rfl) (below_trans HW.out B2.out)
        · rw [hck] at HU
          have HI2 := Lib.hid (take_desc HD.out HI.out hck)
          clear hck
          go_wp2_with (go_at_call 28; refine (HU.out _ (below_alloc _ _)).mono ?_; rintro e w2 ⟨rfl, b2⟩; have B2 := Lib.hid (below_trans (below_alloc wr _) b2); clear b2)
          go_roundw
          case rel => exact ⟨k + 1, by go_num, by omega, below_trans HW.out B2.out, HI2.out⟩
          case measure => simp [intOf]; omega
      · have E := Lib.hid (show K.chk (id, dom, hs, ds) = true by
          have h1 := HI.out; have h2 := HL.out
          rw [List.take_of_length_le (by omega)] at h1
          rw [HE.out, List.all_eq_true]
          exact h1)
        have g0 : ¬ (k : Int) < (L : Int) := by omega
        go_wp2
        go_ret
        exact ret_i (by rw [E.out]; rfl) HW.out
end Go.Proofs.Ythbmmnjpiflgdaa
