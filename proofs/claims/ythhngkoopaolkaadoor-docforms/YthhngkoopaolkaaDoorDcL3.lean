/- The law DocForms. -/
import Derived.Test.YthhngkoopaolkaaDoorDcL1
namespace Go.Proofs.YthhngkoopaolkaaDoor
open Go.RowKit

abbrev Fm := LX.B × Int × Int
def fv1 (x : Fm) : List Value := [.string ⟨x.1.toArray⟩, .int .i64 x.2.1, .int .i64 x.2.2]
def fv (l : List Fm) : List Value := l.flatMap fv1
theorem fv_at : ∀ {l : List Fm} {j : Nat} {x : Fm}, l[j]? = some x → (fv l)[j * 3]? = some (.string ⟨x.1.toArray⟩) ∧ (fv l)[j * 3 + 1]? = some (.int .i64 x.2.1) ∧ (fv l)[j * 3 + 2]? = some (.int .i64 x.2.2)
  | [], _, _, h => by simp at h
  | x :: l, 0, s, h => by
    have : x = s := by simpa using h
    subst this
    exact ⟨rfl, rfl, rfl⟩
  | x :: l, j + 1, s, h => by
    have h' : l[j]? = some s := by simpa using h
    obtain ⟨a, b, c⟩ := fv_at h'
    have e : fv (x :: l) = fv1 x ++ fv l := rfl
    have key : ∀ k, (fv (x :: l))[(j + 1) * 3 + k]? = (fv l)[j * 3 + k]? := fun k => by
      rw [e, List.getElem?_append_right (by simp [fv1]; omega)]
      congr 1
      simp [fv1]; omega
    exact ⟨by have := key 0; simp only [Nat.add_zero] at this; rw [this]; exact a, by rw [key]; exact b, by rw [key]; exact c⟩
theorem forms_cells (w : World) : ∀ i x, DC.forms[i]? = some x → (w.alloc (.cells (fv DC.forms).toArray 43)).cell? ⟨w.heap.size, i * 3, none⟩ = some (.string ⟨x.1.toArray⟩) ∧ (w.alloc (.cells (fv DC.forms).toArray 43)).cell? ⟨w.heap.size, i * 3 + 1, none⟩ = some (.int .i64 x.2.1) ∧ (w.alloc (.cells (fv DC.forms).toArray 43)).cell? ⟨w.heap.size, i * 3 + 2, none⟩ = some (.int .i64 x.2.2) := fun i x hx => by
  have s := Str.new w 43 (fv DC.forms).toArray
  obtain ⟨a, b, c⟩ := fv_at hx
  exact ⟨by rw [s.cell]; simpa using a, by rw [s.cell]; simpa using b, by rw [s.cell]; simpa using c⟩
set_option maxRecDepth 20000 in
set_option maxHeartbeats 4000000 in
theorem rows_any (w : World) : Calls Tryd.prog 13 #[] w fun e w' => e = .returned (.slice (some ⟨w.heap.size, 0, none⟩) 24 24) ∧ Below w.heap.size w w' ∧ ∀ i x, DC.forms[i]? = some x → w'.cell? ⟨w.heap.size, i * 3, none⟩ = some (.string ⟨x.1.toArray⟩) ∧ w'.cell? ⟨w.heap.size, i * 3 + 1, none⟩ = some (.int .i64 x.2.1) ∧ w'.cell? ⟨w.heap.size, i * 3 + 2, none⟩ = some (.int .i64 x.2.2) := by
  go_enter Tryd.func13, Tryd.ntmps13
  go_wp2
  go_ret
  exact ⟨rfl, below_alloc _ _, forms_cells w⟩

set_option maxRecDepth 10000 in
set_option maxHeartbeats 8000000 in
theorem docForms_walk (n : Int) (w : World) (hm : MaxIs w) :
    Calls Tryd.prog 6 #[.int .i64 n] w fun e w' => e = .returned (.bool true) ∧ Below w.heap.size w w' := by
  have HR := Lib.hid (rows_any w)
  have HM := Lib.hid hm
  clear hm
  by_cases hr : n < 0 ∨ 24 ≤ n
  · rcases hr with h | h
    · go_enter Tryd.func6, Tryd.ntmps6
      go_wp2_with (first
        | (go_at_call 13; refine HR.out.mono ?_; rintro e w1 ⟨rfl, hb1, hc1⟩; have HB1 := Lib.hid hb1; clear hb1 hc1)
        | (go_at_call 7; refine (awake12 _ (HM.out.below HB1.out)).mono ?_; rintro e w2 ⟨rfl, hb⟩))
      go_ret
      exact ⟨rfl, below_trans HB1.out hb⟩
    · have h1 : ¬ n < 0 := by omega
      go_enter Tryd.func6, Tryd.ntmps6
      go_wp2_with (first
        | (go_at_call 13; refine HR.out.mono ?_; rintro e w1 ⟨rfl, hb1, hc1⟩; have HB1 := Lib.hid hb1; clear hb1 hc1)
        | (go_at_call 7; refine (awake12 _ (HM.out.below HB1.out)).mono ?_; rintro e w2 ⟨rfl, hb⟩))
      go_ret
      exact ⟨rfl, below_trans HB1.out hb⟩
  obtain ⟨i, rfl⟩ : ∃ i : Nat, n = (i : Int) := ⟨n.toNat, by omega⟩
  have hi : i < 24 := by omega
  have h1 : ¬ (i : Int) < 0 := by omega
  have h2 : ¬ (24 : Int) ≤ (i : Int) := by omega
  have h3 : (i : Int) < 24 := by omega
  have h4 : (0 : Int) ≤ (i : Int) := by omega
  obtain ⟨x, hx⟩ : ∃ x, DC.forms[i]? = some x := ⟨DC.forms[i]'hi, List.getElem?_eq_getElem _⟩
  have hf := DC.forms_right x (List.mem_of_getElem? hx)
  have HX := Lib.hid hx
  obtain ⟨T, kd, ln⟩ := x
  have HTL : Hid (T.length ≤ 9223372036854775807) := by
    have key : ∀ y ∈ DC.forms, y.1.length ≤ 100 := by decide +kernel
    have := key _ (List.mem_of_getElem? hx)
    show _ ≤ _
    simp only at this
    omega
  have hg2 := fault_guard
  have hq := eq_fault kd ln
  obtain ⟨ns, E1, E2, E3⟩ : ∃ ns, DC.told (DC.parse T) = ns ∧ DC.wrong (DC.parse T) = (kd, ln) ∧ (decide ((0 : Int) < (ns.length : Int)) == (kd == 0)) = true := by
    unfold DC.RightF at hf
    simp only at hf
    cases hp : DC.parse T with
    | ok ns =>
      rw [hp] at hf
      simp at hf
      refine ⟨ns, rfl, by rw [hf.1.1, hf.1.2]; rfl, ?_⟩
      rw [hf.1.1, decide_eq_true (by have := hf.2; omega)]; rfl
    | bad k l =>
      rw [hp] at hf
      simp at hf
      refine ⟨[], rfl, by rw [hf.1.1, hf.1.2]; rfl, ?_⟩
      have : (kd == 0) = false := by rw [hf.1.1]; simpa using hf.2
      rw [this]; rfl
  obtain ⟨m, hm⟩ : ∃ m, ns.length = m := ⟨_, rfl⟩
  rw [hm] at E3
  have HE1 := Lib.hid E1
  have HE2 := Lib.hid E2
  have HE3 := Lib.hid hm
  clear hx hf E1 E2 hi hr hm
  have hE : (decide ((0 : Int) < (m : Int)) = true ∧ (kd == 0) = true) ∨ (decide ((0 : Int) < (m : Int)) = false ∧ (kd == 0) = false) := by
    cases h5 : decide ((0 : Int) < (m : Int)) <;> cases h6 : (kd == 0) <;> simp_all
  clear E3
  have hE2 : (decide ((0 : Int) < (m : Int)) = true ∧ decide (kd = 0) = true) ∨ (decide ((0 : Int) < (m : Int)) = false ∧ decide (kd = 0) = false) := by
    rcases hE with ⟨a, b⟩ | ⟨a, b⟩
    · exact .inl ⟨a, by simpa using b⟩
    · exact .inr ⟨a, by simpa using b⟩
  have hE3 : ∃ y : Bool, decide ((0 : Int) < (m : Int)) = y ∧ (kd == 0) = y ∧ decide (kd = 0) = y := by
    rcases hE with ⟨a, b⟩ | ⟨a, b⟩ <;> rcases hE2 with ⟨c, d⟩ | ⟨c, d⟩
    · exact ⟨true, a, b, d⟩
    · rw [a] at c; cases c
    · rw [a] at c; cases c
    · exact ⟨false, a, b, d⟩
  clear hE hE2
  obtain ⟨y, h5, h6, h7⟩ := hE3
  have h10 : decide (0 < m) = y := by rw [← h5]; exact decide_eq_decide.2 (by omega)
  cases y
  all_goals
  go_enter Tryd.func6, Tryd.ntmps6
  go_upto_region 5 with (first
    | (go_at_call 13; refine HR.out.mono ?_; rintro e w1 ⟨rfl, hb1, hc1⟩; have HB0 := Lib.hid hb1; obtain ⟨x0, x1, x2⟩ := hc1 i _ HX.out; simp only at x0 x1 x2; obtain ⟨W, v, hcv, hbw, hrd⟩ := conv_text T HTL.out w1; have HB1 := Lib.hid (below_trans hb1 hbw); have HBW := Lib.hid hbw; have HRD := Lib.hid hrd; clear hb1 hc1 hbw hrd)
    | (go_at_call 12; refine (parse_any v T W HRD.out (HM.out.below HB1.out)).mono ?_; rintro e w2 he; obtain ⟨ax, cx, rfl, hr2, hb2⟩ := aw_par (m := m) HE1.out HE2.out HE3.out he; clear he hcv; obtain ⟨z1, z2⟩ := var2 w2; obtain ⟨s1, s2, s3⟩ := two_vars w2 (.slice ax m cx) (.int .i64 kd) (.int .i64 ln); have HB2 := Lib.hid (below_trans (below_trans HB1.out hb2) s3); have BW := below_trans (below_trans HBW.out hb2) s3; have y1 := (BW.cell (cell_lt x1)).trans x1; have y2 := (BW.cell (cell_lt x2)).trans x2; have e0 := s1.cell 0; obtain ⟨f0, f1⟩ := s2.cells2; simp only [List.getElem?_toArray, List.getElem?_cons_zero] at e0; clear hr2 hb2 s1 s2 s3 BW))
  clear z1 z2 x0 x1 x2
  have HKP := Lib.hid (fun (u : World) (k : Below ((w2.alloc (.cells #[.slice ax m cx] 28)).alloc (.cells #[.int .i64 kd, .int .i64 ln] 30)).heap.size ((w2.alloc (.cells #[.slice ax m cx] 28)).alloc (.cells #[.int .i64 kd, .int .i64 ln] 30)) u) => And.intro ((k.cell (cell_lt f0)).trans f0) (And.intro ((k.cell (cell_lt f1)).trans f1) (And.intro ((k.cell (cell_lt e0)).trans e0) (And.intro ((k.cell (cell_lt y1)).trans y1) ((k.cell (cell_lt y2)).trans y2)))))
  obtain ⟨X, hX⟩ : ∃ X, (w2.alloc (.cells #[.slice ax m cx] 28)).alloc (.cells #[.int .i64 kd, .int .i64 ln] 30) = X := ⟨_, rfl⟩
  rw [hX] at HKP HB2 f0 f1 e0 y1 y2 ⊢
  clear hX
  go_region_held3 (fun u => u.cell? ⟨w2.heap.size + 1, 0, none⟩ = some (.int .i64 kd) ∧ u.cell? ⟨w2.heap.size + 1, 1, none⟩ = some (.int .i64 ln) ∧ u.cell? ⟨w2.heap.size, 0, none⟩ = some (.slice ax m cx) ∧ u.cell? ⟨w.heap.size, i * 3 + 1, none⟩ = some (.int .i64 kd) ∧ u.cell? ⟨w.heap.size, i * 3 + 2, none⟩ = some (.int .i64 ln)) (first | exact HKP.out _ (below_drew _) | exact HKP.out _ (below_trans (below_drew _) hb3)) (first | (go_at_call 7; refine (awake12 _ (HM.out.below (below_trans HB2.out (below_drew _)))).mono ?_; rintro e w3 ⟨rfl, hb3⟩; have HB3 := Lib.hid (below_trans HB2.out (below_trans (below_drew _) hb3))))
  go_wp2
  go_ret
  exact ⟨rfl, HB3.out⟩
end Go.Proofs.YthhngkoopaolkaaDoor
