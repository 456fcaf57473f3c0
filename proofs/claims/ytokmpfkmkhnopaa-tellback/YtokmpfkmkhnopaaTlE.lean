/- Walks of tell.Check and of the document's own CheckTell. -/
import Derived.Test.YtokmpfkmkhnopaaTlC
namespace Go.Proofs.Ytokmpfkmkhnopaa
open Go.RowKit

theorem all_no {α : Type} {p : α → Bool} {l : List α} {j : Nat} {d : α} (h : l[j]? = some d) (hd : p d = false) : l.all p = false := by
  rw [List.all_eq_false]
  exact ⟨d, List.mem_of_getElem? h, by simp [hd]⟩
theorem tchk_cases (t : TL.T) : (TL.win t.1 2147483647 = false ∧ TL.chk t = false) ∨ (TL.win t.1 2147483647 = true ∧ TL.cd t.2.1 = false ∧ TL.chk t = false) ∨
    (TL.win t.1 2147483647 = true ∧ TL.cd t.2.1 = true ∧ 16 < t.2.2.2.1.length ∧ TL.chk t = false) ∨ (TL.win t.1 2147483647 = true ∧ TL.cd t.2.1 = true ∧ t.2.2.2.1.length ≤ 16 ∧ 4 < t.2.2.2.2.length ∧ TL.chk t = false) ∨
    (TL.win t.1 2147483647 = true ∧ TL.cd t.2.1 = true ∧ t.2.2.2.1.length ≤ 16 ∧ t.2.2.2.2.length ≤ 4 ∧ TL.chk t = (t.2.2.2.1.all TL.okS && t.2.2.2.2.all TL.okH)) := by
  unfold TL.chk
  cases h1 : TL.win t.1 2147483647
  · simp
  cases h2 : TL.cd t.2.1
  · simp
  by_cases h3 : t.2.2.2.1.length ≤ 16
  · by_cases h4 : t.2.2.2.2.length ≤ 4
    · simp [h3, h4]
    · refine .inr (.inr (.inr (.inl ⟨rfl, rfl, h3, by omega, ?_⟩)))
      have : decide (t.2.2.2.2.length ≤ 4) = false := by simp; omega
      rw [this]; simp
  · refine .inr (.inr (.inl ⟨rfl, rfl, by omega, ?_⟩))
    have : decide (t.2.2.2.1.length ≤ 16) = false := by simp; omega
    rw [this]; simp

/-- A reply that lies where it was boxed. -/
def tellBox (w : World) (id code : Int) (full : Bool) (vs vh : Value) : World := w.alloc (.cells #[.int .i64 id, .int .i64 code, .bool full, vs, vh] 25)
set_option maxHeartbeats 8000000 in
theorem tcheck_any (t : TL.T) (vs vh : Value) (w : World) (hr : Rdt w vs vh t.2.2.2.1 t.2.2.2.2) (hf : Fits t.2.2.2.2) :
    Calls Try.prog 11 #[.agg #[.int .i64 t.1, .int .i64 t.2.1, .bool t.2.2.1, vs, vh]] w fun e w' => e = .returned (.int .i64 (errOf (TL.chk t))) ∧ Below w.heap.size w w' := by
  have hls : t.2.2.2.1.length ≤ 9223372036854775807 := by have := hr.s.len_le; unfold maxLen at this; omega
  have hlh : t.2.2.2.2.length ≤ 9223372036854775807 := by have := hr.h.len_le; unfold maxLen at this; omega
  have hcases := tchk_cases t
  have HW := Lib.hid (fun x => within_any t.1 2147483647 x)
  have HI := Lib.hid (fun x => isCode_any t.2.1 x)
  have HF := Lib.hid hf
  obtain ⟨id, code, full, ss, hs⟩ := t
  simp only at hcases HW HI HF hr hls hlh ⊢
  obtain ⟨⟨ao, cap, rfl, h1, h2, h3, h4⟩, ⟨ah, cah, rfl, g1, g2, g3, g4⟩⟩ := hr
  have HS := Lib.hid (Str.new w 25 #[.int .i64 id, .int .i64 code, .bool full, .slice ao ss.length cap, .slice ah hs.length cah])
  have HB := Lib.hid (below_alloc w (.cells #[.int .i64 id, .int .i64 code, .bool full, .slice ao ss.length cap, .slice ah hs.length cah] 25))
  have H4 := Lib.hid h4
  have G4 := Lib.hid g4
  clear h1 h2 h3 h4 g1 g2 g3 g4 hf
  obtain ⟨L, hL⟩ : ∃ L, ss.length = L := ⟨_, rfl⟩
  obtain ⟨M, hM⟩ : ∃ M, hs.length = M := ⟨_, rfl⟩
  have HL := Lib.hid hL
  have HM := Lib.hid hM
  rw [hL, hM] at hcases HS HB ⊢
  rw [hL] at hls
  rw [hM] at hlh
  clear hL hM
  rcases hcases with ⟨q1, E⟩ | ⟨q1, q2, E⟩ | ⟨q1, q2, q3, E⟩ | ⟨q1, q2, q3, q4, E⟩ | ⟨q1, q2, q3, q4, E⟩
  · have HE := Lib.hid E
    rw [q1] at HW
    clear E q1
    go_enter Try.func11, Try.ntmps11
    go_wp2_with (go_at_call 24; refine (HW.out _).mono ?_; rintro e w1 ⟨rfl, rfl⟩)
    go_ret
    exact ret_i (by rw [HE.out]; rfl) HB.out
  · have HE := Lib.hid E
    rw [q1] at HW
    rw [q2] at HI
    clear E q1 q2
    go_enter Try.func11, Try.ntmps11
    go_wp2_with (first
      | (go_at_call 24; refine (HW.out _).mono ?_; rintro e w1 ⟨rfl, rfl⟩)
      | (go_at_call 25; refine (HI.out _).mono ?_; rintro e w1 ⟨rfl, rfl⟩))
    go_ret
    exact ret_i (by rw [HE.out]; rfl) HB.out
  · have HE := Lib.hid E
    rw [q1] at HW
    rw [q2] at HI
    have b8 : (16 : Int) < (L : Int) := by omega
    clear E q1 q2
    go_enter Try.func11, Try.ntmps11
    go_wp2_with (first
      | (go_at_call 24; refine (HW.out _).mono ?_; rintro e w1 ⟨rfl, rfl⟩)
      | (go_at_call 25; refine (HI.out _).mono ?_; rintro e w1 ⟨rfl, rfl⟩))
    go_ret
    exact ret_i (by rw [HE.out]; rfl) HB.out
  · have HE := Lib.hid E
    rw [q1] at HW
    rw [q2] at HI
    have b8 : ¬ (16 : Int) < (L : Int) := by omega
    have b9 : (4 : Int) < (M : Int) := by omega
    clear E q1 q2
    go_enter Try.func11, Try.ntmps11
    go_wp2_with (first
      | (go_at_call 24; refine (HW.out _).mono ?_; rintro e w1 ⟨rfl, rfl⟩)
      | (go_at_call 25; refine (HI.out _).mono ?_; rintro e w1 ⟨rfl, rfl⟩))
    go_ret
    exact ret_i (by rw [HE.out]; rfl) HB.out
  · have HE := Lib.hid E
    rw [q1] at HW
    rw [q2] at HI
    have b8 : ¬ (16 : Int) < (L : Int) := by omega
    have b9 : ¬ (4 : Int) < (M : Int) := by omega
    clear E q1 q2
    go_enter Try.func11, Try.ntmps11
    go_wp2_with (first
      | (go_at_call 24; refine (HW.out _).mono ?_; rintro e w1 ⟨rfl, hw1⟩; subst hw1)
      | (go_at_call 25; refine (HI.out _).mono ?_; rintro e w1 ⟨rfl, hw1⟩; subst hw1))
    clear HW HI
    go_loopw [32] (fun i wr => ∃ (k : Nat), i = .int .i64 (k : Int) ∧ k ≤ L ∧ Hid (Below w.heap.size w wr) ∧ Hid (Str wr w.heap.size 25 #[.int .i64 id, .int .i64 code, .bool full, .slice ao L cap, .slice ah M cah]) ∧ Hid (∀ s ∈ ss.take k, TL.okS s = true)) (fun i _ => L - (intOf i).toNat)
    case atStart => exact ⟨0, rfl, Nat.zero_le _, HB.out, HS.out, by show ∀ _, _; simp⟩
    case round =>
      obtain ⟨k, rfl, hk, HW, HST, HI⟩ := hrel
      by_cases hlt : k < L
      · obtain ⟨s, hs'⟩ : ∃ s, ss[k]? = some s := ⟨ss[k]'(by have := HL.out; omega), List.getElem?_eq_getElem _⟩
        obtain ⟨b, off, rfl, c⟩ := H4.out k s hs'
        obtain ⟨d0, d1, d2, d3, d4⟩ := c.below HW.out
        have HU := Lib.hid (mayStatus_any s (wr.alloc (.cells #[.int .i64 s.1, .int .i64 s.2.1, .int .i64 s.2.2.1, .int .i64 s.2.2.2.1, .int .i64 s.2.2.2.2] 41)))
        have HBA := Lib.hid (below_alloc wr (.cells #[.int .i64 s.1, .int .i64 s.2.1, .int .i64 s.2.2.1, .int .i64 s.2.2.2.1, .int .i64 s.2.2.2.2] 41))
        have HD := Lib.hid hs'
        have g0 : (k : Int) < (L : Int) := by omega
        clear c hs'
        cases hck : TL.okS s
        · rw [hck] at HU
          have E := Lib.hid (show TL.chk (id, code, full, ss, hs) = false by rw [HE.out, all_no HD.out hck]; rfl)
          clear hck
          go_wp2_with (go_at_call 26; refine HU.out.mono ?_; rintro e w2 ⟨rfl, b2⟩; have B2 := Lib.hid (below_trans HBA.out b2); clear b2)
          go_ret
          exact ret_i (by rw [E.out]; rfl) (below_trans HW.out B2.out)
        · rw [hck] at HU
          have HI2 := Lib.hid (take_all (p := fun s => TL.okS s = true) HD.out HI.out hck)
          clear hck
          go_wp2_with (go_at_call 26; refine HU.out.mono ?_; rintro e w2 ⟨rfl, b2⟩; have B2 := Lib.hid (below_trans HBA.out b2); clear b2)
          go_roundw
          case rel => exact ⟨k + 1, by go_num, by omega, below_trans HW.out B2.out, HST.out.below B2.out, HI2.out⟩
          case measure => simp [intOf]; omega
      · have HAS := Lib.hid (show ss.all TL.okS = true by
          have h1 := HI.out; have h2 := HL.out
          rw [List.take_of_length_le (by omega)] at h1
          rw [List.all_eq_true]
          exact h1)
        have g0 : ¬ (k : Int) < (L : Int) := by omega
        obtain ⟨s0, s1, s2, s3, s4⟩ := HST.out.cells5
        obtain ⟨wo, rfl⟩ : ∃ wo, wo = wr := ⟨wr, rfl⟩
        go_wp2
        go_loopw [43] (fun i wr => ∃ (k : Nat), i = .int .i64 (k : Int) ∧ k ≤ M ∧ Hid (Below w.heap.size w wr) ∧ Hid (∀ e ∈ hs.take k, TL.okH e = true)) (fun i _ => M - (intOf i).toNat)
        case atStart => exact ⟨0, rfl, Nat.zero_le _, HW.out, by show ∀ _, _; simp⟩
        case round =>
          obtain ⟨j, rfl, hj, HWj, HIj⟩ := hrel
          clear s0 s1 s2 s3 s4
          by_cases hlj : j < M
          · obtain ⟨x, hx⟩ : ∃ x, hs[j]? = some x := ⟨hs[j]'(by have := HM.out; omega), List.getElem?_eq_getElem _⟩
            obtain ⟨b, off, rfl, c1, c2⟩ := G4.out j x hx
            have d1 := (HWj.out.cell (cell_lt c1)).trans c1
            have d2 := (HWj.out.cell (cell_lt c2)).trans c2
            unfold tv at d1 d2
            have HU := Lib.hid (mayHead_any x (HF.out x (List.mem_of_getElem? hx)) (wr.alloc (.cells #[.string ⟨x.1.toArray⟩, .string ⟨x.2.toArray⟩] 39)))
            have HBA := Lib.hid (below_alloc wr (.cells #[.string ⟨x.1.toArray⟩, .string ⟨x.2.toArray⟩] 39))
            have HD := Lib.hid hx
            have g1 : (j : Int) < (M : Int) := by omega
            clear c1 c2 hx
            cases hck : TL.okH x
            · rw [hck] at HU
              have E := Lib.hid (show TL.chk (id, code, full, ss, hs) = false by rw [HE.out, all_no HD.out hck]; simp)
              clear hck
              go_wp2_with (go_at_call 27; refine HU.out.mono ?_; rintro e w2 ⟨rfl, b2⟩; have B2 := Lib.hid (below_trans HBA.out b2); clear b2)
              go_ret
              exact ret_i (by rw [E.out]; rfl) (below_trans HWj.out B2.out)
            · rw [hck] at HU
              have HI2 := Lib.hid (take_all (p := fun e => TL.okH e = true) HD.out HIj.out hck)
              clear hck
              go_wp2_with (go_at_call 27; refine HU.out.mono ?_; rintro e w2 ⟨rfl, b2⟩; have B2 := Lib.hid (below_trans HBA.out b2); clear b2)
              go_roundw
              case rel => exact ⟨j + 1, by go_num, by omega, below_trans HWj.out B2.out, HI2.out⟩
              case measure => simp [intOf]; omega
          · have E := Lib.hid (show TL.chk (id, code, full, ss, hs) = true by
              have h1 := HIj.out; have h2 := HM.out
              rw [List.take_of_length_le (by omega)] at h1
              rw [HE.out, HAS.out, List.all_eq_true.2 h1]; rfl)
            have g1 : ¬ (j : Int) < (M : Int) := by omega
            go_wp2
            go_ret
            exact ret_i (by rw [E.out]; rfl) HWj.out
end Go.Proofs.Ytokmpfkmkhnopaa
