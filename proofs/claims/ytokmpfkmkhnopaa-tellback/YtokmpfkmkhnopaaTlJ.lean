/- The walk of the document's own CheckTell. -/
import Derived.Test.YtokmpfkmkhnopaaTlE
namespace Go.Proofs.Ytokmpfkmkhnopaa
open Go.RowKit

theorem win_no {n most : Int} (h : TL.win n most = false) : n < 0 ∨ (¬ n < 0 ∧ most < n) := by
  unfold TL.win at h
  simp at h
  omega
theorem win_yes {n most : Int} (h : TL.win n most = true) : ¬ n < 0 ∧ ¬ most < n := by
  have := TL.win_iff.1 h
  omega
/-- The order in which the document's own looks at a status. -/
theorem okS_cases2 (s : TL.S) : (TL.cd s.1 = false ∧ TL.okS s = false) ∨ (TL.cd s.1 = true ∧ s.2.1 < 0 ∧ TL.okS s = false) ∨ (TL.cd s.1 = true ∧ ¬ s.2.1 < 0 ∧ 4294967295 < s.2.1 ∧ TL.okS s = false) ∨
    (TL.cd s.1 = true ∧ ¬ s.2.1 < 0 ∧ ¬ 4294967295 < s.2.1 ∧ s.2.2.2.1 < 0 ∧ TL.okS s = false) ∨ (TL.cd s.1 = true ∧ ¬ s.2.1 < 0 ∧ ¬ 4294967295 < s.2.1 ∧ ¬ s.2.2.2.1 < 0 ∧ 4294967295 < s.2.2.2.1 ∧ TL.okS s = false) ∨
    (TL.cd s.1 = true ∧ ¬ s.2.1 < 0 ∧ ¬ 4294967295 < s.2.1 ∧ ¬ s.2.2.2.1 < 0 ∧ ¬ 4294967295 < s.2.2.2.1 ∧ s.2.2.1 < 0 ∧ TL.okS s = false) ∨ (TL.cd s.1 = true ∧ ¬ s.2.1 < 0 ∧ ¬ 4294967295 < s.2.1 ∧ ¬ s.2.2.2.1 < 0 ∧ ¬ 4294967295 < s.2.2.2.1 ∧ ¬ s.2.2.1 < 0 ∧ 4 < s.2.2.1 ∧ TL.okS s = false) ∨
    (TL.cd s.1 = true ∧ ¬ s.2.1 < 0 ∧ ¬ 4294967295 < s.2.1 ∧ ¬ s.2.2.2.1 < 0 ∧ ¬ 4294967295 < s.2.2.2.1 ∧ ¬ s.2.2.1 < 0 ∧ ¬ 4 < s.2.2.1 ∧ s.2.2.2.2 < 0 ∧ TL.okS s = false) ∨
    (TL.cd s.1 = true ∧ ¬ s.2.1 < 0 ∧ ¬ 4294967295 < s.2.1 ∧ ¬ s.2.2.2.1 < 0 ∧ ¬ 4294967295 < s.2.2.2.1 ∧ ¬ s.2.2.1 < 0 ∧ ¬ 4 < s.2.2.1 ∧ ¬ s.2.2.2.2 < 0 ∧ 86400 < s.2.2.2.2 ∧ TL.okS s = false) ∨
    (TL.cd s.1 = true ∧ ¬ s.2.1 < 0 ∧ ¬ 4294967295 < s.2.1 ∧ ¬ s.2.2.2.1 < 0 ∧ ¬ 4294967295 < s.2.2.2.1 ∧ ¬ s.2.2.1 < 0 ∧ ¬ 4 < s.2.2.1 ∧ ¬ s.2.2.2.2 < 0 ∧ ¬ 86400 < s.2.2.2.2 ∧ TL.okS s = true) := by
  have hno : ∀ {p : Prop}, (TL.okS s = true → p) → ¬ p → TL.okS s = false := by
    intro p h1 h2
    cases h : TL.okS s
    · rfl
    · exact absurd (h1 h) h2
  cases h1 : TL.cd s.1
  · exact .inl ⟨rfl, by unfold TL.okS; rw [h1]; simp⟩
  right
  by_cases h2 : s.2.1 < 0
  · exact .inl ⟨rfl, h2, hno (fun h => (TL.okS_iff.1 h).2.1) (by omega)⟩
  right
  by_cases h3 : 4294967295 < s.2.1
  · exact .inl ⟨rfl, h2, h3, hno (fun h => (TL.okS_iff.1 h).2.1) (by omega)⟩
  right
  by_cases h4 : s.2.2.2.1 < 0
  · exact .inl ⟨rfl, h2, h3, h4, hno (fun h => (TL.okS_iff.1 h).2.2.2.1) (by omega)⟩
  right
  by_cases h5 : 4294967295 < s.2.2.2.1
  · exact .inl ⟨rfl, h2, h3, h4, h5, hno (fun h => (TL.okS_iff.1 h).2.2.2.1) (by omega)⟩
  right
  by_cases h6 : s.2.2.1 < 0
  · exact .inl ⟨rfl, h2, h3, h4, h5, h6, hno (fun h => (TL.okS_iff.1 h).2.2.1) (by omega)⟩
  right
  by_cases h7 : 4 < s.2.2.1
  · exact .inl ⟨rfl, h2, h3, h4, h5, h6, h7, hno (fun h => (TL.okS_iff.1 h).2.2.1) (by omega)⟩
  right
  by_cases h8 : s.2.2.2.2 < 0
  · exact .inl ⟨rfl, h2, h3, h4, h5, h6, h7, h8, hno (fun h => (TL.okS_iff.1 h).2.2.2.2) (by omega)⟩
  right
  by_cases h9 : 86400 < s.2.2.2.2
  · exact .inl ⟨rfl, h2, h3, h4, h5, h6, h7, h8, h9, hno (fun h => (TL.okS_iff.1 h).2.2.2.2) (by omega)⟩
  right
  exact ⟨rfl, h2, h3, h4, h5, h6, h7, h8, h9, TL.okS_iff.2 ⟨TL.cd_iff.1 h1, by omega, by omega, by omega, by omega⟩⟩
theorem okH_cases (e : D.E) : (D.nm e.1 = false ∧ TL.okH e = false) ∨ (D.nm e.1 = true ∧ TL.okH e = TL.val e.2) := by
  unfold TL.okH
  cases h : D.nm e.1
  · exact .inl ⟨rfl, rfl⟩
  · exact .inr ⟨rfl, by simp⟩

set_option maxHeartbeats 8000000 in
theorem rcheckTell_any (t : TL.T) (vs vh : Value) (w : World) (hr : Rdt w vs vh t.2.2.2.1 t.2.2.2.2) (hf : Fits t.2.2.2.2) :
    Calls Try.prog 12 #[.agg #[.int .i64 t.1, .int .i64 t.2.1, .bool t.2.2.1, vs, vh]] w fun e w' => e = .returned (.bool (TL.chk t)) ∧ Below w.heap.size w w' := by
  have hls : t.2.2.2.1.length ≤ 9223372036854775807 := by have := hr.s.len_le; unfold maxLen at this; omega
  have hlh : t.2.2.2.2.length ≤ 9223372036854775807 := by have := hr.h.len_le; unfold maxLen at this; omega
  have hcases := tchk_cases t
  have HC := Lib.hid (fun x => coded_any t.2.1 x)
  have HF := Lib.hid hf
  obtain ⟨id, code, full, ss, hs⟩ := t
  simp only at hcases HC HF hr hls hlh ⊢
  obtain ⟨⟨ao, cap, rfl, h1, h2, h3, h4⟩, ⟨ah, cah, rfl, g1, g2, g3, g4⟩⟩ := hr
  have HS := Lib.hid (Str.new w 25 #[.int .i64 id, .int .i64 code, .bool full, .slice ao ss.length cap, .slice ah hs.length cah])
  have HB := Lib.hid (below_alloc w (.cells #[.int .i64 id, .int .i64 code, .bool full, .slice ao ss.length cap, .slice ah hs.length cah] 25))
  have H4 := Lib.hid h4
  have G4 := Lib.hid g4
  clear h1 h2 h3 h4 g1 g2 g3 g4 hf
  obtain ⟨L, hL⟩ : ∃ L, ss.length = L := ⟨_, rfl⟩
  obtain ⟨M, hM⟩ : ∃ M, hs.length = M := ⟨_, rfl⟩
  have HL := Lib.hid hL
  have HM := Lib.hid hM
  rw [hL, hM] at hcases HS HB ⊢
  rw [hL] at hls
  rw [hM] at hlh
  clear hL hM
  rcases hcases with ⟨q1, E⟩ | ⟨q1, q2, E⟩ | ⟨q1, q2, q3, E⟩ | ⟨q1, q2, q3, q4, E⟩ | ⟨q1, q2, q3, q4, E⟩
  · have HE := Lib.hid E
    rcases win_no q1 with h0 | ⟨h0, h1⟩
    all_goals
      clear E q1
      go_enter Try.func12, Try.ntmps12
      go_wp2
      go_ret
      exact ret_b HE.out.symm HB.out
  · have HE := Lib.hid E
    obtain ⟨h0, h1⟩ := win_yes q1
    rw [q2] at HC
    clear E q1 q2
    go_enter Try.func12, Try.ntmps12
    go_wp2_with (go_at_call 28; refine (HC.out _).mono ?_; rintro e w1 ⟨rfl, rfl⟩)
    go_ret
    exact ret_b HE.out.symm HB.out
  · have HE := Lib.hid E
    obtain ⟨h0, h1⟩ := win_yes q1
    rw [q2] at HC
    have b8 : (16 : Int) < (L : Int) := by omega
    clear E q1 q2
    go_enter Try.func12, Try.ntmps12
    go_wp2_with (go_at_call 28; refine (HC.out _).mono ?_; rintro e w1 ⟨rfl, rfl⟩)
    go_ret
    exact ret_b HE.out.symm HB.out
  · have HE := Lib.hid E
    obtain ⟨h0, h1⟩ := win_yes q1
    rw [q2] at HC
    have b8 : ¬ (16 : Int) < (L : Int) := by omega
    have b9 : (4 : Int) < (M : Int) := by omega
    clear E q1 q2
    go_enter Try.func12, Try.ntmps12
    go_wp2_with (go_at_call 28; refine (HC.out _).mono ?_; rintro e w1 ⟨rfl, rfl⟩)
    go_ret
    exact ret_b HE.out.symm HB.out
  · have HE := Lib.hid E
    obtain ⟨h0, h1⟩ := win_yes q1
    rw [q2] at HC
    have b8 : ¬ (16 : Int) < (L : Int) := by omega
    have b9 : ¬ (4 : Int) < (M : Int) := by omega
    clear E q1 q2
    go_enter Try.func12, Try.ntmps12
    go_wp2_with (go_at_call 28; refine (HC.out _).mono ?_; rintro e w1 ⟨rfl, hw1⟩; subst hw1)
    clear HC h0 h1
    go_loopw [3] (fun i wr => ∃ (k : Nat), i = .int .i64 (k : Int) ∧ k ≤ L ∧ Hid (Below w.heap.size w wr) ∧ Hid (Str wr w.heap.size 25 #[.int .i64 id, .int .i64 code, .bool full, .slice ao L cap, .slice ah M cah]) ∧ Hid (∀ s ∈ ss.take k, TL.okS s = true)) (fun i _ => L - (intOf i).toNat)
    case atStart => exact ⟨0, rfl, Nat.zero_le _, HB.out, HS.out, by show ∀ _, _; simp⟩
    case round =>
      obtain ⟨k, rfl, hk, HW, HST, HI⟩ := hrel
      obtain ⟨s0, s1, s2, s3, s4⟩ := HST.out.cells5
      by_cases hlt : k < L
      · obtain ⟨s, hs'⟩ : ∃ s, ss[k]? = some s := ⟨ss[k]'(by have := HL.out; omega), List.getElem?_eq_getElem _⟩
        obtain ⟨b, off, rfl, c⟩ := H4.out k s hs'
        obtain ⟨d0, d1, d2, d3, d4⟩ := c.below HW.out
        have HBA := Lib.hid (below_alloc wr (.cells #[.int .i64 s.1, .int .i64 s.2.1, .int .i64 s.2.2.1, .int .i64 s.2.2.2.1, .int .i64 s.2.2.2.2] 41))
        have HCD := Lib.hid (fun x => coded_any s.1 x)
        have HNO := Lib.hid (fun (h : TL.okS s = false) => show TL.chk (id, code, full, ss, hs) = false by rw [HE.out, all_no hs' h]; rfl)
        have HYES := Lib.hid (fun (h : TL.okS s = true) => take_all (p := fun s => TL.okS s = true) hs' HI.out h)
        have hsc := okS_cases2 s
        have g0 : (k : Int) < (L : Int) := by omega
        obtain ⟨x1, x2, x3, x4, x5⟩ := s
        simp only at d0 d1 d2 d3 d4 HBA HCD hsc
        clear c hs' s0 s1 s2 s4
        rcases hsc with ⟨p1, F⟩ | ⟨p1, p2, F⟩ | ⟨p1, p2, p3, F⟩ | ⟨p1, p2, p3, p4, F⟩ | ⟨p1, p2, p3, p4, p5, F⟩ | ⟨p1, p2, p3, p4, p5, p6, F⟩ | ⟨p1, p2, p3, p4, p5, p6, p7, F⟩ | ⟨p1, p2, p3, p4, p5, p6, p7, p8, F⟩ | ⟨p1, p2, p3, p4, p5, p6, p7, p8, p9, F⟩ | ⟨p1, p2, p3, p4, p5, p6, p7, p8, p9, F⟩
        case inr.inr.inr.inr.inr.inr.inr.inr.inr =>
          have HI2 := Lib.hid (HYES.out F)
          rw [p1] at HCD
          clear p1 F HNO HYES
          go_wp2_with (go_at_call 28; refine (HCD.out _).mono ?_; rintro e w2 ⟨rfl, hw2⟩; subst hw2)
          go_roundw
          case rel => exact ⟨k + 1, by go_num, by omega, below_trans HW.out HBA.out, HST.out.below HBA.out, HI2.out⟩
          case measure => simp [intOf]; omega
        all_goals
          have E := Lib.hid (HNO.out F)
          rw [p1] at HCD
          clear p1 F HNO HYES
          go_wp2_with (go_at_call 28; refine (HCD.out _).mono ?_; rintro e w2 ⟨rfl, hw2⟩; subst hw2)
          go_ret
          exact ret_b E.out.symm (below_trans HW.out HBA.out)
      · have HAS := Lib.hid (show ss.all TL.okS = true by
          have h1 := HI.out; have h2 := HL.out
          rw [List.take_of_length_le (by omega)] at h1
          rw [List.all_eq_true]
          exact h1)
        have g0 : ¬ (k : Int) < (L : Int) := by omega
        obtain ⟨wo, rfl⟩ : ∃ wo, wo = wr := ⟨wr, rfl⟩
        go_wp2
        go_loopw [5] (fun i wr => ∃ (k : Nat), i = .int .i64 (k : Int) ∧ k ≤ M ∧ Hid (wr = wo) ∧ Hid (∀ e ∈ hs.take k, TL.okH e = true)) (fun i _ => M - (intOf i).toNat)
        case atStart => exact ⟨0, rfl, Nat.zero_le _, Lib.hid rfl, by show ∀ _, _; simp⟩
        case round =>
          obtain ⟨j, rfl, hj, HWj, HIj⟩ := hrel
          obtain rfl := HWj.out
          clear s0 s1 s2 s3
          by_cases hlj : j < M
          · obtain ⟨x, hx⟩ : ∃ x, hs[j]? = some x := ⟨hs[j]'(by have := HM.out; omega), List.getElem?_eq_getElem _⟩
            obtain ⟨b, off, rfl, c1, c2⟩ := G4.out j x hx
            have d1 := (HW.out.cell (cell_lt c1)).trans c1
            have d2 := (HW.out.cell (cell_lt c2)).trans c2
            unfold tv at d1 d2
            have hfx := HF.out x (List.mem_of_getElem? hx)
            have HNM := Lib.hid (fun y => rname_any x.1 (by unfold maxLen; omega) y)
            have HPR := Lib.hid (fun y => printable_any x.2 (by unfold maxLen; omega) y)
            have HD := Lib.hid hx
            have g1 : (j : Int) < (M : Int) := by omega
            clear c1 c2 hx hfx
            rcases okH_cases x with ⟨n1, n2⟩ | ⟨n1, n2⟩
            · have E := Lib.hid (show TL.chk (id, code, full, ss, hs) = false by rw [HE.out, all_no HD.out n2]; simp)
              rw [n1] at HNM
              clear n1 n2
              go_wp2_with (go_at_call 29; refine (HNM.out _).mono ?_; rintro e w2 ⟨rfl, hw2⟩; subst hw2)
              go_ret
              exact ret_b E.out.symm HW.out
            · rw [n1] at HNM
              cases hv : TL.val x.2
              · rw [hv] at HPR
                have E := Lib.hid (show TL.chk (id, code, full, ss, hs) = false by rw [HE.out, all_no HD.out (n2.trans hv)]; simp)
                clear n1 n2 hv
                go_wp2_with (first
                  | (go_at_call 29; refine (HNM.out _).mono ?_; rintro e w2 ⟨rfl, hw2⟩; subst hw2)
                  | (go_at_call 30; refine (HPR.out _).mono ?_; rintro e w2 ⟨rfl, hw2⟩; subst hw2))
                go_ret
                exact ret_b E.out.symm HW.out
              · rw [hv] at HPR
                have HI2 := Lib.hid (take_all (p := fun e => TL.okH e = true) HD.out HIj.out (n2.trans hv))
                clear n1 n2 hv
                go_wp2_with (first
                  | (go_at_call 29; refine (HNM.out _).mono ?_; rintro e w2 ⟨rfl, hw2⟩; subst hw2)
                  | (go_at_call 30; refine (HPR.out _).mono ?_; rintro e w2 ⟨rfl, hw2⟩; subst hw2))
                go_roundw
                case rel => exact ⟨j + 1, by go_num, by omega, by first | exact Lib.hid rfl | exact Lib.hid trivial, HI2.out⟩
                case measure => simp [intOf]; omega
          · have E := Lib.hid (show TL.chk (id, code, full, ss, hs) = true by
              have h1 := HIj.out; have h2 := HM.out
              rw [List.take_of_length_le (by omega)] at h1
              rw [HE.out, HAS.out, List.all_eq_true.2 h1]; rfl)
            have g1 : ¬ (j : Int) < (M : Int) := by omega
            go_wp2
            go_ret
            exact ret_b E.out.symm HW.out
end Go.Proofs.Ytokmpfkmkhnopaa
