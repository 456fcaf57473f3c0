/- The walk of AskCut. -/
import Derived.Test.YthbmmnjpiflgdaaAkL
namespace Go.Proofs.Ythbmmnjpiflgdaa
open Go.RowKit

theorem head_pos (a : K.A) : 1 ≤ (K.enc a).length := by
  unfold K.enc K.head
  simp only [List.length_append, List.length_cons, List.length_nil]
  omega
theorem cut_cases (z : Int) (M : Nat) : (z < 0 ∧ z ≤ (M : Int)) ∨ (∃ q : Nat, z = (q : Int) ∧ q ≤ M) ∨ (M : Int) < z := by
  rcases Int.lt_or_le z 0 with h | h
  · exact .inl ⟨h, by omega⟩
  · rcases Int.lt_or_le (M : Int) z with h2 | h2
    · exact .inr (.inr h2)
    · exact .inr (.inl ⟨z.toNat, by omega, by omega⟩)
/-- What Decode answers to bytes that are none. -/
theorem decode_none {v : Value} {bs : List UInt8} {w : World} (hr : Rdv w v (bv bs)) (h : K.dec bs = none) :
    Calls Try.prog 18 #[v] w fun e w' => e = .returned (.tuple #[.agg #[.int .i64 0, .string ⟨#[]⟩, .int .i64 0, .slice none 0 0], .int .i64 2]) ∧ Below w.heap.size w w' := by
  refine (decode_any v bs w hr).mono ?_
  rintro e w' ⟨b, hcase⟩
  rcases hcase with ⟨_, _, hno, _⟩ | ⟨_, rfl⟩
  · rw [h] at hno; cases hno
  · exact ⟨rfl, b⟩

set_option maxHeartbeats 8000000 in
theorem askCut_walk (vd : Value) (a : K.A) (z : Int) (vt : Value) (ts : List UInt8) (w : World) (hr : Rdd w vd a.2.2.2) (hf : FitA a) (ht : Rdv w vt (bv ts)) (hts : ts.length ≤ 140737488351232) :
    Calls Try.prog 6 #[.agg #[.int .i64 a.1, .string ⟨a.2.1.toArray⟩, .int .i64 a.2.2.1, vd], .int .i64 z, vt] w (Holds w) := by
  have HA0 := Lib.hid (LA.start hr)
  have HHV := Lib.hid (fun x (h : LA w w.heap.size a vd x) => heavy_any a vd x h.rd)
  have HCK := Lib.hid (fun x (h : LA w w.heap.size a vd x) => rcheckAsk_any a vd x h.rd hf)
  have HEN := Lib.hid (fun x (h : LA w w.heap.size a vd x) => rencode_any a vd x h.rd hf)
  have HTR := Lib.hid ht
  obtain ⟨ad, cd, rfl, -⟩ := hr
  obtain ⟨at', ct, rfl, -⟩ := ht
  rw [bv_len] at HTR ⊢
  obtain ⟨T, hT⟩ : ∃ T, ts.length = T := ⟨_, rfl⟩
  have HT := Lib.hid hT
  rw [hT] at HTR hts ⊢
  clear hT
  have hcase : K.chk a = false ∨ (K.chk a = true ∧ (T : Int) < 1) ∨ (K.chk a = true ∧ ¬ (T : Int) < 1 ∧ (1000 : Int) < (T : Int)) ∨ (K.chk a = true ∧ ¬ (T : Int) < 1 ∧ ¬ (1000 : Int) < (T : Int)) := by
    cases K.chk a
    · exact .inl rfl
    · by_cases h1 : (T : Int) < 1
      · exact .inr (.inl ⟨rfl, h1⟩)
      · by_cases h2 : (1000 : Int) < (T : Int)
        · exact .inr (.inr (.inl ⟨rfl, h1, h2⟩))
        · exact .inr (.inr (.inr ⟨rfl, h1, h2⟩))
  go_enter Try.func6, Try.ntmps6
  go_wp2_with fail
  refine (HHV.out _ HA0.out).mono ?_
  rintro e w1 ⟨b, rfl, b1⟩
  have HA1 := Lib.hid (HA0.out.later b1)
  clear b1 HA0 HHV
  cases b
  case true =>
    go_wp2_with fail
    refine (awake7 _).mono ?_
    rintro e w2 ⟨rfl, b2⟩
    have HB2 := Lib.hid (below_trans HA1.out.below b2)
    clear b2
    go_wp2
    go_ret
    exact ⟨rfl, HB2.out⟩
  obtain ⟨k0, k1, k2, k3⟩ := HA1.out.st.cells
  rcases hcase with hck | ⟨hck, t1⟩ | ⟨hck, t1, t2⟩ | ⟨hck, t1, t2⟩
  iterate 3
    · rw [hck] at HCK
      clear hck
      go_wp2_with (go_at_call 14; refine (HCK.out _ HA1.out).mono ?_; rintro e w2 ⟨rfl, b2⟩; have HB2 := Lib.hid (below_trans HA1.out.below b2); clear b2)
      refine (awake7 _).mono ?_
      rintro e w3 ⟨rfl, b3⟩
      have HB3 := Lib.hid (below_trans HB2.out b3)
      clear b3
      go_wp2
      go_ret
      exact ⟨rfl, HB3.out⟩
  have HCHK := Lib.hid hck
  rw [hck] at HCK
  clear hck
  go_wp2_with fail
  refine (HCK.out _ HA1.out).mono ?_
  rintro e w2 ⟨rfl, b2⟩
  have HA2 := Lib.hid (HA1.out.later b2)
  clear b2 HA1 HCK k0 k1 k2 k3
  obtain ⟨k0, k1, k2, k3⟩ := HA2.out.st.cells
  go_wp2_with fail
  refine (HEN.out _ HA2.out).mono ?_
  rintro e w3 ⟨b3, hcase⟩
  rcases hcase with ⟨_, v3, rfl, hv3⟩ | ⟨hno, _⟩
  case inr => rw [HCHK.out] at hno; cases hno
  have HB3 := Lib.hid (below_trans HA2.out.below b3)
  have HV3 := Lib.hid hv3
  have hle := K.enc_le HCHK.out
  obtain ⟨M, hM⟩ : ∃ M, (K.enc a).length = M + 1 := ⟨(K.enc a).length - 1, by have := head_pos a; omega⟩
  have HM := Lib.hid hM
  obtain ⟨a3, c3, rfl, g1, g2, -, -⟩ := hv3
  rw [bv_len, hM] at g1 HV3 ⊢
  rw [hM] at hle
  have HTK := Lib.hid (fun (q : Nat) (h : q ≤ M) => (show Rdv w3 (.slice a3 q c3) (bv ((K.enc a).take q)) from Rdv.take (by have := HV3.out; rw [← HM.out] at this; exact this) (by have := HM.out; omega)))
  have HDC := Lib.hid (fun (q : Nat) (h : q ≤ M) => decode_none (HTK.out q h) (K.dec_cut HCHK.out (by have := HM.out; omega)))
  have HDT := Lib.hid (fun x v (hx : Rdv x v (bv (K.enc a ++ ts))) => decode_none hx (K.dec_tail HCHK.out (by rintro rfl; have := HT.out; simp at this; omega)))
  unfold maxLen at g2
  clear b3 HEN HA2 k0 k1 k2 k3 HTK hM
  rcases cut_cases z M with ⟨hz, hz2⟩ | ⟨q, rfl, hq⟩ | hz
  · have HD := Lib.hid (HDC.out 0 (Nat.zero_le _))
    clear HDC
    go_wp2_with fail
    refine HD.out.mono ?_
    rintro e w4 ⟨rfl, b4⟩
    have HL5 : Hid (Own ((w4.alloc (.cells #[.int .i64 0, .string ⟨#[]⟩, .int .i64 0, .slice none 0 0] 24)).alloc (.cells #[] 5)) (w4.heap.size + 1) 5 (.slice (some ⟨w4.heap.size + 1, 0, none⟩) 0 0) (bv [])) := by
      have := Own.lit (base := w4.heap.size + 1) (w4.alloc (.cells #[.int .i64 0, .string ⟨#[]⟩, .int .i64 0, .slice none 0 0] 24)) (e := 5) [] (by rw [box_size]; exact Nat.le_refl _) (by simp [maxLen])
      rw [box_size] at this
      exact this
    have B5 := below_trans (below_alloc w4 (.cells #[.int .i64 0, .string ⟨#[]⟩, .int .i64 0, .slice none 0 0] 24)) (below_alloc (w4.alloc (.cells #[.int .i64 0, .string ⟨#[]⟩, .int .i64 0, .slice none 0 0] 24)) (.cells #[] 5))
    have HW5 := Lib.hid (below_trans HB3.out (below_trans b4 B5))
    have HV5 := Lib.hid (HV3.out.below (below_trans b4 B5))
    have HT5 := Lib.hid (HTR.out.below HW5.out)
    have HZ5 : Hid (w4.heap.size + 1 ≤ ((w4.alloc (.cells #[.int .i64 0, .string ⟨#[]⟩, .int .i64 0, .slice none 0 0] 24)).alloc (.cells #[] 5)).heap.size) := by show _ ≤ _; rw [box_size, box_size]; omega
    have HSZ : Hid (w.heap.size ≤ w4.heap.size + 1) := by have := (below_trans HB3.out b4).size; show _ ≤ _; omega
    clear b4 HD B5
    go_wp2_with (first
      | (at_builtin; refine wpList_append_bytes rfl (.tmp 51) (.tmp 52) 27 rfl (w4.heap.size + 1) 5 Try.underlying27 Try.info_u8 (by rfl) O6.out (by rfl) T6.out (by have := HM.out; have := HT.out; omega) Z6.out ?_; intro v7 w7 ho7 _ hb7; have O7 := Lib.hid ho7.rd; have W7 := Lib.hid (W6.out.trans (hb7.mono HSZ.out)); obtain ⟨a7, c7, rfl, -⟩ := ho7.rd; clear ho7 hb7)
      | (at_builtin; refine wpList_append_bytes (xs := []) rfl (.tmp 49) (.tmp 50) 27 rfl (w4.heap.size + 1) 5 Try.underlying27 Try.info_u8 (by rfl) HL5.out (by rfl) HV5.out (by have := HM.out; simp; omega) HZ5.out ?_; intro v6 w6 ho6 _ hb6; rw [List.nil_append] at ho6; have O6 := Lib.hid ho6; have W6 := Lib.hid (HW5.out.trans (hb6.mono HSZ.out)); have T6 := Lib.hid (HTR.out.below W6.out); have Z6 := Lib.hid (Nat.le_trans HZ5.out hb6.size); obtain ⟨a6, c6, rfl, -⟩ := ho6.rd; rw [bv_len, HM.out] at O6; rw [bv_len, HM.out]; clear ho6 hb6))
    refine (HDT.out _ _ O7.out).mono ?_
    rintro e w8 ⟨rfl, b8⟩
    have HB8 := Lib.hid (below_trans W7.out (below_trans b8 (below_alloc w8 (.cells #[.int .i64 0, .string ⟨#[]⟩, .int .i64 0, .slice none 0 0] 24))))
    clear b8 HDT O7
    go_wp2_with fail
    refine (awake7 _).mono ?_
    rintro e w9 ⟨rfl, b9⟩
    have HB9 := Lib.hid (below_trans HB8.out b9)
    clear b9
    go_wp2
    go_ret
    exact ⟨rfl, HB9.out⟩
  · have HD := Lib.hid (HDC.out q hq)
    have hq1 : (q : Int) ≤ (M : Int) := by omega
    have hq2 : ¬ (M : Int) < (q : Int) := by omega
    clear HDC
    go_wp2_with fail
    refine HD.out.mono ?_
    rintro e w4 ⟨rfl, b4⟩
    have HL5 : Hid (Own ((w4.alloc (.cells #[.int .i64 0, .string ⟨#[]⟩, .int .i64 0, .slice none 0 0] 24)).alloc (.cells #[] 5)) (w4.heap.size + 1) 5 (.slice (some ⟨w4.heap.size + 1, 0, none⟩) 0 0) (bv [])) := by
      have := Own.lit (base := w4.heap.size + 1) (w4.alloc (.cells #[.int .i64 0, .string ⟨#[]⟩, .int .i64 0, .slice none 0 0] 24)) (e := 5) [] (by rw [box_size]; exact Nat.le_refl _) (by simp [maxLen])
      rw [box_size] at this
      exact this
    have B5 := below_trans (below_alloc w4 (.cells #[.int .i64 0, .string ⟨#[]⟩, .int .i64 0, .slice none 0 0] 24)) (below_alloc (w4.alloc (.cells #[.int .i64 0, .string ⟨#[]⟩, .int .i64 0, .slice none 0 0] 24)) (.cells #[] 5))
    have HW5 := Lib.hid (below_trans HB3.out (below_trans b4 B5))
    have HV5 := Lib.hid (HV3.out.below (below_trans b4 B5))
    have HT5 := Lib.hid (HTR.out.below HW5.out)
    have HZ5 : Hid (w4.heap.size + 1 ≤ ((w4.alloc (.cells #[.int .i64 0, .string ⟨#[]⟩, .int .i64 0, .slice none 0 0] 24)).alloc (.cells #[] 5)).heap.size) := by show _ ≤ _; rw [box_size, box_size]; omega
    have HSZ : Hid (w.heap.size ≤ w4.heap.size + 1) := by have := (below_trans HB3.out b4).size; show _ ≤ _; omega
    clear b4 HD B5
    go_wp2_with (first
      | (at_builtin; refine wpList_append_bytes rfl (.tmp 51) (.tmp 52) 27 rfl (w4.heap.size + 1) 5 Try.underlying27 Try.info_u8 (by rfl) O6.out (by rfl) T6.out (by have := HM.out; have := HT.out; omega) Z6.out ?_; intro v7 w7 ho7 _ hb7; have O7 := Lib.hid ho7.rd; have W7 := Lib.hid (W6.out.trans (hb7.mono HSZ.out)); obtain ⟨a7, c7, rfl, -⟩ := ho7.rd; clear ho7 hb7)
      | (at_builtin; refine wpList_append_bytes (xs := []) rfl (.tmp 49) (.tmp 50) 27 rfl (w4.heap.size + 1) 5 Try.underlying27 Try.info_u8 (by rfl) HL5.out (by rfl) HV5.out (by have := HM.out; simp; omega) HZ5.out ?_; intro v6 w6 ho6 _ hb6; rw [List.nil_append] at ho6; have O6 := Lib.hid ho6; have W6 := Lib.hid (HW5.out.trans (hb6.mono HSZ.out)); have T6 := Lib.hid (HTR.out.below W6.out); have Z6 := Lib.hid (Nat.le_trans HZ5.out hb6.size); obtain ⟨a6, c6, rfl, -⟩ := ho6.rd; rw [bv_len, HM.out] at O6; rw [bv_len, HM.out]; clear ho6 hb6))
    refine (HDT.out _ _ O7.out).mono ?_
    rintro e w8 ⟨rfl, b8⟩
    have HB8 := Lib.hid (below_trans W7.out (below_trans b8 (below_alloc w8 (.cells #[.int .i64 0, .string ⟨#[]⟩, .int .i64 0, .slice none 0 0] 24))))
    clear b8 HDT O7
    go_wp2_with fail
    refine (awake7 _).mono ?_
    rintro e w9 ⟨rfl, b9⟩
    have HB9 := Lib.hid (below_trans HB8.out b9)
    clear b9
    go_wp2
    go_ret
    exact ⟨rfl, HB9.out⟩
  · have HD := Lib.hid (HDC.out M (Nat.le_refl _))
    clear HDC
    go_wp2_with fail
    refine HD.out.mono ?_
    rintro e w4 ⟨rfl, b4⟩
    have HL5 : Hid (Own ((w4.alloc (.cells #[.int .i64 0, .string ⟨#[]⟩, .int .i64 0, .slice none 0 0] 24)).alloc (.cells #[] 5)) (w4.heap.size + 1) 5 (.slice (some ⟨w4.heap.size + 1, 0, none⟩) 0 0) (bv [])) := by
      have := Own.lit (base := w4.heap.size + 1) (w4.alloc (.cells #[.int .i64 0, .string ⟨#[]⟩, .int .i64 0, .slice none 0 0] 24)) (e := 5) [] (by rw [box_size]; exact Nat.le_refl _) (by simp [maxLen])
      rw [box_size] at this
      exact this
    have B5 := below_trans (below_alloc w4 (.cells #[.int .i64 0, .string ⟨#[]⟩, .int .i64 0, .slice none 0 0] 24)) (below_alloc (w4.alloc (.cells #[.int .i64 0, .string ⟨#[]⟩, .int .i64 0, .slice none 0 0] 24)) (.cells #[] 5))
    have HW5 := Lib.hid (below_trans HB3.out (below_trans b4 B5))
    have HV5 := Lib.hid (HV3.out.below (below_trans b4 B5))
    have HT5 := Lib.hid (HTR.out.below HW5.out)
    have HZ5 : Hid (w4.heap.size + 1 ≤ ((w4.alloc (.cells #[.int .i64 0, .string ⟨#[]⟩, .int .i64 0, .slice none 0 0] 24)).alloc (.cells #[] 5)).heap.size) := by show _ ≤ _; rw [box_size, box_size]; omega
    have HSZ : Hid (w.heap.size ≤ w4.heap.size + 1) := by have := (below_trans HB3.out b4).size; show _ ≤ _; omega
    clear b4 HD B5
    go_wp2_with (first
      | (at_builtin; refine wpList_append_bytes rfl (.tmp 51) (.tmp 52) 27 rfl (w4.heap.size + 1) 5 Try.underlying27 Try.info_u8 (by rfl) O6.out (by rfl) T6.out (by have := HM.out; have := HT.out; omega) Z6.out ?_; intro v7 w7 ho7 _ hb7; have O7 := Lib.hid ho7.rd; have W7 := Lib.hid (W6.out.trans (hb7.mono HSZ.out)); obtain ⟨a7, c7, rfl, -⟩ := ho7.rd; clear ho7 hb7)
      | (at_builtin; refine wpList_append_bytes (xs := []) rfl (.tmp 49) (.tmp 50) 27 rfl (w4.heap.size + 1) 5 Try.underlying27 Try.info_u8 (by rfl) HL5.out (by rfl) HV5.out (by have := HM.out; simp; omega) HZ5.out ?_; intro v6 w6 ho6 _ hb6; rw [List.nil_append] at ho6; have O6 := Lib.hid ho6; have W6 := Lib.hid (HW5.out.trans (hb6.mono HSZ.out)); have T6 := Lib.hid (HTR.out.below W6.out); have Z6 := Lib.hid (Nat.le_trans HZ5.out hb6.size); obtain ⟨a6, c6, rfl, -⟩ := ho6.rd; rw [bv_len, HM.out] at O6; rw [bv_len, HM.out]; clear ho6 hb6))
    refine (HDT.out _ _ O7.out).mono ?_
    rintro e w8 ⟨rfl, b8⟩
    have HB8 := Lib.hid (below_trans W7.out (below_trans b8 (below_alloc w8 (.cells #[.int .i64 0, .string ⟨#[]⟩, .int .i64 0, .slice none 0 0] 24))))
    clear b8 HDT O7
    go_wp2_with fail
    refine (awake7 _).mono ?_
    rintro e w9 ⟨rfl, b9⟩
    have HB9 := Lib.hid (below_trans HB8.out b9)
    clear b9
    go_wp2
    go_ret
    exact ⟨rfl, HB9.out⟩
end Go.Proofs.Ythbmmnjpiflgdaa
