/- The walk of LexSingle. -/
import Derived.Test.YtpmcglnfnkpjlaaDoorLxL1
import Derived.Test.YtpmcglnfnkpjlaaDoorLxQt
namespace Go.Proofs.YtpmcglnfnkpjlaaDoor
open Go.RowKit

theorem rep_any (S : List UInt8) (w : World) (hl : S.length ≤ 5000) (hm : MaxIs w) :
    Calls Tryd.prog 15 #[.string ⟨S.toArray⟩, .string ⟨#[39]⟩, .string ⟨#[39, 39]⟩] w fun e w' => e = .returned (.string ⟨(LX.dbl S).toArray⟩) ∧ Below w.heap.size w w' := by
  obtain ⟨m, hm⟩ := hm
  have hsz := str_size S
  have h1 : 1 ≤ (⟨#[39]⟩ : ByteArray).size := by decide
  have hc := Lib.countB_mul_le ⟨#[39]⟩ h1 _ ⟨S.toArray⟩ (Nat.le_refl _)
  have e1 : (⟨#[39]⟩ : ByteArray).size = 1 := rfl
  have e2 : (⟨#[39, 39]⟩ : ByteArray).size = 2 := rfl
  rw [e1, hsz] at hc
  have := Tryd.strings_ReplaceAll ⟨S.toArray⟩ ⟨#[39]⟩ ⟨#[39, 39]⟩ m w (by rw [hsz]; omega) hm h1 (by rw [hsz, e2]; omega)
  refine this.mono ?_
  rintro e w' ⟨rfl, hb⟩
  refine ⟨?_, hb⟩
  rw [← LX.repAll_dbl S]
/-- One piece, written out. -/
theorem one_lit (w : World) (g : Nat) (hg : w.heap.size = g) (k no c : Int) (t : List UInt8) (q : Bool) : Rdp (w.alloc (.cells #[.int .i64 k, .int .i64 no, .int .i64 c, .string ⟨t.toArray⟩, .bool q] 36)) (.slice (some ⟨g, 0, none⟩) 1 1) [(k, no, c, t, q)] := by
  subst hg
  exact (Ownp.lit w (base := 0) [(k, no, c, t, q)] (Nat.zero_le _) (by simp [maxLen])).rd
theorem two_lit (w : World) (g : Nat) (hg : w.heap.size = g) (k no c k' no' c' : Int) (t t' : List UInt8) (q q' : Bool) : Rdp (w.alloc (.cells #[.int .i64 k, .int .i64 no, .int .i64 c, .string ⟨t.toArray⟩, .bool q, .int .i64 k', .int .i64 no', .int .i64 c', .string ⟨t'.toArray⟩, .bool q'] 36)) (.slice (some ⟨g, 0, none⟩) 2 2) [(k, no, c, t, q), (k', no', c', t', q')] := by
  subst hg
  exact (Ownp.lit w (base := 0) [(k, no, c, t, q), (k', no', c', t', q')] (Nat.zero_le _) (by simp [maxLen])).rd

set_option maxRecDepth 10000 in
set_option maxHeartbeats 8000000 in
theorem lexSingle_list (S : List UInt8) (key : Bool) (w : World) (hl : S.length ≤ maxLen) (hm : MaxIs w) :
    Calls Tryd.prog 7 #[.string ⟨S.toArray⟩, .bool key] w fun e w' => e = .returned (.bool true) ∧ Below w.heap.size w w' := by
  have hsz := str_size S
  unfold maxLen at hl
  have HM := Lib.hid hm
  by_cases hbig : 200 < S.length
  · have hb2 : (200 : Int) < (S.length : Int) := by omega
    have HA := Lib.hid (awake11 w hm)
    go_enter Tryd.func7, Tryd.ntmps7
    go_wp2_with (go_at_call 8; refine HA.out.mono ?_; rintro e w3 ⟨rfl, b3⟩; have B3 := Lib.hid b3; clear b3)
    go_ret
    exact ⟨rfl, B3.out⟩
  · have HRP := Lib.hid (rep_any S w (by omega) hm)
    have HR1 := Lib.hid (LX.row_sgl (s := S) (by omega))
    have HR2 := Lib.hid (LX.row_sgl_key (s := S) (by omega))
    have HDL := Lib.hid (LX.dbl_len S)
    obtain ⟨n, hn⟩ : ∃ n, S.length = n := ⟨_, rfl⟩
    rw [hn] at hsz hl hbig HDL
    have hb2 : ¬ (200 : Int) < (n : Int) := by omega
    obtain ⟨D, hD⟩ : ∃ D, LX.dbl S = D := ⟨_, rfl⟩
    rw [hD] at HRP HR1 HR2 HDL
    have hq1 := eq_fault 0 0
    have hg2 := fault_guard
    have cat1 : (⟨#[39]⟩ : ByteArray) ++ ⟨D.toArray⟩ = ⟨(39 :: D).toArray⟩ := str_app [39] D
    have cat2 : (⟨(39 :: D).toArray⟩ : ByteArray) ++ ⟨#[39]⟩ = ⟨(39 :: (D ++ [39])).toArray⟩ := str_app (39 :: D) [39]
    have cat3 : (⟨#[97, 58, 32, 32]⟩ : ByteArray) ++ ⟨(39 :: (D ++ [39])).toArray⟩ = ⟨(97 :: 58 :: 32 :: 32 :: 39 :: (D ++ [39])).toArray⟩ := str_app [97, 58, 32, 32] (39 :: (D ++ [39]))
    have z1 := str_size D
    have z2 := str_size (39 :: D)
    have z3 := str_size (39 :: (D ++ [39]))
    have HTL : Hid ((39 :: (D ++ [39])).length ≤ 402) := by show _ ≤ _; have := HDL.out; simp only [List.length_cons, List.length_append, List.length_nil]; omega
    obtain ⟨d, hd⟩ : ∃ d, D.length = d := ⟨_, rfl⟩
    have z2' : (39 :: D).length = d + 1 := by rw [List.length_cons, hd]
    have z3' : (39 :: (D ++ [39])).length = d + 2 := by rw [List.length_cons, List.length_append, hd]; rfl
    rw [hd] at z1 HDL
    rw [z2'] at z2
    rw [z3'] at z3
    have y1 : ¬ 9223372036854775807 < 1 + d := by have := HDL.out; omega
    have y2 : ¬ 9223372036854775807 < d + 1 + 1 := by have := HDL.out; omega
    have y3 : ¬ 9223372036854775807 < 4 + (d + 2) := by have := HDL.out; omega
    clear hn hm hD hd z2' z3'
    go_enter Tryd.func7, Tryd.ntmps7
    go_wp2_with fail
    refine HRP.out.mono ?_
    rintro e w1 ⟨rfl, b1⟩
    have HB1 := Lib.hid b1
    clear b1 HRP
    cases key with
    | false =>
      have BX1 := below_alloc w1 (.cells #[.int .i64 3, .int .i64 1, .int .i64 0, .string ⟨S.toArray⟩, .bool true] 36)
      have HLT := Lib.hid (one_lit w1 w1.heap.size rfl 3 1 0 S true)
      have HBX := Lib.hid (below_tr HB1.out BX1)
      have H1 := Lib.hid (lexRow_any (1, 0, 39 :: (D ++ [39])) _ (by have := HTL.out; simp only at this ⊢; omega) (HM.out.below HBX.out))
      have HOK := Lib.hid (fun (x : World) (e : Ending) (w' : World) (h : RowE x (1, 0, 39 :: (D ++ [39])) e w') => rowe_ok HR1.out h)
      clear BX1 HR1 HR2 HB1
      go_wp2_with fail
      refine H1.out.mono ?_
      rintro e w2 h2
      obtain ⟨v2, rfl, o2, b2⟩ := HOK.out _ _ _ h2
      obtain ⟨a2, c2, rfl⟩ := o2.slice
      have B2 := below_tr b2 (below_alloc w2 (.cells #[.int .i64 0, .int .i64 0] 27))
      have HB2 := Lib.hid (below_tr HBX.out B2)
      have HO2 := Lib.hid (o2.rd.below (below_alloc w2 (.cells #[.int .i64 0, .int .i64 0] 27)))
      have HF2 := Lib.hid (Str.new w2 27 #[.int .i64 0, .int .i64 0])
      have HC := Lib.hid (psame_any _ _ [(3, 1, 0, S, true)] _ HO2.out (HLT.out.below B2))
      clear h2 o2 b2 B2 H1 HOK HBX HLT HO2
      go_wp2_with fail
      refine HC.out.mono ?_
      rintro e w3 ⟨rfl, b3⟩
      have HB3 := Lib.hid (below_tr HB2.out b3)
      have HA := Lib.hid (awake11 w3 (HM.out.below HB3.out))
      clear HC b3 HB2 HF2
      go_wp2_with (go_at_call 8; refine HA.out.mono ?_; rintro e w4 ⟨rfl, b4⟩; have B4 := Lib.hid (below_tr HB3.out b4); clear b4)
      go_ret
      exact ⟨rfl, B4.out⟩
    | true =>
      have BX1 := below_alloc w1 (.cells #[.int .i64 3, .int .i64 1, .int .i64 0, .string ⟨S.toArray⟩, .bool true] 36)
      have z4 := bx_size w1 (.cells #[.int .i64 3, .int .i64 1, .int .i64 0, .string ⟨S.toArray⟩, .bool true] 36)
      have BX2 := below_alloc (w1.alloc (.cells #[.int .i64 3, .int .i64 1, .int .i64 0, .string ⟨S.toArray⟩, .bool true] 36)) (.cells #[.int .i64 2, .int .i64 1, .int .i64 0, .string ⟨#[97]⟩, .bool false, .int .i64 3, .int .i64 1, .int .i64 4, .string ⟨S.toArray⟩, .bool true] 36)
      have HLT := Lib.hid (two_lit (w1.alloc (.cells #[.int .i64 3, .int .i64 1, .int .i64 0, .string ⟨S.toArray⟩, .bool true] 36)) (w1.heap.size + 1) z4 2 1 0 3 1 4 [97] S false true)
      have HBX := Lib.hid (below_tr HB1.out (below_tr BX1 BX2))
      have H1 := Lib.hid (lexRow_any (1, 0, 97 :: 58 :: 32 :: 32 :: 39 :: (D ++ [39])) _ (by have := HTL.out; simp only [List.length_cons] at this ⊢; omega) (HM.out.below HBX.out))
      have HOK := Lib.hid (fun (x : World) (e : Ending) (w' : World) (h : RowE x (1, 0, 97 :: 58 :: 32 :: 32 :: 39 :: (D ++ [39])) e w') => rowe_ok HR2.out h)
      clear BX1 BX2 HR1 HR2 HB1 z4
      go_wp2_with fail
      refine H1.out.mono ?_
      rintro e w2 h2
      obtain ⟨v2, rfl, o2, b2⟩ := HOK.out _ _ _ h2
      obtain ⟨a2, c2, rfl⟩ := o2.slice
      have B2 := below_tr b2 (below_alloc w2 (.cells #[.int .i64 0, .int .i64 0] 27))
      have HB2 := Lib.hid (below_tr HBX.out B2)
      have HO2 := Lib.hid (o2.rd.below (below_alloc w2 (.cells #[.int .i64 0, .int .i64 0] 27)))
      have HF2 := Lib.hid (Str.new w2 27 #[.int .i64 0, .int .i64 0])
      have HC := Lib.hid (psame_any _ _ [(2, 1, 0, [97], false), (3, 1, 4, S, true)] _ HO2.out (HLT.out.below B2))
      clear h2 o2 b2 B2 H1 HOK HBX HLT HO2
      go_wp2_with fail
      refine HC.out.mono ?_
      rintro e w3 ⟨rfl, b3⟩
      have HB3 := Lib.hid (below_tr HB2.out b3)
      have HA := Lib.hid (awake11 w3 (HM.out.below HB3.out))
      clear HC b3 HB2 HF2
      go_wp2_with (go_at_call 8; refine HA.out.mono ?_; rintro e w4 ⟨rfl, b4⟩; have B4 := Lib.hid (below_tr HB3.out b4); clear b4)
      go_ret
      exact ⟨rfl, B4.out⟩
theorem lexSingle_walk (s : ByteArray) (key : Bool) (w : World) (hs : s.size ≤ maxLen) (hm : MaxIs w) :
    Calls Tryd.prog 7 #[.string s, .bool key] w fun e w' => e = .returned (.bool true) ∧ Below w.heap.size w w' := by
  obtain ⟨⟨l⟩⟩ := s
  exact lexSingle_list l key w hs hm
end Go.Proofs.YtpmcglnfnkpjlaaDoor
