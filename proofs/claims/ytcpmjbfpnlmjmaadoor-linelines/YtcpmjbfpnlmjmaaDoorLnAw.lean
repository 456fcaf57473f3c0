/- What the document fixes of lines: the walk of awake. -/
import Derived.Test.YtcpmjbfpnlmjmaaDoorLnQ
import Derived.Lib.SlBytesConst
namespace Go.Proofs.YtcpmjbfpnlmjmaaDoor
open Go.RowKit

/-- '[]byte("..")' of a constant, wherever its row lies. -/
theorem conv_const_at {P : Program} (w : World) (t e : TypeId) (C : Array Value) (n c g : Nat) (hg : g = w.heap.size) (ht : P.underlying t = some (.slice e)) (he : P.underlying e = some (.int .u8)) :
    (convert t t (.slice (some ⟨g, 0, none⟩) n c)).run P (w.alloc (.cells C e)) = .ok (.slice (some ⟨g, 0, none⟩) n c) (w.alloc (.cells C e (C.size, C.size + 1))) := by
  subst hg; exact Lib.run_convert_bytes_const w t e C n c ht he
theorem mark_rd {w : World} {e : TypeId} (bs : List UInt8) (fr : Nat × Nat) (g : Nat) (hg : g = w.heap.size) (hm : bs.length ≤ maxLen) : Rdv (w.alloc (.cells (bv bs).toArray e fr)) (.slice (some ⟨g, 0, none⟩) bs.length bs.length) (bv bs) := by
  subst hg
  refine ⟨some ⟨w.heap.size, 0, none⟩, bs.length, by rw [bv_len], by rw [bv_len]; omega, hm, (by intro h; cases h), fun j u hu => ⟨_, rfl, ?_⟩⟩
  rw [Addr.add_lit]
  have := World.cell?_alloc_mark w (bv bs).toArray e fr (0 + j)
  rw [this]
  simpa using hu

theorem aw_s1 : stS [97, 58, 32, 39, 120, 32, 35, 32, 121, 39, 32, 35, 32, 122] = [97, 58, 32, 39, 120, 32, 35, 32, 121, 39] ∧ stB [97, 58, 32, 39, 120, 32, 35, 32, 121, 39, 32, 35, 32, 122] = true := by decide +kernel
theorem aw_s2 : stS [97, 32, 39, 98] = [] ∧ stB [97, 32, 39, 98] = false := by decide +kernel
def awt1 : List UInt8 := [10, 32, 32, 97, 58, 32, 98, 32, 32, 35, 32, 99, 10, 35, 100, 10]
def awt2 : List UInt8 := [97, 10, 9, 98]
theorem aw_l1 : LN.outF awt1 = (0, 0) ∧ LN.outL awt1 = [(2, 2, [97, 58, 32, 98])] := by decide +kernel
theorem aw_l2 : LN.outF awt2 = (2, 2) := by decide +kernel
theorem aw_lines1 (v : Value) (w : World) (hr : Rdv w v (bv awt1)) (hm : MaxIs w) : Calls Tryd.prog 10 #[v] w fun e w' => ∃ g off c, e = .returned (.tuple #[.slice (some ⟨g, off, none⟩) 1 c, .agg #[.int .i64 0, .int .i64 0]]) ∧ At3 w' g off (2, 2, [97, 58, 32, 98]) ∧ Below w.heap.size w w' := by
  refine (lines_any v awt1 w hr hm).mono ?_
  rintro e w' ⟨x, rfl, ho, hb⟩
  rw [aw_l1.1]
  rw [aw_l1.2] at ho
  obtain ⟨ao, c, rfl, -, -, -, h4⟩ := ho.rd
  obtain ⟨g, off, rfl, hc⟩ := h4 0 _ rfl
  exact ⟨g, off, c, rfl, by simpa using hc, hb⟩
theorem aw_lines2 (v : Value) (w : World) (hr : Rdv w v (bv awt2)) (hm : MaxIs w) : Calls Tryd.prog 10 #[v] w fun e w' => ∃ ao n c, e = .returned (.tuple #[.slice ao n c, .agg #[.int .i64 2, .int .i64 2]]) ∧ Below w.heap.size w w' := by
  refine (lines_any v awt2 w hr hm).mono ?_
  rintro e w' ⟨x, rfl, ho, hb⟩
  rw [aw_l2]
  obtain ⟨ao, c, rfl⟩ := ho.slice
  exact ⟨ao, _, c, rfl, hb⟩
theorem aw_strip1 (w : World) : Calls Tryd.prog 8 #[.string ⟨#[97, 58, 32, 39, 120, 32, 35, 32, 121, 39, 32, 35, 32, 122]⟩] w fun e w' => e = .returned (.tuple #[.string ⟨#[97, 58, 32, 39, 120, 32, 35, 32, 121, 39]⟩, .bool true]) ∧ w' = w := by
  have := strip_any [97, 58, 32, 39, 120, 32, 35, 32, 121, 39, 32, 35, 32, 122] (by decide) w
  rw [aw_s1.1, aw_s1.2] at this
  exact this
theorem aw_strip2 (w : World) : Calls Tryd.prog 8 #[.string ⟨#[97, 32, 39, 98]⟩] w fun e w' => e = .returned (.tuple #[.string ⟨#[]⟩, .bool false]) ∧ w' = w := by
  have := strip_any [97, 32, 39, 98] (by decide) w
  rw [aw_s2.1, aw_s2.2] at this
  exact this

theorem aw_slice {x : World} {g : Nat} {bs : List UInt8} {n : Nat} (hn : n = bs.length) (h : Rdv x (.slice (some ⟨g, 0, none⟩) bs.length bs.length) (bv bs)) : Rdv x (.slice (some ⟨g, 0, none⟩) n n) (bv bs) := by rw [hn]; exact h

set_option maxRecDepth 10000 in
set_option maxHeartbeats 8000000 in
theorem awake10 (w : World) (hm : MaxIs w) :
    Calls Tryd.prog 7 #[] w fun e w' => e = .returned (.bool true) ∧ Below w.heap.size w w' := by
  have HS1 := Lib.hid (aw_strip1 w)
  have HS2 := Lib.hid (aw_strip2 w)
  have BW1 := below_alloc w (.cells (bv awt1).toArray 5 (16, 17))
  have HL1 := Lib.hid (aw_lines1 _ _ (aw_slice (n := 16) rfl (mark_rd (w := w) (e := 5) awt1 (16, 17) w.heap.size rfl (by decide))) (hm.below BW1))
  have HB1 := Lib.hid BW1
  have HM := Lib.hid hm
  have kc := conv_const_at (P := Tryd.prog) w 26 5 #[.int .u8 10, .int .u8 32, .int .u8 32, .int .u8 97, .int .u8 58, .int .u8 32, .int .u8 98, .int .u8 32, .int .u8 32, .int .u8 35, .int .u8 32, .int .u8 99, .int .u8 10, .int .u8 35, .int .u8 100, .int .u8 10] 16 16 w.heap.size rfl Tryd.underlying26 Tryd.underlying5
  have hq1 := eq_fault 0 0
  have hq2 := eq_fault 2 2
  have hq3 := eq_line 2 2 [97, 58, 32, 98]
  have hg1 := line_guard
  have hg2 := fault_guard
  clear hm BW1
  go_enter Tryd.func7, Tryd.ntmps7
  go_wp2_with fail
  refine HS1.out.mono ?_
  rintro e w1 ⟨rfl, hw1⟩
  replace hw1 := hw1.symm
  subst hw1
  go_wp2_with fail
  refine HS2.out.mono ?_
  rintro e w1 ⟨rfl, hw1⟩
  replace hw1 := hw1.symm
  subst hw1
  clear HS1 HS2
  go_wp2_with fail
  refine HL1.out.mono ?_
  rintro e w1 ⟨g, off, c, rfl, ha1, hb1⟩
  have B1 := below_tr HB1.out hb1
  have B2 := below_tr B1 (below_alloc w1 (.cells #[.int .i64 0, .int .i64 0] 29))
  have hsz := bx_size w1 (.cells #[.int .i64 0, .int .i64 0] 29)
  have BW2 := below_alloc (w1.alloc (.cells #[.int .i64 0, .int .i64 0] 29)) (.cells (bv awt2).toArray 5 (4, 5))
  have B3 := below_tr B2 BW2
  have kc2 := conv_const_at (P := Tryd.prog) (w1.alloc (.cells #[.int .i64 0, .int .i64 0] 29)) 26 5 #[.int .u8 97, .int .u8 10, .int .u8 9, .int .u8 98] 4 4 (w1.heap.size + 1) hsz.symm Tryd.underlying26 Tryd.underlying5
  have HL2 := Lib.hid (aw_lines2 _ _ (aw_slice (n := 4) rfl (mark_rd (w := w1.alloc (.cells #[.int .i64 0, .int .i64 0] 29)) (e := 5) awt2 (4, 5) (w1.heap.size + 1) hsz.symm (by decide))) (HM.out.below B3))
  have HB3 := Lib.hid B3
  have HS3 := Lib.hid ((Str.new w1 29 #[.int .i64 0, .int .i64 0]).below BW2)
  have HA3 := Lib.hid ((ha1.below (below_alloc w1 (.cells #[.int .i64 0, .int .i64 0] 29))).below BW2)
  clear ha1 hb1 B1 B2 B3 BW2 hsz HL1 HB1 HM kc
  go_wp2_with fail
  refine HL2.out.mono ?_
  rintro e w2 ⟨ao2, n2, c2, rfl, hb2⟩
  have B4 := below_tr hb2 (below_alloc w2 (.cells #[.int .i64 2, .int .i64 2] 29))
  have HB4 := Lib.hid (below_tr HB3.out B4)
  obtain ⟨c0, c1⟩ := (HS3.out.below B4).cells2
  obtain ⟨d0, d1⟩ := (Str.new w2 29 #[.int .i64 2, .int .i64 2]).cells2
  obtain ⟨a0, a1, a2⟩ := HA3.out.below B4
  clear HL2 HB3 HS3 HA3 hb2 B4 kc2
  go_wp2
  go_ret
  exact ret_b rfl HB4.out
end Go.Proofs.YtcpmjbfpnlmjmaaDoor
