/- What the document fixes of pieces: the walk of awake. -/
import Derived.Test.YtpmcglnfnkpjlaaDoorLxA
import Derived.Test.YtpmcglnfnkpjlaaDoorLxI
namespace Go.Proofs.YtpmcglnfnkpjlaaDoor
open Go.RowKit

def awt1 : List UInt8 := [45, 32, 107, 101, 121, 58, 32, 34, 97, 32, 98, 34]
def awp1 : List LX.Pc := [(1, 3, 2, [], false), (2, 3, 4, [107, 101, 121], false), (3, 3, 9, [97, 32, 98], true)]
def awl4 : List LX.Lz := [(1, 0, [97, 58]), (2, 1, [39, 105, 116, 39, 39, 115, 39])]
def awp4 : List LX.Pc := [(2, 1, 0, [97], false), (3, 2, 1, [105, 116, 39, 115], true)]
theorem aw_r1 : LX.row (3, 2, awt1) = (0, awp1) := Prod.ext (by decide +kernel) (by decide +kernel)
theorem aw_r2 : LX.row (1, 0, [97, 58, 32, 91, 98]) = (4, []) := Prod.ext (by decide +kernel) (by decide +kernel)
theorem aw_r3 : LX.row (1, 0, [39, 97, 39, 32, 98]) = (3, []) := Prod.ext (by decide +kernel) (by decide +kernel)
theorem aw_r4 : LX.all awl4 = ((0, awp4), 0) := Prod.ext (Prod.ext (by decide +kernel) (by decide +kernel)) (by decide +kernel)
theorem aw_row1 (w : World) (hm : MaxIs w) : Calls Tryd.prog 9 #[.agg #[.int .i64 3, .int .i64 2, .string ⟨#[45, 32, 107, 101, 121, 58, 32, 34, 97, 32, 98, 34]⟩]] w fun e w' => ∃ ao c, e = .returned (.tuple #[.slice ao 3 c, .agg #[.int .i64 0, .int .i64 0]]) ∧ Rdp w' (.slice ao 3 c) awp1 ∧ Below w.heap.size w w' := by
  refine (lexRow_any (3, 2, awt1) w (by decide) hm).mono ?_
  intro e w' h
  obtain ⟨v, rfl, ho, hb⟩ := rowe_ok aw_r1 h
  obtain ⟨ao, c, rfl⟩ := ho.slice
  exact ⟨ao, c, rfl, ho.rd, hb⟩
theorem aw_row2 (w : World) (hm : MaxIs w) : Calls Tryd.prog 9 #[.agg #[.int .i64 1, .int .i64 0, .string ⟨#[97, 58, 32, 91, 98]⟩]] w fun e w' => ∃ ao n c, e = .returned (.tuple #[.slice ao n c, .agg #[.int .i64 4, .int .i64 1]]) ∧ Below w.heap.size w w' := by
  refine (lexRow_any (1, 0, [97, 58, 32, 91, 98]) w (by decide) hm).mono ?_
  intro e w' h
  obtain ⟨v, rfl, ho, hb⟩ := rowe_bad aw_r2 (by decide) h
  obtain ⟨ao, c, rfl⟩ := ho.slice
  exact ⟨ao, _, c, rfl, hb⟩
theorem aw_row3 (w : World) (hm : MaxIs w) : Calls Tryd.prog 9 #[.agg #[.int .i64 1, .int .i64 0, .string ⟨#[39, 97, 39, 32, 98]⟩]] w fun e w' => ∃ ao n c, e = .returned (.tuple #[.slice ao n c, .agg #[.int .i64 3, .int .i64 1]]) ∧ Below w.heap.size w w' := by
  refine (lexRow_any (1, 0, [39, 97, 39, 32, 98]) w (by decide) hm).mono ?_
  intro e w' h
  obtain ⟨v, rfl, ho, hb⟩ := rowe_bad aw_r3 (by decide) h
  obtain ⟨ao, c, rfl⟩ := ho.slice
  exact ⟨ao, _, c, rfl, hb⟩
theorem aw_lines (w : World) (g : Nat) (hg : w.heap.size = g) : Rdz (w.alloc (.cells #[.int .i64 1, .int .i64 0, .string ⟨#[97, 58]⟩, .int .i64 2, .int .i64 1, .string ⟨#[39, 105, 116, 39, 39, 115, 39]⟩] 23)) (.slice (some ⟨g, 0, none⟩) 2 2) awl4 := by
  subst hg
  have s := Str.new w 23 #[.int .i64 1, .int .i64 0, .string ⟨#[97, 58]⟩, .int .i64 2, .int .i64 1, .string ⟨#[39, 105, 116, 39, 39, 115, 39]⟩]
  refine ⟨some ⟨w.heap.size, 0, none⟩, 2, rfl, by decide, by decide, (by intro h; cases h), fun j x hx => ⟨_, _, rfl, ?_⟩⟩
  match j, hx with
  | 0, hx =>
    obtain rfl : (1, 0, [97, 58]) = x := by simpa [awl4] using hx
    exact ⟨s.cell 0, s.cell 1, s.cell 2⟩
  | 1, hx =>
    obtain rfl : (2, 1, [39, 105, 116, 39, 39, 115, 39]) = x := by simpa [awl4] using hx
    exact ⟨s.cell 3, s.cell 4, s.cell 5⟩
  | j + 2, hx => simp [awl4] at hx
theorem aw_all (w : World) (g : Nat) (hg : w.heap.size = g) (hm : MaxIs w) : Calls Tryd.prog 12 #[.slice (some ⟨g, 0, none⟩) 2 2] (w.alloc (.cells #[.int .i64 1, .int .i64 0, .string ⟨#[97, 58]⟩, .int .i64 2, .int .i64 1, .string ⟨#[39, 105, 116, 39, 39, 115, 39]⟩] 23)) fun e w' => ∃ b off c, e = .returned (.tuple #[.slice (some ⟨b, off, none⟩) 2 c, .agg #[.int .i64 0, .int .i64 0]]) ∧ At5 w' b (off + 5) (3, 2, 1, [105, 116, 39, 115], true) ∧ Below w.heap.size w w' := by
  have BB := below_alloc w (.cells #[.int .i64 1, .int .i64 0, .string ⟨#[97, 58]⟩, .int .i64 2, .int .i64 1, .string ⟨#[39, 105, 116, 39, 39, 115, 39]⟩] 23)
  refine (lall_any _ awl4 _ (aw_lines w g hg) (by intro x hx; simp [awl4] at hx; rcases hx with rfl | rfl <;> decide) (by decide) (hm.below BB)).mono ?_
  rintro e w' ⟨hb, v, rfl, ho⟩
  rw [aw_r4] at ho ⊢
  obtain ⟨ao, c, rfl, -, -, -, h4⟩ := ho.rd
  obtain ⟨b, off, rfl, hc⟩ := h4 1 _ rfl
  exact ⟨b, off, c, rfl, by simpa using hc, below_tr BB hb⟩
theorem aw_lit (w : World) (g : Nat) (hg : w.heap.size = g) : Rdp (w.alloc (.cells #[.int .i64 1, .int .i64 3, .int .i64 2, .string ⟨#[]⟩, .bool false, .int .i64 2, .int .i64 3, .int .i64 4, .string ⟨#[107, 101, 121]⟩, .bool false, .int .i64 3, .int .i64 3, .int .i64 9, .string ⟨#[97, 32, 98]⟩, .bool true] 36)) (.slice (some ⟨g, 0, none⟩) 3 3) awp1 := by
  subst hg
  exact (Ownp.lit w (base := 0) awp1 (Nat.zero_le _) (by decide)).rd

set_option maxRecDepth 10000 in
set_option maxHeartbeats 8000000 in
theorem awake11 (w : World) (hm : MaxIs w) :
    Calls Tryd.prog 8 #[] w fun e w' => e = .returned (.bool true) ∧ Below w.heap.size w w' := by
  have hq1 := eq_fault 0 0
  have hq2 := eq_fault 4 1
  have hq3 := eq_fault 3 1
  have hg2 := fault_guard
  have HM := Lib.hid hm
  have H1 := Lib.hid (aw_row1 w hm)
  clear hm
  go_enter Tryd.func8, Tryd.ntmps8
  go_wp2_with fail
  refine H1.out.mono ?_
  rintro e w1 ⟨ao1, c1, rfl, r1, b1⟩
  have B1 := below_tr b1 (below_alloc w1 (.cells #[.int .i64 0, .int .i64 0] 27))
  have HB1 := Lib.hid B1
  have HS1 := Lib.hid (Str.new w1 27 #[.int .i64 0, .int .i64 0])
  have HR1 := Lib.hid (r1.below (below_alloc w1 (.cells #[.int .i64 0, .int .i64 0] 27)))
  have H2 := Lib.hid (aw_row2 _ (HM.out.below B1))
  clear r1 b1 B1 H1
  go_wp2_with fail
  refine H2.out.mono ?_
  rintro e w2 ⟨ao2, n2, c2, rfl, b2⟩
  have B2 := below_tr b2 (below_alloc w2 (.cells #[.int .i64 4, .int .i64 1] 27))
  have HB2 := Lib.hid (below_tr HB1.out B2)
  have HS2 := Lib.hid (HS1.out.below B2)
  have HT2 := Lib.hid (Str.new w2 27 #[.int .i64 4, .int .i64 1])
  have HR2 := Lib.hid (HR1.out.below B2)
  have H3 := Lib.hid (aw_row3 _ (HM.out.below HB2.out))
  clear b2 B2 H2 HB1 HS1 HR1
  go_wp2_with fail
  refine H3.out.mono ?_
  rintro e w3 ⟨ao3, n3, c3, rfl, b3⟩
  have B3 := below_tr b3 (below_alloc w3 (.cells #[.int .i64 3, .int .i64 1] 27))
  have hsz3 := bx_size w3 (.cells #[.int .i64 3, .int .i64 1] 27)
  have HB3 := Lib.hid (below_tr HB2.out B3)
  have HS3 := Lib.hid (HS2.out.below B3)
  have HT3 := Lib.hid (HT2.out.below B3)
  have HU3 := Lib.hid (Str.new w3 27 #[.int .i64 3, .int .i64 1])
  have HR3 := Lib.hid (HR2.out.below B3)
  have H4 := Lib.hid (aw_all _ (w3.heap.size + 1) hsz3 (HM.out.below HB3.out))
  clear b3 B3 H3 HB2 HS2 HT2 HR2 hsz3
  go_wp2_with fail
  refine H4.out.mono ?_
  rintro e w4 ⟨mb, mo, c4, rfl, m4, b4⟩
  have B4 := below_tr b4 (below_alloc w4 (.cells #[.int .i64 0, .int .i64 0] 27))
  have hsz4 := bx_size w4 (.cells #[.int .i64 0, .int .i64 0] 27)
  have HB4 := Lib.hid (below_tr HB3.out B4)
  obtain ⟨z0, z1⟩ := (HS3.out.below B4).cells2
  have HS4 := Lib.hid (HS3.out.below B4)
  have HT4 := Lib.hid (HT3.out.below B4)
  have HU4 := Lib.hid (HU3.out.below B4)
  have HV4 := Lib.hid (Str.new w4 27 #[.int .i64 0, .int .i64 0])
  have HR4 := Lib.hid (HR3.out.below B4)
  have HM4 := Lib.hid (m4.below (below_alloc w4 (.cells #[.int .i64 0, .int .i64 0] 27)))
  have BX := below_alloc (w4.alloc (.cells #[.int .i64 0, .int .i64 0] 27)) (.cells #[.int .i64 1, .int .i64 3, .int .i64 2, .string ⟨#[]⟩, .bool false, .int .i64 2, .int .i64 3, .int .i64 4, .string ⟨#[107, 101, 121]⟩, .bool false, .int .i64 3, .int .i64 3, .int .i64 9, .string ⟨#[97, 32, 98]⟩, .bool true] 36)
  have HBX := Lib.hid BX
  have HPS := Lib.hid (psame_any _ _ awp1 _ (HR4.out.below BX) (aw_lit _ (w4.heap.size + 1) hsz4))
  clear b4 B4 H4 HB3 HS3 HT3 HU3 HR3 m4 hsz4 BX
  go_wp2_with fail
  refine HPS.out.mono ?_
  rintro e w5 ⟨rfl, b5⟩
  have B5 := below_tr HBX.out b5
  have HB5 := Lib.hid (below_tr HB4.out B5)
  obtain ⟨s0, s1⟩ := (HS4.out.below B5).cells2
  obtain ⟨t0, t1⟩ := (HT4.out.below B5).cells2
  obtain ⟨u0, u1⟩ := (HU4.out.below B5).cells2
  obtain ⟨v0, v1⟩ := (HV4.out.below B5).cells2
  obtain ⟨-, -, -, m3, m4⟩ := HM4.out.below B5
  clear HPS HBX b5 B5 HB4 HS4 HT4 HU4 HV4 HR4 HM4
  go_wp2
  go_ret
  exact ret_b rfl HB5.out
end Go.Proofs.YtpmcglnfnkpjlaaDoor
