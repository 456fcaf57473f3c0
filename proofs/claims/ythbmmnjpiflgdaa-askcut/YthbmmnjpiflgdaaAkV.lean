/- Walks of heavy and code. -/
import Derived.Test.YthbmmnjpiflgdaaAkB
namespace Go.Proofs.Ythbmmnjpiflgdaa
open Go.RowKit

def Told (w : World) (e : Ending) (w' : World) : Prop := ∃ b, e = .returned (.bool b) ∧ Below w.heap.size w w'
set_option maxHeartbeats 8000000 in
theorem heavy_any (a : K.A) (vd : Value) (w : World) (hr : Rdd w vd a.2.2.2) :
    Calls Try.prog 8 #[.agg #[.int .i64 a.1, .string ⟨a.2.1.toArray⟩, .int .i64 a.2.2.1, vd]] w (Told w) := by
  have hlm : a.2.2.2.length ≤ 9223372036854775807 := by have := hr.len_le; unfold maxLen at this; omega
  obtain ⟨id, dom, hs, ds⟩ := a
  simp only at hr hlm ⊢
  obtain ⟨ao, cap, rfl, h1, h2, h3, h4⟩ := hr
  have HS := Lib.hid (Str.new w 24 #[.int .i64 id, .string ⟨dom.toArray⟩, .int .i64 hs, .slice ao ds.length cap])
  have HB := Lib.hid (below_alloc w (.cells #[.int .i64 id, .string ⟨dom.toArray⟩, .int .i64 hs, .slice ao ds.length cap] 24))
  have H4 := Lib.hid h4
  obtain ⟨L, hL⟩ : ∃ L, ds.length = L := ⟨_, rfl⟩
  have HL := Lib.hid hL
  rw [hL] at HS HB hlm ⊢
  clear h1 h2 h3 h4 hL
  go_enter Try.func8, Try.ntmps8
  go_wp2
  go_loopw [3, 4] (fun s i wr => ∃ (z : Int) (k : Nat), s = .int .i64 z ∧ i = .int .i64 (k : Int) ∧ k ≤ L ∧ Hid (Below w.heap.size w wr) ∧ Hid (Str wr w.heap.size 24 #[.int .i64 id, .string ⟨dom.toArray⟩, .int .i64 hs, .slice ao L cap])) (fun _ i _ => L - (intOf i).toNat)
  case atStart => exact ⟨_, 0, rfl, rfl, Nat.zero_le _, HB.out, HS.out⟩
  case round =>
    obtain ⟨z, k, rfl, rfl, hk, HW, HST⟩ := hrel
    have s3 := HST.out.cell 3
    simp only [List.getElem?_toArray, List.getElem?_cons_zero, List.getElem?_cons_succ] at s3
    by_cases hlt : k < L
    · have g0 : (k : Int) < (L : Int) := by omega
      by_cases hz : z ≤ 5000
      · obtain ⟨d, hd⟩ : ∃ d, ds[k]? = some d := ⟨ds[k]'(by have := HL.out; omega), List.getElem?_eq_getElem _⟩
        obtain ⟨b, off, u, rfl, c1, c2⟩ := H4.out k d hd
        have d1 := (HW.out.cell (cell_lt c1)).trans c1
        obtain ⟨au, cu, rfl, g1, g2, g3, g4⟩ := c2
        have HG := Lib.hid g4
        obtain ⟨M, hM⟩ : ∃ M, d.length = M := ⟨_, rfl⟩
        have HM := Lib.hid hM
        rw [hM] at d1 g1
        have hM9 : M ≤ 9223372036854775807 := by unfold maxLen at g2; omega
        clear c1 hd g1 g2 g3 g4 hM
        have hq : (5001 : Int) < (M : Int) ∨ (M : Int) ≤ 5001 := by omega
        rcases hq with hq | hq
        all_goals
          go_wp2
          obtain ⟨wo, rfl⟩ : ∃ wo, wo = wr := ⟨wr, rfl⟩
          go_loopw [3, 6] (fun s i wr => ∃ (z : Int) (j : Nat), s = .int .i64 z ∧ i = .int .i64 (j : Int) ∧ j ≤ M ∧ Hid (Below w.heap.size w wr) ∧ Hid (Str wr w.heap.size 24 #[.int .i64 id, .string ⟨dom.toArray⟩, .int .i64 hs, .slice (some ⟨b, off, none⟩) L cap])) (fun _ i _ => M - (intOf i).toNat)
          case atStart => exact ⟨_, 0, rfl, rfl, Nat.zero_le _, HW.out, HST.out⟩
          case round =>
            obtain ⟨y, j, rfl, rfl, hj, HWj, HSj⟩ := hrel
            by_cases hltj : j < M
            · have gj : (j : Int) < (M : Int) := by omega
              by_cases hy : y ≤ 5000
              · obtain ⟨e, he⟩ : ∃ e, d[j]? = some e := ⟨d[j]'(by have := HM.out; omega), List.getElem?_eq_getElem _⟩
                obtain ⟨be, oe, rfl, y1, y2⟩ := HG.out j e he
                have z1 := (HWj.out.cell (cell_lt y1)).trans y1
                have z2 := (HWj.out.cell (cell_lt y2)).trans y2
                unfold tv at z1 z2
                have q1 := str_size e.1
                have q2 := str_size e.2
                clear y1 y2 he
                go_wp2
                go_region
                all_goals
                  go_wp2
                  go_roundw
                  case rel => exact ⟨_, j + 1, rfl, by go_num, by omega, HWj.out.drew, HSj.out.below (below_drew _)⟩
                  case measure => simp [intOf]; omega
              · have gy : decide (y ≤ 5000) = false := by simp; omega
                go_wp2
                go_roundw
                case rel => exact ⟨_, k + 1, rfl, by go_num, by omega, HWj.out, HSj.out⟩
                case measure => simp [intOf]; omega
            · have gj : ¬ (j : Int) < (M : Int) := by omega
              go_wp2
              go_roundw
              case rel => exact ⟨_, k + 1, rfl, by go_num, by omega, HWj.out, HSj.out⟩
              case measure => simp [intOf]; omega
      · have gz : decide (z ≤ 5000) = false := by simp; omega
        go_wp2
        go_ret
        exact ⟨_, rfl, HW.out⟩
    · have g0 : ¬ (k : Int) < (L : Int) := by omega
      go_wp2
      go_ret
      exact ⟨_, rfl, HW.out⟩

theorem code_any (b : Bool) (w : World) : Calls Try.prog 13 #[.bool b] w fun e w' => e = .returned (.int .i64 (errOf b)) ∧ w' = w := by
  cases b
  all_goals
    go_enter Try.func13, Try.ntmps13
    go_wp2
    go_ret
    exact ⟨rfl, rfl⟩
end Go.Proofs.Ythbmmnjpiflgdaa
