/- The walk of heavy. -/
import Derived.Test.YtokmpfkmkhnopaaTlB
namespace Go.Proofs.Ytokmpfkmkhnopaa
open Go.RowKit

def ToldT (w : World) (e : Ending) (w' : World) : Prop := ∃ b, e = .returned (.bool b) ∧ Below w.heap.size w w'
set_option maxHeartbeats 8000000 in
theorem theavy_any (t : TL.T) (vs vh : Value) (w : World) (hr : Rdt w vs vh t.2.2.2.1 t.2.2.2.2) :
    Calls Try.prog 7 #[.agg #[.int .i64 t.1, .int .i64 t.2.1, .bool t.2.2.1, vs, vh]] w (ToldT w) := by
  have hls : t.2.2.2.1.length ≤ 9223372036854775807 := by have := hr.s.len_le; unfold maxLen at this; omega
  have hlh : t.2.2.2.2.length ≤ 9223372036854775807 := by have := hr.h.len_le; unfold maxLen at this; omega
  obtain ⟨id, code, full, ss, hs⟩ := t
  simp only at hr hls hlh ⊢
  obtain ⟨⟨ao, cap, rfl, -⟩, ⟨ah, cah, rfl, g1, g2, g3, g4⟩⟩ := hr
  have HS := Lib.hid (Str.new w 25 #[.int .i64 id, .int .i64 code, .bool full, .slice ao ss.length cap, .slice ah hs.length cah])
  have HB := Lib.hid (below_alloc w (.cells #[.int .i64 id, .int .i64 code, .bool full, .slice ao ss.length cap, .slice ah hs.length cah] 25))
  have G4 := Lib.hid g4
  obtain ⟨L, hL⟩ : ∃ L, ss.length = L := ⟨_, rfl⟩
  obtain ⟨M, hM⟩ : ∃ M, hs.length = M := ⟨_, rfl⟩
  have HM := Lib.hid hM
  rw [hL, hM] at HS HB ⊢
  rw [hL] at hls
  rw [hM] at hlh
  clear g1 g2 g3 g4 hL hM
  go_enter Try.func7, Try.ntmps7
  go_wp2
  go_loopw [3, 4] (fun s i wr => ∃ (z : Int) (k : Nat), s = .int .i64 z ∧ i = .int .i64 (k : Int) ∧ k ≤ M ∧ Hid (Below w.heap.size w wr) ∧ Hid (Str wr w.heap.size 25 #[.int .i64 id, .int .i64 code, .bool full, .slice ao L cap, .slice ah M cah])) (fun _ i _ => M - (intOf i).toNat)
  case atStart => exact ⟨_, 0, rfl, rfl, Nat.zero_le _, HB.out, HS.out⟩
  case round =>
    obtain ⟨z, k, rfl, rfl, hk, HW, HST⟩ := hrel
    have s4 := HST.out.cells5.2.2.2.2
    by_cases hlt : k < M
    · have g0 : (k : Int) < (M : Int) := by omega
      by_cases hz : z ≤ 5000
      · obtain ⟨e, he⟩ : ∃ e, hs[k]? = some e := ⟨hs[k]'(by have := HM.out; omega), List.getElem?_eq_getElem _⟩
        obtain ⟨b, off, rfl, c1, c2⟩ := G4.out k e he
        have d1 := (HW.out.cell (cell_lt c1)).trans c1
        have d2 := (HW.out.cell (cell_lt c2)).trans c2
        unfold tv at d1 d2
        have q1 := str_size e.1
        have q2 := str_size e.2
        clear c1 c2 he
        go_wp2
        go_region
        all_goals
          go_wp2
          go_roundw
          case rel => exact ⟨_, k + 1, rfl, by go_num, by omega, HW.out.drew, HST.out.below (below_drew _)⟩
          case measure => simp [intOf]; omega
      · have gz : decide (z ≤ 5000) = false := by simp; omega
        go_wp2
        go_ret
        exact ⟨_, rfl, HW.out⟩
    · have g0 : ¬ (k : Int) < (M : Int) := by omega
      go_wp2
      go_ret
      exact ⟨_, rfl, HW.out⟩
end Go.Proofs.Ytokmpfkmkhnopaa
