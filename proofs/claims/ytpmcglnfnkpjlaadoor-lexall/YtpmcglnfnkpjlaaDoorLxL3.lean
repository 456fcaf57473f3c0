/- The walk of LexAll. -/
import Derived.Test.YtpmcglnfnkpjlaaDoorLxL1
namespace Go.Proofs.YtpmcglnfnkpjlaaDoor
open Go.RowKit

theorem alle_open {w : World} {ls : List LX.Lz} {k f : Int} {P : List LX.Pc} {e : Ending} {w' : World} (hk : LX.all ls = ((k, P), f)) (h : AllE w ls e w') : ∃ ao c, e = .returned (.tuple #[.slice ao P.length c, .agg #[.int .i64 k, .int .i64 f]]) ∧ Rdp w' (.slice ao P.length c) P ∧ Below w.heap.size w w' := by
  obtain ⟨hb, v, he, ho⟩ := h
  rw [hk] at he ho
  obtain ⟨ao, c, rfl⟩ := ho.slice
  exact ⟨ao, c, he, ho.rd, hb⟩
/-- What the law weighs. -/
def wtm (ls : List LX.Lz) : Nat := (ls.map fun x => min x.2.2.length 3001).sum
theorem wtm_take {ls : List LX.Lz} {i : Nat} {x : LX.Lz} (h : ls[i]? = some x) : wtm (ls.take (i + 1)) = wtm (ls.take i) + min x.2.2.length 3001 := by
  have h' := List.getElem?_eq_some_iff.1 h
  rw [List.take_succ_eq_append_getElem h'.1, h'.2]
  simp [wtm]
theorem wtm_small : ∀ {ls : List LX.Lz}, wtm ls ≤ 3000 → LX.wt ls = wtm ls ∧ ∀ x ∈ ls, x.2.2.length ≤ 3000
  | [], _ => ⟨rfl, by simp⟩
  | x :: ls, h => by
    have e : wtm (x :: ls) = min x.2.2.length 3001 + wtm ls := rfl
    rw [e] at h
    obtain ⟨a, b⟩ := wtm_small (ls := ls) (by omega)
    refine ⟨by rw [LX.wt_cons, e, a]; omega, fun y hy => ?_⟩
    rcases List.mem_cons.1 hy with rfl | hy
    · omega
    · exact b y hy

set_option maxRecDepth 10000 in
set_option maxHeartbeats 8000000 in
theorem lexAll_walk (v : Value) (ls : List LX.Lz) (w : World) (hr : Rdz w v ls) (hf : ∀ x ∈ ls, x.2.2.length ≤ 9223372036854775807) (hm : MaxIs w) :
    Calls Tryd.prog 4 #[v] w fun e w' => e = .returned (.bool true) ∧ Below w.heap.size w w' := by
  have HM := Lib.hid hm
  have HRZ := Lib.hid hr
  obtain ⟨k, P, f, hk⟩ : ∃ k P f, LX.all ls = ((k, P), f) := ⟨_, _, _, rfl⟩
  have HOP := Lib.hid (fun (x : World) (e : Ending) (w' : World) (h : AllE x ls e w') => alle_open hk h)
  have hq := eq_fault k f
  have hg2 := fault_guard
  have HA0 := Lib.hid (awake11 w hm)
  obtain ⟨ao, cap, rfl, h1, h2, h3, h4⟩ := hr
  obtain ⟨L, hL⟩ : ∃ L, ls.length = L := ⟨_, rfl⟩
  have HL := Lib.hid hL
  have H4 := Lib.hid h4
  have HF := Lib.hid hf
  rw [hL] at h1 HRZ ⊢
  unfold maxLen at h2
  have hll : L ≤ 9223372036854775807 := by omega
  clear h1 h2 h3 h4 hf hL hk hm
  go_enter Tryd.func4, Tryd.ntmps4
  go_wp2
  go_loopg [3, 4] L (fun g s3 s4 wx => ∃ (i n : Nat), i + g = L ∧ s3 = .int .i64 (n : Int) ∧ s4 = .int .i64 (i : Int) ∧ wx = w ∧ (n = L ∨ n ≤ 6001) ∧ Hid (n = L + wtm (ls.take i)))
  case atStart => exact ⟨0, L, by omega, rfl, rfl, rfl, .inl rfl, rfl⟩
  case round =>
    obtain ⟨i, n, hi, rfl, rfl, rfl, hn, HE⟩ := hrel
    have hnm : (n : Int) ≤ 9223372036854775807 := by omega
    cases gk with
    | succ g =>
      have hin : (i : Int) < (L : Int) := by omega
      by_cases h3 : n ≤ 3000
      · have g3 : (n : Int) ≤ 3000 := by omega
        obtain ⟨x, hx⟩ : ∃ x, ls[i]? = some x := ⟨ls[i]'(by have := HL.out; omega), List.getElem?_eq_getElem _⟩
        obtain ⟨b, off, rfl, c⟩ := H4.out i x hx
        obtain ⟨d0, d1, d2⟩ := c
        have HX := Lib.hid (wtm_take hx)
        have hxl := HF.out x (List.mem_of_getElem? hx)
        have xsz := str_size x.2.2
        obtain ⟨m, hm⟩ : ∃ m, x.2.2.length = m := ⟨_, rfl⟩
        rw [hm] at xsz HX hxl
        clear hm hx
        by_cases hms : m ≤ 3001
        · have e1 : min (m : Int) 3001 = (m : Int) := by omega
          have E : Hid (n + m = L + wtm (ls.take (i + 1))) := by show _ = _; rw [HX.out, HE.out]; omega
          go_wp2
          go_roundg g
          case rel => exact ⟨i + 1, n + m, by omega, by simp, by simp, rfl, .inr (by omega), E⟩
          case measure => omega
        · have e1 : min (m : Int) 3001 = 3001 := by omega
          have E : Hid (n + 3001 = L + wtm (ls.take (i + 1))) := by show _ = _; rw [HX.out, HE.out]; omega
          go_wp2
          go_roundg g
          case rel => exact ⟨i + 1, n + 3001, by omega, by simp, by simp, rfl, .inr (by omega), E⟩
          case measure => omega
      · have g3 : ¬ (n : Int) ≤ 3000 := by omega
        have g4 : (3000 : Int) < (n : Int) := by omega
        go_wp2_with (go_at_call 8; refine HA0.out.mono ?_; rintro e w3 ⟨rfl, b3⟩; have B3 := Lib.hid b3; clear b3)
        go_ret
        exact ⟨rfl, B3.out⟩
    | zero =>
      obtain rfl : i = L := by omega
      by_cases h3 : n ≤ 3000
      · have g4 : ¬ (3000 : Int) < (n : Int) := by omega
        have hsm := wtm_small (ls := ls) (by have h1 := HE.out; rw [List.take_of_length_le (by have := HL.out; omega)] at h1; omega)
        have hwt : LX.wt ls ≤ 900000 := by have h1 := HE.out; rw [List.take_of_length_le (by have := HL.out; omega), ← hsm.1] at h1; omega
        have h5 : ∀ x ∈ ls, x.2.2.length ≤ 5000 := fun x hx => by have := hsm.2 x hx; omega
        have H1 := Lib.hid (lall_any _ ls wr HRZ.out h5 hwt HM.out)
        have HR := Lib.hid (fun (x : World) (h : Rdz x (.slice ao i cap) ls) => rall_any (.slice ao i cap) ls x h h5 hwt)
        clear hsm hwt h5 HE h3 hn
        go_wp2_with fail
        refine H1.out.mono ?_
        rintro e w1 h1
        obtain ⟨a1, c1, rfl, o1, b1⟩ := HOP.out _ _ _ h1
        have B1 := below_tr b1 (below_alloc w1 (.cells #[.int .i64 k, .int .i64 f] 27))
        have HB1 := Lib.hid B1
        have HO1 := Lib.hid (o1.below (below_alloc w1 (.cells #[.int .i64 k, .int .i64 f] 27)))
        have HF1 := Lib.hid (Str.new w1 27 #[.int .i64 k, .int .i64 f])
        have H2 := Lib.hid (HR.out (w1.alloc (.cells #[.int .i64 k, .int .i64 f] 27)) (HRZ.out.below B1))
        clear h1 o1 b1 B1 H1 HR HRZ
        go_wp2_with fail
        refine H2.out.mono ?_
        rintro e w2 h2
        obtain ⟨a2, c2, rfl, o2, b2⟩ := HOP.out _ _ _ h2
        have B2 := below_tr b2 (below_alloc w2 (.cells #[.int .i64 k, .int .i64 f] 27))
        have HB2 := Lib.hid (below_tr HB1.out B2)
        have HO2 := Lib.hid (o2.below (below_alloc w2 (.cells #[.int .i64 k, .int .i64 f] 27)))
        have HO1' := Lib.hid (HO1.out.below B2)
        have HF1' := Lib.hid (HF1.out.below B2)
        have HF2 := Lib.hid (Str.new w2 27 #[.int .i64 k, .int .i64 f])
        have HC := Lib.hid (psame_any _ _ P _ HO1'.out HO2.out)
        clear h2 o2 b2 B2 H2 HO1 HF1 HB1 HOP HO1' HO2
        go_wp2_with fail
        refine HC.out.mono ?_
        rintro e w3 ⟨rfl, b3⟩
        have HB3 := Lib.hid (below_tr HB2.out b3)
        obtain ⟨c0, c1'⟩ := (HF1'.out.below b3).cells2
        obtain ⟨d0, d1⟩ := (HF2.out.below b3).cells2
        have HA := Lib.hid (awake11 w3 (HM.out.below HB3.out))
        clear HC b3 HB2 HF1' HF2 HA0
        go_wp2_with (go_at_call 8; refine HA.out.mono ?_; rintro e w4 ⟨rfl, b4⟩; have B4 := Lib.hid (below_tr HB3.out b4); clear b4)
        go_ret
        exact ⟨rfl, B4.out⟩
      · have g4 : (3000 : Int) < (n : Int) := by omega
        go_wp2_with (go_at_call 8; refine HA0.out.mono ?_; rintro e w3 ⟨rfl, b3⟩; have B3 := Lib.hid b3; clear b3)
        go_ret
        exact ⟨rfl, B3.out⟩
end Go.Proofs.YtpmcglnfnkpjlaaDoor
