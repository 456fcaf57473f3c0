/- Walks of LineStrip, LineAgain and LineLines. -/
import Derived.Test.YtcpmjbfpnlmjmaaDoorLnU
import Derived.Test.YtcpmjbfpnlmjmaaDoorLnAw
namespace Go.Proofs.YtcpmjbfpnlmjmaaDoor
open Go.RowKit

theorem MaxIs.shaped {w : World} (h : w.ShapedOpen Tryd.prog) : MaxIs w := cell_of_shapedOpen_int (zero := #[.int .i64 0]) (t := 3) h (of_decide_eq_true (by kernel_rfl)) (by kernel_rfl) rfl (by kernel_rfl) (by kernel_rfl) Tryd.underlying3

set_option maxHeartbeats 2000000 in
theorem lineStrip_list (l : List UInt8) (w : World) (hl : l.length ≤ maxLen) (hm : MaxIs w) :
    Calls Tryd.prog 3 #[.string ⟨l.toArray⟩] w fun e w' => e = .returned (.bool true) ∧ Below w.heap.size w w' := by
  have hsz := str_size l
  have HA := Lib.hid (awake10 w hm)
  unfold maxLen at hl
  by_cases hbig : 5000 < l.length
  · have hb2 : (5000 : Int) < (l.length : Int) := by omega
    go_enter Tryd.func3, Tryd.ntmps3
    go_wp2_with (go_at_call 7; refine HA.out.mono ?_; rintro e w3 ⟨rfl, b3⟩; have B3 := Lib.hid b3; clear b3)
    go_ret
    exact ⟨rfl, B3.out⟩
  · have HS := Lib.hid (strip_any l (by omega) w)
    have HR := Lib.hid (rstrip_any l (by omega) w)
    obtain ⟨L, hL⟩ : ∃ L, l.length = L := ⟨_, rfl⟩
    rw [hL] at hsz hbig
    have hb2 : ¬ (5000 : Int) < (L : Int) := by omega
    clear hL hm hl
    generalize stS l = S at *
    generalize stB l = b at *
    have hbb : (b == b) = true := by simp
    go_enter Tryd.func3, Tryd.ntmps3
    go_wp2_with (first
      | (go_at_call 8; refine HS.out.mono ?_; rintro e w1 ⟨rfl, hw1⟩; replace hw1 := hw1.symm; subst hw1)
      | (go_at_call 9; refine HR.out.mono ?_; rintro e w1 ⟨rfl, hw1⟩; replace hw1 := hw1.symm; subst hw1)
      | (go_at_call 7; refine HA.out.mono ?_; rintro e w3 ⟨rfl, b3⟩; have B3 := Lib.hid b3; clear b3))
    go_ret
    exact ⟨rfl, B3.out⟩
theorem lineStrip_walk (s : ByteArray) (w : World) (hs : s.size ≤ maxLen) (hm : MaxIs w) :
    Calls Tryd.prog 3 #[.string s] w fun e w' => e = .returned (.bool true) ∧ Below w.heap.size w w' := by
  obtain ⟨⟨l⟩⟩ := s
  exact lineStrip_list l w hs hm

set_option maxHeartbeats 2000000 in
theorem lineAgain_list (l : List UInt8) (w : World) (hl : l.length ≤ maxLen) (hm : MaxIs w) :
    Calls Tryd.prog 4 #[.string ⟨l.toArray⟩] w fun e w' => e = .returned (.bool true) ∧ Below w.heap.size w w' := by
  have hsz := str_size l
  have HA := Lib.hid (awake10 w hm)
  unfold maxLen at hl
  by_cases hbig : 5000 < l.length
  · have hb2 : (5000 : Int) < (l.length : Int) := by omega
    go_enter Tryd.func4, Tryd.ntmps4
    go_wp2_with (go_at_call 7; refine HA.out.mono ?_; rintro e w3 ⟨rfl, b3⟩; have B3 := Lib.hid b3; clear b3)
    go_ret
    exact ⟨rfl, B3.out⟩
  · have hS0 := strip_any l (by omega) w
    cases hst : LN.strip l with
    | none =>
      have e1 : stS l = [] := by unfold stS; rw [hst]; rfl
      have e2 : stB l = false := by unfold stB; rw [hst]; rfl
      rw [e1, e2] at hS0
      have HS := Lib.hid hS0
      obtain ⟨L, hL⟩ : ∃ L, l.length = L := ⟨_, rfl⟩
      rw [hL] at hsz hbig
      have hb2 : ¬ (5000 : Int) < (L : Int) := by omega
      clear hL hm hl hS0 e1 e2 hst
      go_enter Tryd.func4, Tryd.ntmps4
      go_wp2_with (first
        | (go_at_call 8; refine HS.out.mono ?_; rintro e w1 ⟨rfl, hw1⟩; replace hw1 := hw1.symm; subst hw1)
        | (go_at_call 7; refine HA.out.mono ?_; rintro e w3 ⟨rfl, b3⟩; have B3 := Lib.hid b3; clear b3))
      go_ret
      exact ⟨rfl, B3.out⟩
    | some x =>
      obtain ⟨a1, a2, a3⟩ := LN.strip_again hst
      have e1 : stS l = x := by unfold stS; rw [hst]; rfl
      have e2 : stB l = true := by unfold stB; rw [hst]; rfl
      rw [e1, e2] at hS0
      have HS := Lib.hid hS0
      have hS2 := strip_any x (by omega) w
      have e3 : stS x = x := by unfold stS; rw [a1]; rfl
      have e4 : stB x = true := by unfold stB; rw [a1]; rfl
      rw [e3, e4] at hS2
      have HS2 := Lib.hid hS2
      have hcut := cut_front l x.length
      rw [a3] at hcut
      have hxs := str_size x
      obtain ⟨L, hL⟩ : ∃ L, l.length = L := ⟨_, rfl⟩
      obtain ⟨M, hM⟩ : ∃ M, x.length = M := ⟨_, rfl⟩
      rw [hL] at hsz hbig a2
      rw [hM] at hcut hxs a2
      have hb2 : ¬ (5000 : Int) < (L : Int) := by omega
      have hml : (M : Int) ≤ (L : Int) := by omega
      clear hL hM hm hl hS0 hS2 e1 e2 e3 e4 hst a1 a3
      go_enter Tryd.func4, Tryd.ntmps4
      go_wp2_with fail
      refine HS.out.mono ?_
      rintro e w1 ⟨rfl, hw1⟩
      replace hw1 := hw1.symm
      subst hw1
      go_wp2_with (first
        | (go_at_call 8; refine HS2.out.mono ?_; rintro e w1 ⟨rfl, hw1⟩; replace hw1 := hw1.symm; subst hw1)
        | (go_at_call 7; refine HA.out.mono ?_; rintro e w3 ⟨rfl, b3⟩; have B3 := Lib.hid b3; clear b3))
      go_ret
      exact ⟨rfl, B3.out⟩
theorem lineAgain_walk (s : ByteArray) (w : World) (hs : s.size ≤ maxLen) (hm : MaxIs w) :
    Calls Tryd.prog 4 #[.string s] w fun e w' => e = .returned (.bool true) ∧ Below w.heap.size w w' := by
  obtain ⟨⟨l⟩⟩ := s
  exact lineAgain_list l w hs hm

/-- What is told of a text, with its slice laid open. -/
theorem LinE.open {w : World} {bs : List UInt8} {e : Ending} {w' : World} (h : LinE w bs e w') : ∃ ao c, e = .returned (.tuple #[.slice ao (LN.outL bs).length c, .agg #[.int .i64 ((LN.outF bs).1 : Int), .int .i64 ((LN.outF bs).2 : Int)]]) ∧ Ownn w' w.heap.size (.slice ao (LN.outL bs).length c) (LN.outL bs) ∧ Below w.heap.size w w' := by
  obtain ⟨v, he, ho, hb⟩ := h
  obtain ⟨ao, c, rfl⟩ := ho.slice
  exact ⟨ao, c, he, ho, hb⟩

set_option maxHeartbeats 2000000 in
theorem lineLines_walk (v : Value) (bs : List UInt8) (w : World) (hr : Rdv w v (bv bs)) (_hl : bs.length ≤ 140737488351232) (hm : MaxIs w) :
    Calls Tryd.prog 5 #[v] w fun e w' => e = .returned (.bool true) ∧ Below w.heap.size w w' := by
  have HL1 := Lib.hid (lines_any v bs w hr hm)
  have HR := Lib.hid hr
  have HM := Lib.hid hm
  have hg2 := fault_guard
  have HOP := Lib.hid (fun (x : World) (e : Ending) (w' : World) (h : LinE x bs e w') => LinE.open h)
  have HR2 := Lib.hid (fun (x : World) (h : Rdv x v (bv bs)) => rlines_any v bs x h)
  obtain ⟨ao, cap, rfl, -⟩ := hr
  clear hm _hl
  generalize LN.outL bs = ls at HOP
  generalize LN.outF bs = F at HOP
  obtain ⟨K, L⟩ := F
  have hq := eq_fault (K : Int) (L : Int)
  go_enter Tryd.func5, Tryd.ntmps5
  go_wp2_with fail
  refine HL1.out.mono ?_
  rintro e w1 h1
  obtain ⟨a1, c1, rfl, o1, b1⟩ := HOP.out _ _ _ h1
  have B1 := below_tr b1 (below_alloc w1 (.cells #[.int .i64 (K : Int), .int .i64 (L : Int)] 29))
  have HB1 := Lib.hid B1
  have HO1 := Lib.hid (o1.rd.below (below_alloc w1 (.cells #[.int .i64 (K : Int), .int .i64 (L : Int)] 29)))
  have HS1 := Lib.hid (Str.new w1 29 #[.int .i64 (K : Int), .int .i64 (L : Int)])
  have HL2 := Lib.hid (HR2.out _ (HR.out.below B1))
  clear h1 o1 b1 B1 HL1 HR2
  go_wp2_with fail
  refine HL2.out.mono ?_
  rintro e w2 h2
  obtain ⟨a2, c2, rfl, o2, b2⟩ := HOP.out _ _ _ h2
  have B2 := below_tr b2 (below_alloc w2 (.cells #[.int .i64 (K : Int), .int .i64 (L : Int)] 29))
  have HB2 := Lib.hid (below_tr HB1.out B2)
  have HO2 := Lib.hid (o2.rd.below (below_alloc w2 (.cells #[.int .i64 (K : Int), .int .i64 (L : Int)] 29)))
  have HO1' := Lib.hid (HO1.out.below B2)
  have HS1' := Lib.hid (HS1.out.below B2)
  have HS2 := Lib.hid (Str.new w2 29 #[.int .i64 (K : Int), .int .i64 (L : Int)])
  have HC := Lib.hid (alike_any _ _ ls _ HO1'.out HO2.out)
  clear h2 o2 b2 B2 HL2 HO1 HS1 HB1 HOP HO1' HO2
  go_wp2_with fail
  refine HC.out.mono ?_
  rintro e w3 ⟨rfl, b3⟩
  have HB3 := Lib.hid (below_tr HB2.out b3)
  obtain ⟨c0, c1'⟩ := (HS1'.out.below b3).cells2
  obtain ⟨d0, d1⟩ := (HS2.out.below b3).cells2
  have HA := Lib.hid (awake10 w3 (HM.out.below HB3.out))
  clear HC b3 HB2 HS1' HS2
  go_wp2_with (go_at_call 7; refine HA.out.mono ?_; rintro e w4 ⟨rfl, b4⟩; have B4 := Lib.hid (below_tr HB3.out b4); clear b4)
  go_ret
  exact ⟨rfl, B4.out⟩
end Go.Proofs.YtcpmjbfpnlmjmaaDoor
