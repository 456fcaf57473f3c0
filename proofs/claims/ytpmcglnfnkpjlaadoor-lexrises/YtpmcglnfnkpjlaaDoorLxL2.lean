/- The walk of LexRises. -/
import Derived.Test.YtpmcglnfnkpjlaaDoorLxL1
import Derived.BigQuiet
namespace Go.Proofs.YtpmcglnfnkpjlaaDoor
open Go.RowKit

set_option maxRecDepth 10000 in
set_option maxHeartbeats 8000000 in
theorem lexRises_walk (l : LX.Lz) (hl : l.2.2.length ≤ 9223372036854775807) (w : World) (hm : MaxIs w) :
    Calls Tryd.prog 5 #[.agg #[.int .i64 l.1, .int .i64 l.2.1, .string ⟨l.2.2.toArray⟩]] w fun e w' => e = .returned (.bool true) ∧ Below w.heap.size w w' := by
  obtain ⟨no, ind, tx⟩ := l
  simp only at hl ⊢
  have hsz := str_size tx
  have BX := below_alloc w (.cells #[.int .i64 no, .int .i64 ind, .string ⟨tx.toArray⟩] 23)
  have HM := Lib.hid hm
  have HMX := Lib.hid (hm.below BX)
  have HBX := Lib.hid BX
  by_cases hbig : 3000 < tx.length
  · have hb2 : (3000 : Int) < (tx.length : Int) := by omega
    have HA := Lib.hid (awake11 _ HMX.out)
    clear hm BX
    go_enter Tryd.func5, Tryd.ntmps5
    go_wp2_with (go_at_call 8; refine HA.out.mono ?_; rintro e w3 ⟨rfl, b3⟩; have B3 := Lib.hid (below_tr HBX.out b3); clear b3)
    go_ret
    exact ⟨rfl, B3.out⟩
  · have H1 := Lib.hid (lexRow_any (no, ind, tx) _ (by simp only; omega) HMX.out)
    have HS := Lib.hid (Str.new w 23 #[.int .i64 no, .int .i64 ind, .string ⟨tx.toArray⟩])
    have HRI := Lib.hid (LX.row_rise (no, ind, tx))
    have HRL := Lib.hid (LX.row_len (no, ind, tx))
    obtain ⟨k, P, hk⟩ : ∃ k P, LX.row (no, ind, tx) = (k, P) := ⟨_, _, rfl⟩
    obtain ⟨f, hf⟩ : ∃ f, (if k = 0 then 0 else no) = f := ⟨_, rfl⟩
    have HOP := Lib.hid (fun (x : World) (e : Ending) (w' : World) (h : RowE x (no, ind, tx) e w') => rowe_open hk hf h)
    obtain ⟨n, hn⟩ : ∃ n, tx.length = n := ⟨_, rfl⟩
    rw [hk] at HRI HRL
    simp only at HRI HRL
    obtain ⟨N, hN⟩ : ∃ N, P.length = N := ⟨_, rfl⟩
    have HN := Lib.hid hN
    have hN3 : N ≤ 3000 := by have := HRL.out; omega
    rw [hN] at HOP
    rw [hn] at hsz hl hbig
    have hb2 : ¬ (3000 : Int) < (n : Int) := by omega
    clear hm BX hk hf hn hN HRL hl hbig
    go_enter Tryd.func5, Tryd.ntmps5
    go_wp2_with fail
    refine H1.out.mono ?_
    rintro e w1 h1
    obtain ⟨a1, c1, rfl, o1, b1⟩ := HOP.out _ _ _ h1
    have B1 := below_tr b1 (below_alloc w1 (.cells #[.int .i64 k, .int .i64 f] 27))
    have HB1 := Lib.hid (below_tr HBX.out B1)
    have HO1 := Lib.hid (o1.below (below_alloc w1 (.cells #[.int .i64 k, .int .i64 f] 27)))
    have HS1 := Lib.hid (HS.out.below B1)
    clear h1 o1 b1 B1 H1 HOP HS HMX HBX
    go_wp2_with fail
    generalize w1.alloc (.cells #[.int .i64 k, .int .i64 f] 27) = w2 at *
    obtain ⟨ao, cap, hv, -, -, -, h4⟩ := HO1.out
    injection hv with hv1 hv2 hv3
    subst hv1 hv3
    clear hv2
    have H4 := Lib.hid h4
    clear HO1 h4
    go_loopg [5] N (fun g s5 wx => ∃ (i : Nat), i + g = N ∧ s5 = .int .i64 (i : Int) ∧ Hid (Below w2.heap.size w2 wx))
    case atStart => exact ⟨0, by omega, rfl, Below.refl _ _⟩
    case round =>
      obtain ⟨i, hi, rfl, HW⟩ := hrel
      have l0 : wr.cell? ⟨w.heap.size, 0, none⟩ = some (.int .i64 no) := (HS1.out.below HW.out).cell 0
      have l1 : wr.cell? ⟨w.heap.size, 1, none⟩ = some (.int .i64 ind) := (HS1.out.below HW.out).cell 1
      have HBW := Lib.hid (below_tr HB1.out HW.out)
      cases gk with
      | zero =>
        obtain rfl : i = N := by omega
        have HA := Lib.hid (awake11 _ (HM.out.below HBW.out))
        go_wp2_with (go_at_call 8; refine HA.out.mono ?_; rintro e w3 ⟨rfl, b3⟩; have B3 := Lib.hid (below_tr HBW.out b3); clear b3)
        go_ret
        exact ⟨rfl, B3.out⟩
      | succ g =>
        have hin : (i : Int) < (N : Int) := by omega
        obtain ⟨x, hx⟩ : ∃ x, P[i]? = some x := ⟨P[i]'(by have := HN.out; omega), List.getElem?_eq_getElem _⟩
        obtain ⟨r1, r2, r3⟩ := HRI.out i x hx
        obtain ⟨b, off, rfl, c⟩ := H4.out i x hx
        obtain ⟨d0, d1, d2, -, -⟩ := c.below HW.out
        obtain ⟨xk, xl, xc, xt, xq⟩ := x
        simp only at r1 r2 d0 d1 d2
        rw [r1] at d1
        clear r1
        have e1 : ¬ xc < ind := by omega
        cases i with
        | zero =>
          have e1b : decide (xc < ind) = false := decide_eq_false e1
          clear r3 hx
          go_wp2
          go_quiet (fail)
          go_wp2
          go_roundg g
          case rel => exact ⟨0 + 1, by omega, by first | rfl | (simp; done), below_tr HW.out (below_drewN _ _)⟩
          case measure => omega
        | succ j =>
          obtain ⟨y, hy⟩ : ∃ y, P[j]? = some y := ⟨P[j]'(by have := HN.out; omega), List.getElem?_eq_getElem _⟩
          obtain ⟨q1, q2, q3⟩ := r3 j y rfl hy
          obtain ⟨b', off', hb', c'⟩ := H4.out j y hy
          injection hb' with hb'
          injection hb' with hb1 hb2
          subst hb1 hb2
          obtain ⟨p0, -, p2, -, -⟩ := c'.below HW.out
          obtain ⟨yk, yl, yc, yt, yq⟩ := y
          simp only at q1 q2 q3 p0 p2
          have e2 : ¬ xc ≤ yc := by omega
          have e3 : ¬ xk < yk := by omega
          have e1b : decide (xc < ind) = false := decide_eq_false e1
          have e2b : decide (xc ≤ yc) = false := decide_eq_false e2
          have e3b : decide (xk < yk) = false := decide_eq_false e3
          clear r3 hx hy
          by_cases h1 : xk = 1
          · subst h1
            clear q3
            go_wp2
            go_quiet (fail)
            go_wp2
            go_roundg g
            case rel => exact ⟨j + 1 + 1, by omega, by first | rfl | (simp; done), below_tr HW.out (below_drewN _ _)⟩
            case measure => omega
          · have h1b : (xk != 1) = true := by simp [bne, beq_eq_false_iff_ne.2 h1]
            have h2 : xk ≠ yk := by omega
            have h2b : (xk == yk) = false := beq_eq_false_iff_ne.2 h2
            clear q3
            go_wp2
            go_quiet (fail)
            go_wp2
            go_roundg g
            case rel => exact ⟨j + 1 + 1, by omega, by first | rfl | (simp; done), below_tr HW.out (below_drewN _ _)⟩
            case measure => omega
end Go.Proofs.YtpmcglnfnkpjlaaDoor
