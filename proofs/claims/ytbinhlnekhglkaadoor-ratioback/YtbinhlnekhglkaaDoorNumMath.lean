/- Plain facts on numbers that are held from 0 to 2^62, over Int alone; no program. -/
import Derived.RowKit
namespace Go.Proofs.YtbinhlnekhglkaaDoor.M
/-- 2^62, behind a name. -/
def top : Int := 4611686018427387904
def hold (a : Int) : Int := if a < 0 then 0 else if top < a then top else a
theorem hold_lo (a : Int) : 0 ≤ hold a := by unfold hold top; split <;> (try split) <;> omega
theorem hold_hi (a : Int) : hold a ≤ 4611686018427387904 := by unfold hold top; split <;> (try split) <;> omega
theorem hold_neg {a : Int} (h : a < 0) : hold a = 0 := by unfold hold top; split <;> (try split) <;> omega
theorem hold_big {a : Int} (h : 4611686018427387904 < a) : hold a = 4611686018427387904 := by unfold hold top; split <;> (try split) <;> omega
theorem hold_in {a : Int} (h0 : 0 ≤ a) (h1 : a ≤ 4611686018427387904) : hold a = a := by unfold hold top; split <;> (try split) <;> omega
def add (a b : Int) : Int := if top - hold b < hold a then top else hold a + hold b
def sub (a b : Int) : Int := hold (hold a - hold b)
def mul (a b : Int) : Int := if top < hold a * hold b then top else hold a * hold b
/-- Of a quotient that is cut: a is beyond it just where the product is beyond. -/
theorem cut_lt {t x y : Int} (hy : 0 < y) : t / y < x ↔ t < x * y := by
  constructor
  · intro h
    have := (Int.ediv_lt_iff_lt_mul hy).1 h
    exact this
  · intro h
    exact (Int.ediv_lt_iff_lt_mul hy).2 h
def divN (a b : Int) : Int := if hold b = 0 then 0 else hold a / hold b
def divE (b : Int) : Int := if hold b = 0 then 1 else 0
theorem mul_zero_right {a b : Int} (h : hold b = 0) : mul a b = 0 := by unfold mul top; rw [h, Int.mul_zero]; rfl
theorem mul_zero_left {a b : Int} (h : hold a = 0) : mul a b = 0 := by unfold mul top; rw [h, Int.zero_mul]; rfl
theorem mul_over {a b : Int} (h0 : ¬ hold b = 0) (h : 4611686018427387904 / hold b < hold a) : mul a b = 4611686018427387904 := by
  have hb := hold_lo b
  have := (cut_lt (t := 4611686018427387904) (x := hold a) (y := hold b) (by omega)).1 h
  unfold mul top; rw [if_pos this]
theorem mul_fits {a b : Int} (h0 : ¬ hold b = 0) (h : hold a ≤ 4611686018427387904 / hold b) : mul a b = RowKit.wrap64 (hold a * hold b) := by
  have hb := hold_lo b
  have ha := hold_lo a
  have h1 : hold a * hold b ≤ 4611686018427387904 := by
    have := (cut_lt (t := 4611686018427387904) (x := hold a) (y := hold b) (by omega)).2
    omega
  have h2 := Int.mul_nonneg ha hb
  unfold mul top RowKit.wrap64
  rw [if_neg (by omega)]
  omega
theorem mul_lo (a b : Int) : 0 ≤ mul a b := by
  have := Int.mul_nonneg (hold_lo a) (hold_lo b)
  unfold mul top; split <;> omega
theorem mul_hi (a b : Int) : mul a b ≤ 4611686018427387904 := by unfold mul top; split <;> omega
theorem add_lo (a b : Int) : 0 ≤ add a b := by
  have := hold_lo a; have := hold_lo b
  unfold add top; split <;> omega
theorem add_hi (a b : Int) : add a b ≤ 4611686018427387904 := by
  unfold add top; split <;> omega
end Go.Proofs.YtbinhlnekhglkaaDoor.M
