/- Walks of package reasm: New, Off, Waiting, behind. -/
import Derived.Test.YtaajdodicepbdaaFrA
import Derived.Test.YtaajdodicepbdaaRsMath
import Derived.Test.YtaajdodicepbdaaStr
namespace Go.Proofs.Ytaajdodicepbdaa
open Go.RowKit

/-- A reader behind p: what waits (v, the bytes ws), whether it is off. -/
def Rd (w : World) (B p : Nat) (m : Int) (v : Value) (ws : List UInt8) (off : Bool) : Prop :=
  B ≤ p ∧ Str w p 43 #[.int .i64 m, v, .bool off] ∧ Own w B 5 v (bv ws)
theorem Rd.kb {w w' : World} {B p : Nat} {m : Int} {v : Value} {ws : List UInt8} {off : Bool} {a b : Option Nat} (h : Rd w B p m v ws off) (hk : Kb w w' a b) (h1 : some p ≠ a) (h2 : some p ≠ b) (h3 : v.ownBlock = none ∨ v.ownBlock ≠ a) (h4 : v.ownBlock = none ∨ v.ownBlock ≠ b) : Rd w' B p m v ws off :=
  ⟨h.1, h.2.1.kb hk h1 h2, h.2.2.kb hk h3 h4⟩
theorem Rd.below {w w' : World} {B p : Nat} {m : Int} {v : Value} {ws : List UInt8} {off : Bool} (h : Rd w B p m v ws off) (hb : Below w.heap.size w w') : Rd w' B p m v ws off :=
  ⟨h.1, h.2.1.below hb, h.2.2.below hb⟩

theorem new_any (m : Int) (w : World) : Calls Try.prog 8 #[.int .i64 m] w fun e w' => e = .returned (.pointer (some ⟨w.heap.size, 0, none⟩)) ∧ w' = w.alloc (.cells #[.int .i64 m, .slice none 0 0, .bool false] 43) := by
  go_enter Try.func8, Try.ntmps8
  go_wp2
  go_ret
  exact ⟨rfl, rfl⟩
theorem Rd.new (w : World) (m : Int) {B : Nat} (hB : B ≤ w.heap.size) : Rd (w.alloc (.cells #[.int .i64 m, .slice none 0 0, .bool false] 43)) B w.heap.size m (.slice none 0 0) [] false :=
  ⟨hB, Str.new _ _ _, Own.nil _ _ _⟩

theorem off_any {B p : Nat} {m : Int} {v : Value} {ws : List UInt8} {off : Bool} {w : World} (h : Rd w B p m v ws off) :
    Calls Try.prog 13 #[.pointer (some ⟨p, 0, none⟩)] w fun e w' => e = .returned (.bool off) ∧ w = w' := by
  have c2 : w.cell? ⟨p, 2, none⟩ = some (.bool off) := h.2.1.cell 2
  clear h
  go_enter Try.func13, Try.ntmps13
  go_wp2
  all_goals go_ret
  all_goals exact ⟨rfl, rfl⟩
theorem off_nil (w : World) : Calls Try.prog 13 #[.pointer none] w fun e w' => e = .returned (.bool true) ∧ w = w' := by
  go_enter Try.func13, Try.ntmps13
  go_wp2
  all_goals go_ret
  all_goals exact ⟨rfl, rfl⟩
theorem wait_any {B p : Nat} {m : Int} {v : Value} {ws : List UInt8} {off : Bool} {w : World} (h : Rd w B p m v ws off) :
    Calls Try.prog 12 #[.pointer (some ⟨p, 0, none⟩)] w fun e w' => e = .returned (.int .i64 (ws.length : Int)) ∧ w = w' := by
  have c1 : w.cell? ⟨p, 1, none⟩ = some v := h.2.1.cell 1
  obtain ⟨ao, cap, rfl, -⟩ := h.2.2.rd
  rw [bv_len] at c1
  clear h
  go_enter Try.func12, Try.ntmps12
  go_wp2
  all_goals go_ret
  all_goals exact ⟨rfl, rfl⟩
theorem wait_nil (w : World) : Calls Try.prog 12 #[.pointer none] w fun e w' => e = .returned (.int .i64 0) ∧ w = w' := by
  go_enter Try.func12, Try.ntmps12
  go_wp2
  all_goals go_ret
  all_goals exact ⟨rfl, rfl⟩

set_option maxHeartbeats 400000 in
theorem behind_any {base : Nat} (v : Value) (bs : List UInt8) (n : Nat) (w : World) (ho : Own w base 5 v (bv bs)) (hn : n ≤ bs.length) (hlen : bs.length ≤ 1099511627776) (hB : base ≤ w.heap.size) :
    Calls Try.prog 16 #[v, .int .i64 (n : Int)] w fun e w' => ∃ v', e = .returned v' ∧ Own w' base 5 v' (bv (bs.drop n)) ∧ Below w.heap.size w w' ∧ Near w v v' := by
  have HO := Lib.hid ho
  have HR := Lib.hid ho.rd
  obtain ⟨ao, cap, rfl, g1, g2, g3, g4⟩ := ho.rd
  rw [bv_len] at g1
  simp only [bv_len] at HR HO ⊢
  unfold maxLen at g2
  clear ho g3 g4
  go_enter Try.func16, Try.ntmps16
  by_cases h0 : (n : Int) = 0
  · obtain rfl : n = 0 := by omega
    go_wp2
    go_ret
    exact ⟨_, rfl, HO.out, Below.refl _ _, .inl rfl⟩
  · have C := Lib.hid (Rdv.rest HR.out hn)
    have hl : Hid ((bs.drop n).length ≤ 1099511627776) := by show _ ≤ _; rw [List.length_drop]; omega
    obtain ⟨X, hX⟩ : ∃ X, X = bs.drop n := ⟨_, rfl⟩
    rw [← hX] at C hl ⊢
    clear hX
    by_cases hcap : cap = n
    · subst hcap
      have C2 := Lib.hid (C.out.2 rfl)
      rw [Nat.sub_eq_zero_of_le g1] at C2
      clear C
      go_wp2_with (first
        | (go_at_call 20; refine (clone_any _ X _ C2.out hl.out).mono ?_; rintro e w1 ⟨v1, rfl, ho1, hb1⟩))
      go_ret
      exact ⟨_, rfl, ho1.base hB, hb1, .inr fun g hg => (ho1.lt hg).1⟩
    · have C2 := Lib.hid (C.out.1 hcap)
      clear C
      go_wp2_with (first
        | (go_at_call 20; refine (clone_any _ X _ C2.out hl.out).mono ?_; rintro e w1 ⟨v1, rfl, ho1, hb1⟩))
      go_ret
      exact ⟨_, rfl, ho1.base hB, hb1, .inr fun g hg => (ho1.lt hg).1⟩
end Go.Proofs.Ytaajdodicepbdaa
