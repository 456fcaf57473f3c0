/- Walks of lex.must, isKeySign, beginsWithDash, keySize, and of the document's own sign, dashed, keyed, blanks. -/
import Derived.Test.YthhngkoopaolkaaGreatDoorLxB
import Derived.Test.YthhngkoopaolkaaGreatDoorLxW
namespace Go.Proofs.YthhngkoopaolkaaGreatDoor
open Go.RowKit

/-- A lexer's own panic, on its way; and taken. -/
def gave (k : Int) : List PanicEntry := [{ v := .iface 141 (.agg #[.int .i64 k]), recovered := false }]
def took (k : Int) : List PanicEntry := [{ v := .iface 141 (.agg #[.int .i64 k]), recovered := true }]
set_option maxHeartbeats 400000 in
theorem lmust_true (k : Int) (w : World) :
    Calls Tryz.prog 116 #[.bool true, .int .i64 k] w fun e w' => e = .returned (.tuple #[]) ∧ w' = w := by
  go_enter Tryz.func116, Tryz.ntmps116
  go_wp2
  go_end0
  exact ⟨rfl, rfl⟩
set_option maxHeartbeats 400000 in
theorem lmust_false (k : Int) (w : World) :
    Calls Tryz.prog 116 #[.bool false, .int .i64 k] w fun e w' => e = .panicked (gave k) ∧ w' = w := by
  go_enter Tryz.func116, Tryz.ntmps116
  go_wp2
  exact ⟨rfl, rfl, rfl⟩

theorem sgn_paths (c : UInt8) (z : Int) (hz : (c.toNat : Int) = z) :
    (97 ≤ z ∧ z ≤ 122 ∧ LX.sgn c = true) ∨ (97 ≤ z ∧ ¬ z ≤ 122 ∧ 65 ≤ z ∧ ¬ z ≤ 90 ∧ 48 ≤ z ∧ ¬ z ≤ 57 ∧ (z == 95) = false ∧ (z == 45) = false ∧ (z == 46) = false ∧ LX.sgn c = false) ∨
    (¬ 97 ≤ z ∧ 65 ≤ z ∧ z ≤ 90 ∧ LX.sgn c = true) ∨ (¬ 97 ≤ z ∧ 65 ≤ z ∧ ¬ z ≤ 90 ∧ 48 ≤ z ∧ ¬ z ≤ 57 ∧ z = 95 ∧ LX.sgn c = true) ∨
    (¬ 97 ≤ z ∧ 65 ≤ z ∧ ¬ z ≤ 90 ∧ 48 ≤ z ∧ ¬ z ≤ 57 ∧ (z == 95) = false ∧ (z == 45) = false ∧ (z == 46) = false ∧ LX.sgn c = false) ∨
    (¬ 97 ≤ z ∧ ¬ 65 ≤ z ∧ 48 ≤ z ∧ z ≤ 57 ∧ LX.sgn c = true) ∨
    (¬ 97 ≤ z ∧ ¬ 65 ≤ z ∧ 48 ≤ z ∧ ¬ z ≤ 57 ∧ (z == 95) = false ∧ (z == 45) = false ∧ (z == 46) = false ∧ LX.sgn c = false) ∨
    (¬ 97 ≤ z ∧ ¬ 65 ≤ z ∧ ¬ 48 ≤ z ∧ (z == 95) = false ∧ z = 45 ∧ LX.sgn c = true) ∨ (¬ 97 ≤ z ∧ ¬ 65 ≤ z ∧ ¬ 48 ≤ z ∧ (z == 95) = false ∧ (z == 45) = false ∧ z = 46 ∧ LX.sgn c = true) ∨
    (¬ 97 ≤ z ∧ ¬ 65 ≤ z ∧ ¬ 48 ≤ z ∧ (z == 95) = false ∧ (z == 45) = false ∧ (z == 46) = false ∧ LX.sgn c = false) := by
  have hs : LX.sgn c = decide ((97 ≤ z ∧ z ≤ 122) ∨ (65 ≤ z ∧ z ≤ 90) ∨ (48 ≤ z ∧ z ≤ 57) ∨ z = 95 ∨ z = 45 ∨ z = 46) := by
    unfold LX.sgn
    rw [Bool.eq_iff_iff]
    simp only [Bool.or_eq_true, decide_eq_true_eq]
    omega
  have ht : ((97 ≤ z ∧ z ≤ 122) ∨ (65 ≤ z ∧ z ≤ 90) ∨ (48 ≤ z ∧ z ≤ 57) ∨ z = 95 ∨ z = 45 ∨ z = 46) → LX.sgn c = true := fun h => by rw [hs]; simpa using h
  have hf : ¬ ((97 ≤ z ∧ z ≤ 122) ∨ (65 ≤ z ∧ z ≤ 90) ∨ (48 ≤ z ∧ z ≤ 57) ∨ z = 95 ∨ z = 45 ∨ z = 46) → LX.sgn c = false := fun h => by rw [hs]; exact decide_eq_false h
  have nz : ∀ {k : Int}, z ≠ k → (z == k) = false := fun h => beq_eq_false_iff_ne.2 h
  clear hs hz
  by_cases a1 : 97 ≤ z
  · by_cases a2 : z ≤ 122
    · exact .inl ⟨a1, a2, ht (by omega)⟩
    · exact .inr (.inl ⟨a1, a2, by omega, by omega, by omega, by omega, nz (by omega), nz (by omega), nz (by omega), hf (by omega)⟩)
  refine .inr (.inr ?_)
  by_cases a2 : 65 ≤ z
  · by_cases a3 : z ≤ 90
    · exact .inl ⟨a1, a2, a3, ht (by omega)⟩
    · by_cases a4 : z = 95
      · exact .inr (.inl ⟨a1, a2, a3, by omega, by omega, a4, ht (by omega)⟩)
      · exact .inr (.inr (.inl ⟨a1, a2, a3, by omega, by omega, nz a4, nz (by omega), nz (by omega), hf (by omega)⟩))
  refine .inr (.inr (.inr ?_))
  by_cases a3 : 48 ≤ z
  · by_cases a4 : z ≤ 57
    · exact .inl ⟨a1, a2, a3, a4, ht (by omega)⟩
    · exact .inr (.inl ⟨a1, a2, a3, a4, nz (by omega), nz (by omega), nz (by omega), hf (by omega)⟩)
  refine .inr (.inr ?_)
  by_cases a4 : z = 45
  · exact .inl ⟨a1, a2, a3, nz (by omega), a4, ht (by omega)⟩
  · by_cases a5 : z = 46
    · exact .inr (.inl ⟨a1, a2, a3, nz (by omega), nz a4, a5, ht (by omega)⟩)
    · exact .inr (.inr ⟨a1, a2, a3, nz (by omega), nz a4, nz a5, hf (by omega)⟩)
set_option maxHeartbeats 4000000 in
theorem isKeySign_any (c : UInt8) (z : Int) (hz : (c.toNat : Int) = z) (w : World) :
    Calls Tryz.prog 154 #[.int .u8 z] w fun e w' => e = .returned (.bool (LX.sgn c)) ∧ w' = w := by
  have hp := sgn_paths c z hz
  clear hz
  rcases hp with ⟨h1, h2, hs⟩ | ⟨h1, h2, h3, h4, h5, h6, h7, h8, h9, hs⟩ | ⟨h1, h2, h3, hs⟩ | ⟨h1, h2, h3, h4, h5, rfl, hs⟩ | ⟨h1, h2, h3, h4, h5, h6, h7, h8, hs⟩ | ⟨h1, h2, h3, h4, hs⟩ | ⟨h1, h2, h3, h4, h5, h6, h7, hs⟩ | ⟨h1, h2, h3, h4, rfl, hs⟩ | ⟨h1, h2, h3, h4, h5, rfl, hs⟩ | ⟨h1, h2, h3, h4, h5, h6, hs⟩
  all_goals
    rw [hs]
    clear hs
    go_enter Tryz.func154, Tryz.ntmps154
    go_wp2
    go_ret
    exact ⟨rfl, rfl⟩
set_option maxHeartbeats 4000000 in
theorem rsign_any (c : UInt8) (z : Int) (hz : (c.toNat : Int) = z) (w : World) :
    Calls Tryz.prog 122 #[.int .u8 z] w fun e w' => e = .returned (.bool (LX.sgn c)) ∧ w' = w := by
  have hp := sgn_paths c z hz
  clear hz
  rcases hp with ⟨h1, h2, hs⟩ | ⟨h1, h2, h3, h4, h5, h6, h7, h8, h9, hs⟩ | ⟨h1, h2, h3, hs⟩ | ⟨h1, h2, h3, h4, h5, rfl, hs⟩ | ⟨h1, h2, h3, h4, h5, h6, h7, h8, hs⟩ | ⟨h1, h2, h3, h4, hs⟩ | ⟨h1, h2, h3, h4, h5, h6, h7, hs⟩ | ⟨h1, h2, h3, h4, rfl, hs⟩ | ⟨h1, h2, h3, h4, h5, rfl, hs⟩ | ⟨h1, h2, h3, h4, h5, h6, hs⟩
  all_goals
    rw [hs]
    clear hs
    go_enter Tryz.func122, Tryz.ntmps122
    go_wp2
    go_ret
    exact ⟨rfl, rfl⟩

theorem str_is (l m : List UInt8) : ((⟨l.toArray⟩ : ByteArray) = ⟨m.toArray⟩) = (l = m) := propext (str_eq l m)
theorem hasp_any (l : List UInt8) (m : List UInt8) (b : Bool) (hb : m.isPrefixOf l = b) (w : World) : Calls Tryz.prog 36 #[.string ⟨l.toArray⟩, .string ⟨m.toArray⟩] w fun e w' => e = .returned (.bool b) ∧ w' = w := by
  rw [← hb]
  exact Tryz.strings_HasPrefix ⟨l.toArray⟩ ⟨m.toArray⟩ w
theorem dash_cases (l : List UInt8) : (l = [45] ∧ LX.dash l = true) ∨ (l ≠ [45] ∧ [45, 32].isPrefixOf l = LX.dash l) := by
  match l with
  | [] => exact .inr ⟨by simp, rfl⟩
  | [c] =>
    by_cases h : c = 45
    · subst h; exact .inl ⟨rfl, rfl⟩
    · exact .inr ⟨by simpa using h, by simp [LX.dash, List.isPrefixOf, h]⟩
  | c :: d :: t =>
    refine .inr ⟨by simp, ?_⟩
    show (45 == c && (32 == d && true)) = (c == 45 && d == 32)
    rw [Bool.and_true, Bool.beq_comm, Bool.beq_comm (a := (32 : UInt8))]
set_option maxHeartbeats 1000000 in
theorem ldash_any (l : List UInt8) (w : World) :
    Calls Tryz.prog 118 #[.string ⟨l.toArray⟩] w fun e w' => e = .returned (.bool (LX.dash l)) ∧ w' = w := by
  rcases dash_cases l with ⟨rfl, h⟩ | ⟨h1, h2⟩
  · rw [h]
    go_enter Tryz.func118, Tryz.ntmps118
    go_wp2
    go_ret
    exact ⟨rfl, rfl⟩
  · have HP := Lib.hid (hasp_any l [45, 32] _ h2 w)
    have hne : (l == [45]) = false := beq_eq_false_iff_ne.2 h1
    clear h1 h2
    generalize LX.dash l = b at *
    go_enter Tryz.func118, Tryz.ntmps118
    go_wp2_with (go_at_call 36; refine HP.out.mono ?_; rintro e w1 ⟨rfl, hw1⟩; replace hw1 := hw1.symm; subst hw1)
    go_ret
    exact ⟨rfl, rfl⟩
end Go.Proofs.YthhngkoopaolkaaGreatDoor
