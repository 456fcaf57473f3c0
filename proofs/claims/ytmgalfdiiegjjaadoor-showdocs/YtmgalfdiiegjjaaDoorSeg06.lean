/- Several texts in one. -/
import Derived.Test.YtmgalfdiiegjjaaDoorShelf
import Derived.Test.YtmgalfdiiegjjaaDoorSeg03
import Derived.Test.YtmgalfdiiegjjaaDoorLxB
namespace Go.Proofs.YtmgalfdiiegjjaaDoor
open Go.RowKit Go.Shelf

def bren : Ren := ⟨fun | 166 => 87 | 167 => 89 | 240 => 93 | 276 => 96 | n => n, fun | 0 => 0 | 3 => 3 | 4 => 4 | 5 => 5 | 9 => 9 | 20 => 20 | 37 => 27 | 70 => 108 | 72 => 110 | 75 => 114 | 80 => 117 | 164 => 126 | n => n, fun n => n⟩
theorem bl166 : Lays.n166 Tryd.prog bren := {
  mixed := by kernel_rfl
  f166 := Tryd.func87.trans (congrArg some (by kernel_rfl))
  f240 := Tryd.func93.trans (congrArg some (by kernel_rfl))
  f276 := Tryd.func96.trans (congrArg some (by kernel_rfl))
  t0 := Tryd.underlying0
  a0 := Tryd.isAgg0
  z0 := Tryd.sizeOf0
  v0 := Tryd.zeroValue0
  t3 := Tryd.underlying3
  a3 := Tryd.isAgg3
  z3 := Tryd.sizeOf3
  v3 := Tryd.zeroValue3
  t4 := Tryd.underlying4
  a4 := Tryd.isAgg4
  z4 := Tryd.sizeOf4
  v4 := Tryd.zeroValue4
  t9 := Tryd.underlying9
  a9 := Tryd.isAgg9
  z9 := Tryd.sizeOf9
  v9 := Tryd.zeroValue9
  t20 := Tryd.underlying20
  a20 := Tryd.isAgg20
  z20 := Tryd.sizeOf20
  v20 := Tryd.zeroValue20
  t37 := Tryd.underlying27
  a37 := Tryd.isAgg27
  z37 := Tryd.sizeOf27
  v37 := Tryd.zeroValue27
  t70 := Tryd.underlying108
  a70 := Tryd.isAgg108
  z70 := Tryd.sizeOf108
  v70 := Tryd.zeroValue108
  t72 := Tryd.underlying110
  a72 := Tryd.isAgg110
  z72 := Tryd.sizeOf110
  v72 := Tryd.zeroValue110
  t75 := Tryd.underlying114
  a75 := Tryd.isAgg114
  z75 := Tryd.sizeOf114
  v75 := Tryd.zeroValue114
  t164 := Tryd.underlying126
  a164 := Tryd.isAgg126
  z164 := Tryd.sizeOf126
  v164 := Tryd.zeroValue126 }
theorem bl167 : Lays.n167 Tryd.prog bren := {
  mixed := by kernel_rfl
  f167 := Tryd.func89.trans (congrArg some (by kernel_rfl))
  f240 := Tryd.func93.trans (congrArg some (by kernel_rfl))
  f276 := Tryd.func96.trans (congrArg some (by kernel_rfl))
  t0 := Tryd.underlying0
  a0 := Tryd.isAgg0
  z0 := Tryd.sizeOf0
  v0 := Tryd.zeroValue0
  t4 := Tryd.underlying4
  a4 := Tryd.isAgg4
  z4 := Tryd.sizeOf4
  v4 := Tryd.zeroValue4
  t5 := Tryd.underlying5
  a5 := Tryd.isAgg5
  z5 := Tryd.sizeOf5
  v5 := Tryd.zeroValue5
  t9 := Tryd.underlying9
  a9 := Tryd.isAgg9
  z9 := Tryd.sizeOf9
  v9 := Tryd.zeroValue9
  t20 := Tryd.underlying20
  a20 := Tryd.isAgg20
  z20 := Tryd.sizeOf20
  v20 := Tryd.zeroValue20
  t37 := Tryd.underlying27
  a37 := Tryd.isAgg27
  z37 := Tryd.sizeOf27
  v37 := Tryd.zeroValue27
  t70 := Tryd.underlying108
  a70 := Tryd.isAgg108
  z70 := Tryd.sizeOf108
  v70 := Tryd.zeroValue108
  t72 := Tryd.underlying110
  a72 := Tryd.isAgg110
  z72 := Tryd.sizeOf110
  v72 := Tryd.zeroValue110
  t75 := Tryd.underlying114
  a75 := Tryd.isAgg114
  z75 := Tryd.sizeOf114
  v75 := Tryd.zeroValue114
  t164 := Tryd.underlying126
  a164 := Tryd.isAgg126
  z164 := Tryd.sizeOf126
  v164 := Tryd.zeroValue126 }
theorem bext : Builder.Extra Tryd.prog bren := {
  sizeBuilder := by kernel_rfl
  liesBuilder := by kernel_rfl
  t5 := Tryd.underlying5
  a5 := Tryd.isAgg5
  z5 := Tryd.sizeOf5
  v5 := Tryd.zeroValue5
  infoByte := by kernel_rfl
  cellsByte := by kernel_rfl
  sizeByte := by kernel_rfl
  neB5 := by decide }

/-- A builder of the call's own, at b, holds the bytes l. -/
def Bd (w : World) (B b : Nat) (l : List UInt8) : Prop := Lib.IsBuilder 110 5 B b (Lib.byteCells l) w
theorem Bd.new (w : World) : Bd (w.alloc (.cells #[.pointer none, .slice none 0 0] 110)) w.heap.size w.heap.size [] :=
  .inl ⟨Nat.le_refl _, .slice none 0 0, heap_alloc_new w _, World.ownsRow_nil _ _ _ 1, by simp [Value.ownBlock]⟩
theorem Bd.below {w w' : World} {B b : Nat} {l : List UInt8} (h : Bd w B b l) (hb : Below w.heap.size w w') : Bd w' B b l := by
  have one : ∀ {p : Value}, Lib.BuilderAt 110 5 B b p (Lib.byteCells l) w → Lib.BuilderAt 110 5 B b p (Lib.byteCells l) w' := by
    rintro p ⟨h1, v, h2, h3, h4⟩
    exact ⟨h1, v, (hb.block b (Array.getElem?_eq_some_iff.1 h2).1).trans h2, Own.below (xs := Lib.byteCells l) h3 hb, h4⟩
  exact h.imp one one
theorem Bd.byte {B b : Nat} {l : List UInt8} {w : World} (h : Bd w B b l) (c : UInt8) (z : Int) (hz : (c.toNat : Int) = z) (hl : l.length ≤ 100000) (hB : B ≤ w.heap.size) :
    Calls Tryd.prog 89 #[.pointer (some ⟨b, 0, none⟩), .int .u8 z] w fun e w' => e = .returned .nilIface ∧ Bd w' B b (l ++ [c]) ∧ Below B w w' := by
  subst hz
  refine (Any.Builder_WriteByte bl167 bext B b (Lib.byteCells l) (c.toNat : Int) w h (by simp [Lib.byteCells]; omega) hB).mono ?_
  rintro e w' ⟨rfl, h1, h2⟩
  refine ⟨rfl, .inr ?_, h2⟩
  have e1 : Lib.byteCells (l ++ [c]) = Lib.byteCells l ++ [.int .u8 (c.toNat : Int)] := by simp [Lib.byteCells]
  rw [e1]; exact h1
theorem Bd.text {B b : Nat} {l : List UInt8} {w : World} (h : Bd w B b l) (s : List UInt8) (hl : l.length + s.length ≤ 100000) (hB : B ≤ w.heap.size) :
    Calls Tryd.prog 87 #[.pointer (some ⟨b, 0, none⟩), .string ⟨s.toArray⟩] w fun e w' => (∃ n, e = .returned (.tuple #[.int .i64 n, .nilIface])) ∧ Bd w' B b (l ++ s) ∧ Below B w w' := by
  refine (Any.Builder_WriteString bl166 bext B b (Lib.byteCells l) ⟨s.toArray⟩ w h (by rw [str_size]; simp [Lib.byteCells]; omega) hB).mono ?_
  rintro e w' ⟨rfl, h1, h2⟩
  refine ⟨⟨_, rfl⟩, .inr ?_, h2⟩
  have e1 : Lib.byteCells (l ++ s) = Lib.byteCells l ++ Lib.strCells ⟨s.toArray⟩ := by simp [Lib.byteCells, Lib.strCells]
  rw [e1]; exact h1
theorem Bd.str {B b : Nat} {l : List UInt8} {w : World} (h : Bd w B b l) (hB : B ≤ w.heap.size) :
    Calls Tryd.prog 88 #[.pointer (some ⟨b, 0, none⟩)] w fun e w' => e = .returned (.string ⟨l.toArray⟩) ∧ Below B w w' :=
  Tryd.Builder_String_any B b l w h hB
end Go.Proofs.YtmgalfdiiegjjaaDoor

/- Walks of lex.must, isKeySign, beginsWithDash, keySize, and of the document's own sign, dashed, keyed, blanks. -/
namespace Go.Proofs.YtmgalfdiiegjjaaDoor
open Go.RowKit

/-- A lexer's own panic, on its way; and taken. -/
def gave (k : Int) : List PanicEntry := [{ v := .iface 92 (.agg #[.int .i64 k]), recovered := false }]
def took (k : Int) : List PanicEntry := [{ v := .iface 92 (.agg #[.int .i64 k]), recovered := true }]
set_option maxHeartbeats 400000 in
theorem lmust_true (k : Int) (w : World) :
    Calls Tryd.prog 64 #[.bool true, .int .i64 k] w fun e w' => e = .returned (.tuple #[]) ∧ w' = w := by
  go_enter Tryd.func64, Tryd.ntmps64
  go_wp2
  go_end0
  exact ⟨rfl, rfl⟩
set_option maxHeartbeats 400000 in
theorem lmust_false (k : Int) (w : World) :
    Calls Tryd.prog 64 #[.bool false, .int .i64 k] w fun e w' => e = .panicked (gave k) ∧ w' = w := by
  go_enter Tryd.func64, Tryd.ntmps64
  go_wp2
  exact ⟨rfl, rfl, rfl⟩

theorem sgn_paths (c : UInt8) (z : Int) (hz : (c.toNat : Int) = z) :
    (97 ≤ z ∧ z ≤ 122 ∧ LX.sgn c = true) ∨ (97 ≤ z ∧ ¬ z ≤ 122 ∧ 65 ≤ z ∧ ¬ z ≤ 90 ∧ 48 ≤ z ∧ ¬ z ≤ 57 ∧ (z == 95) = false ∧ (z == 45) = false ∧ (z == 46) = false ∧ LX.sgn c = false) ∨
    (¬ 97 ≤ z ∧ 65 ≤ z ∧ z ≤ 90 ∧ LX.sgn c = true) ∨ (¬ 97 ≤ z ∧ 65 ≤ z ∧ ¬ z ≤ 90 ∧ 48 ≤ z ∧ ¬ z ≤ 57 ∧ z = 95 ∧ LX.sgn c = true) ∨
    (¬ 97 ≤ z ∧ 65 ≤ z ∧ ¬ z ≤ 90 ∧ 48 ≤ z ∧ ¬ z ≤ 57 ∧ (z == 95) = false ∧ (z == 45) = false ∧ (z == 46) = false ∧ LX.sgn c = false) ∨
    (¬ 97 ≤ z ∧ ¬ 65 ≤ z ∧ 48 ≤ z ∧ z ≤ 57 ∧ LX.sgn c = true) ∨
    (¬ 97 ≤ z ∧ ¬ 65 ≤ z ∧ 48 ≤ z ∧ ¬ z ≤ 57 ∧ (z == 95) = false ∧ (z == 45) = false ∧ (z == 46) = false ∧ LX.sgn c = false) ∨
    (¬ 97 ≤ z ∧ ¬ 65 ≤ z ∧ ¬ 48 ≤ z ∧ (z == 95) = false ∧ z = 45 ∧ LX.sgn c = true) ∨ (¬ 97 ≤ z ∧ ¬ 65 ≤ z ∧ ¬ 48 ≤ z ∧ (z == 95) = false ∧ (z == 45) = false ∧ z = 46 ∧ LX.sgn c = true) ∨
    (¬ 97 ≤ z ∧ ¬ 65 ≤ z ∧ ¬ 48 ≤ z ∧ (z == 95) = false ∧ (z == 45) = false ∧ (z == 46) = false ∧ LX.sgn c = false) := by
  have hs : LX.sgn c = decide ((97 ≤ z ∧ z ≤ 122) ∨ (65 ≤ z ∧ z ≤ 90) ∨ (48 ≤ z ∧ z ≤ 57) ∨ z = 95 ∨ z = 45 ∨ z = 46) := by
    unfold LX.sgn
    rw [Bool.eq_iff_iff]
    simp only [Bool.or_eq_true, decide_eq_true_eq]
    omega
  have ht : ((97 ≤ z ∧ z ≤ 122) ∨ (65 ≤ z ∧ z ≤ 90) ∨ (48 ≤ z ∧ z ≤ 57) ∨ z = 95 ∨ z = 45 ∨ z = 46) → LX.sgn c = true := fun h => by rw [hs]; simpa using h
  have hf : ¬ ((97 ≤ z ∧ z ≤ 122) ∨ (65 ≤ z ∧ z ≤ 90) ∨ (48 ≤ z ∧ z ≤ 57) ∨ z = 95 ∨ z = 45 ∨ z = 46) → LX.sgn c = false := fun h => by rw [hs]; exact decide_eq_false h
  have nz : ∀ {k : Int}, z ≠ k → (z == k) = false := fun h => beq_eq_false_iff_ne.2 h
  clear hs hz
  by_cases a1 : 97 ≤ z
  · by_cases a2 : z ≤ 122
    · exact .inl ⟨a1, a2, ht (by omega)⟩
    · exact .inr (.inl ⟨a1, a2, by omega, by omega, by omega, by omega, nz (by omega), nz (by omega), nz (by omega), hf (by omega)⟩)
  refine .inr (.inr ?_)
  by_cases a2 : 65 ≤ z
  · by_cases a3 : z ≤ 90
    · exact .inl ⟨a1, a2, a3, ht (by omega)⟩
    · by_cases a4 : z = 95
      · exact .inr (.inl ⟨a1, a2, a3, by omega, by omega, a4, ht (by omega)⟩)
      · exact .inr (.inr (.inl ⟨a1, a2, a3, by omega, by omega, nz a4, nz (by omega), nz (by omega), hf (by omega)⟩))
  refine .inr (.inr (.inr ?_))
  by_cases a3 : 48 ≤ z
  · by_cases a4 : z ≤ 57
    · exact .inl ⟨a1, a2, a3, a4, ht (by omega)⟩
    · exact .inr (.inl ⟨a1, a2, a3, a4, nz (by omega), nz (by omega), nz (by omega), hf (by omega)⟩)
  refine .inr (.inr ?_)
  by_cases a4 : z = 45
  · exact .inl ⟨a1, a2, a3, nz (by omega), a4, ht (by omega)⟩
  · by_cases a5 : z = 46
    · exact .inr (.inl ⟨a1, a2, a3, nz (by omega), nz a4, a5, ht (by omega)⟩)
    · exact .inr (.inr ⟨a1, a2, a3, nz (by omega), nz a4, nz a5, hf (by omega)⟩)
set_option maxHeartbeats 4000000 in
theorem isKeySign_any (c : UInt8) (z : Int) (hz : (c.toNat : Int) = z) (w : World) :
    Calls Tryd.prog 74 #[.int .u8 z] w fun e w' => e = .returned (.bool (LX.sgn c)) ∧ w' = w := by
  have hp := sgn_paths c z hz
  clear hz
  rcases hp with ⟨h1, h2, hs⟩ | ⟨h1, h2, h3, h4, h5, h6, h7, h8, h9, hs⟩ | ⟨h1, h2, h3, hs⟩ | ⟨h1, h2, h3, h4, h5, rfl, hs⟩ | ⟨h1, h2, h3, h4, h5, h6, h7, h8, hs⟩ | ⟨h1, h2, h3, h4, hs⟩ | ⟨h1, h2, h3, h4, h5, h6, h7, hs⟩ | ⟨h1, h2, h3, h4, rfl, hs⟩ | ⟨h1, h2, h3, h4, h5, rfl, hs⟩ | ⟨h1, h2, h3, h4, h5, h6, hs⟩
  all_goals
    rw [hs]
    clear hs
    go_enter Tryd.func74, Tryd.ntmps74
    go_wp2
    go_ret
    exact ⟨rfl, rfl⟩
set_option maxHeartbeats 4000000 in
theorem rsign_any (c : UInt8) (z : Int) (hz : (c.toNat : Int) = z) (w : World) :
    Calls Tryd.prog 52 #[.int .u8 z] w fun e w' => e = .returned (.bool (LX.sgn c)) ∧ w' = w := by
  have hp := sgn_paths c z hz
  clear hz
  rcases hp with ⟨h1, h2, hs⟩ | ⟨h1, h2, h3, h4, h5, h6, h7, h8, h9, hs⟩ | ⟨h1, h2, h3, hs⟩ | ⟨h1, h2, h3, h4, h5, rfl, hs⟩ | ⟨h1, h2, h3, h4, h5, h6, h7, h8, hs⟩ | ⟨h1, h2, h3, h4, hs⟩ | ⟨h1, h2, h3, h4, h5, h6, h7, hs⟩ | ⟨h1, h2, h3, h4, rfl, hs⟩ | ⟨h1, h2, h3, h4, h5, rfl, hs⟩ | ⟨h1, h2, h3, h4, h5, h6, hs⟩
  all_goals
    rw [hs]
    clear hs
    go_enter Tryd.func52, Tryd.ntmps52
    go_wp2
    go_ret
    exact ⟨rfl, rfl⟩

theorem str_is (l m : List UInt8) : ((⟨l.toArray⟩ : ByteArray) = ⟨m.toArray⟩) = (l = m) := propext (str_eq l m)
theorem hasp_any (l : List UInt8) (m : List UInt8) (b : Bool) (hb : m.isPrefixOf l = b) (w : World) : Calls Tryd.prog 43 #[.string ⟨l.toArray⟩, .string ⟨m.toArray⟩] w fun e w' => e = .returned (.bool b) ∧ w' = w := by
  rw [← hb]
  exact Tryd.strings_HasPrefix ⟨l.toArray⟩ ⟨m.toArray⟩ w
theorem dash_cases (l : List UInt8) : (l = [45] ∧ LX.dash l = true) ∨ (l ≠ [45] ∧ [45, 32].isPrefixOf l = LX.dash l) := by
  match l with
  | [] => exact .inr ⟨by simp, rfl⟩
  | [c] =>
    by_cases h : c = 45
    · subst h; exact .inl ⟨rfl, rfl⟩
    · exact .inr ⟨by simpa using h, by simp [LX.dash, List.isPrefixOf, h]⟩
  | c :: d :: t =>
    refine .inr ⟨by simp, ?_⟩
    show (45 == c && (32 == d && true)) = (c == 45 && d == 32)
    rw [Bool.and_true, Bool.beq_comm, Bool.beq_comm (a := (32 : UInt8))]
set_option maxHeartbeats 1000000 in
theorem ldash_any (l : List UInt8) (w : World) :
    Calls Tryd.prog 66 #[.string ⟨l.toArray⟩] w fun e w' => e = .returned (.bool (LX.dash l)) ∧ w' = w := by
  rcases dash_cases l with ⟨rfl, h⟩ | ⟨h1, h2⟩
  · rw [h]
    go_enter Tryd.func66, Tryd.ntmps66
    go_wp2
    go_ret
    exact ⟨rfl, rfl⟩
  · have HP := Lib.hid (hasp_any l [45, 32] _ h2 w)
    have hne : (l == [45]) = false := beq_eq_false_iff_ne.2 h1
    clear h1 h2
    generalize LX.dash l = b at *
    go_enter Tryd.func66, Tryd.ntmps66
    go_wp2_with (go_at_call 43; refine HP.out.mono ?_; rintro e w1 ⟨rfl, hw1⟩; replace hw1 := hw1.symm; subst hw1)
    go_ret
    exact ⟨rfl, rfl⟩
end Go.Proofs.YtmgalfdiiegjjaaDoor

/- Walks of lex.keySize, and of the document's own dashed, keyed, blanks. -/
namespace Go.Proofs.YtmgalfdiiegjjaaDoor
open Go.RowKit

theorem lcut_front (l : List UInt8) (k : Nat) : (⟨l.toArray⟩ : ByteArray).extract 0 k = ⟨(l.take k).toArray⟩ := by
  rw [ByteArray.extract_mk]
  simp
theorem lcut_back {l : List UInt8} {L : Nat} (h : l.length = L) (k : Nat) : (⟨l.toArray⟩ : ByteArray).extract k L = ⟨(l.drop k).toArray⟩ := by
  rw [ByteArray.extract_mk]
  subst h
  simp [List.take_of_length_le]
theorem ret_n {a b : Nat} {P : Prop} (h : a = b) (hp : P) : Ending.returned (.int .i64 (a : Int)) = .returned (.int .i64 (b : Int)) ∧ P := ⟨by rw [h], hp⟩
theorem ret_0 {b : Nat} {P : Prop} (h : b = 0) (hp : P) : Ending.returned (.int .i64 0) = .returned (.int .i64 (b : Int)) ∧ P := ⟨by rw [h]; rfl, hp⟩
theorem hasp_0 (w : World) : Calls Tryd.prog 43 #[.string ByteArray.empty, .string ⟨#[58, 32]⟩] w fun e w' => e = .returned (.bool false) ∧ w' = w := hasp_any [] [58, 32] false rfl w
theorem kend_cases (l : List UInt8) : (l = [58] ∧ LX.kend l = true) ∨ (l ≠ [58] ∧ [58, 32].isPrefixOf l = LX.kend l) := by
  match l with
  | [] => exact .inr ⟨by simp, rfl⟩
  | [c] =>
    by_cases h : c = 58
    · subst h; exact .inl ⟨rfl, rfl⟩
    · exact .inr ⟨by simpa using h, by simp [LX.kend, List.isPrefixOf, h]⟩
  | c :: d :: t =>
    refine .inr ⟨by simp, ?_⟩
    show (58 == c && (32 == d && true)) = (c == 58 && d == 32)
    rw [Bool.and_true, Bool.beq_comm, Bool.beq_comm (a := (32 : UInt8))]
theorem key_yes {l : List UInt8} {k : Nat} (h : LX.run l = k) (hk : LX.kend (l.drop k) = true) : LX.key l = k := by
  unfold LX.key; rw [h, if_pos hk]
theorem key_no {l : List UInt8} {k : Nat} (h : LX.run l = k) (hk : LX.kend (l.drop k) = false) : LX.key l = 0 := by
  unfold LX.key; rw [h, if_neg (by rw [hk]; simp)]

set_option maxHeartbeats 4000000 in
theorem keySize_any (l : List UInt8) (w : World) (hl : l.length ≤ 100000) :
    Calls Tryd.prog 68 #[.string ⟨l.toArray⟩] w fun e w' => e = .returned (.int .i64 (LX.key l : Int)) ∧ w' = w := by
  have hsz := str_size l
  obtain ⟨n, hn⟩ : ∃ n, l.length = n := ⟨_, rfl⟩
  have HL := Lib.hid hn
  rw [hn] at hsz hl
  clear hn
  obtain ⟨K, HK⟩ : ∃ K, Hid (K = LX.key l) := ⟨_, Lib.hid rfl⟩
  rw [← HK.out]
  go_enter Tryd.func68, Tryd.ntmps68
  go_wp2
  go_loopg [3] n (fun g s3 wx => ∃ k : Nat, k + g = n ∧ s3 = .int .i64 (k : Int) ∧ wx = w ∧ Hid (k ≤ LX.run l))
  case atStart => exact ⟨0, by omega, rfl, rfl, Nat.zero_le _⟩
  case round =>
    obtain ⟨k, hk, rfl, rfl, HR⟩ := hrel
    have x1 := lcut_back HL.out k
    obtain ⟨D, hD⟩ : ∃ D, l.drop k = D := ⟨_, rfl⟩
    have HD := Lib.hid hD
    rw [hD] at x1
    clear hD
    have hkn0 : (k : Int) ≤ (n : Int) := by omega
    cases gk with
    | zero =>
      obtain rfl : k = n := by omega
      have hrun := Lib.hid (LX.runp_stop HR.out (fun c hc => by rw [List.getElem?_eq_none (by have := HL.out; omega)] at hc; cases hc))
      have hlt : ¬ (k : Int) < (k : Int) := by omega
      have E := Lib.hid (HK.out.trans (key_no hrun.out (by rw [List.drop_eq_nil_of_le (by have := HL.out; omega)]; rfl)))
      have HP := Lib.hid (hasp_0 wr)
      clear x1
      go_wp2_with (go_at_call 43; refine HP.out.mono ?_; rintro e w1 ⟨rfl, hw1⟩; replace hw1 := hw1.symm; subst hw1)
      go_ret
      exact ret_0 E.out rfl
    | succ g =>
      have hlt : (k : Int) < (n : Int) := by omega
      obtain ⟨c, hc⟩ : ∃ c, l[k]? = some c := ⟨l[k]'(by have := HL.out; omega), List.getElem?_eq_getElem _⟩
      have hkl : k < (⟨l.toArray⟩ : ByteArray).size := by omega
      have hub := c.toNat_lt
      obtain ⟨z, hz⟩ : ∃ z : Int, (c.toNat : Int) = z := ⟨_, rfl⟩
      have hi := at_z hc hz hkl
      have hz0 : 0 ≤ z := by omega
      have hz1 : z < 256 := by omega
      have HC := Lib.hid hc
      have HS := Lib.hid (isKeySign_any c z hz wr)
      clear hc hz hub
      cases hs : LX.sgn c with
      | true =>
        have E := Lib.hid (LX.runp_more HR.out HC.out hs)
        rw [hs] at HS
        clear hs x1
        go_wp2_with (go_at_call 74; refine HS.out.mono ?_; rintro e w1 ⟨rfl, hw1⟩; replace hw1 := hw1.symm; subst hw1)
        go_roundg g
        case rel => exact ⟨k + 1, by omega, rfl, rfl, E⟩
        case measure => omega
      | false =>
        have hrun := Lib.hid (LX.runp_stop HR.out (fun d hd => by rw [HC.out] at hd; obtain rfl := Option.some.inj hd; exact hs))
        rw [hs] at HS
        clear hs
        rcases kend_cases D with ⟨rfl, hd⟩ | ⟨h1, h2⟩
        · have E := Lib.hid (HK.out.trans (key_yes hrun.out (by rw [HD.out]; exact hd)))
          clear hd
          go_wp2_with (go_at_call 74; refine HS.out.mono ?_; rintro e w1 ⟨rfl, hw1⟩; replace hw1 := hw1.symm; subst hw1)
          go_ret
          exact ret_n E.out.symm rfl
        · have hne : (D == [58]) = false := beq_eq_false_iff_ne.2 h1
          have HP := Lib.hid (hasp_any D [58, 32] _ h2 wr)
          clear h1 h2
          cases hd : LX.kend D with
          | true =>
            have E := Lib.hid (HK.out.trans (key_yes hrun.out (by rw [HD.out]; exact hd)))
            rw [hd] at HP
            clear hd
            go_wp2_with (first
              | (go_at_call 74; refine HS.out.mono ?_; rintro e w1 ⟨rfl, hw1⟩; replace hw1 := hw1.symm; subst hw1)
              | (go_at_call 43; refine HP.out.mono ?_; rintro e w1 ⟨rfl, hw1⟩; replace hw1 := hw1.symm; subst hw1))
            go_ret
            exact ret_n E.out.symm rfl
          | false =>
            have E := Lib.hid (HK.out.trans (key_no hrun.out (by rw [HD.out]; exact hd)))
            rw [hd] at HP
            clear hd
            go_wp2_with (first
              | (go_at_call 74; refine HS.out.mono ?_; rintro e w1 ⟨rfl, hw1⟩; replace hw1 := hw1.symm; subst hw1)
              | (go_at_call 43; refine HP.out.mono ?_; rintro e w1 ⟨rfl, hw1⟩; replace hw1 := hw1.symm; subst hw1))
            go_ret
            exact ret_0 E.out rfl

end Go.Proofs.YtmgalfdiiegjjaaDoor
