/- Several texts in one. -/
import Derived.Test.YtmgalfdiiegjjaaGreatDoorShelf
import Derived.Test.YtmgalfdiiegjjaaGreatDoorSeg01
import Derived.Test.YtmgalfdiiegjjaaGreatDoorLxB
import Derived.BigQuiet
namespace Go.Proofs.YtmgalfdiiegjjaaGreatDoor
open Go.RowKit Go.Shelf

def bren : Ren := ⟨fun | 166 => 172 | 167 => 174 | 240 => 183 | 276 => 186 | n => n, fun | 0 => 0 | 3 => 3 | 4 => 4 | 5 => 5 | 9 => 9 | 20 => 20 | 37 => 35 | 70 => 192 | 72 => 194 | 75 => 198 | 80 => 201 | 164 => 213 | n => n, fun n => n⟩
theorem bl166 : Lays.n166 Tryz.prog bren := {
  mixed := by kernel_rfl
  f166 := Tryz.func172.trans (congrArg some (by kernel_rfl))
  f240 := Tryz.func183.trans (congrArg some (by kernel_rfl))
  f276 := Tryz.func186.trans (congrArg some (by kernel_rfl))
  t0 := Tryz.underlying0
  a0 := Tryz.isAgg0
  z0 := Tryz.sizeOf0
  v0 := Tryz.zeroValue0
  t3 := Tryz.underlying3
  a3 := Tryz.isAgg3
  z3 := Tryz.sizeOf3
  v3 := Tryz.zeroValue3
  t4 := Tryz.underlying4
  a4 := Tryz.isAgg4
  z4 := Tryz.sizeOf4
  v4 := Tryz.zeroValue4
  t9 := Tryz.underlying9
  a9 := Tryz.isAgg9
  z9 := Tryz.sizeOf9
  v9 := Tryz.zeroValue9
  t20 := Tryz.underlying20
  a20 := Tryz.isAgg20
  z20 := Tryz.sizeOf20
  v20 := Tryz.zeroValue20
  t37 := Tryz.underlying35
  a37 := Tryz.isAgg35
  z37 := Tryz.sizeOf35
  v37 := Tryz.zeroValue35
  t70 := Tryz.underlying192
  a70 := Tryz.isAgg192
  z70 := Tryz.sizeOf192
  v70 := Tryz.zeroValue192
  t72 := Tryz.underlying194
  a72 := Tryz.isAgg194
  z72 := Tryz.sizeOf194
  v72 := Tryz.zeroValue194
  t75 := Tryz.underlying198
  a75 := Tryz.isAgg198
  z75 := Tryz.sizeOf198
  v75 := Tryz.zeroValue198
  t164 := Tryz.underlying213
  a164 := Tryz.isAgg213
  z164 := Tryz.sizeOf213
  v164 := Tryz.zeroValue213 }
theorem bl167 : Lays.n167 Tryz.prog bren := {
  mixed := by kernel_rfl
  f167 := Tryz.func174.trans (congrArg some (by kernel_rfl))
  f240 := Tryz.func183.trans (congrArg some (by kernel_rfl))
  f276 := Tryz.func186.trans (congrArg some (by kernel_rfl))
  t0 := Tryz.underlying0
  a0 := Tryz.isAgg0
  z0 := Tryz.sizeOf0
  v0 := Tryz.zeroValue0
  t4 := Tryz.underlying4
  a4 := Tryz.isAgg4
  z4 := Tryz.sizeOf4
  v4 := Tryz.zeroValue4
  t5 := Tryz.underlying5
  a5 := Tryz.isAgg5
  z5 := Tryz.sizeOf5
  v5 := Tryz.zeroValue5
  t9 := Tryz.underlying9
  a9 := Tryz.isAgg9
  z9 := Tryz.sizeOf9
  v9 := Tryz.zeroValue9
  t20 := Tryz.underlying20
  a20 := Tryz.isAgg20
  z20 := Tryz.sizeOf20
  v20 := Tryz.zeroValue20
  t37 := Tryz.underlying35
  a37 := Tryz.isAgg35
  z37 := Tryz.sizeOf35
  v37 := Tryz.zeroValue35
  t70 := Tryz.underlying192
  a70 := Tryz.isAgg192
  z70 := Tryz.sizeOf192
  v70 := Tryz.zeroValue192
  t72 := Tryz.underlying194
  a72 := Tryz.isAgg194
  z72 := Tryz.sizeOf194
  v72 := Tryz.zeroValue194
  t75 := Tryz.underlying198
  a75 := Tryz.isAgg198
  z75 := Tryz.sizeOf198
  v75 := Tryz.zeroValue198
  t164 := Tryz.underlying213
  a164 := Tryz.isAgg213
  z164 := Tryz.sizeOf213
  v164 := Tryz.zeroValue213 }
theorem bext : Builder.Extra Tryz.prog bren := {
  sizeBuilder := by kernel_rfl
  liesBuilder := by kernel_rfl
  t5 := Tryz.underlying5
  a5 := Tryz.isAgg5
  z5 := Tryz.sizeOf5
  v5 := Tryz.zeroValue5
  infoByte := by kernel_rfl
  cellsByte := by kernel_rfl
  sizeByte := by kernel_rfl
  neB5 := by decide }

/-- A builder of the call's own, at b, holds the bytes l. -/
def Bd (w : World) (B b : Nat) (l : List UInt8) : Prop := Lib.IsBuilder 194 5 B b (Lib.byteCells l) w
theorem Bd.new (w : World) : Bd (w.alloc (.cells #[.pointer none, .slice none 0 0] 194)) w.heap.size w.heap.size [] :=
  .inl ⟨Nat.le_refl _, .slice none 0 0, heap_alloc_new w _, World.ownsRow_nil _ _ _ 1, by simp [Value.ownBlock]⟩
theorem Bd.below {w w' : World} {B b : Nat} {l : List UInt8} (h : Bd w B b l) (hb : Below w.heap.size w w') : Bd w' B b l := by
  have one : ∀ {p : Value}, Lib.BuilderAt 194 5 B b p (Lib.byteCells l) w → Lib.BuilderAt 194 5 B b p (Lib.byteCells l) w' := by
    rintro p ⟨h1, v, h2, h3, h4⟩
    exact ⟨h1, v, (hb.block b (Array.getElem?_eq_some_iff.1 h2).1).trans h2, Own.below (xs := Lib.byteCells l) h3 hb, h4⟩
  exact h.imp one one
theorem Bd.byte {B b : Nat} {l : List UInt8} {w : World} (h : Bd w B b l) (c : UInt8) (z : Int) (hz : (c.toNat : Int) = z) (hl : l.length ≤ 100000) (hB : B ≤ w.heap.size) :
    Calls Tryz.prog 174 #[.pointer (some ⟨b, 0, none⟩), .int .u8 z] w fun e w' => e = .returned .nilIface ∧ Bd w' B b (l ++ [c]) ∧ Below B w w' := by
  subst hz
  refine (Any.Builder_WriteByte bl167 bext B b (Lib.byteCells l) (c.toNat : Int) w h (by simp [Lib.byteCells]; omega) hB).mono ?_
  rintro e w' ⟨rfl, h1, h2⟩
  refine ⟨rfl, .inr ?_, h2⟩
  have e1 : Lib.byteCells (l ++ [c]) = Lib.byteCells l ++ [.int .u8 (c.toNat : Int)] := by simp [Lib.byteCells]
  rw [e1]; exact h1
theorem Bd.text {B b : Nat} {l : List UInt8} {w : World} (h : Bd w B b l) (s : List UInt8) (hl : l.length + s.length ≤ 100000) (hB : B ≤ w.heap.size) :
    Calls Tryz.prog 172 #[.pointer (some ⟨b, 0, none⟩), .string ⟨s.toArray⟩] w fun e w' => (∃ n, e = .returned (.tuple #[.int .i64 n, .nilIface])) ∧ Bd w' B b (l ++ s) ∧ Below B w w' := by
  refine (Any.Builder_WriteString bl166 bext B b (Lib.byteCells l) ⟨s.toArray⟩ w h (by rw [str_size]; simp [Lib.byteCells]; omega) hB).mono ?_
  rintro e w' ⟨rfl, h1, h2⟩
  refine ⟨⟨_, rfl⟩, .inr ?_, h2⟩
  have e1 : Lib.byteCells (l ++ s) = Lib.byteCells l ++ Lib.strCells ⟨s.toArray⟩ := by simp [Lib.byteCells, Lib.strCells]
  rw [e1]; exact h1
theorem Bd.str {B b : Nat} {l : List UInt8} {w : World} (h : Bd w B b l) (hB : B ≤ w.heap.size) :
    Calls Tryz.prog 173 #[.pointer (some ⟨b, 0, none⟩)] w fun e w' => e = .returned (.string ⟨l.toArray⟩) ∧ Below B w w' :=
  Tryz.Builder_String_any B b l w h hB
end Go.Proofs.YtmgalfdiiegjjaaGreatDoor

/- Walks of lex.must, isKeySign, beginsWithDash, keySize, and of the document's own sign, dashed, keyed, blanks. -/
namespace Go.Proofs.YtmgalfdiiegjjaaGreatDoor
open Go.RowKit

/-- A lexer's own panic, on its way; and taken. -/
def gave (k : Int) : List PanicEntry := [{ v := .iface 135 (.agg #[.int .i64 k]), recovered := false }]
def took (k : Int) : List PanicEntry := [{ v := .iface 135 (.agg #[.int .i64 k]), recovered := true }]
set_option maxHeartbeats 400000 in
theorem lmust_true (k : Int) (w : World) :
    Calls Tryz.prog 125 #[.bool true, .int .i64 k] w fun e w' => e = .returned (.tuple #[]) ∧ w' = w := by
  go_enter Tryz.func125, Tryz.ntmps125
  go_wp2
  go_end0
  exact ⟨rfl, rfl⟩
set_option maxHeartbeats 400000 in
theorem lmust_false (k : Int) (w : World) :
    Calls Tryz.prog 125 #[.bool false, .int .i64 k] w fun e w' => e = .panicked (gave k) ∧ w' = w := by
  go_enter Tryz.func125, Tryz.ntmps125
  go_wp2
  exact ⟨rfl, rfl, rfl⟩

theorem sgn_paths (c : UInt8) (z : Int) (hz : (c.toNat : Int) = z) :
    (97 ≤ z ∧ z ≤ 122 ∧ LX.sgn c = true) ∨ (97 ≤ z ∧ ¬ z ≤ 122 ∧ 65 ≤ z ∧ ¬ z ≤ 90 ∧ 48 ≤ z ∧ ¬ z ≤ 57 ∧ (z == 95) = false ∧ (z == 45) = false ∧ (z == 46) = false ∧ LX.sgn c = false) ∨
    (¬ 97 ≤ z ∧ 65 ≤ z ∧ z ≤ 90 ∧ LX.sgn c = true) ∨ (¬ 97 ≤ z ∧ 65 ≤ z ∧ ¬ z ≤ 90 ∧ 48 ≤ z ∧ ¬ z ≤ 57 ∧ z = 95 ∧ LX.sgn c = true) ∨
    (¬ 97 ≤ z ∧ 65 ≤ z ∧ ¬ z ≤ 90 ∧ 48 ≤ z ∧ ¬ z ≤ 57 ∧ (z == 95) = false ∧ (z == 45) = false ∧ (z == 46) = false ∧ LX.sgn c = false) ∨
    (¬ 97 ≤ z ∧ ¬ 65 ≤ z ∧ 48 ≤ z ∧ z ≤ 57 ∧ LX.sgn c = true) ∨
    (¬ 97 ≤ z ∧ ¬ 65 ≤ z ∧ 48 ≤ z ∧ ¬ z ≤ 57 ∧ (z == 95) = false ∧ (z == 45) = false ∧ (z == 46) = false ∧ LX.sgn c = false) ∨
    (¬ 97 ≤ z ∧ ¬ 65 ≤ z ∧ ¬ 48 ≤ z ∧ (z == 95) = false ∧ z = 45 ∧ LX.sgn c = true) ∨ (¬ 97 ≤ z ∧ ¬ 65 ≤ z ∧ ¬ 48 ≤ z ∧ (z == 95) = false ∧ (z == 45) = false ∧ z = 46 ∧ LX.sgn c = true) ∨
    (¬ 97 ≤ z ∧ ¬ 65 ≤ z ∧ ¬ 48 ≤ z ∧ (z == 95) = false ∧ (z == 45) = false ∧ (z == 46) = false ∧ LX.sgn c = false) := by
  have hs : LX.sgn c = decide ((97 ≤ z ∧ z ≤ 122) ∨ (65 ≤ z ∧ z ≤ 90) ∨ (48 ≤ z ∧ z ≤ 57) ∨ z = 95 ∨ z = 45 ∨ z = 46) := by
    unfold LX.sgn
    rw [Bool.eq_iff_iff]
    simp only [Bool.or_eq_true, decide_eq_true_eq]
    omega
  have ht : ((97 ≤ z ∧ z ≤ 122) ∨ (65 ≤ z ∧ z ≤ 90) ∨ (48 ≤ z ∧ z ≤ 57) ∨ z = 95 ∨ z = 45 ∨ z = 46) → LX.sgn c = true := fun h => by rw [hs]; simpa using h
  have hf : ¬ ((97 ≤ z ∧ z ≤ 122) ∨ (65 ≤ z ∧ z ≤ 90) ∨ (48 ≤ z ∧ z ≤ 57) ∨ z = 95 ∨ z = 45 ∨ z = 46) → LX.sgn c = false := fun h => by rw [hs]; exact decide_eq_false h
  have nz : ∀ {k : Int}, z ≠ k → (z == k) = false := fun h => beq_eq_false_iff_ne.2 h
  clear hs hz
  by_cases a1 : 97 ≤ z
  · by_cases a2 : z ≤ 122
    · exact .inl ⟨a1, a2, ht (by omega)⟩
    · exact .inr (.inl ⟨a1, a2, by omega, by omega, by omega, by omega, nz (by omega), nz (by omega), nz (by omega), hf (by omega)⟩)
  refine .inr (.inr ?_)
  by_cases a2 : 65 ≤ z
  · by_cases a3 : z ≤ 90
    · exact .inl ⟨a1, a2, a3, ht (by omega)⟩
    · by_cases a4 : z = 95
      · exact .inr (.inl ⟨a1, a2, a3, by omega, by omega, a4, ht (by omega)⟩)
      · exact .inr (.inr (.inl ⟨a1, a2, a3, by omega, by omega, nz a4, nz (by omega), nz (by omega), hf (by omega)⟩))
  refine .inr (.inr (.inr ?_))
  by_cases a3 : 48 ≤ z
  · by_cases a4 : z ≤ 57
    · exact .inl ⟨a1, a2, a3, a4, ht (by omega)⟩
    · exact .inr (.inl ⟨a1, a2, a3, a4, nz (by omega), nz (by omega), nz (by omega), hf (by omega)⟩)
  refine .inr (.inr ?_)
  by_cases a4 : z = 45
  · exact .inl ⟨a1, a2, a3, nz (by omega), a4, ht (by omega)⟩
  · by_cases a5 : z = 46
    · exact .inr (.inl ⟨a1, a2, a3, nz (by omega), nz a4, a5, ht (by omega)⟩)
    · exact .inr (.inr ⟨a1, a2, a3, nz (by omega), nz a4, nz a5, hf (by omega)⟩)
set_option maxHeartbeats 4000000 in
theorem isKeySign_any (c : UInt8) (z : Int) (hz : (c.toNat : Int) = z) (w : World) :
    Calls Tryz.prog 158 #[.int .u8 z] w fun e w' => e = .returned (.bool (LX.sgn c)) ∧ w' = w := by
  have hp := sgn_paths c z hz
  clear hz
  rcases hp with ⟨h1, h2, hs⟩ | ⟨h1, h2, h3, h4, h5, h6, h7, h8, h9, hs⟩ | ⟨h1, h2, h3, hs⟩ | ⟨h1, h2, h3, h4, h5, rfl, hs⟩ | ⟨h1, h2, h3, h4, h5, h6, h7, h8, hs⟩ | ⟨h1, h2, h3, h4, hs⟩ | ⟨h1, h2, h3, h4, h5, h6, h7, hs⟩ | ⟨h1, h2, h3, h4, rfl, hs⟩ | ⟨h1, h2, h3, h4, h5, rfl, hs⟩ | ⟨h1, h2, h3, h4, h5, h6, hs⟩
  all_goals
    rw [hs]
    clear hs
    go_enter Tryz.func158, Tryz.ntmps158
    go_wp2
    go_ret
    exact ⟨rfl, rfl⟩
set_option maxHeartbeats 4000000 in
theorem rsign_any (c : UInt8) (z : Int) (hz : (c.toNat : Int) = z) (w : World) :
    Calls Tryz.prog 133 #[.int .u8 z] w fun e w' => e = .returned (.bool (LX.sgn c)) ∧ w' = w := by
  have hp := sgn_paths c z hz
  clear hz
  rcases hp with ⟨h1, h2, hs⟩ | ⟨h1, h2, h3, h4, h5, h6, h7, h8, h9, hs⟩ | ⟨h1, h2, h3, hs⟩ | ⟨h1, h2, h3, h4, h5, rfl, hs⟩ | ⟨h1, h2, h3, h4, h5, h6, h7, h8, hs⟩ | ⟨h1, h2, h3, h4, hs⟩ | ⟨h1, h2, h3, h4, h5, h6, h7, hs⟩ | ⟨h1, h2, h3, h4, rfl, hs⟩ | ⟨h1, h2, h3, h4, h5, rfl, hs⟩ | ⟨h1, h2, h3, h4, h5, h6, hs⟩
  all_goals
    rw [hs]
    clear hs
    go_enter Tryz.func133, Tryz.ntmps133
    go_wp2
    go_ret
    exact ⟨rfl, rfl⟩

theorem str_is (l m : List UInt8) : ((⟨l.toArray⟩ : ByteArray) = ⟨m.toArray⟩) = (l = m) := propext (str_eq l m)
theorem hasp_any (l : List UInt8) (m : List UInt8) (b : Bool) (hb : m.isPrefixOf l = b) (w : World) : Calls Tryz.prog 123 #[.string ⟨l.toArray⟩, .string ⟨m.toArray⟩] w fun e w' => e = .returned (.bool b) ∧ w' = w := by
  rw [← hb]
  exact Tryz.strings_HasPrefix ⟨l.toArray⟩ ⟨m.toArray⟩ w
theorem dash_cases (l : List UInt8) : (l = [45] ∧ LX.dash l = true) ∨ (l ≠ [45] ∧ [45, 32].isPrefixOf l = LX.dash l) := by
  match l with
  | [] => exact .inr ⟨by simp, rfl⟩
  | [c] =>
    by_cases h : c = 45
    · subst h; exact .inl ⟨rfl, rfl⟩
    · exact .inr ⟨by simpa using h, by simp [LX.dash, List.isPrefixOf, h]⟩
  | c :: d :: t =>
    refine .inr ⟨by simp, ?_⟩
    show (45 == c && (32 == d && true)) = (c == 45 && d == 32)
    rw [Bool.and_true, Bool.beq_comm, Bool.beq_comm (a := (32 : UInt8))]
set_option maxHeartbeats 1000000 in
theorem ldash_any (l : List UInt8) (w : World) :
    Calls Tryz.prog 127 #[.string ⟨l.toArray⟩] w fun e w' => e = .returned (.bool (LX.dash l)) ∧ w' = w := by
  rcases dash_cases l with ⟨rfl, h⟩ | ⟨h1, h2⟩
  · rw [h]
    go_enter Tryz.func127, Tryz.ntmps127
    go_wp2
    go_ret
    exact ⟨rfl, rfl⟩
  · have HP := Lib.hid (hasp_any l [45, 32] _ h2 w)
    have hne : (l == [45]) = false := beq_eq_false_iff_ne.2 h1
    clear h1 h2
    generalize LX.dash l = b at *
    go_enter Tryz.func127, Tryz.ntmps127
    go_wp2_with (go_at_call 123; refine HP.out.mono ?_; rintro e w1 ⟨rfl, hw1⟩; replace hw1 := hw1.symm; subst hw1)
    go_ret
    exact ⟨rfl, rfl⟩
end Go.Proofs.YtmgalfdiiegjjaaGreatDoor

/- Walks of lex.keySize, and of the document's own dashed, keyed, blanks. -/
namespace Go.Proofs.YtmgalfdiiegjjaaGreatDoor
open Go.RowKit

theorem lcut_front (l : List UInt8) (k : Nat) : (⟨l.toArray⟩ : ByteArray).extract 0 k = ⟨(l.take k).toArray⟩ := by
  rw [ByteArray.extract_mk]
  simp
theorem lcut_back {l : List UInt8} {L : Nat} (h : l.length = L) (k : Nat) : (⟨l.toArray⟩ : ByteArray).extract k L = ⟨(l.drop k).toArray⟩ := by
  rw [ByteArray.extract_mk]
  subst h
  simp [List.take_of_length_le]
theorem ret_n {a b : Nat} {P : Prop} (h : a = b) (hp : P) : Ending.returned (.int .i64 (a : Int)) = .returned (.int .i64 (b : Int)) ∧ P := ⟨by rw [h], hp⟩
theorem ret_0 {b : Nat} {P : Prop} (h : b = 0) (hp : P) : Ending.returned (.int .i64 0) = .returned (.int .i64 (b : Int)) ∧ P := ⟨by rw [h]; rfl, hp⟩
theorem hasp_0 (w : World) : Calls Tryz.prog 123 #[.string ByteArray.empty, .string ⟨#[58, 32]⟩] w fun e w' => e = .returned (.bool false) ∧ w' = w := hasp_any [] [58, 32] false rfl w
theorem kend_cases (l : List UInt8) : (l = [58] ∧ LX.kend l = true) ∨ (l ≠ [58] ∧ [58, 32].isPrefixOf l = LX.kend l) := by
  match l with
  | [] => exact .inr ⟨by simp, rfl⟩
  | [c] =>
    by_cases h : c = 58
    · subst h; exact .inl ⟨rfl, rfl⟩
    · exact .inr ⟨by simpa using h, by simp [LX.kend, List.isPrefixOf, h]⟩
  | c :: d :: t =>
    refine .inr ⟨by simp, ?_⟩
    show (58 == c && (32 == d && true)) = (c == 58 && d == 32)
    rw [Bool.and_true, Bool.beq_comm, Bool.beq_comm (a := (32 : UInt8))]
theorem key_yes {l : List UInt8} {k : Nat} (h : LX.run l = k) (hk : LX.kend (l.drop k) = true) : LX.key l = k := by
  unfold LX.key; rw [h, if_pos hk]
theorem key_no {l : List UInt8} {k : Nat} (h : LX.run l = k) (hk : LX.kend (l.drop k) = false) : LX.key l = 0 := by
  unfold LX.key; rw [h, if_neg (by rw [hk]; simp)]

set_option maxHeartbeats 4000000 in
theorem keySize_any (l : List UInt8) (w : World) (hl : l.length ≤ 100000) :
    Calls Tryz.prog 129 #[.string ⟨l.toArray⟩] w fun e w' => e = .returned (.int .i64 (LX.key l : Int)) ∧ w' = w := by
  have hsz := str_size l
  obtain ⟨n, hn⟩ : ∃ n, l.length = n := ⟨_, rfl⟩
  have HL := Lib.hid hn
  rw [hn] at hsz hl
  clear hn
  obtain ⟨K, HK⟩ : ∃ K, Hid (K = LX.key l) := ⟨_, Lib.hid rfl⟩
  rw [← HK.out]
  go_enter Tryz.func129, Tryz.ntmps129
  go_wp2
  go_loopg [3] n (fun g s3 wx => ∃ k : Nat, k + g = n ∧ s3 = .int .i64 (k : Int) ∧ wx = w ∧ Hid (k ≤ LX.run l))
  case atStart => exact ⟨0, by omega, rfl, rfl, Nat.zero_le _⟩
  case round =>
    obtain ⟨k, hk, rfl, rfl, HR⟩ := hrel
    have x1 := lcut_back HL.out k
    obtain ⟨D, hD⟩ : ∃ D, l.drop k = D := ⟨_, rfl⟩
    have HD := Lib.hid hD
    rw [hD] at x1
    clear hD
    have hkn0 : (k : Int) ≤ (n : Int) := by omega
    cases gk with
    | zero =>
      obtain rfl : k = n := by omega
      have hrun := Lib.hid (LX.runp_stop HR.out (fun c hc => by rw [List.getElem?_eq_none (by have := HL.out; omega)] at hc; cases hc))
      have hlt : ¬ (k : Int) < (k : Int) := by omega
      have E := Lib.hid (HK.out.trans (key_no hrun.out (by rw [List.drop_eq_nil_of_le (by have := HL.out; omega)]; rfl)))
      have HP := Lib.hid (hasp_0 wr)
      clear x1
      go_wp2_with (go_at_call 123; refine HP.out.mono ?_; rintro e w1 ⟨rfl, hw1⟩; replace hw1 := hw1.symm; subst hw1)
      go_ret
      exact ret_0 E.out rfl
    | succ g =>
      have hlt : (k : Int) < (n : Int) := by omega
      obtain ⟨c, hc⟩ : ∃ c, l[k]? = some c := ⟨l[k]'(by have := HL.out; omega), List.getElem?_eq_getElem _⟩
      have hkl : k < (⟨l.toArray⟩ : ByteArray).size := by omega
      have hub := c.toNat_lt
      obtain ⟨z, hz⟩ : ∃ z : Int, (c.toNat : Int) = z := ⟨_, rfl⟩
      have hi := at_z hc hz hkl
      have hz0 : 0 ≤ z := by omega
      have hz1 : z < 256 := by omega
      have HC := Lib.hid hc
      have HS := Lib.hid (isKeySign_any c z hz wr)
      clear hc hz hub
      cases hs : LX.sgn c with
      | true =>
        have E := Lib.hid (LX.runp_more HR.out HC.out hs)
        rw [hs] at HS
        clear hs x1
        go_wp2_with (go_at_call 158; refine HS.out.mono ?_; rintro e w1 ⟨rfl, hw1⟩; replace hw1 := hw1.symm; subst hw1)
        go_roundg g
        case rel => exact ⟨k + 1, by omega, rfl, rfl, E⟩
        case measure => omega
      | false =>
        have hrun := Lib.hid (LX.runp_stop HR.out (fun d hd => by rw [HC.out] at hd; obtain rfl := Option.some.inj hd; exact hs))
        rw [hs] at HS
        clear hs
        rcases kend_cases D with ⟨rfl, hd⟩ | ⟨h1, h2⟩
        · have E := Lib.hid (HK.out.trans (key_yes hrun.out (by rw [HD.out]; exact hd)))
          clear hd
          go_wp2_with (go_at_call 158; refine HS.out.mono ?_; rintro e w1 ⟨rfl, hw1⟩; replace hw1 := hw1.symm; subst hw1)
          go_ret
          exact ret_n E.out.symm rfl
        · have hne : (D == [58]) = false := beq_eq_false_iff_ne.2 h1
          have HP := Lib.hid (hasp_any D [58, 32] _ h2 wr)
          clear h1 h2
          cases hd : LX.kend D with
          | true =>
            have E := Lib.hid (HK.out.trans (key_yes hrun.out (by rw [HD.out]; exact hd)))
            rw [hd] at HP
            clear hd
            go_wp2_with (first
              | (go_at_call 158; refine HS.out.mono ?_; rintro e w1 ⟨rfl, hw1⟩; replace hw1 := hw1.symm; subst hw1)
              | (go_at_call 123; refine HP.out.mono ?_; rintro e w1 ⟨rfl, hw1⟩; replace hw1 := hw1.symm; subst hw1))
            go_ret
            exact ret_n E.out.symm rfl
          | false =>
            have E := Lib.hid (HK.out.trans (key_no hrun.out (by rw [HD.out]; exact hd)))
            rw [hd] at HP
            clear hd
            go_wp2_with (first
              | (go_at_call 158; refine HS.out.mono ?_; rintro e w1 ⟨rfl, hw1⟩; replace hw1 := hw1.symm; subst hw1)
              | (go_at_call 123; refine HP.out.mono ?_; rintro e w1 ⟨rfl, hw1⟩; replace hw1 := hw1.symm; subst hw1))
            go_ret
            exact ret_0 E.out rfl

end Go.Proofs.YtmgalfdiiegjjaaGreatDoor

/- Walks of lex.escape and lex.plain; how quotes are read, step by step. -/
namespace Go.Proofs.YtmgalfdiiegjjaaGreatDoor
open Go.RowKit

/-- What is told of a text that is quoted, at a call's end. -/
def StrE (o : Option (List UInt8)) (k : Int) : Ending := match o with | some x => .returned (.string ⟨x.toArray⟩) | none => .panicked (gave k)
def EscE (o : Option (UInt8 × Nat)) : Ending := match o with | some x => .returned (.tuple #[.int .u8 (x.1.toNat : Int), .int .i64 (x.2 : Int)]) | none => .panicked (gave 3)
def hexes : List UInt8 := [48, 49, 50, 51, 52, 53, 54, 55, 56, 57, 97, 98, 99, 100, 101, 102]
def hxi (c : UInt8) : Int := match LX.hx c with | some x => (x : Int) | none => -1
theorem hx_index : ∀ n : Fin 256, Lib.indexByte hexes (UInt8.ofNat n.val) = hxi (UInt8.ofNat n.val) := by decide +kernel
theorem hx_any (c : UInt8) : Lib.indexByte hexes c = hxi c := by
  have := hx_index ⟨c.toNat, c.toNat_lt⟩
  simpa using this
theorem hxi_some {c : UInt8} {x : Nat} (h : LX.hx c = some x) : hxi c = (x : Int) ∧ x < 16 := by
  refine ⟨by unfold hxi; rw [h], ?_⟩
  unfold LX.hx at h
  split at h
  · cases h; omega
  · split at h
    · cases h; omega
    · cases h
theorem hxi_none {c : UInt8} (h : LX.hx c = none) : hxi c = -1 := by unfold hxi; rw [h]
theorem ibyte_any (c : UInt8) (z : Int) (hz : (c.toNat : Int) = z) (h : Int) (hh : hxi c = h) (w : World) : Calls Tryz.prog 176 #[.string ⟨#[48, 49, 50, 51, 52, 53, 54, 55, 56, 57, 97, 98, 99, 100, 101, 102]⟩, .int .u8 z] w fun e w' => e = .returned (.int .i64 h) ∧ w' = w := by
  subst hz hh
  have := Tryz.strings_IndexByte ⟨#[48, 49, 50, 51, 52, 53, 54, 55, 56, 57, 97, 98, 99, 100, 101, 102]⟩ (c.toNat : Int) w
  have e1 : Lib.indexByte (ByteArray.mk #[48, 49, 50, 51, 52, 53, 54, 55, 56, 57, 97, 98, 99, 100, 101, 102]).data.toList (c.toNat : Int).toNat.toUInt8 = hxi c := by
    rw [← hx_any]; simp [hexes]
  rw [e1] at this
  exact this
def oddi (c : UInt8) : Int := Lib.indexByte LX.bars c
theorem odd_index : ∀ n : Fin 256, Lib.indexByte LX.bars (UInt8.ofNat n.val) < 0 ↔ LX.odd (UInt8.ofNat n.val) = false := by decide +kernel
theorem oddi_any (c : UInt8) : oddi c < 0 ↔ LX.odd c = false := by
  have := odd_index ⟨c.toNat, c.toNat_lt⟩
  simp only [UInt8.ofNat_toNat] at this
  exact this
theorem bbyte_any (c : UInt8) (z : Int) (hz : (c.toNat : Int) = z) (w : World) : Calls Tryz.prog 176 #[.string ⟨#[91, 93, 123, 125, 38, 42, 33, 124, 62, 37, 64, 44, 63, 96]⟩, .int .u8 z] w fun e w' => e = .returned (.int .i64 (oddi c)) ∧ w' = w := by
  subst hz
  have := Tryz.strings_IndexByte ⟨#[91, 93, 123, 125, 38, 42, 33, 124, 62, 37, 64, 44, 63, 96]⟩ (c.toNat : Int) w
  have e1 : Lib.indexByte (ByteArray.mk #[91, 93, 123, 125, 38, 42, 33, 124, 62, 37, 64, 44, 63, 96]).data.toList (c.toNat : Int).toNat.toUInt8 = oddi c := by
    simp [oddi, LX.bars]
  rw [e1] at this
  exact this

theorem esc_no {d : UInt8} {u : List UInt8} (h1 : d ≠ 92) (h2 : d ≠ 34) (h3 : d ≠ 110) (h4 : d ≠ 116) (h5 : d ≠ 120) : LX.esc (d :: u) = none := by
  simp [LX.esc, h1, h2, h3, h4, h5]
theorem esc_xs {a b : UInt8} {v : List UInt8} {x y : Nat} (ha : LX.hx a = some x) (hb : LX.hx b = some y) : LX.esc (120 :: a :: b :: v) = some (UInt8.ofNat (16 * x + y), 3) := by
  simp [LX.esc, ha, hb]
theorem esc_xa {a b : UInt8} {v : List UInt8} (ha : LX.hx a = none) : LX.esc (120 :: a :: b :: v) = none := by
  simp [LX.esc, ha]
theorem esc_xb {a b : UInt8} {v : List UInt8} (hb : LX.hx b = none) : LX.esc (120 :: a :: b :: v) = none := by
  cases ha : LX.hx a <;> simp [LX.esc, ha, hb]

theorem lmust_any (b : Bool) (k : Int) (w : World) :
    Calls Tryz.prog 125 #[.bool b, .int .i64 k] w fun e w' => e = (if b then .returned (.tuple #[]) else .panicked (gave k)) ∧ w' = w := by
  cases b
  · exact lmust_false k w
  · exact lmust_true k w
theorem zne {c : UInt8} {z : Int} (hz : (c.toNat : Int) = z) (k : Nat) (_hk : k < 256) (h : c ≠ UInt8.ofNat k) : (z == (k : Int)) = false := by
  refine beq_eq_false_iff_ne.2 fun e => h ?_
  have : c.toNat = k := by omega
  rw [← this]; simp
theorem or_all : ∀ x y : Fin 16, bits .or .i64 ((x.val : Int) * 16) (y.val : Int) % 256 = ((UInt8.ofNat (16 * x.val + y.val)).toNat : Int) := by decide +kernel
theorem or_hex {x y : Nat} (hx : x < 16) (hy : y < 16) : bits .or .i64 ((x : Int) * 16) (y : Int) % 256 = ((UInt8.ofNat (16 * x + y)).toNat : Int) := or_all ⟨x, hx⟩ ⟨y, hy⟩
theorem first_z {d : UInt8} {u : List UInt8} {z : Int} (hz : (d.toNat : Int) = z) (h : 0 < (⟨(d :: u).toArray⟩ : ByteArray).size) : ((((⟨(d :: u).toArray⟩ : ByteArray)[0]'h).toNat : Nat) : Int) = z := at_z (l := d :: u) (p := 0) rfl hz h
set_option maxHeartbeats 4000000 in
theorem escape_any (l : List UInt8) (w : World) (hl : l.length ≤ 100000) :
    Calls Tryz.prog 175 #[.string ⟨l.toArray⟩] w fun e w' => e = EscE (LX.esc l) ∧ Below w.heap.size w w' := by
  cases l with
  | nil =>
    have HM := Lib.hid (fun x => lmust_false 3 x)
    go_enter Tryz.func175, Tryz.ntmps175
    go_wp2_with fail
    refine (HM.out _).mono ?_
    rintro e w1 ⟨rfl, rfl⟩
    exact ⟨rfl, rfl, Below.refl _ _⟩
  | cons d u =>
    have hne : ((d :: u) == ([] : List UInt8)) = false := rfl
    have hsz := str_size (d :: u)
    obtain ⟨z, hz⟩ : ∃ z : Int, (d.toNat : Int) = z := ⟨_, rfl⟩
    have hp : 0 < (⟨(d :: u).toArray⟩ : ByteArray).size := by rw [hsz]; simp
    have hi := first_z (u := u) hz hp
    have hub := d.toNat_lt
    have hz0 : 0 ≤ z := by omega
    have hz1 : z < 256 := by omega
    have HM := Lib.hid (fun x => lmust_true 3 x)
    have HZ := Lib.hid hz
    obtain ⟨n, hn⟩ : ∃ n, (d :: u).length = n := ⟨_, rfl⟩
    have HN := Lib.hid hn
    rw [hn] at hsz hl
    clear hz hub hn
    have path : (d = 92 ∨ d = 34 ∨ d = 110 ∨ d = 116) ∨ d = 120 ∨ (d ≠ 92 ∧ d ≠ 34 ∧ d ≠ 110 ∧ d ≠ 116 ∧ d ≠ 120) := by
      by_cases h1 : d = 92
      · exact .inl (.inl h1)
      · by_cases h2 : d = 34
        · exact .inl (.inr (.inl h2))
        · by_cases h3 : d = 110
          · exact .inl (.inr (.inr (.inl h3)))
          · by_cases h4 : d = 116
            · exact .inl (.inr (.inr (.inr h4)))
            · by_cases h5 : d = 120
              · exact .inr (.inl h5)
              · exact .inr (.inr ⟨h1, h2, h3, h4, h5⟩)
    rcases path with h | rfl | ⟨h1, h2, h3, h4, h5⟩
    · rcases h with rfl | rfl | rfl | rfl
      all_goals
        obtain rfl := HZ.out
        go_enter Tryz.func175, Tryz.ntmps175
        go_wp2_with (go_at_call 125; refine (HM.out _).mono ?_; rintro e w1 ⟨rfl, hw1⟩; replace hw1 := hw1.symm; subst hw1)
        go_ret2
        exact ⟨rfl, Below.refl _ _⟩
    · obtain rfl : z = 120 := HZ.out.symm
      match u, hp, hi, hsz, HN, hne with
      | [], hp, hi, hsz, HN, hne =>
        have HF := Lib.hid (fun x => lmust_false 3 x)
        obtain rfl : n = 1 := HN.out.symm
        go_enter Tryz.func175, Tryz.ntmps175
        go_wp2_with fail
        refine (HM.out _).mono ?_
        rintro e w1 ⟨rfl, hw1⟩
        replace hw1 := hw1.symm
        subst hw1
        go_wp2_with fail
        refine (HF.out _).mono ?_
        rintro e w1 ⟨rfl, rfl⟩
        exact ⟨rfl, rfl, Below.refl _ _⟩
      | [a], hp, hi, hsz, HN, hne =>
        have HF := Lib.hid (fun x => lmust_false 3 x)
        obtain rfl : n = 2 := HN.out.symm
        go_enter Tryz.func175, Tryz.ntmps175
        go_wp2_with fail
        refine (HM.out _).mono ?_
        rintro e w1 ⟨rfl, hw1⟩
        replace hw1 := hw1.symm
        subst hw1
        go_wp2_with fail
        refine (HF.out _).mono ?_
        rintro e w1 ⟨rfl, rfl⟩
        exact ⟨rfl, rfl, Below.refl _ _⟩
      | a :: b :: v, hp, hi, hsz, HN, hne =>
        have h3 : 3 ≤ n := by have := HN.out; simp at this; omega
        have hgt : (2 : Int) < (n : Int) := by omega
        obtain ⟨za, hza⟩ : ∃ z : Int, (a.toNat : Int) = z := ⟨_, rfl⟩
        obtain ⟨zb, hzb⟩ : ∃ z : Int, (b.toNat : Int) = z := ⟨_, rfl⟩
        have hl1 : 1 < (⟨(120 :: a :: b :: v).toArray⟩ : ByteArray).size := by omega
        have hl2 : 2 < (⟨(120 :: a :: b :: v).toArray⟩ : ByteArray).size := by omega
        have i1 := at_z (l := 120 :: a :: b :: v) (p := 1) rfl hza hl1
        have i2 := at_z (l := 120 :: a :: b :: v) (p := 2) rfl hzb hl2
        have hua := a.toNat_lt
        have hub := b.toNat_lt
        have a0 : 0 ≤ za := by omega
        have a1 : za < 256 := by omega
        have b0 : 0 ≤ zb := by omega
        have b1 : zb < 256 := by omega
        have HA := Lib.hid (fun x => ibyte_any a za hza _ rfl x)
        have HB := Lib.hid (fun x => ibyte_any b zb hzb _ rfl x)
        clear hza hzb hua hub
        cases ha : LX.hx a with
        | none =>
          have E := Lib.hid (esc_xa (b := b) (v := v) ha)
          rw [hxi_none ha] at HA
          have HF := Lib.hid (fun x => lmust_false 3 x)
          generalize hxi b = hb' at HB
          clear ha
          go_enter Tryz.func175, Tryz.ntmps175
          go_wp2_with fail
          refine (HM.out _).mono ?_
          rintro e w1 ⟨rfl, hw1⟩
          replace hw1 := hw1.symm
          subst hw1
          go_wp2_with fail
          refine (HM.out _).mono ?_
          rintro e w1 ⟨rfl, hw1⟩
          replace hw1 := hw1.symm
          subst hw1
          go_wp2_with fail
          go_quiet (first | (with_reducible refine Calls.quiet_of_same (HA.out _)) | (with_reducible refine Calls.quiet_of_same (HB.out _)))
          go_wp2_with fail
          refine (HF.out _).mono ?_
          rintro e w1 ⟨rfl, rfl⟩
          exact ⟨rfl, by rw [E.out]; rfl, below_drewN _ _⟩
        | some x =>
          obtain ⟨hx1, hx2⟩ := hxi_some ha
          rw [hx1] at HA
          cases hb : LX.hx b with
          | none =>
            have E := Lib.hid (esc_xb (a := a) (v := v) hb)
            rw [hxi_none hb] at HB
            have HF := Lib.hid (fun x => lmust_false 3 x)
            clear ha hb hx1
            go_enter Tryz.func175, Tryz.ntmps175
            go_wp2_with fail
            refine (HM.out _).mono ?_
            rintro e w1 ⟨rfl, hw1⟩
            replace hw1 := hw1.symm
            subst hw1
            go_wp2_with fail
            refine (HM.out _).mono ?_
            rintro e w1 ⟨rfl, hw1⟩
            replace hw1 := hw1.symm
            subst hw1
            go_wp2_with fail
            go_quiet (first | (with_reducible refine Calls.quiet_of_same (HA.out _)) | (with_reducible refine Calls.quiet_of_same (HB.out _)))
            go_wp2_with fail
            refine (HF.out _).mono ?_
            rintro e w1 ⟨rfl, rfl⟩
            exact ⟨rfl, by rw [E.out]; rfl, below_drewN _ _⟩
          | some y =>
            obtain ⟨hy1, hy2⟩ := hxi_some hb
            rw [hy1] at HB
            have E := Lib.hid (esc_xs (v := v) ha hb)
            clear ha hb hx1 hy1
            go_enter Tryz.func175, Tryz.ntmps175
            go_wp2_with fail
            refine (HM.out _).mono ?_
            rintro e w1 ⟨rfl, hw1⟩
            replace hw1 := hw1.symm
            subst hw1
            go_wp2_with fail
            refine (HM.out _).mono ?_
            rintro e w1 ⟨rfl, hw1⟩
            replace hw1 := hw1.symm
            subst hw1
            go_wp2_with fail
            go_quiet (first | (with_reducible refine Calls.quiet_of_same (HA.out _)) | (with_reducible refine Calls.quiet_of_same (HB.out _)))
            go_wp2_with fail
            refine (HM.out _).mono ?_
            rintro e w1 ⟨rfl, hw1⟩
            replace hw1 := hw1.symm
            subst hw1
            go_wp2
            go_ret2
            refine ⟨?_, below_drewN _ _⟩
            rw [E.out]
            show Ending.returned (.tuple #[.int .u8 _, .int .i64 3]) = _
            rw [or_hex hx2 hy2]
            rfl
    · have E := Lib.hid (esc_no (u := u) h1 h2 h3 h4 h5)
      have q92 := zne HZ.out 92 (by decide) h1
      have q34 := zne HZ.out 34 (by decide) h2
      have q110 := zne HZ.out 110 (by decide) h3
      have q116 := zne HZ.out 116 (by decide) h4
      have q120 := zne HZ.out 120 (by decide) h5
      clear h1 h2 h3 h4 h5
      go_enter Tryz.func175, Tryz.ntmps175
      go_wp2_with (go_at_call 125; refine (HM.out _).mono ?_; rintro e w1 ⟨rfl, hw1⟩; replace hw1 := hw1.symm; subst hw1)
      exact ⟨rfl, by rw [E.out]; rfl, Below.refl _ _⟩

def okPlain (l : List UInt8) : Bool := match l with | [] => false | c :: t => !(LX.odd c || LX.dash (c :: t) || decide (0 < LX.key (c :: t)))
def PlE (l : List UInt8) : Ending := if okPlain l then .returned (.string ⟨l.toArray⟩) else .panicked (gave 4)
theorem ple_no {l : List UInt8} (h : okPlain l = false) : PlE l = .panicked (gave 4) := by unfold PlE; rw [h]; rfl
theorem ple_yes {l : List UInt8} (h : okPlain l = true) : PlE l = .returned (.string ⟨l.toArray⟩) := by unfold PlE; rw [h]; rfl
set_option maxHeartbeats 4000000 in
theorem plain_any (c : UInt8) (t : List UInt8) (w : World) (hl : (c :: t).length ≤ 100000) :
    Calls Tryz.prog 161 #[.string ⟨(c :: t).toArray⟩] w fun e w' => e = PlE (c :: t) ∧ w' = w := by
  have hsz := str_size (c :: t)
  obtain ⟨z, hz⟩ : ∃ z : Int, (c.toNat : Int) = z := ⟨_, rfl⟩
  have hp : 0 < (⟨(c :: t).toArray⟩ : ByteArray).size := by rw [hsz]; simp
  have hi := first_z (u := t) hz hp
  have hub := c.toNat_lt
  have hz0 : 0 ≤ z := by omega
  have hz1 : z < 256 := by omega
  have HI := Lib.hid (bbyte_any c z hz w)
  have HT := Lib.hid (lmust_true 4 w)
  have HF := Lib.hid (lmust_false 4 w)
  have HD := Lib.hid (ldash_any (c :: t) w)
  have HK := Lib.hid (keySize_any (c :: t) w hl)
  have ho := oddi_any c
  obtain ⟨o, hoo⟩ : ∃ o, oddi c = o := ⟨_, rfl⟩
  rw [hoo] at HI ho
  have ok : okPlain (c :: t) = !(LX.odd c || LX.dash (c :: t) || decide (0 < LX.key (c :: t))) := rfl
  obtain ⟨n, hn⟩ : ∃ n, (c :: t).length = n := ⟨_, rfl⟩
  rw [hn] at hsz hl
  clear hz hub hn hoo
  generalize LX.dash (c :: t) = db at *
  generalize LX.key (c :: t) = kn at *
  cases hodd : LX.odd c with
  | true =>
    have E := Lib.hid (show okPlain (c :: t) = false by rw [ok, hodd]; rfl)
    have h0 : decide (o < 0) = false := decide_eq_false fun h => by rw [ho.1 h] at hodd; cases hodd
    clear ok ho hodd
    go_enter Tryz.func161, Tryz.ntmps161
    go_wp2_with fail
    refine HI.out.mono ?_
    rintro e w1 ⟨rfl, hw1⟩
    replace hw1 := hw1.symm
    subst hw1
    go_wp2_with fail
    refine HF.out.mono ?_
    rintro e w1 ⟨rfl, rfl⟩
    exact ⟨rfl, (ple_no E.out).symm, rfl⟩
  | false =>
    have h0 : o < 0 := ho.2 hodd
    rw [hodd] at ok
    clear ho hodd
    cases db with
    | true =>
      have E := Lib.hid (show okPlain (c :: t) = false by rw [ok]; rfl)
      clear ok
      go_enter Tryz.func161, Tryz.ntmps161
      go_wp2_with fail
      refine HI.out.mono ?_
      rintro e w1 ⟨rfl, hw1⟩
      replace hw1 := hw1.symm
      subst hw1
      go_wp2_with fail
      refine HT.out.mono ?_
      rintro e w1 ⟨rfl, hw1⟩
      replace hw1 := hw1.symm
      subst hw1
      go_wp2_with (go_at_call 127; refine HD.out.mono ?_; rintro e w1 ⟨rfl, hw1⟩; replace hw1 := hw1.symm; subst hw1)
      refine HF.out.mono ?_
      rintro e w1 ⟨rfl, rfl⟩
      exact ⟨rfl, (ple_no E.out).symm, rfl⟩
    | false =>
      by_cases hk : kn = 0
      · have E := Lib.hid (show okPlain (c :: t) = true by rw [ok, hk]; rfl)
        subst hk
        clear ok
        go_enter Tryz.func161, Tryz.ntmps161
        go_wp2_with fail
        refine HI.out.mono ?_
        rintro e w1 ⟨rfl, hw1⟩
        replace hw1 := hw1.symm
        subst hw1
        go_wp2_with fail
        refine HT.out.mono ?_
        rintro e w1 ⟨rfl, hw1⟩
        replace hw1 := hw1.symm
        subst hw1
        go_wp2_with (first
          | (go_at_call 127; refine HD.out.mono ?_; rintro e w1 ⟨rfl, hw1⟩; replace hw1 := hw1.symm; subst hw1)
          | (go_at_call 129; refine HK.out.mono ?_; rintro e w1 ⟨rfl, hw1⟩; replace hw1 := hw1.symm; subst hw1)
          | (go_at_call 125; refine HT.out.mono ?_; rintro e w1 ⟨rfl, hw1⟩; replace hw1 := hw1.symm; subst hw1))
        go_ret
        exact ⟨(ple_yes E.out).symm, rfl⟩
      · have E := Lib.hid (show okPlain (c :: t) = false by rw [ok, decide_eq_true (by omega)]; rfl)
        have hk1 : ((kn : Int) == 0) = false := beq_eq_false_iff_ne.2 (by omega)
        have hk2 : ¬ (kn : Int) = 0 := by omega
        clear ok
        go_enter Tryz.func161, Tryz.ntmps161
        go_wp2_with fail
        refine HI.out.mono ?_
        rintro e w1 ⟨rfl, hw1⟩
        replace hw1 := hw1.symm
        subst hw1
        go_wp2_with fail
        refine HT.out.mono ?_
        rintro e w1 ⟨rfl, hw1⟩
        replace hw1 := hw1.symm
        subst hw1
        go_wp2_with (first
          | (go_at_call 127; refine HD.out.mono ?_; rintro e w1 ⟨rfl, hw1⟩; replace hw1 := hw1.symm; subst hw1)
          | (go_at_call 129; refine HK.out.mono ?_; rintro e w1 ⟨rfl, hw1⟩; replace hw1 := hw1.symm; subst hw1))
        refine HF.out.mono ?_
        rintro e w1 ⟨rfl, rfl⟩
        exact ⟨rfl, (ple_no E.out).symm, rfl⟩
end Go.Proofs.YtmgalfdiiegjjaaGreatDoor
