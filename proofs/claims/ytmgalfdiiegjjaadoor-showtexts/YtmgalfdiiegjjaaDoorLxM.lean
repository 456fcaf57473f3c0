/- Walks of a lexer's passBlanks and put. -/
import Derived.Test.YtmgalfdiiegjjaaDoorSeg06
import Derived.Deep.RegionLaw
import Derived.BigRegion
namespace Go.Proofs.YtmgalfdiiegjjaaDoor
open Go.RowKit

/-- A lexer at p: its line, what is left, the pieces so far. -/
structure Lxr (w : World) (B p : Nat) (no ind : Int) (tx rest : List UInt8) (v : Value) (acc : List LX.Pc) : Prop where
  ge : B ≤ p
  str : Str w p 94 #[.int .i64 no, .int .i64 ind, .string ⟨tx.toArray⟩, .string ⟨rest.toArray⟩, v]
  own : Ownp w B v acc
theorem Lxr.below {w w' : World} {B p : Nat} {no ind : Int} {tx rest : List UInt8} {v : Value} {acc : List LX.Pc} (h : Lxr w B p no ind tx rest v acc) (hb : Below w.heap.size w w') : Lxr w' B p no ind tx rest v acc :=
  ⟨h.ge, h.str.below hb, h.own.below hb⟩
theorem Lxr.size {w : World} {B p : Nat} {no ind : Int} {tx rest : List UInt8} {v : Value} {acc : List LX.Pc} (h : Lxr w B p no ind tx rest v acc) : B ≤ w.heap.size := Nat.le_of_lt (Nat.lt_of_le_of_lt h.ge h.str.lt)
theorem Lxr.off {w : World} {B p : Nat} {no ind : Int} {tx rest : List UInt8} {v : Value} {acc : List LX.Pc} (h : Lxr w B p no ind tx rest v acc) : v.ownBlock = none ∨ v.ownBlock ≠ some p := h.own.off h.str (by decide)
/-- What is left has been laid anew. -/
theorem Lxr.rest {w : World} {B p : Nat} {no ind : Int} {tx rest : List UInt8} {v : Value} {acc : List LX.Pc} (h : Lxr w B p no ind tx rest v acc) (r : List UInt8) : Lxr (w.setCell ⟨p, 3, none⟩ (.string ⟨r.toArray⟩)) B p no ind tx r v acc ∧ Below B w (w.setCell ⟨p, 3, none⟩ (.string ⟨r.toArray⟩)) := by
  have kb := Kb.set w p 3 (.string ⟨r.toArray⟩) none
  refine ⟨⟨h.ge, by simpa using h.str.set 3 (.string ⟨r.toArray⟩), h.own.kb kb h.off no_or⟩, (Below.refl B w).setCell (p := ⟨p, 3, none⟩) h.ge _⟩
theorem ltrim_any (l : List UInt8) (w : World) : Calls Tryd.prog 73 #[.string ⟨l.toArray⟩, .string ⟨#[32]⟩] w fun e w' => e = .returned (.string ⟨(LX.tl l).toArray⟩) ∧ w' = w :=
  Tryd.strings_TrimLeft_one ⟨l.toArray⟩ 32 (by decide) w

set_option maxHeartbeats 1000000 in
theorem passBlanks_any {w : World} {B p : Nat} {no ind : Int} {tx rest : List UInt8} {v : Value} {acc : List LX.Pc} (h : Lxr w B p no ind tx rest v acc) :
    Calls Tryd.prog 65 #[.pointer (some ⟨p, 0, none⟩)] w fun e w' => e = .returned (.tuple #[]) ∧ Lxr w' B p no ind tx (LX.tl rest) v acc ∧ Below B w w' := by
  have HE := Lib.hid (h.rest (LX.tl rest))
  have HT := Lib.hid (ltrim_any rest w)
  have c3 : w.cell? ⟨p, 3, none⟩ = some (.string ⟨rest.toArray⟩) := h.str.cell 3
  have f3 := h.str.frozen 3
  clear h
  generalize LX.tl rest = R at *
  go_enter Tryd.func65, Tryd.ntmps65
  go_wp2_with (go_at_call 73; refine HT.out.mono ?_; rintro e w1 ⟨rfl, hw1⟩; replace hw1 := hw1.symm; subst hw1)
  go_end0
  exact ⟨rfl, HE.out⟩

/-- The pieces have grown by one. -/
theorem Lxr.grown {w w1 : World} {B p : Nat} {no ind : Int} {tx rest : List UInt8} {v v' : Value} {acc acc' : List LX.Pc} (h : Lxr w B p no ind tx rest v acc) (hg : w.grownBy w1 v.ownBlock) (ho : Ownp w1 B v' acc') :
    Str w1 p 94 #[.int .i64 no, .int .i64 ind, .string ⟨tx.toArray⟩, .string ⟨rest.toArray⟩, v] ∧ Lxr (w1.setCell ⟨p, 4, none⟩ v') B p no ind tx rest v' acc' ∧ Below B w (w1.setCell ⟨p, 4, none⟩ v') := by
  have hs1 : Str w1 p 94 #[.int .i64 no, .int .i64 ind, .string ⟨tx.toArray⟩, .string ⟨rest.toArray⟩, v] := (hg.block p h.str.lt (by
    intro e
    rcases h.off with h1 | h1
    · rw [h1] at e; cases e
    · exact h1 e.symm)).trans h.str
  have kb := Kb.set w1 p 4 v' none
  have hb : Below B w w1 := (Below.refl B w).grown hg h.size (fun k hk => (h.own.ownBlock hk).2.1)
  refine ⟨hs1, ⟨h.ge, by simpa using hs1.set 4 v', ho.kb kb (ho.off hs1 (by decide)) no_or⟩, hb.setCell (p := ⟨p, 4, none⟩) h.ge _⟩

set_option maxHeartbeats 4000000 in
theorem put_any {w : World} {B p : Nat} {no ind : Int} {tx rest : List UInt8} {v : Value} {acc : List LX.Pc} (h : Lxr w B p no ind tx rest v acc) (k a b : Int) (t : List UInt8) (q : Bool) (h0 : 0 ≤ ind) (h1 : ind ≤ 16384) (h2 : tx.length ≤ 100000) (h3 : rest.length ≤ tx.length) (h4 : acc.length ≤ 20000) :
    Calls Tryd.prog 67 #[.pointer (some ⟨p, 0, none⟩), .agg #[.int .i64 k, .int .i64 a, .int .i64 b, .string ⟨t.toArray⟩, .bool q]] w fun e w' => e = .returned (.tuple #[]) ∧ (∃ v', Lxr w' B p no ind tx rest v' (acc ++ [(k, no, ind + tx.length - rest.length, t, q)])) ∧ Below B w w' := by
  have HB := Lib.hid h
  have s1 := str_size tx
  have s2 := str_size rest
  obtain ⟨N, hN⟩ : ∃ N, tx.length = N := ⟨_, rfl⟩
  obtain ⟨M, hM⟩ : ∃ M, rest.length = M := ⟨_, rfl⟩
  rw [hN] at s1 h2 h3
  rw [hM] at s2 h3
  rw [hN, hM]
  obtain ⟨C, hC⟩ : ∃ C : Int, ind + (N : Int) - (M : Int) = C := ⟨_, rfl⟩
  rw [hC]
  have hC0 : 0 ≤ ind + (N : Int) := by omega
  have hC1 : ind + (N : Int) ≤ 200000 := by omega
  obtain ⟨S, hS⟩ : ∃ S : Int, ind + (N : Int) = S := ⟨_, rfl⟩
  rw [hS] at hC hC0 hC1
  have hC2 : 0 ≤ C := by omega
  have hC3 : C ≤ 200000 := by omega
  have c0 : (w.alloc (.cells #[.int .i64 k, .int .i64 a, .int .i64 b, .string ⟨t.toArray⟩, .bool q] 68)).cell? ⟨p, 0, none⟩ = some (.int .i64 no) := (h.str.below (below_alloc w _)).cell 0
  have BA := below_alloc w (.cells #[.int .i64 k, .int .i64 no, .int .i64 b, .string ⟨t.toArray⟩, .bool q] 68)
  have HL2 := Lib.hid (h.below BA)
  have HSP2 := Lib.hid (Str.new w 68 #[.int .i64 k, .int .i64 no, .int .i64 b, .string ⟨t.toArray⟩, .bool q])
  have HB2 := Lib.hid (BA.mono h.size)
  have offn : v.ownBlock = none ∨ v.ownBlock ≠ some w.heap.size := by
    cases hg : v.ownBlock with
    | none => exact .inl rfl
    | some g =>
      right
      intro e
      have := (h.own.ownBlock hg).2.2
      have := Option.some.inj e
      omega
  have hne : p ≠ w.heap.size := Nat.ne_of_lt h.str.lt
  have hsz := h.size
  clear BA h HB hN hM
  go_enter Tryd.func67, Tryd.ntmps67
  go_wp2
  generalize hW1 : w.alloc (.cells #[.int .i64 k, .int .i64 no, .int .i64 b, .string ⟨t.toArray⟩, .bool q] 68) = w1 at *
  generalize w.heap.size = P at *
  clear c0 hW1
  have c1 : w1.cell? ⟨p, 1, none⟩ = some (.int .i64 ind) := HL2.out.str.cell 1
  have c2 : w1.cell? ⟨p, 2, none⟩ = some (.string ⟨tx.toArray⟩) := HL2.out.str.cell 2
  have c3 : w1.cell? ⟨p, 3, none⟩ = some (.string ⟨rest.toArray⟩) := HL2.out.str.cell 3
  have q2 : w1.cell? ⟨P, 2, none⟩ = some (.int .i64 b) := HSP2.out.cell 2
  have g2 := HSP2.out.frozen 2
  have kb2 := (Kb.set w1 P 2 (.int .i64 C) none).trans (Kb.of_below (below_drew _) (some P) none)
  have HL3 : Hid (Lxr (w1.setCell ⟨P, 2, none⟩ (.int .i64 C)).drew B p no ind tx rest v acc) := ⟨HL2.out.ge, HL2.out.str.kb kb2 (by simpa using hne) (by simp), HL2.out.own.kb kb2 offn no_or⟩
  have HSP3 : Hid (Str (w1.setCell ⟨P, 2, none⟩ (.int .i64 C)).drew P 68 (pc (k, no, C, t, q))) := by
    have := (HSP2.out.set 2 (.int .i64 C)).below (below_drew _)
    simp only [List.setIfInBounds_toArray, List.set_cons_zero, List.set_cons_succ] at this
    exact this
  have HB3 : Hid (Below B w (w1.setCell ⟨P, 2, none⟩ (.int .i64 C)).drew) := (HB2.out.setCell (p := ⟨P, 2, none⟩) hsz _).trans ((below_drew _).mono (Nat.le_trans (HL2.out.size) (Kb.set w1 P 2 (.int .i64 C) none).size))
  clear kb2
  go_region
  generalize (w1.setCell ⟨P, 2, none⟩ (.int .i64 C)).drew = w2 at *
  clear c1 c2 c3 q2 g2 HL2 HSP2 HB2
  obtain ⟨ao, cp, rfl⟩ := HL3.out.own.slice
  obtain ⟨a0, a1, a2, a3, a4⟩ := HSP3.out.at5
  have d4 : w2.cell? ⟨p, 4, none⟩ = some (.slice ao acc.length cp) := HL3.out.str.cell 4
  have BB5 := below_trans (below_alloc w2 (.cells (pc (k, no, C, t, q)) 68)) (below_drew _)
  have HL5 := Lib.hid (HL3.out.below BB5)
  have HA5 := Lib.hid (((Str.new w2 68 (pc (k, no, C, t, q))).below (below_drew _)).at5)
  have HB5 := Lib.hid (HB3.out.trans (BB5.mono HL3.out.size))
  have e4 : (w2.alloc (.cells (pc (k, no, C, t, q)) 68)).cell? ⟨p, 4, none⟩ = some (.slice ao acc.length cp) := HL5.out.str.cell 4
  clear BB5
  unfold pc at HL5 HA5 HB5 e4
  simp only at a0 a1 a2 a3 a4 HL5 HA5 HB5 e4
  go_wp2
  go_region_law (refine step_append_piece (l := (k, no, C, t, q)) (by rfl) (.tmp 33) (.tmp 35) (by rfl) B (by rfl) HL5.out.own (by rfl) HA5.out h4 HL5.out.size ?_; intro g cap4 w4 ho4 hg4; obtain ⟨s4, hd4⟩ := HL5.out.grown hg4 ho4; have HD4 := Lib.hid hd4; have k0 := s4.cell 4; have j0 := s4.frozen 4; simp only [List.getElem?_toArray, List.getElem?_cons_zero, List.getElem?_cons_succ] at k0; clear ho4 hg4 s4 hd4)
  all_goals
    go_wp2
    go_end0
    exact ⟨rfl, ⟨_, HD4.out.1⟩, HB5.out.trans HD4.out.2⟩
end Go.Proofs.YtmgalfdiiegjjaaDoor
