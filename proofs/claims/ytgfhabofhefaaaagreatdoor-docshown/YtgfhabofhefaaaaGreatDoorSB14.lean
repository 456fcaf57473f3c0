/- A part of the proof. -/
import Derived.Test.YtgfhabofhefaaaaGreatDoorSB11
import Derived.Deep.RegionLaw
import Derived.BigRegion
import Derived.Test.YtgfhabofhefaaaaGreatDoorSB12
namespace Go.Proofs.YtgfhabofhefaaaaGreatDoor
open Go.RowKit
structure Lxr (w : World) (B p : Nat) (no ind : Int) (tx rest : List UInt8) (v : Value) (acc : List LX.Pc) : Prop where
  ge : B ≤ p
  str : Str w p 137 #[.int .i64 no, .int .i64 ind, .string ⟨tx.toArray⟩, .string ⟨rest.toArray⟩, v]
  own : Ownp w B v acc
theorem Lxr.below {w w' : World} {B p : Nat} {no ind : Int} {tx rest : List UInt8} {v : Value} {acc : List LX.Pc} (h : Lxr w B p no ind tx rest v acc) (hb : Below w.heap.size w w') : Lxr w' B p no ind tx rest v acc :=
  ⟨h.ge, h.str.below hb, h.own.below hb⟩
theorem Lxr.size {w : World} {B p : Nat} {no ind : Int} {tx rest : List UInt8} {v : Value} {acc : List LX.Pc} (h : Lxr w B p no ind tx rest v acc) : B ≤ w.heap.size := Nat.le_of_lt (Nat.lt_of_le_of_lt h.ge h.str.lt)
theorem Lxr.off {w : World} {B p : Nat} {no ind : Int} {tx rest : List UInt8} {v : Value} {acc : List LX.Pc} (h : Lxr w B p no ind tx rest v acc) : v.ownBlock = none ∨ v.ownBlock ≠ some p := h.own.off h.str (by decide)
theorem Lxr.rest {w : World} {B p : Nat} {no ind : Int} {tx rest : List UInt8} {v : Value} {acc : List LX.Pc} (h : Lxr w B p no ind tx rest v acc) (r : List UInt8) : Lxr (w.setCell ⟨p, 3, none⟩ (.string ⟨r.toArray⟩)) B p no ind tx r v acc ∧ Below B w (w.setCell ⟨p, 3, none⟩ (.string ⟨r.toArray⟩)) := by
  have kb := Kb.set w p 3 (.string ⟨r.toArray⟩) none
  refine ⟨⟨h.ge, by simpa using h.str.set 3 (.string ⟨r.toArray⟩), h.own.kb kb h.off no_or⟩, (Below.refl B w).setCell (p := ⟨p, 3, none⟩) h.ge _⟩
theorem ltrim_any (l : List UInt8) (w : World) : Calls Tryz.prog 83 #[.string ⟨l.toArray⟩, .string ⟨#[32]⟩] w fun e w' => e = .returned (.string ⟨(LX.tl l).toArray⟩) ∧ w' = w :=
  Tryz.strings_TrimLeft_one ⟨l.toArray⟩ 32 (by decide) w
set_option maxHeartbeats 1000000 in
theorem passBlanks_any {w : World} {B p : Nat} {no ind : Int} {tx rest : List UInt8} {v : Value} {acc : List LX.Pc} (h : Lxr w B p no ind tx rest v acc) :
    Calls Tryz.prog 123 #[.pointer (some ⟨p, 0, none⟩)] w fun e w' => e = .returned (.tuple #[]) ∧ Lxr w' B p no ind tx (LX.tl rest) v acc ∧ Below B w w' := by
  have HE := Lib.hid (h.rest (LX.tl rest))
  have HT := Lib.hid (ltrim_any rest w)
  have c3 : w.cell? ⟨p, 3, none⟩ = some (.string ⟨rest.toArray⟩) := h.str.cell 3
  have f3 := h.str.frozen 3
  clear h
  generalize LX.tl rest = R at *
  go_enter Tryz.func123, Tryz.ntmps123
  go_wp2_with (go_at_call 83; refine HT.out.mono ?_; rintro e w1 ⟨rfl, hw1⟩; replace hw1 := hw1.symm; subst hw1)
  go_end0
  exact ⟨rfl, HE.out⟩
theorem Lxr.grown {w w1 : World} {B p : Nat} {no ind : Int} {tx rest : List UInt8} {v v' : Value} {acc acc' : List LX.Pc} (h : Lxr w B p no ind tx rest v acc) (hg : w.grownBy w1 v.ownBlock) (ho : Ownp w1 B v' acc') :
    Str w1 p 137 #[.int .i64 no, .int .i64 ind, .string ⟨tx.toArray⟩, .string ⟨rest.toArray⟩, v] ∧ Lxr (w1.setCell ⟨p, 4, none⟩ v') B p no ind tx rest v' acc' ∧ Below B w (w1.setCell ⟨p, 4, none⟩ v') := by
  have hs1 : Str w1 p 137 #[.int .i64 no, .int .i64 ind, .string ⟨tx.toArray⟩, .string ⟨rest.toArray⟩, v] := (hg.block p h.str.lt (by
    intro e
    rcases h.off with h1 | h1
    · rw [h1] at e; cases e
    · exact h1 e.symm)).trans h.str
  have kb := Kb.set w1 p 4 v' none
  have hb : Below B w w1 := (Below.refl B w).grown hg h.size (fun k hk => (h.own.ownBlock hk).2.1)
  refine ⟨hs1, ⟨h.ge, by simpa using hs1.set 4 v', ho.kb kb (ho.off hs1 (by decide)) no_or⟩, hb.setCell (p := ⟨p, 4, none⟩) h.ge _⟩
set_option maxHeartbeats 4000000 in
theorem put_any {w : World} {B p : Nat} {no ind : Int} {tx rest : List UInt8} {v : Value} {acc : List LX.Pc} (h : Lxr w B p no ind tx rest v acc) (k a b : Int) (t : List UInt8) (q : Bool) (h0 : 0 ≤ ind) (h1 : ind ≤ 16384) (h2 : tx.length ≤ 100000) (h3 : rest.length ≤ tx.length) (h4 : acc.length ≤ 20000) :
    Calls Tryz.prog 125 #[.pointer (some ⟨p, 0, none⟩), .agg #[.int .i64 k, .int .i64 a, .int .i64 b, .string ⟨t.toArray⟩, .bool q]] w fun e w' => e = .returned (.tuple #[]) ∧ (∃ v', Lxr w' B p no ind tx rest v' (acc ++ [(k, no, ind + tx.length - rest.length, t, q)])) ∧ Below B w w' := by
  have HB := Lib.hid h
  have s1 := str_size tx
  have s2 := str_size rest
  obtain ⟨N, hN⟩ : ∃ N, tx.length = N := ⟨_, rfl⟩
  obtain ⟨M, hM⟩ : ∃ M, rest.length = M := ⟨_, rfl⟩
  rw [hN] at s1 h2 h3
  rw [hM] at s2 h3
  rw [hN, hM]
  obtain ⟨C, hC⟩ : ∃ C : Int, ind + (N : Int) - (M : Int) = C := ⟨_, rfl⟩
  rw [hC]
  have hC0 : 0 ≤ ind + (N : Int) := by omega
  have hC1 : ind + (N : Int) ≤ 200000 := by omega
  obtain ⟨S, hS⟩ : ∃ S : Int, ind + (N : Int) = S := ⟨_, rfl⟩
  rw [hS] at hC hC0 hC1
  have hC2 : 0 ≤ C := by omega
  have hC3 : C ≤ 200000 := by omega
  have c0 : (w.alloc (.cells #[.int .i64 k, .int .i64 a, .int .i64 b, .string ⟨t.toArray⟩, .bool q] 117)).cell? ⟨p, 0, none⟩ = some (.int .i64 no) := (h.str.below (below_alloc w _)).cell 0
  have BA := below_alloc w (.cells #[.int .i64 k, .int .i64 no, .int .i64 b, .string ⟨t.toArray⟩, .bool q] 117)
  have HL2 := Lib.hid (h.below BA)
  have HSP2 := Lib.hid (Str.new w 117 #[.int .i64 k, .int .i64 no, .int .i64 b, .string ⟨t.toArray⟩, .bool q])
  have HB2 := Lib.hid (BA.mono h.size)
  have offn : v.ownBlock = none ∨ v.ownBlock ≠ some w.heap.size := by
    cases hg : v.ownBlock with
    | none => exact .inl rfl
    | some g =>
      right
      intro e
      have := (h.own.ownBlock hg).2.2
      have := Option.some.inj e
      omega
  have hne : p ≠ w.heap.size := Nat.ne_of_lt h.str.lt
  have hsz := h.size
  clear BA h HB hN hM
  go_enter Tryz.func125, Tryz.ntmps125
  go_wp2
  generalize hW1 : w.alloc (.cells #[.int .i64 k, .int .i64 no, .int .i64 b, .string ⟨t.toArray⟩, .bool q] 117) = w1 at *
  generalize w.heap.size = P at *
  clear c0 hW1
  have c1 : w1.cell? ⟨p, 1, none⟩ = some (.int .i64 ind) := HL2.out.str.cell 1
  have c2 : w1.cell? ⟨p, 2, none⟩ = some (.string ⟨tx.toArray⟩) := HL2.out.str.cell 2
  have c3 : w1.cell? ⟨p, 3, none⟩ = some (.string ⟨rest.toArray⟩) := HL2.out.str.cell 3
  have q2 : w1.cell? ⟨P, 2, none⟩ = some (.int .i64 b) := HSP2.out.cell 2
  have g2 := HSP2.out.frozen 2
  have kb2 := (Kb.set w1 P 2 (.int .i64 C) none).trans (Kb.of_below (below_drew _) (some P) none)
  have HL3 : Hid (Lxr (w1.setCell ⟨P, 2, none⟩ (.int .i64 C)).drew B p no ind tx rest v acc) := ⟨HL2.out.ge, HL2.out.str.kb kb2 (by simpa using hne) (by simp), HL2.out.own.kb kb2 offn no_or⟩
  have HSP3 : Hid (Str (w1.setCell ⟨P, 2, none⟩ (.int .i64 C)).drew P 117 (pc (k, no, C, t, q))) := by
    have := (HSP2.out.set 2 (.int .i64 C)).below (below_drew _)
    simp only [List.setIfInBounds_toArray, List.set_cons_zero, List.set_cons_succ] at this
    exact this
  have HB3 : Hid (Below B w (w1.setCell ⟨P, 2, none⟩ (.int .i64 C)).drew) := (HB2.out.setCell (p := ⟨P, 2, none⟩) hsz _).trans ((below_drew _).mono (Nat.le_trans (HL2.out.size) (Kb.set w1 P 2 (.int .i64 C) none).size))
  clear kb2
  go_region
  generalize (w1.setCell ⟨P, 2, none⟩ (.int .i64 C)).drew = w2 at *
  clear c1 c2 c3 q2 g2 HL2 HSP2 HB2
  obtain ⟨ao, cp, rfl⟩ := HL3.out.own.slice
  obtain ⟨a0, a1, a2, a3, a4⟩ := HSP3.out.at5
  have d4 : w2.cell? ⟨p, 4, none⟩ = some (.slice ao acc.length cp) := HL3.out.str.cell 4
  have BB5 := below_trans (below_alloc w2 (.cells (pc (k, no, C, t, q)) 117)) (below_drew _)
  have HL5 := Lib.hid (HL3.out.below BB5)
  have HA5 := Lib.hid (((Str.new w2 117 (pc (k, no, C, t, q))).below (below_drew _)).at5)
  have HB5 := Lib.hid (HB3.out.trans (BB5.mono HL3.out.size))
  have e4 : (w2.alloc (.cells (pc (k, no, C, t, q)) 117)).cell? ⟨p, 4, none⟩ = some (.slice ao acc.length cp) := HL5.out.str.cell 4
  clear BB5
  unfold pc at HL5 HA5 HB5 e4
  simp only at a0 a1 a2 a3 a4 HL5 HA5 HB5 e4
  go_wp2
  go_region_law (refine step_append_piece (l := (k, no, C, t, q)) (by rfl) (.tmp 33) (.tmp 35) (by rfl) B (by rfl) HL5.out.own (by rfl) HA5.out h4 HL5.out.size ?_; intro g cap4 w4 ho4 hg4; obtain ⟨s4, hd4⟩ := HL5.out.grown hg4 ho4; have HD4 := Lib.hid hd4; have k0 := s4.cell 4; have j0 := s4.frozen 4; simp only [List.getElem?_toArray, List.getElem?_cons_zero, List.getElem?_cons_succ] at k0; clear ho4 hg4 s4 hd4)
  all_goals
    go_wp2
    go_end0
    exact ⟨rfl, ⟨_, HD4.out.1⟩, HB5.out.trans HD4.out.2⟩
end Go.Proofs.YtgfhabofhefaaaaGreatDoor
namespace Go.Proofs.YtgfhabofhefaaaaGreatDoor
open Go.RowKit
theorem MaxIs.bel {w w' : World} {B : Nat} (h : MaxIs w) (hB : 1 < B) (hb : Below B w w') : MaxIs w' := by
  obtain ⟨m, hm⟩ := h
  exact ⟨m, (hb.cell hB).trans hm⟩
structure TS (w wr : World) (B p P : Nat) (no ind : Int) (tx rest : List UInt8) (v : Value) (acc : List LX.Pc) (x : List UInt8) (q : Bool) : Prop where
  bl : Below B w wr
  lx : Lxr wr B p no ind tx rest v acc
  pc : Str wr P 117 #[.int .i64 3, .int .i64 0, .int .i64 0, .string ⟨x.toArray⟩, .bool q]
  ge : B ≤ P
  off : v.ownBlock = none ∨ v.ownBlock ≠ some P
  ne : p ≠ P
  mx : MaxIs wr
theorem TS.calm {w wr w' : World} {B p P : Nat} {no ind : Int} {tx rest : List UInt8} {v : Value} {acc : List LX.Pc} {x : List UInt8} {q : Bool} (h : TS w wr B p P no ind tx rest v acc x q) (hb : Below wr.heap.size wr w') : TS w w' B p P no ind tx rest v acc x q :=
  ⟨h.bl.trans (hb.mono h.lx.size), h.lx.below hb, h.pc.below hb, h.ge, h.off, h.ne, h.mx.below hb⟩
theorem TS.set3 {w wr : World} {B p P : Nat} {no ind : Int} {tx rest : List UInt8} {v : Value} {acc : List LX.Pc} {x : List UInt8} {q : Bool} (h : TS w wr B p P no ind tx rest v acc x q) (hB : 1 < B) (y : List UInt8) : TS w (wr.setCell ⟨P, 3, none⟩ (.string ⟨y.toArray⟩)) B p P no ind tx rest v acc y q := by
  have kb := Kb.set wr P 3 (.string ⟨y.toArray⟩) none
  have hb : Below B wr (wr.setCell ⟨P, 3, none⟩ (.string ⟨y.toArray⟩)) := (Below.refl B wr).setCell (p := ⟨P, 3, none⟩) h.ge _
  exact ⟨h.bl.trans hb, ⟨h.lx.ge, h.lx.str.kb kb (by simpa using h.ne) (by simp), h.lx.own.kb kb h.off no_or⟩, by simpa using h.pc.set 3 (.string ⟨y.toArray⟩), h.ge, h.off, h.ne, h.mx.bel hB hb⟩
theorem TS.set4 {w wr : World} {B p P : Nat} {no ind : Int} {tx rest : List UInt8} {v : Value} {acc : List LX.Pc} {x : List UInt8} {q : Bool} (h : TS w wr B p P no ind tx rest v acc x q) (hB : 1 < B) (y : Bool) : TS w (wr.setCell ⟨P, 4, none⟩ (.bool y)) B p P no ind tx rest v acc x y := by
  have kb := Kb.set wr P 4 (.bool y) none
  have hb : Below B wr (wr.setCell ⟨P, 4, none⟩ (.bool y)) := (Below.refl B wr).setCell (p := ⟨P, 4, none⟩) h.ge _
  exact ⟨h.bl.trans hb, ⟨h.lx.ge, h.lx.str.kb kb (by simpa using h.ne) (by simp), h.lx.own.kb kb h.off no_or⟩, by simpa using h.pc.set 4 (.bool y), h.ge, h.off, h.ne, h.mx.bel hB hb⟩
theorem TS.start {w : World} {B p : Nat} {no ind : Int} {tx rest : List UInt8} {v : Value} {acc : List LX.Pc} (h : Lxr w B p no ind tx rest v acc) (hm : MaxIs w) :
    TS w (w.alloc (.cells #[.int .i64 3, .int .i64 0, .int .i64 0, .string ⟨#[]⟩, .bool true] 117)) B p w.heap.size no ind tx rest v acc [] true := by
  have BA := below_alloc w (.cells #[.int .i64 3, .int .i64 0, .int .i64 0, .string ⟨#[]⟩, .bool true] 117)
  refine ⟨BA.mono h.size, h.below BA, Str.new w _ _, h.size, ?_, Nat.ne_of_lt h.str.lt, hm.below BA⟩
  cases hg : v.ownBlock with
  | none => exact .inl rfl
  | some g =>
    right
    intro e
    have := (h.own.ownBlock hg).2.2
    have := Option.some.inj e
    omega
def TxE (w : World) (B p : Nat) (no ind : Int) (tx rest : List UInt8) (acc : List LX.Pc) (o : LX.T) (e : Ending) (w' : World) : Prop :=
  Below B w w' ∧ ((o.1 = 0 ∧ e = .returned (.tuple #[]) ∧ ∃ v', Lxr w' B p no ind tx rest v' (acc ++ [(3, no, ind + tx.length - rest.length, o.2.1, o.2.2)])) ∨ (o.1 ≠ 0 ∧ e = .panicked (gave o.1)))
theorem txe_no {w w' : World} {B p : Nat} {no ind : Int} {tx rest : List UInt8} {acc : List LX.Pc} {o : LX.T} {k : Int} (h : o = (k, [], false)) (hk : k ≠ 0) (hb : Below B w w') : TxE w B p no ind tx rest acc o (.panicked (gave k)) w' := by
  subst h
  exact ⟨hb, .inr ⟨hk, rfl⟩⟩
theorem txe_yes {w w' : World} {B p : Nat} {no ind : Int} {tx rest : List UInt8} {acc : List LX.Pc} {o : LX.T} {x : List UInt8} {q : Bool} {v' : Value} (h : o = (0, x, q)) (hl : Lxr w' B p no ind tx rest v' (acc ++ [(3, no, ind + tx.length - rest.length, x, q)])) (hb : Below B w w') : TxE w B p no ind tx rest acc o (.returned (.tuple #[])) w' := by
  subst h
  exact ⟨hb, .inl ⟨rfl, rfl, v', hl⟩⟩
theorem txt_1 {t : List UInt8} : LX.txt (39 :: t) = match LX.sq t with | none => (3, [], false) | some x => LX.lng x true := by cases h : LX.sq t <;> simp [LX.txt, h]
theorem txt_2 {t : List UInt8} : LX.txt (34 :: t) = match LX.dq t with | none => (3, [], false) | some x => LX.lng x true := by cases h : LX.dq t <;> simp [LX.txt, h]
theorem txt_3 {c : UInt8} {t : List UInt8} (h1 : c ≠ 39) (h2 : c ≠ 34) : LX.txt (c :: t) = if okPlain (c :: t) then LX.lng (c :: t) false else (4, [], false) := by
  have ok : okPlain (c :: t) = !(LX.odd c || LX.dash (c :: t) || decide (0 < LX.key (c :: t))) := rfl
  simp only [LX.txt, if_neg h1, if_neg h2]
  by_cases hb : (LX.odd c || LX.dash (c :: t) || decide (0 < LX.key (c :: t))) = true
  · rw [if_pos hb, if_neg (by rw [ok, hb]; simp)]
  · rw [if_neg hb, if_pos (by rw [ok, Bool.eq_false_iff.2 hb]; rfl)]
theorem lng_yes {x : List UInt8} {q : Bool} (h : x.length ≤ 200) : LX.lng x q = (0, x, q) := by unfold LX.lng; rw [if_neg (by omega)]
theorem lng_no {x : List UInt8} {q : Bool} (h : ¬ x.length ≤ 200) : LX.lng x q = (4, [], false) := by unfold LX.lng; rw [if_pos (by omega)]
set_option maxHeartbeats 16000000 in
theorem text_any {w : World} {B p : Nat} {no ind : Int} {tx rest : List UInt8} {v : Value} {acc : List LX.Pc} (h : Lxr w B p no ind tx rest v acc) (hm : MaxIs w) (hB : 1 < B) (h0 : 0 ≤ ind) (h1 : ind ≤ 16384) (h2 : tx.length ≤ 17000) (h3 : rest.length ≤ tx.length) (h4 : acc.length ≤ 20000) (hne : rest ≠ []) :
    Calls Tryz.prog 127 #[.pointer (some ⟨p, 0, none⟩)] w (TxE w B p no ind tx rest acc (LX.txt rest)) := by
  cases rest with
  | nil => exact absurd rfl hne
  | cons c t =>
  have HS0 := Lib.hid (TS.start h hm)
  have c3 : (w.alloc (.cells #[.int .i64 3, .int .i64 0, .int .i64 0, .string ⟨#[]⟩, .bool true] 117)).cell? ⟨p, 3, none⟩ = some (.string ⟨(c :: t).toArray⟩) := HS0.out.lx.str.cell 3
  have hsz := str_size (c :: t)
  obtain ⟨z, hz⟩ : ∃ z : Int, (c.toNat : Int) = z := ⟨_, rfl⟩
  have hp : 0 < (⟨(c :: t).toArray⟩ : ByteArray).size := by rw [hsz]; simp
  have hi := first_z (u := t) hz hp
  have hub := c.toNat_lt
  have hz0 : 0 ≤ z := by omega
  have hz1 : z < 256 := by omega
  have HZ := Lib.hid hz
  obtain ⟨n, hn⟩ : ∃ n, (c :: t).length = n := ⟨_, rfl⟩
  have x1 := lcut_back hn 1
  have HN := Lib.hid hn
  rw [hn] at hsz h3
  have h1n : (1 : Int) ≤ (n : Int) := by have : 1 ≤ n := by rw [← hn]; simp
                                         omega
  simp only [List.drop_succ_cons, List.drop_zero] at x1
  have HT := Lib.hid (fun x => lmust_true 4 x)
  have HF := Lib.hid (fun x => lmust_false 4 x)
  have htl : t.length ≤ 20000 := by have : t.length + 1 = n := by rw [← hn]; simp
                                    omega
  have HBND := Lib.hid (And.intro h2 h3)
  obtain ⟨P, hP⟩ : ∃ P, w.heap.size = P := ⟨_, rfl⟩
  rw [hP] at HS0
  have HMB := Lib.hid hB
  have HIN := Lib.hid (And.intro h0 (And.intro h1 h4))
  clear hz hub hn h hm hne h0 h1 h4
  by_cases h39 : c = 39
  · skip
    subst h39
    obtain rfl : z = 39 := HZ.out.symm
    have HQ := Lib.hid (single_any t _ htl HS0.out.mx)
    cases hq : LX.sq t with
    | none =>
      have E := Lib.hid (show LX.txt (39 :: t) = (3, [], false) by rw [txt_1, hq])
      rw [hq] at HQ
      clear hq
      go_enter Tryz.func127, Tryz.ntmps127
      go_wp2_with fail
      refine HQ.out.mono ?_
      rintro e w1 ⟨rfl, b1⟩
      exact ⟨rfl, txe_no E.out (by decide) (HS0.out.calm b1).bl⟩
    | some x =>
      have EL := Lib.hid (show LX.txt (39 :: t) = LX.lng x true by rw [txt_1, hq])
      rw [hq] at HQ
      unfold StrE at HQ
      simp only at HQ
      clear hq
      go_enter Tryz.func127, Tryz.ntmps127
      go_wp2_with fail
      refine HQ.out.mono ?_
      rintro e w1 ⟨rfl, b1⟩
      have HS1 := Lib.hid (HS0.out.calm b1)
      clear b1 HQ c3 x1 HS0
      have HS2 := Lib.hid (HS1.out.set3 HMB.out x)
      have HS3 := HS2
      have k3 : w1.cell? ⟨P, 3, none⟩ = some (.string ⟨#[]⟩) := HS1.out.pc.cell 3
      have k3f := HS1.out.pc.frozen 3
      have xsz := str_size x
      obtain ⟨m, hm⟩ : ∃ m, x.length = m := ⟨_, rfl⟩
      have HX := Lib.hid hm
      rw [hm] at xsz
      have m0 : (w1.setCell ⟨P, 3, none⟩ (.string ⟨x.toArray⟩)).cell? ⟨P, 0, none⟩ = some (.int .i64 3) := HS3.out.pc.cell 0
      have m1 : (w1.setCell ⟨P, 3, none⟩ (.string ⟨x.toArray⟩)).cell? ⟨P, 1, none⟩ = some (.int .i64 0) := HS3.out.pc.cell 1
      have m2 : (w1.setCell ⟨P, 3, none⟩ (.string ⟨x.toArray⟩)).cell? ⟨P, 2, none⟩ = some (.int .i64 0) := HS3.out.pc.cell 2
      have m3 : (w1.setCell ⟨P, 3, none⟩ (.string ⟨x.toArray⟩)).cell? ⟨P, 3, none⟩ = some (.string ⟨x.toArray⟩) := HS3.out.pc.cell 3
      have m4 : (w1.setCell ⟨P, 3, none⟩ (.string ⟨x.toArray⟩)).cell? ⟨P, 4, none⟩ = some (.bool true) := HS3.out.pc.cell 4
      clear hm HS1
      by_cases h200 : m ≤ 200
      · have g200 : (m : Int) ≤ 200 := by omega
        have EO := Lib.hid (EL.out.trans (lng_yes (by rw [HX.out]; exact h200)))
        have HPUT := Lib.hid (put_any HS3.out.lx 3 0 0 x true HIN.out.1 HIN.out.2.1 (by have := HBND.out.1; omega) (by rw [HN.out]; exact HBND.out.2) HIN.out.2.2)
        go_wp2_with fail
        refine (HT.out _).mono ?_
        rintro e w2 ⟨rfl, hw2⟩
        replace hw2 := hw2.symm
        subst hw2
        go_wp2_with fail
        refine HPUT.out.mono ?_
        rintro e w3 ⟨rfl, ⟨v3, hl3⟩, b3⟩
        have HL3 := Lib.hid hl3
        have HB3 := Lib.hid (HS3.out.bl.trans b3)
        clear hl3 b3 HPUT
        go_wp2
        go_end0
        exact txe_yes EO.out HL3.out HB3.out
      · have g200 : ¬ (m : Int) ≤ 200 := by omega
        have g201 : decide ((m : Int) ≤ 200) = false := decide_eq_false g200
        have EO := Lib.hid (EL.out.trans (lng_no (by rw [HX.out]; exact h200)))
        go_wp2_with fail
        refine (HF.out _).mono ?_
        rintro e w2 ⟨rfl, rfl⟩
        exact ⟨rfl, txe_no EO.out (by decide) HS3.out.bl⟩
  by_cases h34 : c = 34
  · skip
    subst h34
    obtain rfl : z = 34 := HZ.out.symm
    have HQ := Lib.hid (double_any t _ htl HS0.out.mx)
    cases hq : LX.dq t with
    | none =>
      have E := Lib.hid (show LX.txt (34 :: t) = (3, [], false) by rw [txt_2, hq])
      rw [hq] at HQ
      clear hq
      go_enter Tryz.func127, Tryz.ntmps127
      go_wp2_with fail
      refine HQ.out.mono ?_
      rintro e w1 ⟨rfl, b1⟩
      exact ⟨rfl, txe_no E.out (by decide) (HS0.out.calm b1).bl⟩
    | some x =>
      have EL := Lib.hid (show LX.txt (34 :: t) = LX.lng x true by rw [txt_2, hq])
      rw [hq] at HQ
      unfold StrE at HQ
      simp only at HQ
      clear hq
      go_enter Tryz.func127, Tryz.ntmps127
      go_wp2_with fail
      refine HQ.out.mono ?_
      rintro e w1 ⟨rfl, b1⟩
      have HS1 := Lib.hid (HS0.out.calm b1)
      clear b1 HQ c3 x1 HS0
      have HS2 := Lib.hid (HS1.out.set3 HMB.out x)
      have HS3 := HS2
      have k3 : w1.cell? ⟨P, 3, none⟩ = some (.string ⟨#[]⟩) := HS1.out.pc.cell 3
      have k3f := HS1.out.pc.frozen 3
      have xsz := str_size x
      obtain ⟨m, hm⟩ : ∃ m, x.length = m := ⟨_, rfl⟩
      have HX := Lib.hid hm
      rw [hm] at xsz
      have m0 : (w1.setCell ⟨P, 3, none⟩ (.string ⟨x.toArray⟩)).cell? ⟨P, 0, none⟩ = some (.int .i64 3) := HS3.out.pc.cell 0
      have m1 : (w1.setCell ⟨P, 3, none⟩ (.string ⟨x.toArray⟩)).cell? ⟨P, 1, none⟩ = some (.int .i64 0) := HS3.out.pc.cell 1
      have m2 : (w1.setCell ⟨P, 3, none⟩ (.string ⟨x.toArray⟩)).cell? ⟨P, 2, none⟩ = some (.int .i64 0) := HS3.out.pc.cell 2
      have m3 : (w1.setCell ⟨P, 3, none⟩ (.string ⟨x.toArray⟩)).cell? ⟨P, 3, none⟩ = some (.string ⟨x.toArray⟩) := HS3.out.pc.cell 3
      have m4 : (w1.setCell ⟨P, 3, none⟩ (.string ⟨x.toArray⟩)).cell? ⟨P, 4, none⟩ = some (.bool true) := HS3.out.pc.cell 4
      clear hm HS1
      by_cases h200 : m ≤ 200
      · have g200 : (m : Int) ≤ 200 := by omega
        have EO := Lib.hid (EL.out.trans (lng_yes (by rw [HX.out]; exact h200)))
        have HPUT := Lib.hid (put_any HS3.out.lx 3 0 0 x true HIN.out.1 HIN.out.2.1 (by have := HBND.out.1; omega) (by rw [HN.out]; exact HBND.out.2) HIN.out.2.2)
        go_wp2_with fail
        refine (HT.out _).mono ?_
        rintro e w2 ⟨rfl, hw2⟩
        replace hw2 := hw2.symm
        subst hw2
        go_wp2_with fail
        refine HPUT.out.mono ?_
        rintro e w3 ⟨rfl, ⟨v3, hl3⟩, b3⟩
        have HL3 := Lib.hid hl3
        have HB3 := Lib.hid (HS3.out.bl.trans b3)
        clear hl3 b3 HPUT
        go_wp2
        go_end0
        exact txe_yes EO.out HL3.out HB3.out
      · have g200 : ¬ (m : Int) ≤ 200 := by omega
        have g201 : decide ((m : Int) ≤ 200) = false := decide_eq_false g200
        have EO := Lib.hid (EL.out.trans (lng_no (by rw [HX.out]; exact h200)))
        go_wp2_with fail
        refine (HF.out _).mono ?_
        rintro e w2 ⟨rfl, rfl⟩
        exact ⟨rfl, txe_no EO.out (by decide) HS3.out.bl⟩
  have q39 : (z == 39) = false := zne HZ.out 39 (by decide) h39
  have q34 : (z == 34) = false := zne HZ.out 34 (by decide) h34
  have q39' : ¬ z = 39 := beq_eq_false_iff_ne.1 q39
  have q34' : ¬ z = 34 := beq_eq_false_iff_ne.1 q34
  have HQ := Lib.hid (fun y => plain_any c t y (by rw [HN.out]; have := HBND.out; omega))
  cases hq : okPlain (c :: t) with
  | false =>
    have E := Lib.hid (show LX.txt (c :: t) = (4, [], false) by rw [txt_3 h39 h34, hq]; rfl)
    unfold PlE at HQ
    rw [hq] at HQ
    simp only [Bool.false_eq_true, if_false] at HQ
    clear hq
    go_enter Tryz.func127, Tryz.ntmps127
    go_wp2_with fail
    refine (HQ.out _).mono ?_
    rintro e w1 ⟨rfl, rfl⟩
    exact ⟨rfl, txe_no E.out (by decide) HS0.out.bl⟩
  | true =>
    have EL := Lib.hid (show LX.txt (c :: t) = LX.lng (c :: t) false by rw [txt_3 h39 h34, hq]; rfl)
    unfold PlE at HQ
    rw [hq] at HQ
    simp only [if_true] at HQ
    clear hq
    go_enter Tryz.func127, Tryz.ntmps127
    go_wp2_with fail
    refine (HQ.out _).mono ?_
    rintro e w1 ⟨rfl, rfl⟩
    generalize w.alloc (.cells #[.int .i64 3, .int .i64 0, .int .i64 0, .string ⟨#[]⟩, .bool true] 117) = w1 at *
    have HS1 := HS0
    clear c3 x1 HQ HS0 hi hp
    have HS2 := Lib.hid (HS1.out.set3 HMB.out (c :: t))
    have HS3 := Lib.hid (HS2.out.set4 HMB.out false)
    have k3 : w1.cell? ⟨P, 3, none⟩ = some (.string ⟨#[]⟩) := HS1.out.pc.cell 3
    have k3f := HS1.out.pc.frozen 3
    have k4 : (w1.setCell ⟨P, 3, none⟩ (.string ⟨(c :: t).toArray⟩)).cell? ⟨P, 4, none⟩ = some (.bool true) := HS2.out.pc.cell 4
    have k4f := HS2.out.pc.frozen 4
    have HX := HN
    have m0 : ((w1.setCell ⟨P, 3, none⟩ (.string ⟨(c :: t).toArray⟩)).setCell ⟨P, 4, none⟩ (.bool false)).cell? ⟨P, 0, none⟩ = some (.int .i64 3) := HS3.out.pc.cell 0
    have m1 : ((w1.setCell ⟨P, 3, none⟩ (.string ⟨(c :: t).toArray⟩)).setCell ⟨P, 4, none⟩ (.bool false)).cell? ⟨P, 1, none⟩ = some (.int .i64 0) := HS3.out.pc.cell 1
    have m2 : ((w1.setCell ⟨P, 3, none⟩ (.string ⟨(c :: t).toArray⟩)).setCell ⟨P, 4, none⟩ (.bool false)).cell? ⟨P, 2, none⟩ = some (.int .i64 0) := HS3.out.pc.cell 2
    have m3 : ((w1.setCell ⟨P, 3, none⟩ (.string ⟨(c :: t).toArray⟩)).setCell ⟨P, 4, none⟩ (.bool false)).cell? ⟨P, 3, none⟩ = some (.string ⟨(c :: t).toArray⟩) := HS3.out.pc.cell 3
    have m4 : ((w1.setCell ⟨P, 3, none⟩ (.string ⟨(c :: t).toArray⟩)).setCell ⟨P, 4, none⟩ (.bool false)).cell? ⟨P, 4, none⟩ = some (.bool false) := HS3.out.pc.cell 4
    clear HS1
    by_cases h200 : n ≤ 200
    · have g200 : (n : Int) ≤ 200 := by omega
      have EO := Lib.hid (EL.out.trans (lng_yes (by rw [HX.out]; exact h200)))
      have HPUT := Lib.hid (put_any HS3.out.lx 3 0 0 (c :: t) false HIN.out.1 HIN.out.2.1 (by have := HBND.out.1; omega) (by rw [HN.out]; exact HBND.out.2) HIN.out.2.2)
      go_wp2_with fail
      refine (HT.out _).mono ?_
      rintro e w2 ⟨rfl, hw2⟩
      replace hw2 := hw2.symm
      subst hw2
      go_wp2_with fail
      refine HPUT.out.mono ?_
      rintro e w3 ⟨rfl, ⟨v3, hl3⟩, b3⟩
      have HL3 := Lib.hid hl3
      have HB3 := Lib.hid (HS3.out.bl.trans b3)
      clear hl3 b3 HPUT
      go_wp2
      go_end0
      exact txe_yes EO.out HL3.out HB3.out
    · have g200 : ¬ (n : Int) ≤ 200 := by omega
      have g201 : decide ((n : Int) ≤ 200) = false := decide_eq_false g200
      have EO := Lib.hid (EL.out.trans (lng_no (by rw [HX.out]; exact h200)))
      go_wp2_with fail
      refine (HF.out _).mono ?_
      rintro e w2 ⟨rfl, rfl⟩
      exact ⟨rfl, txe_no EO.out (by decide) HS3.out.bl⟩
end Go.Proofs.YtgfhabofhefaaaaGreatDoor
