/- A part of the proof. -/
import Derived.Test.YtgfhabofhefaaaaGreatDoorSA47
import Derived.Recover
import Derived.Test.YtgfhabofhefaaaaGreatDoorSA01
import Derived.Test.YtgfhabofhefaaaaGreatDoorSA05
import Derived.Test.YtgfhabofhefaaaaGreatDoorSA06
import Derived.Test.YtgfhabofhefaaaaGreatDoorSA09
import Derived.Deep.AppendLies
import Derived.Lib.SlSplitV
import Derived.Test.YtgfhabofhefaaaaGreatDoorSA18
import Derived.Test.YtgfhabofhefaaaaGreatDoorSA17
import Derived.Test.YtgfhabofhefaaaaGreatDoorSA16
import Derived.Test.YtgfhabofhefaaaaGreatDoorSA03
import Derived.Test.YtgfhabofhefaaaaGreatDoorSA46
namespace Go.Proofs.YtgfhabofhefaaaaGreatDoor
open Go.RowKit
end Go.Proofs.YtgfhabofhefaaaaGreatDoor
namespace Go.Proofs.YtgfhabofhefaaaaGreatDoor
open Go.RowKit
def OfE (w : World) (l : List LX.Pc) (e : Ending) (w' : World) : Prop :=
  Below w.heap.size w w' ∧ ∃ v S, e = .returned (.tuple #[.agg #[v], .agg #[.int .i64 (DC.fault l).1, .int .i64 (DC.fault l).2]]) ∧ Nds w' w.heap.size S v (DC.nodes l)
theorem doc_size : (Tryz.prog.info? 26).map (·.size) = some 1 := by kernel_rfl
structure DoD (w wr : World) (x y z : Value) : Prop where
  bl : Below w.heap.size w wr
  b : Str wr w.heap.size 26 #[x]
  c : Str wr (w.heap.size + 1) 39 #[y, z]
theorem DoD.far {w wr w' : World} {x y z : Value} {q : Option Nat} (h : DoD w wr x y z) (hk : Kb wr w' (some (w.heap.size + 2)) q) (hq : ∀ g, q = some g → w.heap.size + 2 ≤ g) : DoD w w' x y z := by
  refine ⟨h.bl.trans (hk.below h.bl.size (fun g hg => by have := Option.some.inj hg; omega) (fun g hg => by have := hq g hg; omega)), h.b.kb hk (by simp) (fun e => ?_), h.c.kb hk (by simp) (fun e => ?_)⟩
  · have := hq _ e.symm; omega
  · have := hq _ e.symm; omega
theorem DoD.laid {w wr : World} {x y z : Value} (h : DoD w wr x y z) (v f g : Value) :
    DoD w (((wr.setCell ⟨w.heap.size, 0, none⟩ v).setCell ⟨w.heap.size + 1, 0, none⟩ f).setCell ⟨w.heap.size + 1, 1, none⟩ g) v f g ∧ Kb wr (((wr.setCell ⟨w.heap.size, 0, none⟩ v).setCell ⟨w.heap.size + 1, 0, none⟩ f).setCell ⟨w.heap.size + 1, 1, none⟩ g) (some w.heap.size) (some (w.heap.size + 1)) := by
  have kb := Kb.set wr w.heap.size 0 v none
  have kc := (Kb.set (wr.setCell ⟨w.heap.size, 0, none⟩ v) (w.heap.size + 1) 0 f none).trans (Kb.set _ (w.heap.size + 1) 1 g none)
  have sb : Str (wr.setCell ⟨w.heap.size, 0, none⟩ v) w.heap.size 26 #[v] := by simpa using h.b.set 0 v
  have sc : Str (wr.setCell ⟨w.heap.size, 0, none⟩ v) (w.heap.size + 1) 39 #[y, z] := h.c.kb kb (by simp) (by simp)
  have kk : Kb wr _ (some w.heap.size) (some (w.heap.size + 1)) := (Kb.set wr w.heap.size 0 v (some (w.heap.size + 1))).trans ⟨kc.os, kc.tape, kc.output, kc.size, fun j hj h1 h2 => kc.block j hj h2 (by simp)⟩
  exact ⟨⟨h.bl.trans (kk.below h.bl.size (fun g hg => by have := Option.some.inj hg; omega) (fun g hg => by have := Option.some.inj hg; omega)), sb.kb kc (by simp) (by simp), sc.two' f g⟩, kk⟩
end Go.Proofs.YtgfhabofhefaaaaGreatDoor
namespace Go.Proofs.YtgfhabofhefaaaaGreatDoor
open Go.RowKit
def lc (x : LN.Ln) : Array Value := #[.int .i64 (x.1 : Int), .int .i64 (x.2.1 : Int), .string ⟨x.2.2.toArray⟩]
def lv1 (x : LN.Ln) : List Value := [.int .i64 (x.1 : Int), .int .i64 (x.2.1 : Int), .string ⟨x.2.2.toArray⟩]
def lv (ls : List LN.Ln) : List Value := ls.flatMap lv1
theorem lv_app (a b : List LN.Ln) : lv (a ++ b) = lv a ++ lv b := by simp [lv]
theorem lv_at : ∀ {ls : List LN.Ln} {j : Nat} {x : LN.Ln}, ls[j]? = some x → (lv ls)[j * 3]? = some (.int .i64 (x.1 : Int)) ∧ (lv ls)[j * 3 + 1]? = some (.int .i64 (x.2.1 : Int)) ∧ (lv ls)[j * 3 + 2]? = some (.string ⟨x.2.2.toArray⟩)
  | [], _, _, h => by simp at h
  | x :: ls, 0, s, h => by
    have : x = s := by simpa using h
    subst this
    exact ⟨rfl, rfl, rfl⟩
  | x :: ls, j + 1, s, h => by
    have h' : ls[j]? = some s := by simpa using h
    have hh := lv_at h'
    have e1 : ∀ i, (lv (x :: ls))[(j + 1) * 3 + i]? = (lv ls)[j * 3 + i]? := by
      intro i
      have e0 : lv (x :: ls) = lv1 x ++ lv ls := rfl
      rw [e0, List.getElem?_append_right (by simp [lv1]; omega)]
      congr 1
      simp [lv1]; omega
    have e2 := e1 0
    simp only [Nat.add_zero] at e2
    rw [e2, e1, e1]
    exact hh
theorem lv_one {ls : List LN.Ln} : ∀ u ∈ lv ls, u.oneCell' = true := by
  intro u hu
  obtain ⟨s, _, h⟩ := List.mem_flatMap.1 hu
  simp [lv1] at h
  rcases h with rfl | rfl | rfl <;> rfl
structure At3 (w : World) (b o : Nat) (x : LN.Ln) : Prop where
  c0 : w.cell? ⟨b, o, none⟩ = some (.int .i64 (x.1 : Int))
  c1 : w.cell? ⟨b, o + 1, none⟩ = some (.int .i64 (x.2.1 : Int))
  c2 : w.cell? ⟨b, o + 2, none⟩ = some (.string ⟨x.2.2.toArray⟩)
theorem At3.below {w w' : World} {b o : Nat} {x : LN.Ln} (h : At3 w b o x) (hb : Below w.heap.size w w') : At3 w' b o x :=
  ⟨(hb.cell (cell_lt h.c0)).trans h.c0, (hb.cell (cell_lt h.c1)).trans h.c1, (hb.cell (cell_lt h.c2)).trans h.c2⟩
def Rdn (w : World) (v : Value) (ls : List LN.Ln) : Prop :=
  ∃ ao cap, v = .slice ao ls.length cap ∧ ls.length ≤ cap ∧ cap ≤ maxLen ∧ (ao = none → cap = 0) ∧ ∀ j x, ls[j]? = some x → ∃ b off, ao = some ⟨b, off, none⟩ ∧ At3 w b (off + j * 3) x
theorem Rdn.below {w w' : World} {v : Value} {ls : List LN.Ln} (h : Rdn w v ls) (hb : Below w.heap.size w w') : Rdn w' v ls := by
  obtain ⟨ao, cap, hv, h1, h2, h3, h4⟩ := h
  refine ⟨ao, cap, hv, h1, h2, h3, fun j s hs => ?_⟩
  obtain ⟨b, off, hx, c⟩ := h4 j s hs
  exact ⟨b, off, hx, c.below hb⟩
theorem Rdn.nil (w : World) : Rdn w (.slice none 0 0) [] := ⟨none, 0, rfl, by simp, by simp [maxLen], fun _ => rfl, by simp⟩
def Ownn (w : World) (base : Nat) (v : Value) (ls : List LN.Ln) : Prop := w.ownsRow base 105 3 v ls.length (lv ls)
theorem Ownn.nil (w : World) (base : Nat) : Ownn w base (.slice none 0 0) [] := World.ownsRow_nil w base _ 3
theorem Ownn.below {w w' : World} {base : Nat} {v : Value} {ls : List LN.Ln} (h : Ownn w base v ls) (hb : Below w.heap.size w w') : Ownn w' base v ls := by
  refine ⟨h.1, ?_⟩
  rcases h.2 with hn | ⟨g, cap, cur, hv, hbg, hg, rest⟩
  · exact .inl hn
  · exact .inr ⟨g, cap, cur, hv, hbg, (hb.block g (Array.getElem?_eq_some_iff.1 hg).1).trans hg, rest⟩
theorem Ownn.rd {w : World} {base : Nat} {v : Value} {ls : List LN.Ln} (h : Ownn w base v ls) : Rdn w v ls := by
  rcases h.2 with ⟨hv, hn⟩ | ⟨g, cap, cur, hv, hb, hg, hnc, hcm, hcs, ht⟩
  · obtain rfl : ls = [] := List.length_eq_zero_iff.1 hn
    rw [hv]; exact Rdn.nil w
  · refine ⟨some ⟨g, 0, none⟩, cap, hv, hnc, hcm, (by intro h; cases h), fun j s hs => ⟨g, 0, rfl, ?_⟩⟩
    obtain ⟨k0, k1, k2⟩ := lv_at hs
    have q0 := World.ownsRow.cells h (by rw [hv]; rfl) _ _ k0
    have q1 := World.ownsRow.cells h (by rw [hv]; rfl) _ _ k1
    have q2 := World.ownsRow.cells h (by rw [hv]; rfl) _ _ k2
    rw [Addr.add_lit] at q0 q1 q2
    simp only [Nat.zero_add] at q0 q1 q2 ⊢
    exact ⟨q0, q1, q2⟩
theorem Ownn.slice {w : World} {base : Nat} {v : Value} {ls : List LN.Ln} (h : Ownn w base v ls) : ∃ ao cap, v = .slice ao ls.length cap := by
  rcases h.2 with ⟨hv, hn⟩ | ⟨g, cap, cur, hv, _⟩
  · exact ⟨none, 0, by rw [hv, hn]⟩
  · exact ⟨_, cap, hv⟩
theorem Ownn.ownBlock {w : World} {base : Nat} {v : Value} {ls : List LN.Ln} (h : Ownn w base v ls) {g : Nat} (hg : v.ownBlock = some g) : (∃ cur, w.heap[g]? = some (.cells cur 105 (0, 0))) ∧ base ≤ g ∧ g < w.heap.size := by
  rcases h.2 with ⟨hv, _⟩ | ⟨g', cap, cur, hv, hb, hc, _⟩
  · rw [hv] at hg; cases hg
  · rw [hv] at hg
    obtain rfl : g' = g := Option.some.inj hg
    exact ⟨⟨cur, hc⟩, hb, (Array.getElem?_eq_some_iff.1 hc).1⟩
theorem Ownn.kb {w w' : World} {base : Nat} {v : Value} {ls : List LN.Ln} {p q : Option Nat} (h : Ownn w base v ls) (hk : Kb w w' p q) (h1 : v.ownBlock = none ∨ v.ownBlock ≠ p) (h2 : v.ownBlock = none ∨ v.ownBlock ≠ q) : Ownn w' base v ls := by
  refine ⟨h.1, ?_⟩
  rcases h.2 with hn | ⟨g, cap, cur, rfl, hb, hgg, rest⟩
  · exact .inl hn
  · refine .inr ⟨g, cap, cur, rfl, hb, ?_, rest⟩
    rw [hk.block g (Array.getElem?_eq_some_iff.1 hgg).1 (by simpa [Value.ownBlock] using h1) (by simpa [Value.ownBlock] using h2)]
    exact hgg
theorem Ownn.off {w : World} {base : Nat} {T : TypeId} {v : Value} {ls : List LN.Ln} {p : Nat} {cs : Array Value} (h : Ownn w base v ls) (hs : Str w p T cs) (hne : 105 ≠ T) : v.ownBlock = none ∨ v.ownBlock ≠ some p := by
  cases hg : v.ownBlock with
  | none => exact .inl rfl
  | some g =>
    right
    intro e
    obtain rfl := Option.some.inj e
    obtain ⟨⟨cur, hc⟩, _⟩ := h.ownBlock hg
    have h' : w.heap[g]? = some (.cells cs T (0, 0)) := hs
    rw [h'] at hc
    simp at hc
    exact hne hc.2.symm
theorem Ownn.base {w : World} {b b' : Nat} {v : Value} {ls : List LN.Ln} (h : Ownn w b v ls) (hb : b' ≤ b) : Ownn w b' v ls := by
  refine ⟨h.1, ?_⟩
  rcases h.2 with hn | ⟨g, cap, cur, hv, hbg, rest⟩
  · exact .inl hn
  · exact .inr ⟨g, cap, cur, hv, Nat.le_trans hb hbg, rest⟩
theorem Tryz.info_line : (Tryz.prog.info? 105).map (fun i => (i.zero, i.size, i.bytes)) = some (some (.agg #[.int .i64 0, .int .i64 0, .string ⟨#[]⟩]), 3, 32) := by kernel_rfl
theorem Str.at3 {x : World} {p : Nat} {T : TypeId} {l : LN.Ln} (h : Str x p T (lc l)) : At3 x p 0 l := ⟨h.cell 0, h.cell 1, h.cell 2⟩
theorem line_news {w : World} {g0 : Nat} {x : LN.Ln} (hc : At3 w g0 0 x) : ∀ j u, (lv [x])[j]? = some u → w.cell? ((⟨g0, 0, none⟩ : Addr).add j) = some u := by
  intro j y hy
  rw [Addr.add_lit, Nat.zero_add]
  match j, hy with
  | 0, hy =>
    have : Value.int .i64 (x.1 : Int) = y := by simpa [lv, lv1] using hy
    rw [← this]; exact hc.c0
  | 1, hy =>
    have : Value.int .i64 (x.2.1 : Int) = y := by simpa [lv, lv1] using hy
    rw [← this]; exact hc.c1
  | 2, hy =>
    have : Value.string ⟨x.2.2.toArray⟩ = y := by simpa [lv, lv1] using hy
    rw [← this]; exact hc.c2
  | j + 3, hy => simp [lv, lv1] at hy
theorem wpList_append_line {w : World} {ops : Array Oper} {rest : List Oper} {o : Oper} {a : Act} {Q : Exit → Act → World → Prop} (hgd : o.guard = none) (s x : Operand)
    (ho : o.op = .call { callee := .builtin .append, args := #[s, x], argTypes := #[68, 68] })
    (base : Nat) {v : Value} {ls : List LN.Ln} {l : LN.Ln} {g0 c : Nat} (hs : a.eval s = v) (hown : Ownn w base v ls) (hx : a.eval x = .slice (some ⟨g0, 0, none⟩) 1 c) (hc : At3 w g0 0 l)
    (hlen : ls.length ≤ 20000) (hbase : base ≤ w.heap.size)
    (h : ∀ g cap w', Ownn w' base (.slice (some ⟨g, 0, none⟩) (ls.length + 1) cap) (ls ++ [l]) → w.grownBy w' v.ownBlock → wpList Tryz.prog ops Q rest (a.put o.dst (.slice (some ⟨g, 0, none⟩) (ls.length + 1) cap)) w') : wpList Tryz.prog ops Q (o :: rest) a w := by
  obtain ⟨i, hi, hz0, hz1, hz2⟩ := infoparts Tryz.info_line
  refine wpList_append_lies _ hgd s x _ ho base _ i _ 3 32 Tryz.underlying68 hi hz0 hz1 hz2 rfl (by decide) v ls.length (lv ls) hs hown ⟨g0, 0, none⟩ 1 c (lv [l]) hx rfl (line_news hc) lv_one (by decide) (by unfold maxLen; omega) (by omega) hbase _ rfl ?_
  intro g cap' w' ho' hg _ _
  refine h g cap' w' ?_ hg
  show w'.ownsRow base _ 3 _ (ls ++ [l]).length (lv (ls ++ [l]))
  rw [lv_app, List.length_append]; exact ho'
def zs (bs : List UInt8) : List Int := bs.map fun b => (b.toNat : Int)
end Go.Proofs.YtgfhabofhefaaaaGreatDoor
namespace Go.Proofs.YtgfhabofhefaaaaGreatDoor
open Go.RowKit
def wrongB (c : UInt8) : Bool := decide (c.toNat < 32) || decide (c.toNat = 127)
theorem wrongB_cases (c : UInt8) {z : Int} (hz : (c.toNat : Int) = z) : (z < 32 ∧ wrongB c = true) ∨ (¬ z < 32 ∧ z = 127 ∧ wrongB c = true) ∨ (¬ z < 32 ∧ ¬ z = 127 ∧ wrongB c = false) := by
  unfold wrongB
  by_cases h1 : c.toNat < 32
  · exact .inl ⟨by omega, by simp [h1]⟩
  · by_cases h2 : c.toNat = 127
    · exact .inr (.inl ⟨by omega, by omega, by simp [h2]⟩)
    · exact .inr (.inr ⟨by omega, by omega, by simp [h1, h2]⟩)
theorem tl_len (l : List UInt8) : (LN.tl l).length ≤ l.length := (List.dropWhile_sublist _).length_le
end Go.Proofs.YtgfhabofhefaaaaGreatDoor
namespace Go.Proofs.YtgfhabofhefaaaaGreatDoor
open Go.RowKit
def LinE (w : World) (bs : List UInt8) (e : Ending) (w' : World) : Prop :=
  ∃ v, e = .returned (.tuple #[v, .agg #[.int .i64 ((LN.outF bs).1 : Int), .int .i64 ((LN.outF bs).2 : Int)]]) ∧ Ownn w' w.heap.size v (LN.outL bs) ∧ Below w.heap.size w w'
structure LI (w2 wr : World) (x : Value) (vs : List Value) (s4 : Value) (acc : List LN.Ln) : Prop where
  bl : Below w2.heap.size w2 wr
  pc : Own wr w2.heap.size 35 x vs
  own : Ownn wr w2.heap.size s4 acc
theorem LI.calm {w2 wr w' : World} {x s4 : Value} {vs : List Value} {acc : List LN.Ln} (h : LI w2 wr x vs s4 acc) (hb : Below wr.heap.size wr w') : LI w2 w' x vs s4 acc := ⟨below_tr h.bl hb, h.pc.below hb, h.own.below hb⟩
theorem LI.grown {w2 wr w' : World} {x s4 s4' : Value} {vs : List Value} {acc acc' : List LN.Ln} (h : LI w2 wr x vs s4 acc) (hg : wr.grownBy w' s4.ownBlock) (ho : Ownn w' w2.heap.size s4' acc') : LI w2 w' x vs s4' acc' := by
  refine ⟨h.bl.grown hg h.bl.size (fun k hk => (h.own.ownBlock hk).2.1), h.pc.kb (Kb.of_grown hg none) no_or ?_, ho⟩
  cases hh : x.ownBlock with
  | none => exact .inl rfl
  | some g =>
    right
    intro e
    obtain ⟨cur, hc⟩ := h.pc.block hh
    obtain ⟨⟨cur', hc'⟩, _⟩ := h.own.ownBlock e.symm
    rw [hc] at hc'
    simp at hc'
theorem lin_big {w : World} {bs : List UInt8} {w' : World} (h : 16384 < bs.length) (hb : Below w.heap.size w w') : LinE w bs (.returned (.tuple #[.slice none 0 0, .agg #[.int .i64 1, .int .i64 1]])) w' := by
  have hF : LN.outF bs = (1, 1) := by unfold LN.outF; rw [if_pos h]
  have hL : LN.outL bs = [] := by unfold LN.outL; rw [hF, if_neg (by decide)]
  refine ⟨_, by rw [hF]; rfl, by rw [hL]; exact Ownn.nil _ _, hb⟩
theorem lin_bad {w : World} {bs : List UInt8} {w' : World} {K L : Nat} (h : ¬ 16384 < bs.length) (hf : LN.flt 1 (LN.rows bs) = (K, L)) (hK : K ≠ 0) (hb : Below w.heap.size w w') : LinE w bs (.returned (.tuple #[.slice none 0 0, .agg #[.int .i64 (K : Int), .int .i64 (L : Int)]])) w' := by
  have hF : LN.outF bs = (K, L) := by unfold LN.outF; rw [if_neg h, hf]
  have hL : LN.outL bs = [] := by unfold LN.outL; rw [hF, if_neg (by intro e; exact hK (congrArg Prod.fst e))]
  refine ⟨_, by rw [hF], by rw [hL]; exact Ownn.nil _ _, hb⟩
theorem lin_good {w : World} {bs : List UInt8} {w' : World} {v : Value} {acc : List LN.Ln} (h : ¬ 16384 < bs.length) (hf : LN.flt 1 (LN.rows bs) = (0, 0)) (hl : LN.lns 1 (LN.rows bs) = acc) (ho : Ownn w' w.heap.size v acc) (hb : Below w.heap.size w w') : LinE w bs (.returned (.tuple #[v, .agg #[.int .i64 0, .int .i64 0]])) w' := by
  have hF : LN.outF bs = (0, 0) := by unfold LN.outF; rw [if_neg h, hf]
  have hL : LN.outL bs = acc := by unfold LN.outL; rw [hF, if_pos rfl, hl]
  refine ⟨_, by rw [hF]; rfl, by rw [hL]; exact ho, hb⟩
end Go.Proofs.YtgfhabofhefaaaaGreatDoor
namespace Go.Proofs.YtgfhabofhefaaaaGreatDoor
open Go.RowKit
def AllE (w : World) (ls : List LX.Lz) (e : Ending) (w' : World) : Prop :=
  Below w.heap.size w w' ∧ ∃ v, e = .returned (.tuple #[v, .agg #[.int .i64 (LX.all ls).1.1, .int .i64 (LX.all ls).2]]) ∧ Ownp w' w.heap.size v (LX.all ls).1.2
structure AW (w wr : World) (v : Value) (acc : List LX.Pc) : Prop where
  bl : Below w.heap.size w wr
  big : w.heap.size + 1 ≤ wr.heap.size
  c : Str wr w.heap.size 39 #[.int .i64 0, .int .i64 0]
  own : Ownp wr (w.heap.size + 1) v acc
theorem AW.calm {w wr w' : World} {v : Value} {acc : List LX.Pc} (h : AW w wr v acc) (hb : Below wr.heap.size wr w') : AW w w' v acc :=
  ⟨h.bl.trans (hb.mono h.bl.size), Nat.le_trans h.big hb.size, h.c.below hb, h.own.below hb⟩
theorem AW.grown {w wr w' : World} {v v' : Value} {acc acc' : List LX.Pc} (h : AW w wr v acc) (hg : wr.grownBy w' v.ownBlock) (ho : Ownp w' (w.heap.size + 1) v' acc') : AW w w' v' acc' := by
  have far : ∀ k, k < w.heap.size + 1 → w'.heap[k]? = wr.heap[k]? := fun k hk => hg.block k (Nat.lt_of_lt_of_le hk h.big) (by
    intro e
    have := (h.own.ownBlock e.symm).2.1
    omega)
  have hb : Below (w.heap.size + 1) wr w' := ⟨hg.os, hg.tape, hg.output, hg.size, far⟩
  exact ⟨h.bl.trans (hb.mono (by omega)), Nat.le_trans h.big hg.size, (far _ (by omega)).trans h.c, ho⟩
theorem AW.start (w : World) : AW w (w.alloc (.cells #[.int .i64 0, .int .i64 0] 39)) (.slice none 0 0) [] :=
  ⟨below_alloc _ _, by rw [bx_size]; exact Nat.le_refl _, Str.new w 39 #[.int .i64 0, .int .i64 0], Ownp.nil _ _⟩
theorem AW.fault {w wr : World} {v : Value} {acc : List LX.Pc} (h : AW w wr v acc) (f g : Value) :
    Str ((wr.setCell ⟨w.heap.size, 0, none⟩ f).setCell ⟨w.heap.size, 1, none⟩ g) w.heap.size 39 #[f, g] ∧ Below w.heap.size w ((wr.setCell ⟨w.heap.size, 0, none⟩ f).setCell ⟨w.heap.size, 1, none⟩ g) ∧ Ownp ((wr.setCell ⟨w.heap.size, 0, none⟩ f).setCell ⟨w.heap.size, 1, none⟩ g) w.heap.size v acc := by
  have kb := (Kb.set wr w.heap.size 0 f none).trans (Kb.set _ w.heap.size 1 g none)
  exact ⟨h.c.two' f g, h.bl.trans (kb.below h.bl.size (fun g hg => by have := Option.some.inj hg; omega) (fun g hg => by cases hg)), (h.own.base (by omega)).kb kb (h.own.off h.c (by decide)) no_or⟩
theorem alle_no {w w' : World} {ls : List LX.Lz} {k n : Int} {A : LX.R × Int} (hA : A = LX.all ls) (h : A = ((k, []), n)) (hb : Below w.heap.size w w') : AllE w ls (.returned (.tuple #[.slice none 0 0, .agg #[.int .i64 k, .int .i64 n]])) w' := by
  have e := hA.symm.trans h
  refine ⟨hb, .slice none 0 0, ?_, ?_⟩
  · rw [e]
  · rw [e]; exact Ownp.nil _ _
theorem alle_yes {w w' : World} {ls : List LX.Lz} {A : LX.R × Int} {acc : List LX.Pc} {v : Value} (hA : A = LX.all ls) (h : A = ((0, acc), 0)) (ho : Ownp w' w.heap.size v acc) (hb : Below w.heap.size w w') : AllE w ls (.returned (.tuple #[v, .agg #[.int .i64 0, .int .i64 0]])) w' := by
  have e := hA.symm.trans h
  refine ⟨hb, v, ?_, ?_⟩
  · rw [e]
  · rw [e]; exact ho
theorem rowe_ok {w : World} {x : LX.Lz} {P : List LX.Pc} {e : Ending} {w' : World} (hk : LX.row x = (0, P)) (h : RowE w x e w') : ∃ v, e = .returned (.tuple #[v, .agg #[.int .i64 0, .int .i64 0]]) ∧ Ownp w' w.heap.size v P ∧ Below w.heap.size w w' := by
  obtain ⟨hb, v, he, ho⟩ := h
  rw [hk] at he ho
  exact ⟨v, he, ho, hb⟩
theorem rowe_bad {w : World} {x : LX.Lz} {k : Int} {P : List LX.Pc} {e : Ending} {w' : World} (hk : LX.row x = (k, P)) (h0 : k ≠ 0) (h : RowE w x e w') : ∃ v, e = .returned (.tuple #[v, .agg #[.int .i64 k, .int .i64 x.1]]) ∧ Ownp w' w.heap.size v P ∧ Below w.heap.size w w' := by
  obtain ⟨hb, v, he, ho⟩ := h
  rw [hk] at he ho
  rw [if_neg h0] at he
  exact ⟨v, he, ho, hb⟩
theorem drop_z {l : List LX.Lz} {i : Nat} {c : LX.Lz} (h : l[i]? = some c) : l.drop i = c :: l.drop (i + 1) := by
  obtain ⟨hi, rfl⟩ := List.getElem?_eq_some_iff.1 h
  exact List.drop_eq_getElem_cons hi
set_option maxRecDepth 10000 in
set_option maxHeartbeats 16000000 in
theorem rall_any (v0 : Value) (ls : List LX.Lz) (w : World) (hr : Rdz w v0 ls) (hls : ∀ x ∈ ls, x.2.2.length ≤ 17000) (hwt : LX.wt ls ≤ 900000) :
    Calls Tryz.prog 33 #[v0] w (AllE w ls) := by
  obtain ⟨ao, cap, rfl, h1, h2, h3, h4⟩ := hr
  have HS0 := Lib.hid (AW.start w)
  obtain ⟨A, HF⟩ : ∃ A, Hid (A = LX.all ls) := ⟨_, Lib.hid rfl⟩
  obtain ⟨n, hn⟩ : ∃ n, ls.length = n := ⟨_, rfl⟩
  have HN := Lib.hid hn
  have H4 := Lib.hid h4
  have HLS := Lib.hid hls
  have HWT := Lib.hid hwt
  rw [hn] at h1 ⊢
  unfold maxLen at h2
  have hnn : n ≤ 9223372036854775807 := by omega
  clear h1 h2 h3 h4 hls hwt hn
  go_enter Tryz.func33, Tryz.ntmps33
  go_wp2
  generalize w.alloc (.cells #[.int .i64 0, .int .i64 0] 39) = w0 at *
  go_loopg [4, 5] n (fun g s4 s6 wx => ∃ (i : Nat) (acc : List LX.Pc) (v : Value), i + g = n ∧ s6 = .int .i64 (i : Int) ∧ v = s4 ∧ Hid (AW w wx v acc) ∧ Hid (acc.length + LX.wt (ls.drop i) ≤ 900000) ∧ Hid (A = LX.plus acc (LX.all (ls.drop i))))
  case atStart =>
    refine ⟨0, [], _, by omega, rfl, rfl, HS0, ?_, ?_⟩
    · show _ ≤ _; have := HWT.out; simpa using this
    · show _ = _; rw [HF.out, List.drop_zero, LX.plus_nil]
  case round =>
    clear HS0 HWT
    obtain ⟨i, acc, v, hi, rfl, rfl, HW, HAL, HE⟩ := hrel
    have f0 : wr.cell? ⟨w.heap.size, 0, none⟩ = some (.int .i64 0) := HW.out.c.cell 0
    have f1 : wr.cell? ⟨w.heap.size, 1, none⟩ = some (.int .i64 0) := HW.out.c.cell 1
    have ff0 : wr.frozen? ⟨w.heap.size, 0, none⟩ = false := HW.out.c.frozen 0
    have ff1 : wr.frozen? ⟨w.heap.size, 1, none⟩ = false := HW.out.c.frozen 1
    cases gk with
    | zero =>
      obtain rfl : i = n := by omega
      have E := Lib.hid (show A = ((0, acc), 0) by rw [HE.out, List.drop_eq_nil_of_le (by have := HN.out; omega), LX.plus_end])
      have HQ := Lib.hid (HW.out.fault (.int .i64 0) (.int .i64 0))
      go_wp2
      try rw [Exit.noGoto_ret]
      (try simp only [Exit.inBlock, Exit.then])
      refine bodyPost_ret (ret_bc rfl rfl rfl HQ.out.1 Tryz.underlying39 rfl fault_size) rfl ?_
      exact alle_yes HF.out E.out HQ.out.2.2 HQ.out.2.1
    | succ g =>
      have hin : (i : Int) < (n : Int) := by omega
      obtain ⟨x, hx⟩ : ∃ x, ls[i]? = some x := ⟨ls[i]'(by have := HN.out; omega), List.getElem?_eq_getElem _⟩
      have hlx := HLS.out x (List.mem_of_getElem? hx)
      have HD := Lib.hid (drop_z hx)
      obtain ⟨b, off, rfl, c⟩ := H4.out i x hx
      obtain ⟨d0, d1, d2⟩ := c.below HW.out.bl
      obtain ⟨no, ind, tx⟩ := x
      simp only at hlx d0 d1 d2
      obtain ⟨k, P, hkP⟩ : ∃ k P, LX.row (no, ind, tx) = (k, P) := ⟨_, _, rfl⟩
      have HPL : Hid (P.length ≤ tx.length) := by show _ ≤ _; have := LX.row_len (no, ind, tx); rw [hkP] at this; exact this
      have HWB := HW
      have HR := Lib.hid (rrow_any (no, ind, tx) wr hlx)
      clear hx c HW
      by_cases hk0 : k = 0
      · subst hk0
        have E := Lib.hid (show A = LX.plus (acc ++ P) (LX.all (ls.drop (i + 1))) by rw [HE.out, HD.out, LX.all_ok hkP, LX.plus_plus])
        have HOK := Lib.hid (fun (e : Ending) (w' : World) (h : RowE wr (no, ind, tx) e w') => rowe_ok hkP h)
        clear hkP
        go_wp2_with fail
        refine HR.out.mono ?_
        rintro e w2 he
        obtain ⟨v1, rfl, ho, hb⟩ := HOK.out _ _ he
        have B3 := below_alloc w2 (.cells #[.int .i64 0, .int .i64 0] 39)
        have HW3 := Lib.hid ((HWB.out.calm hb).calm B3)
        have HP3 := Lib.hid (ho.below B3).rd
        clear he ho hb B3 HR HOK HWB
        go_wp2_with (at_builtin; refine wpList_append_pieces rfl (.tmp 26) (.tmp 27) rfl (w.heap.size + 1) (by rfl) HW3.out.own (by rfl) HP3.out (by have := HAL.out; have := HPL.out; rw [HD.out, LX.wt_cons] at *; simp only at *; omega) HW3.out.big ?_; intro v4 w4 ho4 hg4; have HW4 := Lib.hid (HW3.out.grown hg4 ho4); clear ho4 hg4)
        go_roundg g
        case rel =>
          refine ⟨i + 1, acc ++ P, _, by omega, by first | rfl | (simp; done), rfl, HW4, ?_, E⟩
          show _ ≤ _
          have h1 := HAL.out
          have h2 := HPL.out
          rw [HD.out, LX.wt_cons] at h1
          rw [List.length_append]
          simp only at h1
          omega
        case measure => omega
      · have E := Lib.hid (show A = ((k, []), no) by rw [HE.out, HD.out, LX.all_no hkP hk0, LX.plus_no hk0])
        have HOK := Lib.hid (fun (e : Ending) (w' : World) (h : RowE wr (no, ind, tx) e w') => rowe_bad hkP hk0 h)
        clear hkP
        go_wp2_with fail
        refine HR.out.mono ?_
        rintro e w2 he
        obtain ⟨v1, rfl, ho, hb⟩ := HOK.out _ _ he
        simp only
        have B3 := below_alloc w2 (.cells #[.int .i64 k, .int .i64 no] 39)
        have HW3 := Lib.hid ((HWB.out.calm hb).calm B3)
        have a0 : (w2.alloc (.cells #[.int .i64 k, .int .i64 no] 39)).cell? ⟨w.heap.size, 0, none⟩ = some (.int .i64 0) := HW3.out.c.cell 0
        have a1 : (w2.alloc (.cells #[.int .i64 k, .int .i64 no] 39)).cell? ⟨w.heap.size, 1, none⟩ = some (.int .i64 0) := HW3.out.c.cell 1
        have aa0 : (w2.alloc (.cells #[.int .i64 k, .int .i64 no] 39)).frozen? ⟨w.heap.size, 0, none⟩ = false := HW3.out.c.frozen 0
        have aa1 : (w2.alloc (.cells #[.int .i64 k, .int .i64 no] 39)).frozen? ⟨w.heap.size, 1, none⟩ = false := HW3.out.c.frozen 1
        have HQ := Lib.hid (HW3.out.fault (.int .i64 k) (.int .i64 no))
        clear he ho hb B3 HR HOK HWB HW3
        go_wp2
        go_region
        go_wp2
        try rw [Exit.noGoto_ret]
        (try simp only [Exit.inBlock, Exit.then])
        refine bodyPost_ret (ret_bc rfl rfl rfl (HQ.out.1.below (below_drew _)) Tryz.underlying39 rfl fault_size) rfl ?_
        exact alle_no HF.out E.out (HQ.out.2.1.drew)
end Go.Proofs.YtgfhabofhefaaaaGreatDoor
namespace Go.Proofs.YtgfhabofhefaaaaGreatDoor
open Go.RowKit
def ParE (w : World) (o : DC.Out (List DC.Nd)) (e : Ending) (w' : World) : Prop :=
  Below w.heap.size w w' ∧ ∃ v, e = .returned (.tuple #[.agg #[v], .agg #[.int .i64 (DC.wrong o).1, .int .i64 (DC.wrong o).2]]) ∧ Rdoc w' v (DC.told o)
theorem Ownn.rdz {w : World} {base : Nat} {v : Value} {ls : List LN.Ln} (h : Ownn w base v ls) : Rdz w v (ls.map DC.zl) := by
  obtain ⟨ao, cap, e, h1, h2, h3, h4⟩ := h.rd
  refine ⟨ao, cap, by rw [List.length_map]; exact e, by rw [List.length_map]; exact h1, h2, h3, fun j x hx => ?_⟩
  rw [List.getElem?_map] at hx
  obtain ⟨y, hy, rfl⟩ := Option.map_eq_some_iff.1 hx
  obtain ⟨b, off, e1, c⟩ := h4 j y hy
  exact ⟨b, off, e1, c.c0, c.c1, c.c2⟩
structure PaS (w wr : World) (x y z f g : Value) : Prop where
  dd : DoD w wr x y z
  fl : Str wr (w.heap.size + 2) 39 #[f, g]
theorem pars_start (w : World) : DoD w ((w.alloc (.cells #[.slice none 0 0] 26)).alloc (.cells #[.int .i64 0, .int .i64 0] 39)) (.slice none 0 0) (.int .i64 0) (.int .i64 0) := by
  have b1 := below_alloc w (.cells #[.slice none 0 0] 26)
  have b2 := below_alloc (w.alloc (.cells #[.slice none 0 0] 26)) (.cells #[.int .i64 0, .int .i64 0] 39)
  have s2 := Str.new (w.alloc (.cells #[.slice none 0 0] 26)) 39 #[.int .i64 0, .int .i64 0]
  rw [bx_size] at s2
  exact ⟨below_trans b1 b2, (Str.new w 26 #[.slice none 0 0]).below b2, s2⟩
theorem DoD.calm {w wr w' : World} {x y z : Value} (h : DoD w wr x y z) (hb : Below wr.heap.size wr w') : DoD w w' x y z := ⟨below_trans h.bl hb, h.b.below hb, h.c.below hb⟩
theorem DoD.turn {w wr : World} {x y z f g : Value} {q : Nat} (h : DoD w wr x y z) (_hf : Str wr q 39 #[f, g]) (hq : w.heap.size + 2 ≤ q) (f' g' : Value) :
    DoD w ((wr.setCell ⟨q, 0, none⟩ f').setCell ⟨q, 1, none⟩ g') x y z ∧ Kb wr ((wr.setCell ⟨q, 0, none⟩ f').setCell ⟨q, 1, none⟩ g') (some q) none := by
  have kb := (Kb.set wr q 0 f' none).trans (Kb.set _ q 1 g' none)
  refine ⟨⟨h.bl.trans (kb.below h.bl.size (fun g hg => by have := Option.some.inj hg; omega) (by simp)), h.b.kb kb (by simp; omega) (by simp), h.c.kb kb (by simp; omega) (by simp)⟩, kb⟩
end Go.Proofs.YtgfhabofhefaaaaGreatDoor
namespace Go.Proofs.YtgfhabofhefaaaaGreatDoor
open Go.RowKit
theorem rof_ret {tmps : Array Value} {w : World} {p q : Nat} {x y z : Value} (hp : tmps.getD 2 undef = .pointer (some ⟨p, 0, none⟩)) (hq : tmps.getD 3 undef = .pointer (some ⟨q, 0, none⟩)) (h1 : Str w p 26 #[x]) (h2 : Str w q 39 #[y, z]) :
    (results Tryz.f34 tmps).run Tryz.prog w = .ok (.tuple #[.agg #[x], .agg #[y, z]]) w := by
  have hs' : w.heap[q]? = some (.cells #[y, z] 39 (0, 0)) := h2
  have hs1 : w.heap[p]? = some (.cells #[x] 26 (0, 0)) := h1
  have l2 := run_loadVar_row (P := Tryz.prog) w q 39 39 #[y, z] (0, 0) _ hs' Tryz.underlying39 rfl fault_size
  have l1 := run_loadVar_row (P := Tryz.prog) w p 26 26 #[x] (0, 0) _ hs1 Tryz.underlying26 rfl doc_size
  have hp' : (asAddr (tmps.getD 2 undef)).run Tryz.prog w = .ok ⟨p, 0, none⟩ w := by rw [hp]; simp [asAddr]
  have hq' : (asAddr (tmps.getD 3 undef)).run Tryz.prog w = .ok ⟨q, 0, none⟩ w := by rw [hq]; simp [asAddr]
  simp only [Array.getD_eq_getD_getElem?] at hp' hq'
  simp only [results, Tryz.results34]
  simp [Sem.run_bind, Result.andThen, hp', hq', l1, l2]
theorem DoD.lay {w wr : World} {x y z : Value} (h : DoD w wr x y z) (v : Value) :
    wr.cell? ⟨w.heap.size, 0, none⟩ = some x ∧ wr.frozen? ⟨w.heap.size, 0, none⟩ = false ∧ (wr.setCell ⟨w.heap.size, 0, none⟩ v).cell? ⟨w.heap.size + 1, 0, none⟩ = some y ∧ (wr.setCell ⟨w.heap.size, 0, none⟩ v).cell? ⟨w.heap.size + 1, 1, none⟩ = some z ∧ (wr.setCell ⟨w.heap.size, 0, none⟩ v).frozen? ⟨w.heap.size + 1, 0, none⟩ = false ∧ (wr.setCell ⟨w.heap.size, 0, none⟩ v).frozen? ⟨w.heap.size + 1, 1, none⟩ = false := by
  have sc : Str (wr.setCell ⟨w.heap.size, 0, none⟩ v) (w.heap.size + 1) 39 #[y, z] := h.c.kb (Kb.set wr w.heap.size 0 _ none) (by simp) (by simp)
  exact ⟨h.b.cell 0, h.b.frozen 0, sc.cell 0, sc.cell 1, sc.frozen 0, sc.frozen 1⟩
theorem own_low {w w1 : World} {x y z v : Value} {S : Nat → Prop} {ns : List DC.Nd} (h : Nds w1 w.heap.size S v ns) (d : DoD w w1 x y z) {g : Nat} (hg : v.ownBlock = some g) : w.heap.size + 2 ≤ g := by
  have h1 := (h.ge hg).1
  have h2 : g ≠ w.heap.size := fun e => by
    rcases h.off d.b (by decide) with e1 | e1
    · rw [e1] at hg; cases hg
    · exact e1 (by rw [hg, e])
  have h3 : g ≠ w.heap.size + 1 := fun e => by
    rcases h.off d.c (by decide) with e1 | e1
    · rw [e1] at hg; cases hg
    · exact e1 (by rw [hg, e])
  omega
theorem rof_start (w : World) (lv : Value) (l : List LX.Pc) (hr : Rdp w lv l) :
    Rst w (((w.alloc (.cells #[.slice none 0 0] 26)).alloc (.cells #[.int .i64 0, .int .i64 0] 39)).alloc (.cells #[lv, .int .i64 0, .slice none 0 0, .int .i64 0, .int .i64 0] 115)) (w.heap.size + 1 + 1) lv l 0 (.slice none 0 0) [] 0 0 (fun _ => False) ∧
    DoD w (((w.alloc (.cells #[.slice none 0 0] 26)).alloc (.cells #[.int .i64 0, .int .i64 0] 39)).alloc (.cells #[lv, .int .i64 0, .slice none 0 0, .int .i64 0, .int .i64 0] 115)) (.slice none 0 0) (.int .i64 0) (.int .i64 0) := by
  have hd := pars_start w
  have zz : ((w.alloc (.cells #[.slice none 0 0] 26)).alloc (.cells #[.int .i64 0, .int .i64 0] 39)).heap.size = w.heap.size + 1 + 1 := by rw [bx_size, bx_size]
  generalize (w.alloc (.cells #[.slice none 0 0] 26)).alloc (.cells #[.int .i64 0, .int .i64 0] 39) = W at *
  have b := below_alloc W (.cells #[lv, .int .i64 0, .slice none 0 0, .int .i64 0, .int .i64 0] 115)
  have s := Str.new W 115 #[lv, .int .i64 0, .slice none 0 0, .int .i64 0, .int .i64 0]
  rw [zz] at s
  exact ⟨⟨below_trans hd.bl b, by omega, s, hr, Nat.zero_le _, Nds.nil _ _ _, fun _ hg => hg.elim⟩, hd.calm b⟩
theorem ofe_bad {w w' : World} {l : List LX.Pc} {k n : Int} (h : DC.doc l = .bad k n) (hb : Below w.heap.size w w') : OfE w l (.returned (.tuple #[.agg #[.slice none 0 0], .agg #[.int .i64 k, .int .i64 n]])) w' := by
  refine ⟨hb, .slice none 0 0, fun _ => False, ?_, ?_⟩
  · simp only [DC.fault, h]
  · simp only [DC.nodes, h]; exact Nds.nil _ _ _
theorem ofe_ok {w w' : World} {l : List LX.Pc} {ns : List DC.Nd} {v : Value} {S : Nat → Prop} (h : DC.doc l = .ok ns) (hb : Below w.heap.size w w') (hn : Nds w' w.heap.size S v ns) : OfE w l (.returned (.tuple #[.agg #[v], .agg #[.int .i64 0, .int .i64 0]])) w' := by
  refine ⟨hb, v, S, ?_, ?_⟩
  · simp only [DC.fault, h]
  · simp only [DC.nodes, h]; exact hn
section
variable {l : List LX.Pc} (h0 : l ≠ [])
include h0
theorem doc_bad {a b : Int} (hA : DC.blk (2 * l.length + 2) 1 0 l = .bad a b) : DC.doc l = .bad a b := by
  unfold DC.doc DC.fuel
  rw [if_neg h0, hA]; rfl
theorem doc_nil {E : List DC.Nd} (hA : DC.blk (2 * l.length + 2) 1 0 l = .ok (E, [])) : DC.doc l = .ok E := by
  unfold DC.doc DC.fuel
  rw [if_neg h0, hA]; rfl
theorem doc_more {E : List DC.Nd} {q : LX.Pc} {r : List LX.Pc} (hA : DC.blk (2 * l.length + 2) 1 0 l = .ok (E, q :: r)) : DC.doc l = .bad 6 q.2.1 := by
  unfold DC.doc DC.fuel
  rw [if_neg h0, hA]; rfl
end
set_option maxRecDepth 10000 in
set_option maxHeartbeats 8000000 in
theorem rof_any (lv : Value) (l : List LX.Pc) (w : World) (hr : Rdp w lv l) (hl : l.length ≤ 1000000) :
    Calls Tryz.prog 34 #[lv] w (OfE w l) := by
  have hs := rof_start w lv l hr
  obtain ⟨al, cl, rfl, _, _⟩ := hr.slice
  have HS := Lib.hid hs.1
  have HD := Lib.hid hs.2
  have HD0 := Lib.hid (pars_start w)
  by_cases h0 : l = []
  · subst h0
    have HE := Lib.hid (fun (w' : World) (hb : Below w.heap.size w w') => ofe_bad (w := w) (w' := w') (l := []) (k := 10) (n := 1) (by decide) hb)
    have HZ := Lib.hid (HD0.out.laid (.slice none 0 0) (.int .i64 10) (.int .i64 1)).1
    obtain ⟨d0, df, c0, c1, cf0, cf1⟩ := HD0.out.lay (.slice none 0 0)
    clear HS HD hr hl hs
    go_enter Tryz.func34, Tryz.ntmps34
    go_upto_region 2 with fail
    generalize World.alloc (World.alloc _ _) _ = W at *
    go_wp2
    (try rw [Exit.noGoto_ret])
    (try simp only [Exit.inBlock, Exit.then])
    refine bodyPost_ret (rof_ret rfl rfl HZ.out.b HZ.out.c) rfl ?_
    exact HE.out _ HZ.out.bl
  · have hpos : 0 < l.length := by
      cases l with
      | nil => exact absurd rfl h0
      | cons x l => simp
    obtain ⟨n, hn⟩ : ∃ n, l.length = n := ⟨_, rfl⟩
    obtain ⟨A, hA⟩ : ∃ A, DC.blk (2 * l.length + 2) 1 0 l = A := ⟨_, rfl⟩
    have HB := Lib.hid (rbc_all (2 * l.length + 2) w _ _ _ _ l 0 [] (fun _ => False) 1 HS.out hpos hl (by simp) (by simp) (by omega))
    rw [List.drop_zero, List.length_nil, hA] at HB
    have H0 := Lib.hid h0
    have HA := Lib.hid hA
    have HN := Lib.hid hn
    rw [hn] at hpos HS HD HB ⊢
    have hn0 : ¬ (n : Int) = 0 := by omega
    have hnb : ((n : Int) == 0) = false := by simpa using hn0
    have hnc : (n == 0) = false := by simpa using (show ¬ n = 0 by omega)
    have hnd : ¬ n = 0 := by omega
    clear hA hr hl h0 hn hs HD0
    go_enter Tryz.func34, Tryz.ntmps34
    go_upto_region 4 with fail
    generalize World.alloc (World.alloc (World.alloc _ _) _) _ = W at *
    clear hnb hnc hn0 hnd hpos
    go_wp2_with fail
    refine HB.out.mono ?_
    rintro e w1 ⟨z, t', nv', ns', k, m, rfl, hp, hk, hnr, hR⟩
    have HP := Lib.hid hp
    have HD1 := Lib.hid (HD.out.far hk (by intro g hg; cases hg))
    have r1 : w1.cell? ⟨w.heap.size + 1 + 1, 1, none⟩ = some (.int .i64 (t' : Int)) := hp.st.cell 1
    have r2 : w1.cell? ⟨w.heap.size + 1 + 1, 2, none⟩ = some nv' := hp.st.cell 2
    have r3 : w1.cell? ⟨w.heap.size + 1 + 1, 3, none⟩ = some (.int .i64 k) := hp.st.cell 3
    have r4 : w1.cell? ⟨w.heap.size + 1 + 1, 4, none⟩ = some (.int .i64 m) := hp.st.cell 4
    clear hp hk hnr HB HS HD
    cases A with
    | bad a b =>
      obtain ⟨rfl, rfl, _, _⟩ := hR
      have hne := DC.blk_bad HA.out
      have hb1 : (k == 0) = false := by simpa using hne
      have hb2 : (k != 0) = true := by simpa using hne
      have HE := Lib.hid (fun (w' : World) (hb : Below w.heap.size w w') => ofe_bad (w := w) (w' := w') (l := l) (k := k) (n := m) (doc_bad H0.out HA.out) hb)
      clear HA H0 hne
      go_upto_region 8 with fail
      have HZ := Lib.hid (HD1.out.laid (.slice none 0 0) (.int .i64 k) (.int .i64 m)).1
      obtain ⟨d0, df, -⟩ := HD1.out.lay (.slice none 0 0)
      obtain ⟨-, -, c0', c1', cf0', cf1'⟩ := HD1.out.lay (.slice none 0 0)
      have c0 : w1.cell? ⟨w.heap.size + 1, 0, none⟩ = some (.int .i64 0) := HD1.out.c.cell 0
      have c1 : w1.cell? ⟨w.heap.size + 1, 1, none⟩ = some (.int .i64 0) := HD1.out.c.cell 1
      have cf0 := HD1.out.c.frozen 0
      have cf1 := HD1.out.c.frozen 1
      have hqd : w.heap.size + 1 + 1 ≠ w.heap.size := by omega
      have S1 := HP.out.st.kb (Kb.set w1 w.heap.size 0 (.slice none 0 0) none) (fun e => hqd (Option.some.inj e)) (by simp)
      have r3' : (w1.setCell ⟨w.heap.size, 0, none⟩ (.slice none 0 0)).cell? ⟨w.heap.size + 1 + 1, 3, none⟩ = some (.int .i64 k) := S1.cell 3
      have r4' : (w1.setCell ⟨w.heap.size, 0, none⟩ (.slice none 0 0)).cell? ⟨w.heap.size + 1 + 1, 4, none⟩ = some (.int .i64 m) := S1.cell 4
      clear S1 hqd
      go_wp2
      go_region
      all_goals (go_wp2; (try rw [Exit.noGoto_ret]); (try simp only [Exit.inBlock, Exit.then]); refine bodyPost_ret (rof_ret rfl rfl (HZ.out.b.below (below_drew _)) (HZ.out.c.below (below_drew _))) rfl ?_; exact HE.out _ (below_trans HZ.out.bl (below_drew _)))
    | ok a =>
      obtain ⟨E, r⟩ := a
      obtain ⟨rfl, rfl, rfl, rfl, hdr⟩ := hR
      have hle := HP.out.le
      have HNN := HN.out
      cases r with
      | nil =>
        have hti : ¬ (t' : Int) < (n : Int) := fun h => by
          have := congrArg List.length hdr
          simp only [List.length_drop, List.length_nil] at this
          omega
        have htb : ¬ t' < n := by omega
        obtain ⟨an, cn, hnv⟩ := HP.out.nd.slice
        subst hnv
        have HE := Lib.hid (fun (v : Value) (w' : World) (S : Nat → Prop) (hb : Below w.heap.size w w') (h : Nds w' w.heap.size S v _) => ofe_ok (w := w) (w' := w') (l := l) (ns := ns') (S := S) (doc_nil H0.out HA.out) hb h)
        obtain ⟨d0, df, c0, c1, cf0, cf1⟩ := HD1.out.lay (.slice an ns'.length cn)
        have hz := HD1.out.laid (.slice an ns'.length cn) (.int .i64 0) (.int .i64 0)
        have HZ := Lib.hid hz.1
        have HNZ := Lib.hid (HP.out.nd.kb hz.2 (Far.str HD1.out.b (by decide) (by decide)) (Far.str HD1.out.c (by decide) (by decide)) (HP.out.nd.off HD1.out.b (by decide)) (HP.out.nd.off HD1.out.c (by decide)))
        clear HA H0 hle HNN hdr hz
        go_wp2
        (try rw [Exit.noGoto_ret])
        (try simp only [Exit.inBlock, Exit.then])
        refine bodyPost_ret (rof_ret rfl rfl HZ.out.b HZ.out.c) rfl ?_
        exact HE.out _ _ _ HZ.out.bl HNZ.out
      | cons q r =>
        have ht : t' < n := by
          have := congrArg List.length hdr
          simp only [List.length_drop, List.length_cons] at this
          omega
        have hti : (t' : Int) < (n : Int) := by omega
        have ht0 : (0 : Int) ≤ (t' : Int) := by omega
        obtain ⟨q', hq, hdq⟩ := dropt_at (L := l) (t := t') (by omega)
        obtain rfl : q' = q := by rw [hdq] at hdr; exact (List.cons.inj hdr).1
        obtain ⟨b, off, cap, hlv, hq5⟩ := HP.out.at hq
        simp only [Value.slice.injEq] at hlv
        obtain ⟨rfl, -, rfl⟩ := hlv
        have q1 := hq5.c1
        obtain ⟨qk, qn, qc, qt, qq⟩ := q'
        simp only at q1
        have HF := Lib.hid (rfail_any HP.out 6 qn)
        have HE := Lib.hid (fun (w' : World) (hb : Below w.heap.size w w') => ofe_bad (w := w) (w' := w') (l := l) (k := 6) (n := qn) (doc_more H0.out HA.out) hb)
        clear HA H0 hle HNN hdr hdq hq hq5
        go_upto_region 7 with (go_at_call 63; refine HF.out.mono ?_; rintro e w2 ⟨rfl, hp2, hk2⟩; have HP2 := Lib.hid hp2; have HD2 := Lib.hid (HD1.out.far hk2 (fun g hg => Nat.le_trans (Nat.le_refl _) (own_low HP.out.nd HD1.out hg))); have s3 : w2.cell? ⟨w.heap.size + 1 + 1, 3, none⟩ = some (.int .i64 6) := hp2.st.cell 3; have s4 : w2.cell? ⟨w.heap.size + 1 + 1, 4, none⟩ = some (.int .i64 qn) := hp2.st.cell 4; clear hp2 hk2)
        clear r1 r2 r3 r4 q1 HF HP HD1
        go_upto_region 8 with fail
        have HZ := Lib.hid (HD2.out.laid (.slice none 0 0) (.int .i64 6) (.int .i64 qn)).1
        obtain ⟨d0, df, -⟩ := HD2.out.lay (.slice none 0 0)
        obtain ⟨-, -, c0', c1', cf0', cf1'⟩ := HD2.out.lay (.slice none 0 0)
        have c0 : w2.cell? ⟨w.heap.size + 1, 0, none⟩ = some (.int .i64 0) := HD2.out.c.cell 0
        have c1 : w2.cell? ⟨w.heap.size + 1, 1, none⟩ = some (.int .i64 0) := HD2.out.c.cell 1
        have cf0 := HD2.out.c.frozen 0
        have cf1 := HD2.out.c.frozen 1
        have hqd : w.heap.size + 1 + 1 ≠ w.heap.size := by omega
        have S1 := HP2.out.st.kb (Kb.set w2 w.heap.size 0 (.slice none 0 0) none) (fun e => hqd (Option.some.inj e)) (by simp)
        have r3' : (w2.setCell ⟨w.heap.size, 0, none⟩ (.slice none 0 0)).cell? ⟨w.heap.size + 1 + 1, 3, none⟩ = some (.int .i64 6) := S1.cell 3
        have r4' : (w2.setCell ⟨w.heap.size, 0, none⟩ (.slice none 0 0)).cell? ⟨w.heap.size + 1 + 1, 4, none⟩ = some (.int .i64 qn) := S1.cell 4
        clear S1 hqd
        go_wp2
        go_region
        all_goals (go_wp2; (try rw [Exit.noGoto_ret]); (try simp only [Exit.inBlock, Exit.then]); refine bodyPost_ret (rof_ret rfl rfl (HZ.out.b.below (below_drew _)) (HZ.out.c.below (below_drew _))) rfl ?_; exact HE.out _ (below_trans HZ.out.bl (below_drew _)))
end Go.Proofs.YtgfhabofhefaaaaGreatDoor
