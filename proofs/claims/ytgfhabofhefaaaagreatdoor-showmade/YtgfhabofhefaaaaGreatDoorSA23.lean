/- A part of the proof. -/
import Derived.Test.YtgfhabofhefaaaaGreatDoorSA11
import Derived.BigQuiet
import Derived.Deep.RegionHeld3
import Derived.Deep.LoopGhost
import Derived.Test.YtgfhabofhefaaaaGreatDoorSA20
import Derived.Test.YtgfhabofhefaaaaGreatDoorSA22
namespace Go.Proofs.YtgfhabofhefaaaaGreatDoor
open Go.RowKit
def gaveD (k n : Int) : List PanicEntry := [{ v := .iface 82 (.agg #[.int .i64 k, .int .i64 n]), recovered := false }]
end Go.Proofs.YtgfhabofhefaaaaGreatDoor
namespace Go.Proofs.YtgfhabofhefaaaaGreatDoor
open Go.RowKit
theorem Near.refl (w : World) (v : Value) : Near w v v := .inl rfl
theorem Near.trans {w w1 : World} {a b c : Value} (h : Near w a b) (k : Near w1 b c) (hs : w.heap.size ≤ w1.heap.size) : Near w a c := by
  rcases k with k | k
  · rcases h with h | h
    · exact .inl (k.trans h)
    · exact .inr fun g hg => h g (by rw [← k]; exact hg)
  · exact .inr fun g hg => Nat.le_trans hs (k g hg)
theorem Kb.near {a b c : World} {p : Option Nat} {v v' : Value} (h : Kb a b p v.ownBlock) (hn : Near a v v') (k : Kb b c p v'.ownBlock) : Kb a c p v.ownBlock :=
  h.trans_new k fun g hg => by
    rcases hn with e | e
    · exact .inl e
    · exact .inr (e g hg)
def Far (w : World) (S : Nat → Prop) (p : Option Nat) : Prop :=
  ∀ g, p = some g → ¬ S g ∨ ∀ c, w.heap[g]? ≠ some (.cells c 9 (0, 0)) ∧ w.heap[g]? ≠ some (.cells c 3 (0, 0))
theorem Far.none (w : World) (S : Nat → Prop) : Far w S none := by intro g h; cases h
theorem Far.str {w : World} {S : Nat → Prop} {p : Nat} {T : TypeId} {cs : Array Value} (h : Str w p T cs) (h1 : T ≠ 9) (h2 : T ≠ 3) : Far w S (some p) := by
  intro g hg
  obtain rfl := Option.some.inj hg
  have h' : w.heap[p]? = some (.cells cs T (0, 0)) := h
  refine .inr fun c => ⟨fun e => ?_, fun e => ?_⟩
  · rw [h'] at e; simp at e; exact h1 e.2
  · rw [h'] at e; simp at e; exact h2 e.2
theorem Far.nodes {w : World} {S : Nat → Prop} {base : Nat} {v : Value} {vs : List Nv} (h : Ownv w base v vs) : Far w S v.ownBlock := by
  intro g hg
  obtain ⟨⟨cur, h'⟩, _⟩ := h.ownBlock hg
  refine .inr fun c => ⟨fun e => ?_, fun e => ?_⟩
  · rw [h'] at e; simp at e
  · rw [h'] at e; simp at e
theorem Far.not {w : World} {S : Nat → Prop} {p : Option Nat} (h : ∀ g, p = some g → ¬ S g) : Far w S p := fun g hg => .inl (h g hg)
structure Nk (w : World) (base : Nat) (S : Nat → Prop) (a : Nv) : Prop where
  keys : Own w base 9 a.2.1 (sv a.1.keys)
  kids : Own w base 3 a.2.2 (nats a.1.kids)
  sk : ∀ g, a.2.1.ownBlock = some g → S g
  si : ∀ g, a.2.2.ownBlock = some g → S g
theorem Own.far {w : World} {S : Nat → Prop} {base : Nat} {e : TypeId} {v : Value} {xs : List Value} {p : Option Nat} (h : Own w base e v xs) (he : e = 9 ∨ e = 3) (hs : ∀ g, v.ownBlock = some g → S g) (hp : Far w S p) : v.ownBlock = none ∨ v.ownBlock ≠ p := by
  cases hg : v.ownBlock with
  | none => exact .inl rfl
  | some g =>
    right
    intro e1
    obtain ⟨c, hc⟩ := h.block hg
    rcases hp g e1.symm with h1 | h1
    · exact h1 (hs g hg)
    · rcases he with rfl | rfl
      · exact (h1 c).1 hc
      · exact (h1 c).2 hc
theorem Nk.kb {w w' : World} {base : Nat} {S : Nat → Prop} {a : Nv} {p q : Option Nat} (h : Nk w base S a) (hk : Kb w w' p q) (hp : Far w S p) (hq : Far w S q) : Nk w' base S a :=
  ⟨h.keys.kb hk (h.keys.far (.inl rfl) h.sk hp) (h.keys.far (.inl rfl) h.sk hq), h.kids.kb hk (h.kids.far (.inr rfl) h.si hp) (h.kids.far (.inr rfl) h.si hq), h.sk, h.si⟩
theorem Nk.mono {w : World} {base : Nat} {S S' : Nat → Prop} {a : Nv} (h : Nk w base S a) (hs : ∀ g, S g → S' g) : Nk w base S' a := ⟨h.keys, h.kids, fun g hg => hs g (h.sk g hg), fun g hg => hs g (h.si g hg)⟩
theorem Nk.bare (w : World) (base : Nat) (S : Nat → Prop) (x : DC.Nd) (h1 : x.keys = []) (h2 : x.kids = []) : Nk w base S (x, .slice none 0 0, .slice none 0 0) :=
  ⟨by rw [h1]; exact Own.nil w base _, by rw [h2]; exact Own.nil w base _, (by intro g h; cases h), (by intro g h; cases h)⟩
def Nds (w : World) (base : Nat) (S : Nat → Prop) (v : Value) (ns : List DC.Nd) : Prop :=
  ∃ vs : List Nv, vs.map (·.1) = ns ∧ Ownv w base v vs ∧ ∀ a ∈ vs, Nk w base S a
theorem Nds.nil (w : World) (base : Nat) (S : Nat → Prop) : Nds w base S (.slice none 0 0) [] := ⟨[], rfl, Ownv.nil w base, by simp⟩
theorem Nds.slice {w : World} {base : Nat} {S : Nat → Prop} {v : Value} {ns : List DC.Nd} (h : Nds w base S v ns) : ∃ ao cap, v = .slice ao ns.length cap := by
  obtain ⟨vs, rfl, h1, _⟩ := h
  obtain ⟨ao, cap, e⟩ := h1.slice
  exact ⟨ao, cap, by rw [e]; simp⟩
theorem Nds.kb {w w' : World} {base : Nat} {S : Nat → Prop} {v : Value} {ns : List DC.Nd} {p q : Option Nat} (h : Nds w base S v ns) (hk : Kb w w' p q) (hp : Far w S p) (hq : Far w S q) (h1 : v.ownBlock = none ∨ v.ownBlock ≠ p) (h2 : v.ownBlock = none ∨ v.ownBlock ≠ q) : Nds w' base S v ns := by
  obtain ⟨vs, e, ho, hn⟩ := h
  exact ⟨vs, e, ho.kb hk h1 h2, fun a ha => (hn a ha).kb hk hp hq⟩
theorem Nds.below {w w' : World} {base : Nat} {S : Nat → Prop} {v : Value} {ns : List DC.Nd} (h : Nds w base S v ns) (hb : Below w.heap.size w w') : Nds w' base S v ns :=
  h.kb (Kb.of_below hb none none) (Far.none _ _) (Far.none _ _) no_or no_or
theorem Nds.mono {w : World} {base : Nat} {S S' : Nat → Prop} {v : Value} {ns : List DC.Nd} (h : Nds w base S v ns) (hs : ∀ g, S g → S' g) : Nds w base S' v ns := by
  obtain ⟨vs, e, ho, hn⟩ := h
  exact ⟨vs, e, ho, fun a ha => (hn a ha).mono hs⟩
theorem Nds.rd {w : World} {base : Nat} {S : Nat → Prop} {v : Value} {ns : List DC.Nd} (h : Nds w base S v ns) : Rdoc w v ns := by
  obtain ⟨vs, e, ho, hn⟩ := h
  exact ⟨vs, e, ho.rd, fun a ha => ⟨(hn a ha).keys.rd, (hn a ha).kids.rd⟩⟩
theorem Nds.off {w : World} {base : Nat} {S : Nat → Prop} {v : Value} {ns : List DC.Nd} {p : Nat} {T : TypeId} {cs : Array Value} (h : Nds w base S v ns) (hs : Str w p T cs) (hne : 48 ≠ T) : v.ownBlock = none ∨ v.ownBlock ≠ some p := by
  obtain ⟨vs, _, ho, _⟩ := h
  exact ho.off hs (.inl hne)
theorem Nds.far {w : World} {base : Nat} {S S' : Nat → Prop} {v : Value} {ns : List DC.Nd} (h : Nds w base S v ns) : Far w S' v.ownBlock := by
  obtain ⟨vs, _, ho, _⟩ := h
  exact Far.nodes ho
theorem Nds.ge {w : World} {base : Nat} {S : Nat → Prop} {v : Value} {ns : List DC.Nd} (h : Nds w base S v ns) {g : Nat} (hg : v.ownBlock = some g) : base ≤ g ∧ g < w.heap.size := by
  obtain ⟨vs, _, ho, _⟩ := h
  exact (ho.ownBlock hg).2
theorem Nds.push {w w1 : World} {base : Nat} {S : Nat → Prop} {v v' : Value} {vs : List Nv} {a : Nv} (h : ∀ a ∈ vs, Nk w base S a) (ho : Ownv w base v vs) (hg : w.grownBy w1 v.ownBlock) (ho' : Ownv w1 base v' (vs ++ [a])) (ha : Nk w1 base S a) : Nds w1 base S v' (vs.map (·.1) ++ [a.1]) := by
  refine ⟨vs ++ [a], by simp, ho', fun b hb => ?_⟩
  rcases List.mem_append.1 hb with hb | hb
  · exact (h b hb).kb (Kb.of_grown hg none) (Far.none _ _) (Far.nodes ho)
  · obtain rfl : b = a := by simpa using hb
    exact ha
theorem Nds.put {w : World} {base : Nat} {S : Nat → Prop} {v : Value} {ns : List DC.Nd} {j : Nat} (h : Nds w base S v ns) (hj : j < ns.length) (y : Nv) (hy : Nk w base S y) :
    ∃ g cap, v = .slice (some ⟨g, 0, none⟩) ns.length cap ∧ g < w.heap.size ∧ (∀ i, w.frozen? ⟨g, i, none⟩ = false) ∧ (∃ x, At6 w g (j * 6) x) ∧ Nds (six w g (j * 6) y) base S v (ns.set j y.1) ∧ Kb w (six w g (j * 6) y) (some g) none := by
  obtain ⟨vs, rfl, ho, hn⟩ := h
  rw [List.length_map] at hj
  obtain ⟨x, hx⟩ : ∃ x, vs[j]? = some x := ⟨vs[j], List.getElem?_eq_getElem hj⟩
  obtain ⟨g, cap, rfl, h1, h2, h3, h4⟩ := ho.at hx
  obtain ⟨p1, p2⟩ := ho.put hx y
  have hf : Far w S (some g) := Far.nodes ho
  refine ⟨g, cap, by rw [List.length_map], h2, h4, ⟨x, h3⟩, ⟨vs.set j y, by rw [List.map_set], p1, fun b hb => ?_⟩, p2⟩
  rcases List.mem_or_eq_of_mem_set hb with hb | rfl
  · exact (hn b hb).kb p2 hf (Far.none _ _)
  · exact hy.kb p2 hf (Far.none _ _)
structure Pst (w0 w : World) (p : Nat) (lv nv : Value) (l : List LX.Pc) (ns : List DC.Nd) (S : Nat → Prop) : Prop where
  bl : Below w0.heap.size w0 w
  hp : w0.heap.size ≤ p
  st : Str w p 84 #[lv, nv]
  rd : Rdp w0 lv l
  nd : Nds w w0.heap.size S nv ns
  sb : ∀ g, S g → g < w.heap.size
section
variable {w0 w w' : World} {p : Nat} {lv nv : Value} {l : List LX.Pc} {ns : List DC.Nd} {S : Nat → Prop}
theorem Pst.off (h : Pst w0 w p lv nv l ns S) : nv.ownBlock = none ∨ nv.ownBlock ≠ some p := h.nd.off h.st (by decide)
theorem Pst.farp (h : Pst w0 w p lv nv l ns S) {S' : Nat → Prop} : Far w S' (some p) := Far.str h.st (by decide) (by decide)
theorem Pst.size (h : Pst w0 w p lv nv l ns S) : w0.heap.size ≤ w.heap.size := h.bl.size
theorem Pst.kb (h : Pst w0 w p lv nv l ns S) {q r : Option Nat} (hk : Kb w w' q r) (hq : Far w S q) (hr : Far w S r) (q1 : some p ≠ q) (r1 : some p ≠ r) (q2 : nv.ownBlock = none ∨ nv.ownBlock ≠ q) (r2 : nv.ownBlock = none ∨ nv.ownBlock ≠ r) (q3 : ∀ g, q = some g → w0.heap.size ≤ g) (r3 : ∀ g, r = some g → w0.heap.size ≤ g) : Pst w0 w' p lv nv l ns S :=
  ⟨h.bl.trans (hk.below h.size q3 r3), h.hp, h.st.kb hk q1 r1, h.rd, h.nd.kb hk hq hr q2 r2, fun g hg => Nat.lt_of_lt_of_le (h.sb g hg) hk.size⟩
theorem Pst.calm (h : Pst w0 w p lv nv l ns S) (hb : Below w.heap.size w w') : Pst w0 w' p lv nv l ns S :=
  h.kb (Kb.of_below hb none none) (Far.none _ _) (Far.none _ _) (by simp) (by simp) no_or no_or (by simp) (by simp)
theorem Pst.mono (h : Pst w0 w p lv nv l ns S) {S' : Nat → Prop} (hs : ∀ g, S g → S' g) (hb : ∀ g, S' g → g < w.heap.size) : Pst w0 w p lv nv l ns S' := ⟨h.bl, h.hp, h.st, h.rd, h.nd.mono hs, hb⟩
theorem Pst.left (h : Pst w0 w p lv nv l ns S) {lv' : Value} {l' : List LX.Pc} (hr : Rdp w0 lv' l') : Pst w0 (w.setCell ⟨p, 0, none⟩ lv') p lv' nv l' ns S ∧ Kb w (w.setCell ⟨p, 0, none⟩ lv') (some p) nv.ownBlock := by
  have kb := Kb.set w p 0 lv' none
  refine ⟨⟨h.bl.trans (kb.below h.size (fun g hg => by have := Option.some.inj hg; have := h.hp; omega) (by simp)), h.hp, by simpa using h.st.set 0 lv', hr, h.nd.kb kb h.farp (Far.none _ _) h.off no_or, fun g hg => Nat.lt_of_lt_of_le (h.sb g hg) kb.size⟩, Kb.set w p 0 lv' _⟩
theorem Pst.push {vs : List Nv} (h : Pst w0 w p lv nv l (vs.map (·.1)) S) {nv' : Value} {a : Nv} (hn : ∀ a ∈ vs, Nk w w0.heap.size S a) (ho : Ownv w w0.heap.size nv vs) {w1 : World} (hg : w.grownBy w1 nv.ownBlock) (ho' : Ownv w1 w0.heap.size nv' (vs ++ [a])) (ha : Nk w1 w0.heap.size S a) :
    Str w1 p 84 #[lv, nv] ∧ Pst w0 (w1.setCell ⟨p, 1, none⟩ nv') p lv nv' l (vs.map (·.1) ++ [a.1]) S ∧ Kb w (w1.setCell ⟨p, 1, none⟩ nv') (some p) nv.ownBlock := by
  have k1 := Kb.of_grown hg (some p)
  have s1 : Str w1 p 84 #[lv, nv] := h.st.kb (Kb.of_grown hg none) (by simp) (by
    rcases h.off with e | e
    · rw [e]; simp
    · exact fun e2 => e e2.symm)
  have kb := Kb.set w1 p 1 nv' none
  have b1 : Below w0.heap.size w0 w1 := h.bl.trans ((Kb.of_grown hg none).below h.size (by simp) (fun g hg => (h.nd.ge hg).1))
  have n1 := Nds.push hn ho hg ho' ha
  have f1 : Far w1 S (some p) := Far.str s1 (by decide) (by decide)
  refine ⟨s1, ⟨b1.trans (kb.below b1.size (fun g hg => by have := Option.some.inj hg; have := h.hp; omega) (by simp)), h.hp, by simpa using s1.set 1 nv', h.rd, n1.kb kb f1 (Far.none _ _) (ho'.off s1 (.inl (by decide))) no_or, fun g hg => Nat.lt_of_lt_of_le (h.sb g hg) (Nat.le_trans k1.size kb.size)⟩, k1.trans (Kb.set w1 p 1 nv' _)⟩
end
theorem Rdp.slice {w : World} {v : Value} {l : List LX.Pc} (h : Rdp w v l) : ∃ ao cap, v = .slice ao l.length cap ∧ l.length ≤ cap ∧ cap ≤ maxLen := by
  obtain ⟨ao, cap, e, h1, h2, _⟩ := h
  exact ⟨ao, cap, e, h1, h2⟩
theorem Rdp.first {w : World} {v : Value} {x : LX.Pc} {l : List LX.Pc} (h : Rdp w v (x :: l)) : ∃ b off cap, v = .slice (some ⟨b, off, none⟩) (l.length + 1) cap ∧ l.length + 1 ≤ cap ∧ cap ≤ maxLen ∧ At5 w b off x ∧ Rdp w (.slice (some ⟨b, off + 5, none⟩) l.length (cap - 1)) l := by
  obtain ⟨ao, cap, e, h1, h2, _, h4⟩ := h
  obtain ⟨b, off, rfl, c⟩ := h4 0 x rfl
  simp only [List.length_cons] at e h1
  refine ⟨b, off, cap, e, h1, h2, by simpa using c, some ⟨b, off + 5, none⟩, cap - 1, rfl, by omega, by omega, (by intro h; cases h), fun j y hy => ?_⟩
  obtain ⟨b', off', e', c'⟩ := h4 (j + 1) y (by simpa using hy)
  simp only [Option.some.injEq, Addr.mk.injEq, and_true] at e'
  obtain ⟨rfl, rfl⟩ := e'
  refine ⟨b, off + 5, rfl, ?_⟩
  rw [show off + (j + 1) * 5 = off + 5 + j * 5 by omega] at c'
  exact c'
end Go.Proofs.YtgfhabofhefaaaaGreatDoor
namespace Go.Proofs.YtgfhabofhefaaaaGreatDoor
open Go.RowKit
def Texts (l : List LX.Pc) : Prop := ∀ x ∈ l, x.2.2.2.1.length ≤ 9223372036854775807
theorem Texts.tail {x : LX.Pc} {l : List LX.Pc} (h : Texts (x :: l)) : Texts l := fun y hy => h y (by simp [hy])
theorem Texts.suf {l t r : List LX.Pc} (h : Texts l) (e : l = t ++ r) : Texts r := fun y hy => h y (by rw [e]; simp [hy])
def More (S : Nat → Prop) (w w' : World) (g : Nat) : Prop := S g ∨ (w.heap.size ≤ g ∧ g < w'.heap.size)
def BlkE (w0 w : World) (p : Nat) (nv : Value) (ns : List DC.Nd) (S : Nat → Prop) (r : DC.BR) (e : Ending) (w' : World) : Prop :=
  Kb w w' (some p) nv.ownBlock ∧ match r with
  | .bad k n => e = .panicked (gaveD k n)
  | .ok a => e = .returned (.int .i64 (ns.length : Int)) ∧ ∃ lv' nv', Pst w0 w' p lv' nv' a.2 (ns ++ a.1) (More S w w') ∧ Near w nv nv'
theorem BlkE.from {w0 w w1 w' : World} {p : Nat} {nv : Value} {ns : List DC.Nd} {S : Nat → Prop} {r : DC.BR} {e : Ending} (hk : Kb w w1 (some p) nv.ownBlock) (h : BlkE w0 w1 p nv ns S r e w') : BlkE w0 w p nv ns S r e w' := by
  obtain ⟨h1, h2⟩ := h
  refine ⟨hk.trans h1, ?_⟩
  cases r with
  | bad k n => exact h2
  | ok a =>
    obtain ⟨he, lv', nv', hp, hn⟩ := h2
    refine ⟨he, lv', nv', hp.mono (fun g hg => hg.imp id fun hg => ⟨Nat.le_trans hk.size hg.1, hg.2⟩) (fun g hg => ?_), ?_⟩
    · rcases hg with hg | hg
      · exact hp.sb g (.inl hg)
      · exact hg.2
    · rcases hn with hn | hn
      · exact .inl hn
      · exact .inr fun g hg => Nat.le_trans hk.size (hn g hg)
end Go.Proofs.YtgfhabofhefaaaaGreatDoor
namespace Go.Proofs.YtgfhabofhefaaaaGreatDoor
open Go.RowKit
structure ItS (w0 w wr : World) (p : Nat) (nv lv' nv' kv v : Value) (l' : List LX.Pc) (ns : List DC.Nd) (S Sk : Nat → Prop) (ks : List LX.B) (is : List Nat) : Prop where
  ps : Pst w0 wr p lv' nv' l' ns Sk
  kb : Kb w wr (some p) nv.ownBlock
  nr : Near w nv nv'
  keys : Own wr w.heap.size 9 kv (sv ks)
  kids : Own wr w.heap.size 3 v (nats is)
  sub : ∀ g, Sk g → More S w wr g
  ak : ∀ g, kv.ownBlock = some g → ¬ Sk g
  ai : ∀ g, v.ownBlock = some g → ¬ Sk g
  gz : w0.heap.size ≤ w.heap.size
theorem ItS.start {w0 w : World} {p : Nat} {lv nv : Value} {l : List LX.Pc} {ns : List DC.Nd} {S : Nat → Prop} (h : Pst w0 w p lv nv l ns S) : ItS w0 w w p nv lv nv (.slice none 0 0) (.slice none 0 0) l ns S S [] [] :=
  ⟨h, Kb.refl _ _ _, Near.refl _ _, Own.nil _ _ _, Own.nil _ _ _, fun g hg => .inl hg, (by intro g h; cases h), (by intro g h; cases h), h.bl.size⟩
section
variable {w0 w wr : World} {p : Nat} {nv lv' nv' kv v : Value} {l' : List LX.Pc} {ns : List DC.Nd} {S Sk : Nat → Prop} {ks : List LX.B} {is : List Nat}
theorem Own.ne_str {w : World} {base : Nat} {e T : TypeId} {v : Value} {xs : List Value} {p : Nat} {cs : Array Value} (h : Own w base e v xs) (hs : Str w p T cs) (hne : T ≠ e) : v.ownBlock = none ∨ v.ownBlock ≠ some p := by
  cases hg : v.ownBlock with
  | none => exact .inl rfl
  | some g => exact .inr (by rw [← hg]; exact hs.apart h hne)
theorem Own.ne_nds {w : World} {base base' : Nat} {S : Nat → Prop} {e : TypeId} {v nv : Value} {xs : List Value} {ns : List DC.Nd} (h : Own w base e v xs) (hn : Nds w base' S nv ns) (hne : e ≠ 48) : (v.ownBlock = none ∨ v.ownBlock ≠ nv.ownBlock) ∧ (nv.ownBlock = none ∨ nv.ownBlock ≠ v.ownBlock) := by
  obtain ⟨vs, _, ho, _⟩ := hn
  have key : ∀ g, v.ownBlock = some g → nv.ownBlock = some g → False := fun g h1 h2 => by
    obtain ⟨c, hc⟩ := h.block h1
    obtain ⟨⟨c', hc'⟩, _⟩ := ho.ownBlock h2
    rw [hc] at hc'
    simp at hc'
    exact hne hc'.2
  constructor
  · cases hg : v.ownBlock with
    | none => exact .inl rfl
    | some g => exact .inr fun e => key g hg e.symm
  · cases hg : nv.ownBlock with
    | none => exact .inl rfl
    | some g => exact .inr fun e => key g e.symm hg
theorem ItS.fed (h : ItS w0 w wr p nv lv' nv' kv v l' ns S Sk ks is) {w2 : World} {lv2 nv2 : Value} {r : List LX.Pc} {ns2 : List DC.Nd} (hk : Kb wr w2 (some p) nv'.ownBlock) (hp : Pst w0 w2 p lv2 nv2 r ns2 (More Sk wr w2)) (hn : Near wr nv' nv2) :
    ItS w0 w w2 p nv lv2 nv2 kv v r ns2 S (More Sk wr w2) ks is := by
  refine ⟨hp, h.kb.near h.nr hk, h.nr.trans hn h.kb.size, h.keys.kb hk (h.keys.ne_str h.ps.st (by decide)) (h.keys.ne_nds h.ps.nd (by decide)).1, h.kids.kb hk (h.kids.ne_str h.ps.st (by decide)) (h.kids.ne_nds h.ps.nd (by decide)).1, fun g hg => ?_, fun g hg => ?_, fun g hg => ?_, h.gz⟩
  · rcases hg with hg | hg
    · rcases h.sub g hg with h1 | h1
      · exact .inl h1
      · exact .inr ⟨h1.1, Nat.lt_of_lt_of_le h1.2 hk.size⟩
    · exact .inr ⟨Nat.le_trans h.kb.size hg.1, hg.2⟩
  · rintro (h1 | h1)
    · exact h.ak g hg h1
    · have := (h.keys.lt hg).2; omega
  · rintro (h1 | h1)
    · exact h.ai g hg h1
    · have := (h.kids.lt hg).2; omega
theorem ItS.calm (h : ItS w0 w wr p nv lv' nv' kv v l' ns S Sk ks is) {w' : World} (hb : Below wr.heap.size wr w') : ItS w0 w w' p nv lv' nv' kv v l' ns S Sk ks is :=
  ⟨h.ps.calm hb, h.kb.trans (Kb.of_below hb _ _), h.nr, h.keys.below hb, h.kids.below hb, fun g hg => (h.sub g hg).imp id fun hg => ⟨hg.1, Nat.lt_of_lt_of_le hg.2 hb.size⟩, h.ak, h.ai, h.gz⟩
theorem ItS.own_turn (h : ItS w0 w wr p nv lv' nv' kv v l' ns S Sk ks is) {w' : World} {x : Value} {e : TypeId} {xs : List Value} (hx : Own wr w.heap.size e x xs) (he1 : e ≠ 84) (he2 : e ≠ 48) (hs : ∀ g, x.ownBlock = some g → ¬ Sk g) (hg : wr.grownBy w' x.ownBlock) :
    Pst w0 w' p lv' nv' l' ns Sk ∧ Kb w w' (some p) nv.ownBlock := by
  have hkb := Kb.of_grown hg none
  have np : some p ≠ x.ownBlock := fun e1 => by
    rcases hx.ne_str h.ps.st (fun e => he1 e.symm) with h1 | h1
    · rw [h1] at e1; cases e1
    · exact h1 e1.symm
  refine ⟨h.ps.kb hkb (Far.none _ _) (Far.not hs) (by simp) np no_or (hx.ne_nds h.ps.nd he2).2 (by simp) (fun g hg => ?_), ?_⟩
  · exact Nat.le_trans h.gz (hx.lt hg).1
  · refine h.kb.trans_new (q' := x.ownBlock) (Kb.of_grown hg _) fun g hg => .inr (hx.lt hg).1
theorem ItS.key (h : ItS w0 w wr p nv lv' nv' kv v l' ns S Sk ks is) {w' : World} {kv' : Value} {ks' : List LX.B} (hg : wr.grownBy w' kv.ownBlock) (ho : Own w' w.heap.size 9 kv' (sv ks')) (hn : Near wr kv kv') : ItS w0 w w' p nv lv' nv' kv' v l' ns S Sk ks' is := by
  obtain ⟨h1, h2⟩ := h.own_turn h.keys (by decide) (by decide) h.ak hg
  refine ⟨h1, h2, h.nr, ho, h.kids.kb (Kb.of_grown hg none) no_or (h.kids.apart h.keys (by decide)), fun g hg' => (h.sub g hg').imp id fun h3 => ⟨h3.1, Nat.lt_of_lt_of_le h3.2 hg.size⟩, fun g hg' => ?_, h.ai, h.gz⟩
  rcases hn with hn | hn
  · exact h.ak g (by rw [← hn]; exact hg')
  · intro hs; have := hn g hg'; have := h.ps.sb g hs; omega
theorem ItS.kid (h : ItS w0 w wr p nv lv' nv' kv v l' ns S Sk ks is) {w' : World} {v' : Value} {is' : List Nat} (hg : wr.grownBy w' v.ownBlock) (ho : Own w' w.heap.size 3 v' (nats is')) (hn : Near wr v v') : ItS w0 w w' p nv lv' nv' kv v' l' ns S Sk ks is' := by
  obtain ⟨h1, h2⟩ := h.own_turn h.kids (by decide) (by decide) h.ai hg
  refine ⟨h1, h2, h.nr, h.keys.kb (Kb.of_grown hg none) no_or (h.keys.apart h.kids (by decide)), ho, fun g hg' => (h.sub g hg').imp id fun h3 => ⟨h3.1, Nat.lt_of_lt_of_le h3.2 hg.size⟩, h.ak, fun g hg' => ?_, h.gz⟩
  rcases hn with hn | hn
  · exact h.ai g (by rw [← hn]; exact hg')
  · intro hs; have := hn g hg'; have := h.ps.sb g hs; omega
end
theorem Own.slice {w : World} {base : Nat} {e : TypeId} {v : Value} {xs : List Value} (h : Own w base e v xs) : ∃ ao cap, v = .slice ao xs.length cap := by
  rcases h.2 with ⟨hv, hn⟩ | ⟨g, cap, cur, hv, _⟩
  · exact ⟨none, 0, by rw [hv, hn]⟩
  · exact ⟨_, cap, hv⟩
theorem Tryz.info_int : (Tryz.prog.info? 3).map (fun i => (i.zero, i.size, i.bytes)) = some (some (.int .i64 0), 1, 8) := by kernel_rfl
theorem Tryz.info_string : (Tryz.prog.info? 9).map (fun i => (i.zero, i.size, i.bytes)) = some (some (.string ⟨#[]⟩), 1, 16) := by kernel_rfl
theorem one_rd_at {w : World} {e : TypeId} (u : Value) (g : Nat) (hg : w.heap.size = g) : Rdv (w.alloc (.cells #[u] e)) (.slice (some ⟨g, 0, none⟩) 1 1) [u] := by
  have h := Own.lit (base := w.heap.size) (e := e) w [u] (Nat.le_refl _) (by simp [maxLen])
  rw [← hg]
  exact h.rd
end Go.Proofs.YtgfhabofhefaaaaGreatDoor
namespace Go.Proofs.YtgfhabofhefaaaaGreatDoor
open Go.RowKit
theorem nats_ints (l : List Nat) : nats l = ints (l.map fun n : Nat => (n : Int)) := by simp [nats, ints]
theorem Rdoc.rdi {w : World} {v : Value} {ns : List DC.Nd} (h : Rdoc w v ns) : Rdi w v (ns.map SH.up) := by
  obtain ⟨vs, hv, ⟨ao, cap, e, h1, h2, h3, h4⟩, hk⟩ := h
  refine ⟨vs.map (fun a => (SH.up a.1, a.2.1, a.2.2)), ao, cap, ?_, ?_, ?_, h2, h3, ?_, ?_⟩
  · rw [← hv, List.map_map, List.map_map]; rfl
  · rw [e, ← hv]; simp
  · rw [← hv]; simpa using h1
  · intro j x hx
    rw [List.getElem?_map] at hx
    obtain ⟨y, hy, rfl⟩ := Option.map_eq_some_iff.1 hx
    obtain ⟨b, off, e2, c⟩ := h4 j y hy
    exact ⟨b, off, e2, c.c0, c.c1, c.c2, c.c3, c.c4, c.c5⟩
  · intro a ha
    obtain ⟨y, hy, rfl⟩ := List.mem_map.1 ha
    obtain ⟨k1, k2⟩ := hk y hy
    refine ⟨k1, ?_⟩
    have : Rdv w y.2.2 (ints (y.1.kids.map fun n : Nat => (n : Int))) := by rw [← nats_ints]; exact k2
    exact this
theorem two_docs (w : World) (x f g : Value) : Str ((w.alloc (.cells #[x] 26)).alloc (.cells #[f, g] 39)) w.heap.size 26 #[x] ∧ Str ((w.alloc (.cells #[x] 26)).alloc (.cells #[f, g] 39)) (w.heap.size + 1) 39 #[f, g] ∧ Below w.heap.size w ((w.alloc (.cells #[x] 26)).alloc (.cells #[f, g] 39)) := by
  have b1 := below_alloc w (.cells #[x] 26)
  have b2 := below_alloc (w.alloc (.cells #[x] 26)) (.cells #[f, g] 39)
  have s2 := Str.new (w.alloc (.cells #[x] 26)) 39 #[f, g]
  rw [bx_size] at s2
  exact ⟨(Str.new w 26 #[x]).below b2, s2, below_trans b1 b2⟩
end Go.Proofs.YtgfhabofhefaaaaGreatDoor
namespace Go.Proofs.YtgfhabofhefaaaaGreatDoor
open Go.RowKit
def Ap (u v : Value) : Prop := ∀ g, u.ownBlock = some g → v.ownBlock = some g → False
theorem Ap.symm {u v : Value} (h : Ap u v) : Ap v u := fun g h1 h2 => h g h2 h1
theorem Ap.or {u v : Value} (h : Ap u v) : u.ownBlock = none ∨ u.ownBlock ≠ v.ownBlock := by
  cases hu : u.ownBlock with
  | none => exact .inl rfl
  | some g => exact .inr fun e => h g hu e.symm
theorem Ap.of {u v : Value} (h : u.ownBlock = none ∨ u.ownBlock ≠ v.ownBlock) : Ap u v := fun g h1 h2 => by
  rcases h with h | h
  · rw [h] at h1; cases h1
  · exact h (h1.trans h2.symm)
theorem Ap.none (v : Value) : Ap v (.slice Option.none 0 0) := fun g _ h => by cases h
theorem Ap.near {w : World} {u v v' : Value} {base : Nat} {e : TypeId} {xs : List Value} (h : Ap u v) (hn : Near w v v') (hu : Own w base e u xs) : Ap u v' := Ap.of (hn.apart hu h.or)
theorem Own.ap {w : World} {base base' : Nat} {e e' : TypeId} {u v : Value} {xs ys : List Value} (h : Own w base e u xs) (k : Own w base' e' v ys) (hne : e ≠ e') : Ap u v := fun g h1 h2 => by
  obtain ⟨c, hc⟩ := h.block h1
  obtain ⟨c', hc'⟩ := k.block h2
  rw [hc] at hc'
  simp at hc'
  exact hne hc'.2
structure Wnk (w : World) (base : Nat) (vs : List Nv) : Prop where
  keys : ∀ (i : Nat) a, vs[i]? = some a → Own w base 9 a.2.1 (sv a.1.keys)
  kids : ∀ (i : Nat) a, vs[i]? = some a → Own w base 3 a.2.2 (nats a.1.kids)
  ak : ∀ (i j : Nat) a b, i ≠ j → vs[i]? = some a → vs[j]? = some b → Ap a.2.1 b.2.1
  ai : ∀ (i j : Nat) a b, i ≠ j → vs[i]? = some a → vs[j]? = some b → Ap a.2.2 b.2.2
theorem Wnk.nil (w : World) (base : Nat) : Wnk w base [] := ⟨by simp, by simp, by simp, by simp⟩
theorem Wnk.kb {w w' : World} {base : Nat} {vs : List Nv} {p q : Option Nat} (h : Wnk w base vs) (hk : Kb w w' p q) (hp : Far w (fun _ => True) p) (hq : Far w (fun _ => True) q) : Wnk w' base vs :=
  ⟨fun i a ha => (h.keys i a ha).kb hk ((h.keys i a ha).far (.inl rfl) (fun _ _ => trivial) hp) ((h.keys i a ha).far (.inl rfl) (fun _ _ => trivial) hq),
   fun i a ha => (h.kids i a ha).kb hk ((h.kids i a ha).far (.inr rfl) (fun _ _ => trivial) hp) ((h.kids i a ha).far (.inr rfl) (fun _ _ => trivial) hq), h.ak, h.ai⟩
theorem Wnk.push {w : World} {base : Nat} {vs : List Nv} {x : DC.Nd} (h : Wnk w base vs) (h1 : x.keys = []) (h2 : x.kids = []) : Wnk w base (vs ++ [(x, .slice none 0 0, .slice none 0 0)]) := by
  have key : ∀ (i : Nat) a, (vs ++ [(x, (.slice none 0 0 : Value), (.slice none 0 0 : Value))])[i]? = some a → vs[i]? = some a ∨ a = (x, .slice none 0 0, .slice none 0 0) := fun i a ha => by
    rcases Nat.lt_or_ge i vs.length with hi | hi
    · rw [List.getElem?_append_left hi] at ha
      exact .inl ha
    · rw [List.getElem?_append_right hi] at ha
      exact .inr (List.mem_singleton.1 (List.mem_of_getElem? ha))
  refine ⟨fun i a ha => ?_, fun i a ha => ?_, fun i j a b hij ha hb => ?_, fun i j a b hij ha hb => ?_⟩
  · rcases key i a ha with ha | rfl
    · exact h.keys i a ha
    · simp only [h1]; exact Own.nil w base _
  · rcases key i a ha with ha | rfl
    · exact h.kids i a ha
    · simp only [h2]; exact Own.nil w base _
  · rcases key j b hb with hb | rfl
    · rcases key i a ha with ha | rfl
      · exact h.ak i j a b hij ha hb
      · exact (Ap.none _).symm
    · exact Ap.none _
  · rcases key j b hb with hb | rfl
    · rcases key i a ha with ha | rfl
      · exact h.ai i j a b hij ha hb
      · exact (Ap.none _).symm
    · exact Ap.none _
theorem set_at {α : Type} {l : List α} {n i : Nat} {y a : α} (h : (l.set n y)[i]? = some a) : (i ≠ n ∧ l[i]? = some a) ∨ (i = n ∧ a = y) := by
  rw [List.getElem?_set] at h
  split at h
  · rename_i e
    split at h
    · exact .inr ⟨e.symm, (Option.some.inj h).symm⟩
    · cases h
  · rename_i e
    exact .inl ⟨fun e2 => e e2.symm, h⟩
theorem Wnk.key {w w1 : World} {base : Nat} {vs : List Nv} {n : Nat} {a : Nv} {kv : Value} {ks : List LX.B} (h : Wnk w base vs) (ha : vs[n]? = some a) (hg : w.grownBy w1 a.2.1.ownBlock) (ho : Own w1 base 9 kv (sv ks)) (hn : Near w a.2.1 kv) :
    Wnk w1 base (vs.set n ({ a.1 with keys := ks }, kv, a.2.2)) := by
  have hk := Kb.of_grown hg none
  refine ⟨fun i b hb => ?_, fun i b hb => ?_, fun i j b c hij hb hc => ?_, fun i j b c hij hb hc => ?_⟩
  · rcases set_at hb with ⟨hi, hb1⟩ | ⟨rfl, rfl⟩
    · exact (h.keys i b hb1).kb hk no_or (h.ak i n b a hi hb1 ha).or
    · exact ho
  · rcases set_at hb with ⟨hi, hb1⟩ | ⟨rfl, rfl⟩
    · exact (h.kids i b hb1).kb hk no_or ((h.kids i b hb1).ap (h.keys n a ha) (by decide)).or
    · exact (h.kids i a ha).kb hk no_or ((h.kids i a ha).ap (h.keys i a ha) (by decide)).or
  · rcases set_at hb with ⟨hi, hb1⟩ | ⟨rfl, rfl⟩
    · rcases set_at hc with ⟨hj, hc1⟩ | ⟨rfl, rfl⟩
      · exact h.ak i j b c hij hb1 hc1
      · exact (h.ak i j b a hij hb1 ha).near hn (h.keys i b hb1)
    · rcases set_at hc with ⟨hj, hc1⟩ | ⟨rfl, rfl⟩
      · exact ((h.ak j i c a (Ne.symm hij) hc1 ha).near hn (h.keys j c hc1)).symm
      · exact absurd rfl hij
  · rcases set_at hb with ⟨hi, hb1⟩ | ⟨rfl, rfl⟩
    · rcases set_at hc with ⟨hj, hc1⟩ | ⟨rfl, rfl⟩
      · exact h.ai i j b c hij hb1 hc1
      · exact h.ai i j b a hij hb1 ha
    · rcases set_at hc with ⟨hj, hc1⟩ | ⟨rfl, rfl⟩
      · exact h.ai i j a c hij ha hc1
      · exact absurd rfl hij
theorem Wnk.kid {w w1 : World} {base : Nat} {vs : List Nv} {n : Nat} {a : Nv} {kv : Value} {ks : List Nat} (h : Wnk w base vs) (ha : vs[n]? = some a) (hg : w.grownBy w1 a.2.2.ownBlock) (ho : Own w1 base 3 kv (nats ks)) (hn : Near w a.2.2 kv) :
    Wnk w1 base (vs.set n ({ a.1 with kids := ks }, a.2.1, kv)) := by
  have hk := Kb.of_grown hg none
  refine ⟨fun i b hb => ?_, fun i b hb => ?_, fun i j b c hij hb hc => ?_, fun i j b c hij hb hc => ?_⟩
  · rcases set_at hb with ⟨hi, hb1⟩ | ⟨rfl, rfl⟩
    · exact (h.keys i b hb1).kb hk no_or ((h.keys i b hb1).ap (h.kids n a ha) (by decide)).or
    · exact (h.keys i a ha).kb hk no_or ((h.keys i a ha).ap (h.kids i a ha) (by decide)).or
  · rcases set_at hb with ⟨hi, hb1⟩ | ⟨rfl, rfl⟩
    · exact (h.kids i b hb1).kb hk no_or (h.ai i n b a hi hb1 ha).or
    · exact ho
  · rcases set_at hb with ⟨hi, hb1⟩ | ⟨rfl, rfl⟩
    · rcases set_at hc with ⟨hj, hc1⟩ | ⟨rfl, rfl⟩
      · exact h.ak i j b c hij hb1 hc1
      · exact h.ak i j b a hij hb1 ha
    · rcases set_at hc with ⟨hj, hc1⟩ | ⟨rfl, rfl⟩
      · exact h.ak i j a c hij ha hc1
      · exact absurd rfl hij
  · rcases set_at hb with ⟨hi, hb1⟩ | ⟨rfl, rfl⟩
    · rcases set_at hc with ⟨hj, hc1⟩ | ⟨rfl, rfl⟩
      · exact h.ai i j b c hij hb1 hc1
      · exact (h.ai i j b a hij hb1 ha).near hn (h.kids i b hb1)
    · rcases set_at hc with ⟨hj, hc1⟩ | ⟨rfl, rfl⟩
      · exact ((h.ai j i c a (Ne.symm hij) hc1 ha).near hn (h.kids j c hc1)).symm
      · exact absurd rfl hij
theorem wcs_set1 : ∀ {ls : List Nv} {j : Nat} {x : Nv} (y : Nv) (i : Nat) (u : Value), ls[j]? = some x → i < 6 → (nc1 x).set i u = nc1 y → (ncs ls).set (j * 6 + i) u = ncs (ls.set j y)
  | [], _, _, _, _, _, h, _, _ => by simp at h
  | x :: ls, 0, s, y, i, u, h, hi, he => by
    have : x = s := by simpa using h
    subst this
    rw [ncs_cons, List.set_cons_zero, ncs_cons, ← he, List.set_append_left _ _ (by simp [nc1]; omega)]
    congr 2
    omega
  | x :: ls, j + 1, s, y, i, u, h, hi, he => by
    have h' : ls[j]? = some s := by simpa using h
    rw [List.set_cons_succ, ncs_cons, ncs_cons, ← wcs_set1 y i u h' hi he]
    have e : (nc1 x).length = 6 := rfl
    rw [List.set_append_right _ _ (by rw [e]; omega), e]
    congr 2
    omega
theorem Ownv.putc {w : World} {base g cap : Nat} {ls : List Nv} {j : Nat} {x : Nv} (h : Ownv w base (.slice (some ⟨g, 0, none⟩) ls.length cap) ls) (hj : ls[j]? = some x) (y : Nv) (i : Nat) (u : Value) (hi : i < 6) (he : (nc1 x).set i u = nc1 y) :
    Ownv (w.setCell ⟨g, j * 6 + i, none⟩ u) base (.slice (some ⟨g, 0, none⟩) ls.length cap) (ls.set j y) ∧ Kb w (w.setCell ⟨g, j * 6 + i, none⟩ u) (some g) none := by
  have s0 := World.ownsRow.stored h (j * 6 + i) u
  refine ⟨?_, Kb.set w g _ _ none⟩
  have := s0.1
  rw [wcs_set1 y i u hj hi he] at this
  show World.ownsRow _ _ _ _ _ _ _
  rw [List.length_set]
  exact this
def Kw (w w' : World) : Prop := ∀ (g : Nat) (cs : Array Value) (T : TypeId), w.heap[g]? = some (Obj.cells cs T (0, 0)) → T ≠ 52 → T ≠ 48 → T ≠ 9 → T ≠ 3 → w'.heap[g]? = some (Obj.cells cs T (0, 0))
theorem Kw.refl (w : World) : Kw w w := fun _ _ _ h _ _ _ _ => h
theorem Kw.trans {a b c : World} (h : Kw a b) (k : Kw b c) : Kw a c := fun g cs T h1 h2 h3 h4 h5 => k g cs T (h g cs T h1 h2 h3 h4 h5) h2 h3 h4 h5
theorem Kw.of_below {w w' : World} (hb : Below w.heap.size w w') : Kw w w' := fun g _ _ h1 _ _ _ _ => (hb.block g (Array.getElem?_eq_some_iff.1 h1).1).trans h1
theorem Kw.str {w w' : World} {p : Nat} {T : TypeId} {cs : Array Value} (h : Kw w w') (hs : Str w p T cs) (h2 : T ≠ 52) (h3 : T ≠ 48) (h4 : T ≠ 9) (h5 : T ≠ 3) : Str w' p T cs := h p cs T hs h2 h3 h4 h5
def Wk (w : World) (p : Option Nat) : Prop := ∀ (g : Nat), p = some g → ∀ (cs : Array Value) (T : TypeId), w.heap[g]? = some (Obj.cells cs T (0, 0)) → T = 52 ∨ T = 48 ∨ T = 9 ∨ T = 3
theorem Kw.of_kb {w w' : World} {p q : Option Nat} (h : Kb w w' p q) (hp : Wk w p) (hq : Wk w q) : Kw w w' := fun g cs T h1 h2 h3 h4 h5 => by
  refine (h.block g (Array.getElem?_eq_some_iff.1 h1).1 (fun e => ?_) (fun e => ?_)).trans h1
  · rcases hp g e.symm cs T h1 with h | h | h | h
    · exact h2 h
    · exact h3 h
    · exact h4 h
    · exact h5 h
  · rcases hq g e.symm cs T h1 with h | h | h | h
    · exact h2 h
    · exact h3 h
    · exact h4 h
    · exact h5 h
theorem Wk.none (w : World) : Wk w none := by intro g h; cases h
theorem Wk.str {w : World} {p : Nat} {T : TypeId} {cs : Array Value} (h : Str w p T cs) (hT : T = 52 ∨ T = 48 ∨ T = 9 ∨ T = 3) : Wk w (some p) := by
  intro g hg cs' T' h'
  obtain rfl := Option.some.inj hg
  have h2 : w.heap[p]? = some (.cells cs T (0, 0)) := h
  rw [h2] at h'
  simp at h'
  exact h'.2 ▸ hT
theorem Wk.own {w : World} {base : Nat} {e : TypeId} {v : Value} {xs : List Value} (h : Own w base e v xs) (hT : e = 52 ∨ e = 48 ∨ e = 9 ∨ e = 3) : Wk w v.ownBlock := by
  intro g hg cs' T' h'
  obtain ⟨c, hc⟩ := h.block hg
  rw [hc] at h'
  simp at h'
  exact h'.2 ▸ hT
theorem Wk.nodes {w : World} {base : Nat} {v : Value} {vs : List Nv} (h : Ownv w base v vs) : Wk w v.ownBlock := by
  intro g hg cs' T' h'
  obtain ⟨⟨cur, hc⟩, _⟩ := h.ownBlock hg
  rw [hc] at h'
  simp at h'
  exact .inr (.inl h'.2.symm)
structure Wrt (w0 w : World) (p : Nat) (nv : Value) (T : Nat) (vs : List Nv) : Prop where
  bl : Below w0.heap.size w0 w
  hp : w0.heap.size ≤ p
  st : Str w p 52 #[nv]
  nd : Ownv w w0.heap.size nv vs
  nk : Wnk w w0.heap.size vs
  tl : ∀ a ∈ vs, a.1.keys.length ≤ T ∧ a.1.kids.length ≤ T
section
variable {w0 w w' w1 : World} {p : Nat} {nv nv' : Value} {T : Nat} {vs : List Nv}
theorem Wrt.size (h : Wrt w0 w p nv T vs) : w0.heap.size ≤ w.heap.size := h.bl.size
theorem Wrt.off (h : Wrt w0 w p nv T vs) : nv.ownBlock = none ∨ nv.ownBlock ≠ some p := h.nd.off h.st (.inl (by decide))
theorem Wrt.calm (h : Wrt w0 w p nv T vs) (hb : Below w.heap.size w w') : Wrt w0 w' p nv T vs :=
  ⟨h.bl.trans (hb.mono h.size), h.hp, h.st.below hb, h.nd.below hb, h.nk.kb (Kb.of_below hb none none) (Far.none _ _) (Far.none _ _), h.tl⟩
theorem Wrt.len (h : Wrt w0 w p nv T vs) : ∃ ao cap, nv = .slice ao vs.length cap := h.nd.slice
theorem Wrt.push {x : DC.Nd} (h : Wrt w0 w p nv T vs) (hg : w.grownBy w1 nv.ownBlock) (ho : Ownv w1 w0.heap.size nv' (vs ++ [(x, .slice none 0 0, .slice none 0 0)])) (h1 : x.keys = []) (h2 : x.kids = []) :
    Str w1 p 52 #[nv] ∧ Wrt w0 (w1.setCell ⟨p, 0, none⟩ nv') p nv' T (vs ++ [(x, .slice none 0 0, .slice none 0 0)]) ∧ Kw w (w1.setCell ⟨p, 0, none⟩ nv') := by
  have k1 := Kb.of_grown hg none
  have s1 : Str w1 p 52 #[nv] := h.st.kb k1 (by simp) (by
    rcases h.off with e | e
    · rw [e]; simp
    · exact fun e2 => e e2.symm)
  have kb := Kb.set w1 p 0 nv' none
  have b1 : Below w0.heap.size w0 w1 := h.bl.trans (k1.below h.size (by simp) (fun g hg => (h.nd.ownBlock hg).2.1))
  have n1 := (h.nk.kb k1 (Far.none _ _) (Far.nodes h.nd)).push h1 h2
  have f1 : Far w1 (fun _ => True) (some p) := Far.str s1 (by decide) (by decide)
  refine ⟨s1, ⟨b1.trans (kb.below b1.size (fun g hg => by have := Option.some.inj hg; have := h.hp; omega) (by simp)), h.hp, by simpa using s1.set 0 nv', ho.kb kb (ho.off s1 (.inl (by decide))) no_or, n1.kb kb f1 (Far.none _ _), fun a ha => ?_⟩, ?_⟩
  · rcases List.mem_append.1 ha with ha | ha
    · exact h.tl a ha
    · obtain rfl := List.mem_singleton.1 ha
      simp [h1, h2]
  · exact (Kw.of_kb k1 (Wk.none _) (Wk.nodes h.nd)).trans (Kw.of_kb kb (Wk.str s1 (.inl rfl)) (Wk.none _))
theorem Wrt.key {n : Nat} {a : Nv} {kv : Value} {key : LX.B} (h : Wrt w0 w p nv T vs) (ha : vs[n]? = some a) (hg : w.grownBy w1 a.2.1.ownBlock) (ho : Own w1 w0.heap.size 9 kv (sv (a.1.keys ++ [key]))) (hn : Near w a.2.1 kv) :
    ∃ g cap, nv = .slice (some ⟨g, 0, none⟩) vs.length cap ∧ At6 w g (n * 6) a ∧ At6 w1 g (n * 6) a ∧ Str w1 p 52 #[nv] ∧ (∀ i, w1.frozen? ⟨g, i, none⟩ = false) ∧
    Wrt w0 (w1.setCell ⟨g, n * 6 + 4, none⟩ kv) p nv (T + 1) (vs.set n ({ a.1 with keys := a.1.keys ++ [key] }, kv, a.2.2)) ∧ Kw w (w1.setCell ⟨g, n * 6 + 4, none⟩ kv) := by
  obtain ⟨g, cap, rfl, g1, g2, g3, g4⟩ := h.nd.at ha
  have hk := h.nk.keys n a ha
  have k1 := Kb.of_grown hg none
  have np : a.2.1.ownBlock = none ∨ a.2.1.ownBlock ≠ some p := hk.ne_str h.st (by decide)
  have nn : a.2.1.ownBlock ≠ some g := fun e => by
    obtain ⟨c, hc⟩ := hk.block e
    obtain ⟨⟨cur, hc'⟩, _⟩ := h.nd.ownBlock (g := g) rfl
    rw [hc] at hc'
    simp at hc'
  have s1 : Str w1 p 52 #[.slice (some ⟨g, 0, none⟩) vs.length cap] := h.st.kb k1 (by simp) (by
    rcases np with e | e
    · rw [e]; simp
    · exact fun e2 => e e2.symm)
  have o1 : Ownv w1 w0.heap.size (.slice (some ⟨g, 0, none⟩) vs.length cap) vs := h.nd.kb k1 no_or (.inr (by
    intro e
    exact nn e.symm))
  obtain ⟨g', cap', e', _, _, q3, q4⟩ := o1.at ha
  simp only [Value.slice.injEq, Option.some.injEq, Addr.mk.injEq, and_true, true_and] at e'
  obtain ⟨rfl, rfl⟩ := e'
  obtain ⟨p1, p2⟩ := o1.putc ha ({ a.1 with keys := a.1.keys ++ [key] }, kv, a.2.2) 4 kv (by decide) rfl
  have b1 : Below w0.heap.size w0 w1 := h.bl.trans (k1.below h.size (by simp) (fun g hg => (hk.lt hg).1))
  have n1 := h.nk.key ha hg ho hn
  refine ⟨g, cap, rfl, g3, q3, s1, q4, ⟨b1.trans (p2.below b1.size (fun g' hg' => by have := Option.some.inj hg'; omega) (by simp)), h.hp, s1.kb p2 (fun e => ?_) (by simp), ?_, n1.kb p2 (Far.nodes o1) (Far.none _ _), fun b hb => ?_⟩, ?_⟩
  · rcases o1.off s1 (.inl (by decide)) with e2 | e2
    · cases e2
    · exact e2 e.symm
  · exact p1
  · rcases List.mem_or_eq_of_mem_set hb with hb | rfl
    · have := h.tl b hb; omega
    · have := h.tl a (List.mem_of_getElem? ha)
      simp only [List.length_append, List.length_cons, List.length_nil]
      omega
  · exact (Kw.of_kb k1 (Wk.none _) (Wk.own hk (.inr (.inr (.inl rfl))))).trans (Kw.of_kb p2 (Wk.nodes o1) (Wk.none _))
theorem Wrt.kid {n : Nat} {a : Nv} {kv : Value} {k : Nat} (h : Wrt w0 w p nv T vs) (ha : vs[n]? = some a) (hg : w.grownBy w1 a.2.2.ownBlock) (ho : Own w1 w0.heap.size 3 kv (nats (a.1.kids ++ [k]))) (hn : Near w a.2.2 kv) :
    ∃ g cap, nv = .slice (some ⟨g, 0, none⟩) vs.length cap ∧ At6 w g (n * 6) a ∧ At6 w1 g (n * 6) a ∧ Str w1 p 52 #[nv] ∧ (∀ i, w1.frozen? ⟨g, i, none⟩ = false) ∧
    Wrt w0 (w1.setCell ⟨g, n * 6 + 5, none⟩ kv) p nv (T + 1) (vs.set n ({ a.1 with kids := a.1.kids ++ [k] }, a.2.1, kv)) ∧ Kw w (w1.setCell ⟨g, n * 6 + 5, none⟩ kv) := by
  obtain ⟨g, cap, rfl, g1, g2, g3, g4⟩ := h.nd.at ha
  have hk := h.nk.kids n a ha
  have k1 := Kb.of_grown hg none
  have np : a.2.2.ownBlock = none ∨ a.2.2.ownBlock ≠ some p := hk.ne_str h.st (by decide)
  have nn : a.2.2.ownBlock ≠ some g := fun e => by
    obtain ⟨c, hc⟩ := hk.block e
    obtain ⟨⟨cur, hc'⟩, _⟩ := h.nd.ownBlock (g := g) rfl
    rw [hc] at hc'
    simp at hc'
  have s1 : Str w1 p 52 #[.slice (some ⟨g, 0, none⟩) vs.length cap] := h.st.kb k1 (by simp) (by
    rcases np with e | e
    · rw [e]; simp
    · exact fun e2 => e e2.symm)
  have o1 : Ownv w1 w0.heap.size (.slice (some ⟨g, 0, none⟩) vs.length cap) vs := h.nd.kb k1 no_or (.inr (by
    intro e
    exact nn e.symm))
  obtain ⟨g', cap', e', _, _, q3, q4⟩ := o1.at ha
  simp only [Value.slice.injEq, Option.some.injEq, Addr.mk.injEq, and_true, true_and] at e'
  obtain ⟨rfl, rfl⟩ := e'
  obtain ⟨p1, p2⟩ := o1.putc ha ({ a.1 with kids := a.1.kids ++ [k] }, a.2.1, kv) 5 kv (by decide) rfl
  have b1 : Below w0.heap.size w0 w1 := h.bl.trans (k1.below h.size (by simp) (fun g hg => (hk.lt hg).1))
  have n1 := h.nk.kid ha hg ho hn
  refine ⟨g, cap, rfl, g3, q3, s1, q4, ⟨b1.trans (p2.below b1.size (fun g' hg' => by have := Option.some.inj hg'; omega) (by simp)), h.hp, s1.kb p2 (fun e => ?_) (by simp), ?_, n1.kb p2 (Far.nodes o1) (Far.none _ _), fun b hb => ?_⟩, ?_⟩
  · rcases o1.off s1 (.inl (by decide)) with e2 | e2
    · cases e2
    · exact e2 e.symm
  · exact p1
  · rcases List.mem_or_eq_of_mem_set hb with hb | rfl
    · have := h.tl b hb; omega
    · have := h.tl a (List.mem_of_getElem? ha)
      simp only [List.length_append, List.length_cons, List.length_nil]
      omega
  · exact (Kw.of_kb k1 (Wk.none _) (Wk.own hk (.inr (.inr (.inr rfl))))).trans (Kw.of_kb p2 (Wk.nodes o1) (Wk.none _))
end
end Go.Proofs.YtgfhabofhefaaaaGreatDoor
