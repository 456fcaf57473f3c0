/- A part of the proof. -/
import Derived.Test.YtgfhabofhefaaaaGreatDoorSB11
import Derived.BigQuiet
namespace Go.Proofs.YtgfhabofhefaaaaGreatDoor
open Go.RowKit
def gaveD (k n : Int) : List PanicEntry := [{ v := .iface 82 (.agg #[.int .i64 k, .int .i64 n]), recovered := false }]
def tookD (k n : Int) : List PanicEntry := [{ v := .iface 82 (.agg #[.int .i64 k, .int .i64 n]), recovered := true }]
set_option maxHeartbeats 400000 in
theorem dfail_any (k n : Int) (w : World) :
    Calls Tryz.prog 69 #[.int .i64 k, .int .i64 n] w fun e w' => e = .panicked (gaveD k n) ∧ w' = w := by
  go_enter Tryz.func69, Tryz.ntmps69
  go_wp2
  exact ⟨rfl, rfl, rfl⟩
set_option maxHeartbeats 400000 in
theorem dmust_true (k n : Int) (w : World) :
    Calls Tryz.prog 67 #[.bool true, .int .i64 k, .int .i64 n] w fun e w' => e = .returned (.tuple #[]) ∧ w' = w := by
  go_enter Tryz.func67, Tryz.ntmps67
  go_wp2
  go_end0
  exact ⟨rfl, rfl⟩
set_option maxHeartbeats 400000 in
theorem dmust_false (k n : Int) (w : World) :
    Calls Tryz.prog 67 #[.bool false, .int .i64 k, .int .i64 n] w fun e w' => e = .panicked (gaveD k n) ∧ w' = w := by
  have HF := Lib.hid (dfail_any k n w)
  go_enter Tryz.func67, Tryz.ntmps67
  go_wp2_with fail
  refine HF.out.mono ?_
  rintro e w2 ⟨rfl, hw⟩
  replace hw := hw.symm
  subst hw
  exact ⟨rfl, rfl, rfl⟩
set_option maxHeartbeats 400000 in
theorem nodeKind_any (k : Int) (w : World) :
    Calls Tryz.prog 99 #[.int .i64 k] w fun e w' => e = .returned (.int .i64 (DC.nk k)) ∧ w' = w := by
  unfold DC.nk
  by_cases h1 : k = 1
  · rw [if_pos h1]
    have h3 : (k == 3) = false := by rw [h1]; rfl
    have h1' : (k == 1) = true := by rw [h1]; rfl
    go_enter Tryz.func99, Tryz.ntmps99
    go_wp2
    go_ret
    exact ⟨rfl, rfl⟩
  rw [if_neg h1]
  by_cases h2 : k = 2
  · rw [if_pos h2]
    have h3 : (k == 3) = false := by rw [h2]; rfl
    have h1' : (k == 1) = false := by rw [h2]; rfl
    have h2' : (k == 2) = true := by rw [h2]; rfl
    go_enter Tryz.func99, Tryz.ntmps99
    go_wp2
    go_ret
    exact ⟨rfl, rfl⟩
  rw [if_neg h2]
  by_cases h3 : k = 3
  · rw [if_pos h3]
    have h3' : (k == 3) = true := by rw [h3]; rfl
    go_enter Tryz.func99, Tryz.ntmps99
    go_wp2
    go_ret
    exact ⟨rfl, rfl⟩
  · rw [if_neg h3]
    have h1' : (k == 1) = false := beq_eq_false_iff_ne.2 h1
    have h2' : (k == 2) = false := beq_eq_false_iff_ne.2 h2
    have h3' : (k == 3) = false := beq_eq_false_iff_ne.2 h3
    go_enter Tryz.func99, Tryz.ntmps99
    go_wp2
    go_ret
    exact ⟨rfl, rfl⟩
end Go.Proofs.YtgfhabofhefaaaaGreatDoor
namespace Go.Proofs.YtgfhabofhefaaaaGreatDoor
open Go.RowKit
theorem Near.refl (w : World) (v : Value) : Near w v v := .inl rfl
theorem Near.trans {w w1 : World} {a b c : Value} (h : Near w a b) (k : Near w1 b c) (hs : w.heap.size ≤ w1.heap.size) : Near w a c := by
  rcases k with k | k
  · rcases h with h | h
    · exact .inl (k.trans h)
    · exact .inr fun g hg => h g (by rw [← k]; exact hg)
  · exact .inr fun g hg => Nat.le_trans hs (k g hg)
theorem Kb.near {a b c : World} {p : Option Nat} {v v' : Value} (h : Kb a b p v.ownBlock) (hn : Near a v v') (k : Kb b c p v'.ownBlock) : Kb a c p v.ownBlock :=
  h.trans_new k fun g hg => by
    rcases hn with e | e
    · exact .inl e
    · exact .inr (e g hg)
def Far (w : World) (S : Nat → Prop) (p : Option Nat) : Prop :=
  ∀ g, p = some g → ¬ S g ∨ ∀ c, w.heap[g]? ≠ some (.cells c 9 (0, 0)) ∧ w.heap[g]? ≠ some (.cells c 3 (0, 0))
theorem Far.none (w : World) (S : Nat → Prop) : Far w S none := by intro g h; cases h
theorem Far.str {w : World} {S : Nat → Prop} {p : Nat} {T : TypeId} {cs : Array Value} (h : Str w p T cs) (h1 : T ≠ 9) (h2 : T ≠ 3) : Far w S (some p) := by
  intro g hg
  obtain rfl := Option.some.inj hg
  have h' : w.heap[p]? = some (.cells cs T (0, 0)) := h
  refine .inr fun c => ⟨fun e => ?_, fun e => ?_⟩
  · rw [h'] at e; simp at e; exact h1 e.2
  · rw [h'] at e; simp at e; exact h2 e.2
theorem Far.nodes {w : World} {S : Nat → Prop} {base : Nat} {v : Value} {vs : List Nv} (h : Ownv w base v vs) : Far w S v.ownBlock := by
  intro g hg
  obtain ⟨⟨cur, h'⟩, _⟩ := h.ownBlock hg
  refine .inr fun c => ⟨fun e => ?_, fun e => ?_⟩
  · rw [h'] at e; simp at e
  · rw [h'] at e; simp at e
theorem Far.not {w : World} {S : Nat → Prop} {p : Option Nat} (h : ∀ g, p = some g → ¬ S g) : Far w S p := fun g hg => .inl (h g hg)
structure Nk (w : World) (base : Nat) (S : Nat → Prop) (a : Nv) : Prop where
  keys : Own w base 9 a.2.1 (sv a.1.keys)
  kids : Own w base 3 a.2.2 (nats a.1.kids)
  sk : ∀ g, a.2.1.ownBlock = some g → S g
  si : ∀ g, a.2.2.ownBlock = some g → S g
theorem Own.far {w : World} {S : Nat → Prop} {base : Nat} {e : TypeId} {v : Value} {xs : List Value} {p : Option Nat} (h : Own w base e v xs) (he : e = 9 ∨ e = 3) (hs : ∀ g, v.ownBlock = some g → S g) (hp : Far w S p) : v.ownBlock = none ∨ v.ownBlock ≠ p := by
  cases hg : v.ownBlock with
  | none => exact .inl rfl
  | some g =>
    right
    intro e1
    obtain ⟨c, hc⟩ := h.block hg
    rcases hp g e1.symm with h1 | h1
    · exact h1 (hs g hg)
    · rcases he with rfl | rfl
      · exact (h1 c).1 hc
      · exact (h1 c).2 hc
theorem Nk.kb {w w' : World} {base : Nat} {S : Nat → Prop} {a : Nv} {p q : Option Nat} (h : Nk w base S a) (hk : Kb w w' p q) (hp : Far w S p) (hq : Far w S q) : Nk w' base S a :=
  ⟨h.keys.kb hk (h.keys.far (.inl rfl) h.sk hp) (h.keys.far (.inl rfl) h.sk hq), h.kids.kb hk (h.kids.far (.inr rfl) h.si hp) (h.kids.far (.inr rfl) h.si hq), h.sk, h.si⟩
theorem Nk.mono {w : World} {base : Nat} {S S' : Nat → Prop} {a : Nv} (h : Nk w base S a) (hs : ∀ g, S g → S' g) : Nk w base S' a := ⟨h.keys, h.kids, fun g hg => hs g (h.sk g hg), fun g hg => hs g (h.si g hg)⟩
theorem Nk.bare (w : World) (base : Nat) (S : Nat → Prop) (x : DC.Nd) (h1 : x.keys = []) (h2 : x.kids = []) : Nk w base S (x, .slice none 0 0, .slice none 0 0) :=
  ⟨by rw [h1]; exact Own.nil w base _, by rw [h2]; exact Own.nil w base _, (by intro g h; cases h), (by intro g h; cases h)⟩
def Nds (w : World) (base : Nat) (S : Nat → Prop) (v : Value) (ns : List DC.Nd) : Prop :=
  ∃ vs : List Nv, vs.map (·.1) = ns ∧ Ownv w base v vs ∧ ∀ a ∈ vs, Nk w base S a
theorem Nds.nil (w : World) (base : Nat) (S : Nat → Prop) : Nds w base S (.slice none 0 0) [] := ⟨[], rfl, Ownv.nil w base, by simp⟩
theorem Nds.slice {w : World} {base : Nat} {S : Nat → Prop} {v : Value} {ns : List DC.Nd} (h : Nds w base S v ns) : ∃ ao cap, v = .slice ao ns.length cap := by
  obtain ⟨vs, rfl, h1, _⟩ := h
  obtain ⟨ao, cap, e⟩ := h1.slice
  exact ⟨ao, cap, by rw [e]; simp⟩
theorem Nds.kb {w w' : World} {base : Nat} {S : Nat → Prop} {v : Value} {ns : List DC.Nd} {p q : Option Nat} (h : Nds w base S v ns) (hk : Kb w w' p q) (hp : Far w S p) (hq : Far w S q) (h1 : v.ownBlock = none ∨ v.ownBlock ≠ p) (h2 : v.ownBlock = none ∨ v.ownBlock ≠ q) : Nds w' base S v ns := by
  obtain ⟨vs, e, ho, hn⟩ := h
  exact ⟨vs, e, ho.kb hk h1 h2, fun a ha => (hn a ha).kb hk hp hq⟩
theorem Nds.below {w w' : World} {base : Nat} {S : Nat → Prop} {v : Value} {ns : List DC.Nd} (h : Nds w base S v ns) (hb : Below w.heap.size w w') : Nds w' base S v ns :=
  h.kb (Kb.of_below hb none none) (Far.none _ _) (Far.none _ _) no_or no_or
theorem Nds.mono {w : World} {base : Nat} {S S' : Nat → Prop} {v : Value} {ns : List DC.Nd} (h : Nds w base S v ns) (hs : ∀ g, S g → S' g) : Nds w base S' v ns := by
  obtain ⟨vs, e, ho, hn⟩ := h
  exact ⟨vs, e, ho, fun a ha => (hn a ha).mono hs⟩
theorem Nds.rd {w : World} {base : Nat} {S : Nat → Prop} {v : Value} {ns : List DC.Nd} (h : Nds w base S v ns) : Rdoc w v ns := by
  obtain ⟨vs, e, ho, hn⟩ := h
  exact ⟨vs, e, ho.rd, fun a ha => ⟨(hn a ha).keys.rd, (hn a ha).kids.rd⟩⟩
theorem Nds.off {w : World} {base : Nat} {S : Nat → Prop} {v : Value} {ns : List DC.Nd} {p : Nat} {T : TypeId} {cs : Array Value} (h : Nds w base S v ns) (hs : Str w p T cs) (hne : 48 ≠ T) : v.ownBlock = none ∨ v.ownBlock ≠ some p := by
  obtain ⟨vs, _, ho, _⟩ := h
  exact ho.off hs (.inl hne)
theorem Nds.far {w : World} {base : Nat} {S S' : Nat → Prop} {v : Value} {ns : List DC.Nd} (h : Nds w base S v ns) : Far w S' v.ownBlock := by
  obtain ⟨vs, _, ho, _⟩ := h
  exact Far.nodes ho
theorem Nds.ge {w : World} {base : Nat} {S : Nat → Prop} {v : Value} {ns : List DC.Nd} (h : Nds w base S v ns) {g : Nat} (hg : v.ownBlock = some g) : base ≤ g ∧ g < w.heap.size := by
  obtain ⟨vs, _, ho, _⟩ := h
  exact (ho.ownBlock hg).2
theorem Nds.push {w w1 : World} {base : Nat} {S : Nat → Prop} {v v' : Value} {vs : List Nv} {a : Nv} (h : ∀ a ∈ vs, Nk w base S a) (ho : Ownv w base v vs) (hg : w.grownBy w1 v.ownBlock) (ho' : Ownv w1 base v' (vs ++ [a])) (ha : Nk w1 base S a) : Nds w1 base S v' (vs.map (·.1) ++ [a.1]) := by
  refine ⟨vs ++ [a], by simp, ho', fun b hb => ?_⟩
  rcases List.mem_append.1 hb with hb | hb
  · exact (h b hb).kb (Kb.of_grown hg none) (Far.none _ _) (Far.nodes ho)
  · obtain rfl : b = a := by simpa using hb
    exact ha
theorem Nds.put {w : World} {base : Nat} {S : Nat → Prop} {v : Value} {ns : List DC.Nd} {j : Nat} (h : Nds w base S v ns) (hj : j < ns.length) (y : Nv) (hy : Nk w base S y) :
    ∃ g cap, v = .slice (some ⟨g, 0, none⟩) ns.length cap ∧ g < w.heap.size ∧ (∀ i, w.frozen? ⟨g, i, none⟩ = false) ∧ (∃ x, At6 w g (j * 6) x) ∧ Nds (six w g (j * 6) y) base S v (ns.set j y.1) ∧ Kb w (six w g (j * 6) y) (some g) none := by
  obtain ⟨vs, rfl, ho, hn⟩ := h
  rw [List.length_map] at hj
  obtain ⟨x, hx⟩ : ∃ x, vs[j]? = some x := ⟨vs[j], List.getElem?_eq_getElem hj⟩
  obtain ⟨g, cap, rfl, h1, h2, h3, h4⟩ := ho.at hx
  obtain ⟨p1, p2⟩ := ho.put hx y
  have hf : Far w S (some g) := Far.nodes ho
  refine ⟨g, cap, by rw [List.length_map], h2, h4, ⟨x, h3⟩, ⟨vs.set j y, by rw [List.map_set], p1, fun b hb => ?_⟩, p2⟩
  rcases List.mem_or_eq_of_mem_set hb with hb | rfl
  · exact (hn b hb).kb p2 hf (Far.none _ _)
  · exact hy.kb p2 hf (Far.none _ _)
structure Pst (w0 w : World) (p : Nat) (lv nv : Value) (l : List LX.Pc) (ns : List DC.Nd) (S : Nat → Prop) : Prop where
  bl : Below w0.heap.size w0 w
  hp : w0.heap.size ≤ p
  st : Str w p 84 #[lv, nv]
  rd : Rdp w0 lv l
  nd : Nds w w0.heap.size S nv ns
  sb : ∀ g, S g → g < w.heap.size
section
variable {w0 w w' : World} {p : Nat} {lv nv : Value} {l : List LX.Pc} {ns : List DC.Nd} {S : Nat → Prop}
theorem Pst.off (h : Pst w0 w p lv nv l ns S) : nv.ownBlock = none ∨ nv.ownBlock ≠ some p := h.nd.off h.st (by decide)
theorem Pst.farp (h : Pst w0 w p lv nv l ns S) {S' : Nat → Prop} : Far w S' (some p) := Far.str h.st (by decide) (by decide)
theorem Pst.size (h : Pst w0 w p lv nv l ns S) : w0.heap.size ≤ w.heap.size := h.bl.size
theorem Pst.kb (h : Pst w0 w p lv nv l ns S) {q r : Option Nat} (hk : Kb w w' q r) (hq : Far w S q) (hr : Far w S r) (q1 : some p ≠ q) (r1 : some p ≠ r) (q2 : nv.ownBlock = none ∨ nv.ownBlock ≠ q) (r2 : nv.ownBlock = none ∨ nv.ownBlock ≠ r) (q3 : ∀ g, q = some g → w0.heap.size ≤ g) (r3 : ∀ g, r = some g → w0.heap.size ≤ g) : Pst w0 w' p lv nv l ns S :=
  ⟨h.bl.trans (hk.below h.size q3 r3), h.hp, h.st.kb hk q1 r1, h.rd, h.nd.kb hk hq hr q2 r2, fun g hg => Nat.lt_of_lt_of_le (h.sb g hg) hk.size⟩
theorem Pst.calm (h : Pst w0 w p lv nv l ns S) (hb : Below w.heap.size w w') : Pst w0 w' p lv nv l ns S :=
  h.kb (Kb.of_below hb none none) (Far.none _ _) (Far.none _ _) (by simp) (by simp) no_or no_or (by simp) (by simp)
theorem Pst.mono (h : Pst w0 w p lv nv l ns S) {S' : Nat → Prop} (hs : ∀ g, S g → S' g) (hb : ∀ g, S' g → g < w.heap.size) : Pst w0 w p lv nv l ns S' := ⟨h.bl, h.hp, h.st, h.rd, h.nd.mono hs, hb⟩
theorem Pst.left (h : Pst w0 w p lv nv l ns S) {lv' : Value} {l' : List LX.Pc} (hr : Rdp w0 lv' l') : Pst w0 (w.setCell ⟨p, 0, none⟩ lv') p lv' nv l' ns S ∧ Kb w (w.setCell ⟨p, 0, none⟩ lv') (some p) nv.ownBlock := by
  have kb := Kb.set w p 0 lv' none
  refine ⟨⟨h.bl.trans (kb.below h.size (fun g hg => by have := Option.some.inj hg; have := h.hp; omega) (by simp)), h.hp, by simpa using h.st.set 0 lv', hr, h.nd.kb kb h.farp (Far.none _ _) h.off no_or, fun g hg => Nat.lt_of_lt_of_le (h.sb g hg) kb.size⟩, Kb.set w p 0 lv' _⟩
theorem Pst.push {vs : List Nv} (h : Pst w0 w p lv nv l (vs.map (·.1)) S) {nv' : Value} {a : Nv} (hn : ∀ a ∈ vs, Nk w w0.heap.size S a) (ho : Ownv w w0.heap.size nv vs) {w1 : World} (hg : w.grownBy w1 nv.ownBlock) (ho' : Ownv w1 w0.heap.size nv' (vs ++ [a])) (ha : Nk w1 w0.heap.size S a) :
    Str w1 p 84 #[lv, nv] ∧ Pst w0 (w1.setCell ⟨p, 1, none⟩ nv') p lv nv' l (vs.map (·.1) ++ [a.1]) S ∧ Kb w (w1.setCell ⟨p, 1, none⟩ nv') (some p) nv.ownBlock := by
  have k1 := Kb.of_grown hg (some p)
  have s1 : Str w1 p 84 #[lv, nv] := h.st.kb (Kb.of_grown hg none) (by simp) (by
    rcases h.off with e | e
    · rw [e]; simp
    · exact fun e2 => e e2.symm)
  have kb := Kb.set w1 p 1 nv' none
  have b1 : Below w0.heap.size w0 w1 := h.bl.trans ((Kb.of_grown hg none).below h.size (by simp) (fun g hg => (h.nd.ge hg).1))
  have n1 := Nds.push hn ho hg ho' ha
  have f1 : Far w1 S (some p) := Far.str s1 (by decide) (by decide)
  refine ⟨s1, ⟨b1.trans (kb.below b1.size (fun g hg => by have := Option.some.inj hg; have := h.hp; omega) (by simp)), h.hp, by simpa using s1.set 1 nv', h.rd, n1.kb kb f1 (Far.none _ _) (ho'.off s1 (.inl (by decide))) no_or, fun g hg => Nat.lt_of_lt_of_le (h.sb g hg) (Nat.le_trans k1.size kb.size)⟩, k1.trans (Kb.set w1 p 1 nv' _)⟩
end
theorem Rdp.slice {w : World} {v : Value} {l : List LX.Pc} (h : Rdp w v l) : ∃ ao cap, v = .slice ao l.length cap ∧ l.length ≤ cap ∧ cap ≤ maxLen := by
  obtain ⟨ao, cap, e, h1, h2, _⟩ := h
  exact ⟨ao, cap, e, h1, h2⟩
theorem Rdp.first {w : World} {v : Value} {x : LX.Pc} {l : List LX.Pc} (h : Rdp w v (x :: l)) : ∃ b off cap, v = .slice (some ⟨b, off, none⟩) (l.length + 1) cap ∧ l.length + 1 ≤ cap ∧ cap ≤ maxLen ∧ At5 w b off x ∧ Rdp w (.slice (some ⟨b, off + 5, none⟩) l.length (cap - 1)) l := by
  obtain ⟨ao, cap, e, h1, h2, _, h4⟩ := h
  obtain ⟨b, off, rfl, c⟩ := h4 0 x rfl
  simp only [List.length_cons] at e h1
  refine ⟨b, off, cap, e, h1, h2, by simpa using c, some ⟨b, off + 5, none⟩, cap - 1, rfl, by omega, by omega, (by intro h; cases h), fun j y hy => ?_⟩
  obtain ⟨b', off', e', c'⟩ := h4 (j + 1) y (by simpa using hy)
  simp only [Option.some.injEq, Addr.mk.injEq, and_true] at e'
  obtain ⟨rfl, rfl⟩ := e'
  refine ⟨b, off + 5, rfl, ?_⟩
  rw [show off + (j + 1) * 5 = off + 5 + j * 5 by omega] at c'
  exact c'
set_option maxHeartbeats 1000000 in
theorem comes_any {w0 w : World} {p : Nat} {lv nv : Value} {l : List LX.Pc} {ns : List DC.Nd} {S : Nat → Prop} (h : Pst w0 w p lv nv l ns S) (k c : Int) :
    Calls Tryz.prog 133 #[.pointer (some ⟨p, 0, none⟩), .int .i64 k, .int .i64 c] w fun e w' => e = .returned (.bool (DC.comes k c l)) ∧ w' = w := by
  have c0 : w.cell? ⟨p, 0, none⟩ = some lv := h.st.cell 0
  cases l with
  | nil =>
    obtain ⟨ao, cap, rfl, _, _⟩ := h.rd.slice
    clear h
    go_enter Tryz.func133, Tryz.ntmps133
    go_wp2
    go_ret
    exact ⟨rfl, rfl⟩
  | cons x l =>
    obtain ⟨b, off, cap, rfl, h1, h2, hx, _⟩ := h.rd.first
    have hx' := hx.below h.bl
    have d0 := hx'.c0
    have d2 := hx'.c2
    obtain ⟨xk, xn, xc, xt, xq⟩ := x
    simp only at d0 d2
    unfold DC.comes
    simp only
    have hn : (0 : Int) < ((l.length : Int) + 1) := by omega
    obtain ⟨n, hN⟩ : ∃ n, l.length = n := ⟨_, rfl⟩
    rw [hN] at c0 hn h1
    have hc := h2
    unfold maxLen at hc
    clear h hx hx' h2
    by_cases e1 : xk = k
    · subst e1
      by_cases e2 : xc = c
      · subst e2
        rw [decide_eq_true rfl, decide_eq_true rfl]
        go_enter Tryz.func133, Tryz.ntmps133
        go_wp2
        go_ret
        exact ⟨rfl, rfl⟩
      · have e2' : (xc == c) = false := beq_eq_false_iff_ne.2 e2
        rw [decide_eq_true rfl, decide_eq_false e2]
        go_enter Tryz.func133, Tryz.ntmps133
        go_wp2
        go_ret
        exact ⟨rfl, rfl⟩
    · have e1' : (xk == k) = false := beq_eq_false_iff_ne.2 e1
      rw [decide_eq_false e1]
      go_enter Tryz.func133, Tryz.ntmps133
      go_wp2
      go_ret
      exact ⟨rfl, rfl⟩
end Go.Proofs.YtgfhabofhefaaaaGreatDoor
