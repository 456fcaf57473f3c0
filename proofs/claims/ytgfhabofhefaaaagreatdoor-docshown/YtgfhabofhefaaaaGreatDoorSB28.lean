/- A part of the proof. -/
import Derived.Test.YtgfhabofhefaaaaGreatDoorSB27
namespace Go.Proofs.YtgfhabofhefaaaaGreatDoor
open Go.RowKit
abbrev Bv := CF.Br × Value
def bl13 (a : Bv) : List Value := brL a.1 a.2
def bcs (ls : List Bv) : List Value := ls.flatMap bl13
theorem bl13_len (a : Bv) : (bl13 a).length = 13 := rfl
theorem bcs_cons (x : Bv) (t : List Bv) : bcs (x :: t) = bl13 x ++ bcs t := rfl
theorem bcs_app (a b : List Bv) : bcs (a ++ b) = bcs a ++ bcs b := by simp [bcs]
theorem bcs_at : ∀ {ls : List Bv} {j : Nat} {x : Bv}, ls[j]? = some x → ∀ i, i < 13 → (bcs ls)[j * 13 + i]? = (bl13 x)[i]?
  | [], _, _, h => by simp at h
  | x :: ls, 0, s, h => by
    have : x = s := by simpa using h
    subst this
    intro i hi
    rw [bcs_cons, List.getElem?_append_left (by rw [bl13_len]; omega)]
    congr 1
    omega
  | x :: ls, j + 1, s, h => by
    have h' : ls[j]? = some s := by simpa using h
    intro i hi
    rw [← bcs_at h' i hi, bcs_cons, List.getElem?_append_right (by rw [bl13_len]; omega), bl13_len]
    congr 1
    omega
theorem bcs_set1 : ∀ {ls : List Bv} {j : Nat} {x : Bv} (y : Bv) (i : Nat) (u : Value), ls[j]? = some x → i < 13 → (bl13 x).set i u = bl13 y → (bcs ls).set (j * 13 + i) u = bcs (ls.set j y)
  | [], _, _, _, _, _, h, _, _ => by simp at h
  | x :: ls, 0, s, y, i, u, h, hi, he => by
    have : x = s := by simpa using h
    subst this
    rw [bcs_cons, List.set_cons_zero, bcs_cons, ← he, List.set_append_left _ _ (by rw [bl13_len]; omega)]
    congr 2
    omega
  | x :: ls, j + 1, s, y, i, u, h, hi, he => by
    have h' : ls[j]? = some s := by simpa using h
    rw [List.set_cons_succ, bcs_cons, bcs_cons, ← bcs_set1 y i u h' hi he, List.set_append_right _ _ (by rw [bl13_len]; omega), bl13_len]
    congr 2
    omega
def OwnB (w : World) (base : Nat) (v : Value) (ls : List Bv) : Prop := w.ownsRow base 92 13 v ls.length (bcs ls)
theorem OwnB.nil (w : World) (base : Nat) : OwnB w base (.slice none 0 0) [] := World.ownsRow_nil w base _ 13
theorem OwnB.slice {w : World} {base : Nat} {v : Value} {ls : List Bv} (h : OwnB w base v ls) : ∃ ao cap, v = .slice ao ls.length cap ∧ ls.length ≤ maxLen := by
  rcases h.2 with ⟨hv, hn⟩ | ⟨g, cap, cur, hv, _, _, hnc, hcm, _⟩
  · exact ⟨none, 0, by rw [hv, hn], by omega⟩
  · exact ⟨_, cap, hv, by omega⟩
theorem OwnB.ownBlock {w : World} {base : Nat} {v : Value} {ls : List Bv} (h : OwnB w base v ls) {g : Nat} (hg : v.ownBlock = some g) : (∃ cur, w.heap[g]? = some (.cells cur 92 (0, 0))) ∧ base ≤ g ∧ g < w.heap.size := by
  rcases h.2 with ⟨hv, _⟩ | ⟨g', cap, cur, hv, hb, hc, _⟩
  · rw [hv] at hg; cases hg
  · rw [hv] at hg
    obtain rfl : g' = g := Option.some.inj hg
    exact ⟨⟨cur, hc⟩, hb, (Array.getElem?_eq_some_iff.1 hc).1⟩
theorem OwnB.kb {w w' : World} {base : Nat} {v : Value} {ls : List Bv} {p q : Option Nat} (h : OwnB w base v ls) (hk : Kb w w' p q) (h1 : v.ownBlock = none ∨ v.ownBlock ≠ p) (h2 : v.ownBlock = none ∨ v.ownBlock ≠ q) : OwnB w' base v ls := by
  refine ⟨h.1, ?_⟩
  rcases h.2 with hn | ⟨g, cap, cur, rfl, hb, hgg, rest⟩
  · exact .inl hn
  · refine .inr ⟨g, cap, cur, rfl, hb, ?_, rest⟩
    rw [hk.block g (Array.getElem?_eq_some_iff.1 hgg).1 (by simpa [Value.ownBlock] using h1) (by simpa [Value.ownBlock] using h2)]
    exact hgg
theorem OwnB.off {w : World} {base p : Nat} {T : TypeId} {v : Value} {ls : List Bv} {cs : Array Value} (h : OwnB w base v ls) (hs : Str w p T cs) (hne : 92 ≠ T) : v.ownBlock = none ∨ v.ownBlock ≠ some p := by
  cases hg : v.ownBlock with
  | none => exact .inl rfl
  | some g =>
    right
    intro e
    obtain rfl := Option.some.inj e
    obtain ⟨⟨cur, hc⟩, _⟩ := h.ownBlock hg
    have h' : w.heap[g]? = some (.cells cs T (0, 0)) := hs
    rw [h'] at hc
    simp at hc
    exact hne hc.2.symm
theorem OwnB.at {w : World} {base : Nat} {v : Value} {ls : List Bv} {j : Nat} {x : Bv} (h : OwnB w base v ls) (hj : ls[j]? = some x) :
    ∃ g cap, v = .slice (some ⟨g, 0, none⟩) ls.length cap ∧ base ≤ g ∧ g < w.heap.size ∧ At13 w g (j * 13) x.1 x.2 ∧ ∀ i, w.frozen? ⟨g, i, none⟩ = false := by
  rcases h.2 with ⟨hv, hn⟩ | ⟨g, cap, cur, rfl, hb, hg, hnc, hcm, hcs, ht⟩
  · obtain rfl : ls = [] := List.length_eq_zero_iff.1 hn
    simp at hj
  · have k := bcs_at hj
    have q : ∀ i u, i < 13 → (bl13 x)[i]? = some u → w.cell? ⟨g, j * 13 + i, none⟩ = some u := fun i u hi hu => by
      have := World.ownsRow.cells h rfl _ _ ((k i hi).trans hu)
      rw [Addr.add_lit, Nat.zero_add] at this
      exact this
    exact ⟨g, cap, rfl, hb, (Array.getElem?_eq_some_iff.1 hg).1, ⟨q 0 _ (by decide) rfl, q 1 _ (by decide) rfl, q 2 _ (by decide) rfl, q 3 _ (by decide) rfl, q 4 _ (by decide) rfl, q 5 _ (by decide) rfl, q 6 _ (by decide) rfl, q 7 _ (by decide) rfl, q 8 _ (by decide) rfl, q 9 _ (by decide) rfl, q 10 _ (by decide) rfl, q 11 _ (by decide) rfl, q 12 _ (by decide) rfl⟩, fun i => World.ownsRow.frozenAt h i⟩
theorem OwnB.put1 {w : World} {base g cap : Nat} {ls : List Bv} {j : Nat} {x : Bv} (h : OwnB w base (.slice (some ⟨g, 0, none⟩) ls.length cap) ls) (hj : ls[j]? = some x) (y : Bv) (i : Nat) (u : Value) (hi : i < 13) (he : (bl13 x).set i u = bl13 y) :
    OwnB (w.setCell ⟨g, j * 13 + i, none⟩ u) base (.slice (some ⟨g, 0, none⟩) ls.length cap) (ls.set j y) ∧ Kb w (w.setCell ⟨g, j * 13 + i, none⟩ u) (some g) none := by
  have s0 := World.ownsRow.stored h (j * 13 + i) u
  refine ⟨?_, Kb.set w g _ _ none⟩
  have := s0.1
  rw [bcs_set1 y i u hj hi he] at this
  show World.ownsRow _ _ _ _ _ _ _
  rw [List.length_set]
  exact this
theorem OwnB.rdb {w : World} {base : Nat} {v : Value} {ls : List Bv} (h : OwnB w base v ls) (hk : ∀ a ∈ ls, Own w base 3 a.2 (ints a.1.kids)) : RdB w v (ls.map (·.1)) := by
  refine ⟨ls, rfl, ?_, fun a ha => (hk a ha).rd⟩
  rcases h.2 with ⟨hv, hn⟩ | ⟨g, cap, cur, hv, hb, hg, hnc, hcm, hcs, ht⟩
  · obtain rfl : ls = [] := List.length_eq_zero_iff.1 hn
    rw [hv]; exact RdF.nil w 13
  · refine ⟨some ⟨g, 0, none⟩, cap, by rw [hv, List.length_map], by rw [List.length_map]; exact hnc, hcm, (by intro h; cases h), fun j x hx => ⟨g, 0, rfl, fun i u hu => ?_⟩⟩
    rw [List.getElem?_map] at hx
    obtain ⟨y, hy, rfl⟩ := Option.map_eq_some_iff.1 hx
    have hi : i < 13 := (List.getElem?_eq_some_iff.1 hu).1
    have := World.ownsRow.cells h (by rw [hv]; rfl) _ _ ((bcs_at hy i hi).trans hu)
    rw [Addr.add_lit, Nat.zero_add] at this
    rw [Nat.zero_add]
    exact this
theorem Tryz.info_branch : (Tryz.prog.info? 92).map (fun i => (i.zero, i.size, i.bytes)) = some (some (.agg #[.string ⟨#[]⟩, .string ⟨#[]⟩, .bool false, .int .i64 0, .int .i64 0, .bool false, .string ⟨#[]⟩, .int .i64 0, .int .i64 0, .float .f64 0, .bool false, .bool false, .slice none 0 0]), 13, 136) := by kernel_rfl
theorem bcs_one {x : Bv} (h : x.2.oneCell' = true) : ∀ u ∈ bcs [x], u.oneCell' = true := by
  intro u hu
  simp [bcs, bl13, brL, brA] at hu
  rcases hu with rfl | rfl | rfl | rfl | rfl | rfl | rfl | rfl | rfl | rfl | rfl | rfl | rfl
  · rfl
  · rfl
  · rfl
  · rfl
  · rfl
  · rfl
  · rfl
  · rfl
  · rfl
  · rfl
  · rfl
  · rfl
  · exact h
theorem bcs_news {w : World} {g0 : Nat} {x : Bv} (hs : Str w g0 92 (brA x.1 x.2)) : ∀ j u, (bcs [x])[j]? = some u → w.cell? ((⟨g0, 0, none⟩ : Addr).add j) = some u := by
  intro j u hu
  rw [Addr.add_lit, Nat.zero_add, hs.cell j]
  have e : bcs [x] = (brA x.1 x.2).toList := by simp [bcs, bl13, brL]
  rw [e] at hu
  simpa using hu
theorem step_append_branch {w : World} {ops : Array Oper} {o : Oper} {a : Act} {K : Act → World → Prop} {Q : Exit → Act → World → Prop} {E : Prop} (hgd : o.guard = none) (s x : Operand)
    (ho : o.op = .call { callee := .builtin .append, args := #[s, x], argTypes := #[31, 31] })
    (base : Nat) {v : Value} {ls : List Bv} {l : Bv} {g0 c : Nat} (hs : a.eval s = v) (hown : OwnB w base v ls) (hx : a.eval x = .slice (some ⟨g0, 0, none⟩) 1 c) (hc : Str w g0 92 (brA l.1 l.2)) (h4 : l.2.oneCell' = true)
    (hlen : ls.length ≤ 20000) (hbase : base ≤ w.heap.size)
    (h : ∀ g cap w', OwnB w' base (.slice (some ⟨g, 0, none⟩) (ls.length + 1) cap) (ls ++ [l]) → w.grownBy w' v.ownBlock → Near w v (.slice (some ⟨g, 0, none⟩) (ls.length + 1) cap) → K (a.put o.dst (.slice (some ⟨g, 0, none⟩) (ls.length + 1) cap)) w') :
    if Region.wanted o (yielded ops a.tmps) = true then Oper.wp Tryz.prog o a w K Q else E := by
  obtain ⟨i, hi, hz0, hz1, hz2⟩ := infoparts Tryz.info_branch
  refine step_append_lies _ hgd s x _ ho base _ i _ 13 136 Tryz.underlying31 hi hz0 hz1 hz2 rfl (by decide) v ls.length (bcs ls) hs hown ⟨g0, 0, none⟩ 1 c (bcs [l]) hx rfl (bcs_news hc) (bcs_one h4) (by decide) (by unfold maxLen; omega) (by omega) hbase _ rfl ?_
  intro g cap' w' ho' hg h6 h7
  refine h g cap' w' ?_ hg ?_
  · show w'.ownsRow base _ 13 _ (ls ++ [l]).length (bcs (ls ++ [l]))
    rw [bcs_app, List.length_append]; exact ho'
  · rcases h6 with h6 | h6
    · exact .inl h6.symm
    · refine .inr fun g' hg' => ?_
      have := Option.some.inj hg'
      subst this
      exact Nat.le_of_eq h6.symm
structure Km (w w' : World) (t pc : Nat) (q : Option Nat) : Prop where
  os : w'.os = w.os
  tape : w'.tape = w.tape
  output : w'.output = w.output
  size : w.heap.size ≤ w'.heap.size
  block : ∀ k, k < w.heap.size → k ≠ t → k ≠ pc → some k ≠ q → w'.heap[k]? = w.heap[k]?
theorem Km.refl (w : World) (t pc : Nat) (q : Option Nat) : Km w w t pc q := ⟨rfl, rfl, rfl, Nat.le_refl _, fun _ _ _ _ _ => rfl⟩
theorem Km.near {a b c : World} {t pc : Nat} {v v' : Value} (h : Km a b t pc v.ownBlock) (hn : Near a v v') (k : Km b c t pc v'.ownBlock) : Km a c t pc v.ownBlock := by
  refine ⟨k.os.trans h.os, k.tape.trans h.tape, k.output.trans h.output, Nat.le_trans h.size k.size, fun i hi h1 h2 h3 => (k.block i (Nat.lt_of_lt_of_le hi h.size) h1 h2 fun e => ?_).trans (h.block i hi h1 h2 h3)⟩
  rcases hn with hn | hn
  · exact h3 (e.trans hn)
  · have := hn i e.symm; omega
theorem Km.of_kb {w w' : World} {t pc : Nat} {p : Option Nat} {q : Option Nat} (h : Kb w w' p q) (hp : ∀ g, p = some g → g = t ∨ g = pc) : Km w w' t pc q :=
  ⟨h.os, h.tape, h.output, h.size, fun k hk h1 h2 h3 => h.block k hk (fun e => by rcases hp k e.symm with e1 | e1; exact h1 e1; exact h2 e1) h3⟩
theorem Km.of_kb_none {w w' : World} {t pc : Nat} {p : Option Nat} {q : Option Nat} (h : Kb w w' p none) (hp : ∀ g, p = some g → g = t ∨ g = pc) : Km w w' t pc q :=
  ⟨h.os, h.tape, h.output, h.size, fun k hk h1 h2 _ => h.block k hk (fun e => by rcases hp k e.symm with e1 | e1; exact h1 e1; exact h2 e1) (by simp)⟩
theorem Km.own {w w' : World} {t pc : Nat} {q : Option Nat} {base : Nat} {e : TypeId} {v : Value} {xs : List Value} (h : Own w base e v xs) (hk : Km w w' t pc q) (h1 : v.ownBlock ≠ some t) (h2 : v.ownBlock ≠ some pc) (h3 : v.ownBlock = none ∨ v.ownBlock ≠ q) : Own w' base e v xs := by
  refine ⟨h.1, ?_⟩
  rcases h.2 with hn | ⟨g, cap, cur, rfl, hb, hgg, rest⟩
  · exact .inl hn
  · refine .inr ⟨g, cap, cur, rfl, hb, ?_, rest⟩
    rw [hk.block g (Array.getElem?_eq_some_iff.1 hgg).1 (fun e => h1 (by rw [← e]; rfl)) (fun e => h2 (by rw [← e]; rfl)) (by simpa [Value.ownBlock] using h3)]
    exact hgg
theorem Km.str {w w' : World} {t pc : Nat} {q : Option Nat} {p : Nat} {T : TypeId} {cs : Array Value} (h : Str w p T cs) (hk : Km w w' t pc q) (h1 : p ≠ t) (h2 : p ≠ pc) (h3 : some p ≠ q) : Str w' p T cs := (hk.block p h.lt h1 h2 h3).trans h
theorem Km.below {w w' : World} {t pc : Nat} {q : Option Nat} (h : Km w w' t pc q) {B : Nat} (hB : B ≤ w.heap.size) (ht : B ≤ t) (hp : B ≤ pc) (hq : ∀ g, q = some g → B ≤ g) : Below B w w' :=
  ⟨h.os, h.tape, h.output, h.size, fun k hk => h.block k (by omega) (by omega) (by omega) (fun e => by have := hq k e.symm; omega)⟩
structure BrM (b : CF.Br) : Prop where
  kl : b.key.length ≤ 8
  vl : b.val.length ≤ 8
  nl : b.rule.name.length ≤ 8
  nr : b.rule.near < 18446744073709551616
structure Ms (w0 w : World) (t pc : Nat) (lv : Value) (zs : List Int) (dv bv : Value) (vs : List Bv) : Prop where
  tp : Tp w0 w t lv zs
  hp : w0.heap.size ≤ pc
  cf : Str w pc 33 #[dv, bv]
  ob : OwnB w w0.heap.size bv vs
  kd : ∀ a ∈ vs, Own w w0.heap.size 3 a.2 (ints a.1.kids)
section
variable {w0 w w' w1 : World} {t pc : Nat} {lv : Value} {zs : List Int} {dv bv bv' : Value} {vs : List Bv}
theorem Ms.size (h : Ms w0 w t pc lv zs dv bv vs) : w0.heap.size ≤ w.heap.size := h.tp.bl.size
theorem Ms.ne (h : Ms w0 w t pc lv zs dv bv vs) : pc ≠ t := h.tp.ne h.cf (by decide)
theorem Tp.off {base : Nat} {e : TypeId} {v : Value} {xs : List Value} (h : Tp w0 w t lv zs) (ho : Own w base e v xs) (hne : 63 ≠ e) : v.ownBlock ≠ some t := by
  obtain ⟨k, _, hst⟩ := h.st
  exact hst.apart ho hne
theorem Tp.offb {base : Nat} (h : Tp w0 w t lv zs) (ho : OwnB w base bv vs) : bv.ownBlock = none ∨ bv.ownBlock ≠ some t := by
  obtain ⟨k, _, hst⟩ := h.st
  exact ho.off hst (by decide)
theorem Ms.next (h : Ms w0 w t pc lv zs dv bv vs) (ht : Tp w0 w' t lv zs) (hk : Kb w w' (some t) none) : Ms w0 w' t pc lv zs dv bv vs :=
  ⟨ht, h.hp, h.cf.kb hk (fun e => h.ne (Option.some.inj e)) (by simp), h.ob.kb hk (h.tp.offb h.ob) no_or, fun a ha => (h.kd a ha).kb hk (.inr (h.tp.off (h.kd a ha) (by decide))) no_or⟩
theorem Ms.calm (h : Ms w0 w t pc lv zs dv bv vs) (hb : Below w.heap.size w w') : Ms w0 w' t pc lv zs dv bv vs :=
  h.next (h.tp.calm hb) (Kb.of_below hb _ _)
theorem OwnB.ne_int {base base' : Nat} {v : Value} {xs : List Value} (ho : OwnB w base bv vs) (h : Own w base' 3 v xs) : Ap v bv := fun g h1 h2 => by
  obtain ⟨c, hc⟩ := h.block h1
  obtain ⟨⟨c', hc'⟩, _⟩ := ho.ownBlock h2
  rw [hc] at hc'
  simp at hc'
theorem Ms.push {b : CF.Br} (h : Ms w0 w t pc lv zs dv bv vs) (hg : w.grownBy w1 bv.ownBlock) (ho : OwnB w1 w0.heap.size bv' (vs ++ [(b, .slice none 0 0)])) (hb : b.kids = []) :
    Str w1 pc 33 #[dv, bv] ∧ Ms w0 (w1.setCell ⟨pc, 1, none⟩ bv') t pc lv zs dv bv' (vs ++ [(b, .slice none 0 0)]) ∧ Km w (w1.setCell ⟨pc, 1, none⟩ bv') t pc bv.ownBlock := by
  have k1 := Kb.of_grown hg none
  have s1 : Str w1 pc 33 #[dv, bv] := h.cf.kb k1 (by simp) (by
    rcases h.ob.off h.cf (by decide) with e | e
    · rw [e]; simp
    · exact fun e2 => e e2.symm)
  have t1 : Tp w0 w1 t lv zs := h.tp.kb k1 (by simp) (by
    rcases h.tp.offb h.ob with e | e
    · rw [e]; simp
    · exact fun e2 => e e2.symm) (by simp) (fun g hg => (h.ob.ownBlock hg).2.1)
  have kb := Kb.set w1 pc 1 bv' none
  have d1 : ∀ a ∈ vs, Own w1 w0.heap.size 3 a.2 (ints a.1.kids) := fun a ha => (h.kd a ha).kb k1 no_or (h.ob.ne_int (h.kd a ha)).or
  have ne : some t ≠ some pc := fun e => h.ne (Option.some.inj e).symm
  refine ⟨s1, ⟨t1.kb kb ne (by simp) (fun g hg => by have := Option.some.inj hg; have := h.hp; omega) (by simp), h.hp, by simpa using s1.set 1 bv', ho.kb kb (ho.off s1 (by decide)) no_or, fun a ha => ?_⟩, ?_⟩
  · rcases List.mem_append.1 ha with ha | ha
    · exact (d1 a ha).kb kb (.inr (s1.apart (d1 a ha) (by decide))) no_or
    · obtain rfl := List.mem_singleton.1 ha
      simp only [hb]; exact Own.nil _ _ _
  · have k2 : Kb w (w1.setCell ⟨pc, 1, none⟩ bv') (some pc) bv.ownBlock := (Kb.of_grown hg (some pc)).trans (Kb.set w1 pc 1 bv' _)
    exact Km.of_kb k2 (fun g hg => .inr (Option.some.inj hg).symm)
theorem Ms.kids {j : Nat} {x : Bv} {kv : Value} {ks : List Int} (h : Ms w0 w t pc lv zs dv bv vs) (hx : vs[j]? = some x) (hk : Own w w0.heap.size 3 kv (ints ks)) :
    ∃ g cap, bv = .slice (some ⟨g, 0, none⟩) vs.length cap ∧ At13 w g (j * 13) x.1 x.2 ∧ (∀ i, w.frozen? ⟨g, i, none⟩ = false) ∧ Ms w0 (w.setCell ⟨g, j * 13 + 12, none⟩ kv) t pc lv zs dv bv (vs.set j ({ x.1 with kids := ks }, kv)) ∧ Km w (w.setCell ⟨g, j * 13 + 12, none⟩ kv) t pc bv.ownBlock := by
  obtain ⟨g, cap, rfl, g1, g2, g3, g4⟩ := h.ob.at hx
  obtain ⟨p1, p2⟩ := h.ob.put1 hx ({ x.1 with kids := ks }, kv) 12 kv (by decide) rfl
  have nt : some t ≠ some g := fun e => by
    rcases h.tp.offb h.ob with e2 | e2
    · cases e2
    · exact e2 e.symm
  have np : some pc ≠ some g := fun e => by
    rcases h.ob.off h.cf (by decide) with e2 | e2
    · cases e2
    · exact e2 e.symm
  have ni : ∀ {v : Value} {xs : List Value} {base : Nat}, Own w base 3 v xs → Own (w.setCell ⟨g, j * 13 + 12, none⟩ kv) base 3 v xs := fun ho => ho.kb p2 (h.ob.ne_int ho).or no_or
  refine ⟨g, cap, rfl, g3, g4, ⟨h.tp.kb p2 nt (by simp) (fun g' hg' => by have := Option.some.inj hg'; omega) (by simp), h.hp, h.cf.kb p2 np (by simp), p1, fun a ha => ?_⟩, ?_⟩
  · rcases List.mem_or_eq_of_mem_set ha with ha | rfl
    · exact ni (h.kd a ha)
    · exact ni hk
  · exact ⟨p2.os, p2.tape, p2.output, p2.size, fun k hk' _ _ h3 => p2.block k hk' h3 (by simp)⟩
end
end Go.Proofs.YtgfhabofhefaaaaGreatDoor
namespace Go.Proofs.YtgfhabofhefaaaaGreatDoor
open Go.RowKit
structure Ml (w0 w wx : World) (t pc : Nat) (lv : Value) (zs : List Int) (dv bv bvx ov : Value) (vs more : List Bv) (nums : List Int) : Prop where
  ms : Ms w0 wx t pc lv zs dv bvx (vs ++ more)
  ow : Own wx w.heap.size 3 ov (ints nums)
  ap : ∀ a ∈ vs ++ more, Ap a.2 ov
  nr : Near w bv bvx
  km : Km w wx t pc bv.ownBlock
  nw : ∀ a ∈ more, BrM a.1 ∧ ∀ g, a.2.ownBlock = some g → w.heap.size ≤ g
  hz : w0.heap.size ≤ w.heap.size
structure Mb (w0 w wx : World) (t pc : Nat) (lv : Value) (zs : List Int) (dv bv bvx ov : Value) (vs more : List Bv) (nums : List Int) (b : Nat) (cs : Array Value) : Prop where
  ml : Ml w0 w wx t pc lv zs dv bv bvx ov vs more nums
  br : Str wx b 92 cs
  hb : w.heap.size ≤ b
  nb : bvx.ownBlock ≠ some b
section
variable {w0 w wx w' w1 : World} {t pc b : Nat} {lv : Value} {zs : List Int} {dv bv bvx bv' ov ov' kv : Value} {vs more more2 : List Bv} {nums nums2 : List Int} {cs : Array Value}
theorem Ml.start (h : Ms w0 w t pc lv zs dv bv vs) : Ml w0 w w t pc lv zs dv bv bv (.slice none 0 0) vs [] [] :=
  ⟨by rw [List.append_nil]; exact h, Own.nil _ _ _, fun a _ => Ap.none _, Near.refl _ _, Km.refl _ _ _ _, by simp, h.size⟩
theorem Ml.next (h : Ml w0 w wx t pc lv zs dv bv bvx ov vs more nums) (ht : Tp w0 w' t lv zs) (hk : Kb wx w' (some t) none) : Ml w0 w w' t pc lv zs dv bv bvx ov vs more nums :=
  ⟨h.ms.next ht hk, h.ow.kb hk (.inr (h.ms.tp.off h.ow (by decide))) no_or, h.ap, h.nr, h.km.near h.nr (Km.of_kb_none hk fun g hg => .inl (Option.some.inj hg).symm), h.nw, h.hz⟩
theorem Ml.calm (h : Ml w0 w wx t pc lv zs dv bv bvx ov vs more nums) (hb : Below wx.heap.size wx w') : Ml w0 w w' t pc lv zs dv bv bvx ov vs more nums :=
  h.next (h.ms.tp.calm hb) (Kb.of_below hb _ _)
theorem Ml.box (h : Ml w0 w wx t pc lv zs dv bv bvx ov vs more nums) (cs : Array Value) : Mb w0 w (wx.alloc (.cells cs 92)) t pc lv zs dv bv bvx ov vs more nums wx.heap.size cs :=
  ⟨h.calm (below_alloc _ _), Str.new _ _ _, h.km.size, fun e => by have := (h.ms.ob.ownBlock e).2.2; omega⟩
theorem Mb.next (h : Mb w0 w wx t pc lv zs dv bv bvx ov vs more nums b cs) (ht : Tp w0 w' t lv zs) (hk : Kb wx w' (some t) none) : Mb w0 w w' t pc lv zs dv bv bvx ov vs more nums b cs :=
  ⟨h.ml.next ht hk, h.br.kb hk (fun e => h.ml.ms.tp.ne h.br (by decide) (Option.some.inj e)) (by simp), h.hb, h.nb⟩
theorem Mb.calm (h : Mb w0 w wx t pc lv zs dv bv bvx ov vs more nums b cs) (hb : Below wx.heap.size wx w') : Mb w0 w w' t pc lv zs dv bv bvx ov vs more nums b cs :=
  h.next (h.ml.ms.tp.calm hb) (Kb.of_below hb _ _)
theorem Mb.set (h : Mb w0 w wx t pc lv zs dv bv bvx ov vs more nums b cs) (i : Nat) (u : Value) : Mb w0 w (wx.setCell ⟨b, i, none⟩ u) t pc lv zs dv bv bvx ov vs more nums b (cs.setIfInBounds i u) := by
  have kb := Kb.set wx b i u none
  have nt : some t ≠ some b := fun e => h.ml.ms.tp.ne h.br (by decide) (Option.some.inj e).symm
  have np : some pc ≠ some b := fun e => h.ml.ms.cf.apart_str h.br (by decide) (Option.some.inj e)
  have ni : ∀ {v : Value} {xs : List Value} {base : Nat}, Own wx base 3 v xs → Own (wx.setCell ⟨b, i, none⟩ u) base 3 v xs := fun ho => ho.kb kb (.inr (h.br.apart ho (by decide))) no_or
  have hz := h.ml.hz
  have hb := h.hb
  refine ⟨⟨⟨h.ml.ms.tp.kb kb nt (by simp) (fun g hg => by have := Option.some.inj hg; omega) (by simp), h.ml.ms.hp, h.ml.ms.cf.kb kb np (by simp), h.ml.ms.ob.kb kb (.inr h.nb) no_or, fun a ha => ni (h.ml.ms.kd a ha)⟩, ni h.ml.ow, h.ml.ap, h.ml.nr, ?_, h.ml.nw, h.ml.hz⟩, h.br.set i u, h.hb, h.nb⟩
  have k := h.ml.km
  exact ⟨kb.os.trans k.os, kb.tape.trans k.tape, kb.output.trans k.output, Nat.le_trans k.size kb.size, fun j hj h1 h2 h3 => (kb.block j (Nat.lt_of_lt_of_le hj k.size) (fun e => by have := Option.some.inj e; omega) (by simp)).trans (k.block j hj h1 h2 h3)⟩
theorem Mb.out (h : Mb w0 w wx t pc lv zs dv bv bvx ov vs more nums b cs) (hg : wx.grownBy w1 ov.ownBlock) (ho : Own w1 w.heap.size 3 ov' (ints nums2)) (hn : Near wx ov ov') : Mb w0 w w1 t pc lv zs dv bv bvx ov' vs more nums2 b cs := by
  have kb := Kb.of_grown hg none
  have so : ∀ {p : Nat} {T : TypeId} {xs : Array Value}, Str wx p T xs → T ≠ 3 → Str w1 p T xs := fun hs hne => hs.kb kb (by simp) (by
    rcases h.ml.ow.ne_str hs hne with e | e
    · rw [e]; simp
    · exact fun e2 => e e2.symm)
  have nt := h.ml.ms.tp.off h.ml.ow (by decide)
  have hsz := h.ml.hz
  refine ⟨⟨⟨h.ml.ms.tp.kb kb (by simp) (fun e => nt e.symm) (by simp) (fun g hg => Nat.le_trans hsz (h.ml.ow.lt hg).1), h.ml.ms.hp, so h.ml.ms.cf (by decide), h.ml.ms.ob.kb kb no_or (h.ml.ms.ob.ne_int h.ml.ow).symm.or, fun a ha => (h.ml.ms.kd a ha).kb kb no_or (h.ml.ap a ha).or⟩, ho, fun a ha => (h.ml.ap a ha).near hn (h.ml.ms.kd a ha), h.ml.nr, ?_, h.ml.nw, h.ml.hz⟩, so h.br (by decide), h.hb, h.nb⟩
  have k := h.ml.km
  exact ⟨kb.os.trans k.os, kb.tape.trans k.tape, kb.output.trans k.output, Nat.le_trans k.size kb.size, fun j hj h1 h2 h3 => (kb.block j (Nat.lt_of_lt_of_le hj k.size) (by simp) (fun e => by have := (h.ml.ow.lt e.symm).1; omega)).trans (k.block j hj h1 h2 h3)⟩
theorem Ml.push {x : CF.Br} (h : Ml w0 w wx t pc lv zs dv bv bvx ov vs more nums) (hg : wx.grownBy w1 bvx.ownBlock) (ho : OwnB w1 w0.heap.size bv' ((vs ++ more) ++ [(x, .slice none 0 0)])) (hn : Near wx bvx bv') (hx : x.kids = []) (hm : BrM x) :
    Str w1 pc 33 #[dv, bvx] ∧ Ml w0 w (w1.setCell ⟨pc, 1, none⟩ bv') t pc lv zs dv bv bv' ov vs (more ++ [(x, .slice none 0 0)]) nums := by
  obtain ⟨s1, m1, k1⟩ := h.ms.push hg ho hx
  refine ⟨s1, by rw [← List.append_assoc]; exact m1, Km.own h.ow k1 (h.ms.tp.off h.ow (by decide)) ?_ (h.ms.ob.ne_int h.ow).or, fun a ha => ?_, h.nr.trans hn h.km.size, h.km.near h.nr k1, fun a ha => ?_, h.hz⟩
  · exact h.ms.cf.apart h.ow (by decide)
  · rw [← List.append_assoc] at ha
    rcases List.mem_append.1 ha with ha | ha
    · exact h.ap a ha
    · obtain rfl := List.mem_singleton.1 ha
      exact (Ap.none _).symm
  · rcases List.mem_append.1 ha with ha | ha
    · exact h.nw a ha
    · obtain rfl := List.mem_singleton.1 ha
      exact ⟨hm, fun g hg => by cases hg⟩
theorem Ml.fed (h : Ml w0 w wx t pc lv zs dv bv bvx ov vs more nums) (hm : Ms w0 w' t pc lv zs dv bv' ((vs ++ more) ++ more2)) (hn : Near wx bvx bv') (hk : Km wx w' t pc bvx.ownBlock) (nw : ∀ a ∈ more2, BrM a.1 ∧ ∀ g, a.2.ownBlock = some g → wx.heap.size ≤ g) : Ml w0 w w' t pc lv zs dv bv bv' ov vs (more ++ more2) nums := by
  refine ⟨by rw [← List.append_assoc]; exact hm, Km.own h.ow hk (h.ms.tp.off h.ow (by decide)) (h.ms.cf.apart h.ow (by decide)) (h.ms.ob.ne_int h.ow).or, fun a ha => ?_, h.nr.trans hn h.km.size, h.km.near h.nr hk, fun a ha => ?_, h.hz⟩
  · rw [← List.append_assoc] at ha
    rcases List.mem_append.1 ha with ha | ha
    · exact h.ap a ha
    · intro g h1 h2
      have := (nw a ha).2 g h1
      have := (h.ow.lt h2).2
      omega
  · rcases List.mem_append.1 ha with ha | ha
    · exact h.nw a ha
    · exact ⟨(nw a ha).1, fun g hg => Nat.le_trans h.km.size ((nw a ha).2 g hg)⟩
theorem Ml.kids {x : CF.Br} {m1 : List Bv} {xv : Value} {ks : List Int} (h : Ml w0 w wx t pc lv zs dv bv bvx ov vs (m1 ++ (x, xv) :: more2) nums) (hk : Own wx w.heap.size 3 kv (ints ks)) (ha : Ap kv ov) :
    ∃ g cap, bvx = .slice (some ⟨g, 0, none⟩) (vs ++ (m1 ++ (x, xv) :: more2)).length cap ∧ At13 wx g ((vs.length + m1.length) * 13) x xv ∧ (∀ i, wx.frozen? ⟨g, i, none⟩ = false) ∧ Ml w0 w (wx.setCell ⟨g, (vs.length + m1.length) * 13 + 12, none⟩ kv) t pc lv zs dv bv bvx ov vs (m1 ++ ({ x with kids := ks }, kv) :: more2) nums := by
  have hx : (vs ++ (m1 ++ (x, xv) :: more2))[vs.length + m1.length]? = some (x, xv) := by
    rw [List.getElem?_append_right (by omega), Nat.add_sub_cancel_left, List.getElem?_append_right (Nat.le_refl _), Nat.sub_self]; rfl
  have hs : (vs ++ (m1 ++ (x, xv) :: more2)).set (vs.length + m1.length) ({ x with kids := ks }, kv) = vs ++ (m1 ++ ({ x with kids := ks }, kv) :: more2) := by
    rw [List.set_append_right _ _ (by omega), Nat.add_sub_cancel_left, List.set_append_right _ _ (Nat.le_refl _), Nat.sub_self]; rfl
  obtain ⟨g, cap, e, a13, fz, ms, km⟩ := h.ms.kids hx (hk.base h.hz)
  rw [hs] at ms
  have mem : ∀ a, a ∈ m1 ++ ({ x with kids := ks }, kv) :: more2 → a = ({ x with kids := ks }, kv) ∨ a ∈ m1 ++ (x, xv) :: more2 := fun a ha => by
    rcases List.mem_append.1 ha with ha | ha
    · exact .inr (List.mem_append_left _ ha)
    · rcases List.mem_cons.1 ha with ha | ha
      · exact .inl ha
      · exact .inr (List.mem_append_right _ (List.mem_cons_of_mem _ ha))
  refine ⟨g, cap, e, a13, fz, ⟨ms, Km.own h.ow km (h.ms.tp.off h.ow (by decide)) (h.ms.cf.apart h.ow (by decide)) (h.ms.ob.ne_int h.ow).or, fun a ha => ?_, h.nr, h.km.near h.nr km, fun a ha => ?_, h.hz⟩⟩
  · rcases List.mem_append.1 ha with ha | ha
    · exact h.ap a (List.mem_append_left _ ha)
    · rcases mem a ha with rfl | ha
      · assumption
      · exact h.ap a (List.mem_append_right _ ha)
  · rcases mem a ha with rfl | ha
    · have := (h.nw (x, xv) (List.mem_append_right _ (List.mem_cons_self ..))).1
      exact ⟨⟨this.kl, this.vl, this.nl, this.nr⟩, fun g hg => (hk.lt hg).1⟩
    · exact h.nw a ha
end
def LpM (d : Nat) (dom up : Int) (n0 : Nat) (more : List CF.Br) (nums : List Int) (seen : List CF.Br) : Prop := ∀ (c : CF.Cf) (pre z : List CF.Br) (rest : List Int), pre.length = n0 → c.brs = pre ++ (more ++ z) → CF.lp (CF.kf c (8 - d)) c dom up [] (nums ++ rest) n0 = CF.lp (CF.kf c (8 - d)) c dom up seen rest (n0 + more.length)
def KfM (d : Nat) (dom up : Int) (n0 : Nat) (more : List CF.Br) (nums : List Int) : Prop := ∀ (c : CF.Cf) (pre z : List CF.Br), pre.length = n0 → c.brs = pre ++ (more ++ z) → CF.kf c (9 - d) nums n0 dom up = some (n0 + more.length)
theorem LpM.start (d : Nat) (dom up : Int) (n0 : Nat) : LpM d dom up n0 [] [] [] := fun _ _ _ _ _ _ => rfl
theorem LpM.fin {d : Nat} {dom up : Int} {n0 : Nat} {more : List CF.Br} {nums : List Int} {seen : List CF.Br} (h : LpM d dom up n0 more nums seen) (hd : d ≤ 8) : KfM d dom up n0 more nums := by
  intro c pre z hp hc
  have := h c pre z [] hp hc
  rw [List.append_nil, CF.lp] at this
  rw [show 9 - d = (8 - d) + 1 by omega, CF.kf]
  exact this
theorem KfM.nil (d : Nat) (dom up : Int) (n0 : Nat) : KfM d dom up n0 [] [] := by
  intro c pre z _ _
  cases h : 9 - d with
  | zero => rw [CF.kf, if_pos rfl]; rfl
  | succ f => rw [CF.kf, CF.lp]; rfl
theorem LpM.more {d : Nat} {dom up : Int} {n0 : Nat} {more more2 : List CF.Br} {nums : List Int} {seen : List CF.Br} {b : CF.Br} (h : LpM d dom up n0 more nums seen) (hf : CF.fits b dom up = true) (hm : seen.any (CF.met b) = false)
    (hk : KfM (d + 1) dom ((n0 + more.length : Nat) : Int) (n0 + more.length + 1) more2 b.kids) (hd : d ≤ 7) : LpM d dom up n0 (more ++ b :: more2) (nums ++ [((n0 + more.length : Nat) : Int)]) (seen ++ [b]) := by
  intro c pre z rest hp hc
  have hc1 : c.brs = pre ++ (more ++ (b :: more2 ++ z)) := by rw [hc]; simp
  have hb : c.brs[n0 + more.length]? = some b := by
    rw [hc1, List.getElem?_append_right (by omega), List.getElem?_append_right (by omega)]
    rw [show n0 + more.length - pre.length - more.length = 0 by omega]; rfl
  have h2 := hk c (pre ++ more ++ [b]) z (by simp [hp]; omega) (by rw [hc1]; simp)
  rw [List.append_assoc, h c pre (b :: more2 ++ z) _ hp hc1]
  show CF.lp _ c dom up seen (((n0 + more.length : Nat) : Int) :: rest) _ = _
  rw [lp_at hb, if_neg (by rw [hf, hm]; simp)]
  rw [show 9 - (d + 1) = 8 - d by omega] at h2
  rw [h2]
  simp only [List.length_append, List.length_cons]
  rw [show n0 + more.length + 1 + more2.length = n0 + (more.length + (more2.length + 1)) by omega]
def SeenM (all : List Bv) (nums : List Int) (seen : List CF.Br) : Prop := seen.length = nums.length ∧ ∀ (k : Nat) (x : CF.Br), seen[k]? = some x → ∃ (n : Nat) (a : Bv), nums[k]? = some (n : Int) ∧ all[n]? = some a ∧ a.1 = x
theorem SeenM.start (all : List Bv) : SeenM all [] [] := ⟨rfl, by simp⟩
theorem SeenM.more {all all2 : List Bv} {nums : List Int} {seen : List CF.Br} {x : Bv} (h : SeenM all nums seen) : SeenM (all ++ x :: all2) (nums ++ [((all.length : Nat) : Int)]) (seen ++ [x.1]) := by
  obtain ⟨h1, h2⟩ := h
  refine ⟨by simp [h1], fun k y hy => ?_⟩
  rcases Nat.lt_or_ge k seen.length with hk | hk
  · rw [List.getElem?_append_left hk] at hy
    obtain ⟨n, a, e1, e2, e3⟩ := h2 k y hy
    exact ⟨n, a, by rw [List.getElem?_append_left (by omega)]; exact e1, by rw [List.getElem?_append_left (List.getElem?_eq_some_iff.1 e2).1]; exact e2, e3⟩
  · rw [List.getElem?_append_right hk] at hy
    have hk0 : k - seen.length = 0 := by
      have := (List.getElem?_eq_some_iff.1 hy).1
      simp at this; omega
    rw [hk0] at hy
    have hy : x.1 = y := by simpa using hy
    refine ⟨all.length, x, ?_, ?_, hy⟩
    · rw [List.getElem?_append_right (by omega), show k - nums.length = 0 by omega]; rfl
    · rw [List.getElem?_append_right (Nat.le_refl _), Nat.sub_self]; rfl
theorem fits_made {key val : LX.B} {any has : Bool} {dom up : Int} {r : CF.Ru} {ks : List Int} (hk : D.nm key = true) (hv : val.length ≤ 8) (ha : any = true → val = []) (hr : (has = true ∧ CF.RuM r) ∨ (has = false ∧ r = CF.ru0)) : CF.fits ⟨key, val, any, dom, up, has, r, ks⟩ dom up = true := by
  unfold CF.fits
  rw [if_neg (by
    rintro (h | h | h | h | ⟨h1, h2⟩)
    · exact h rfl
    · exact h rfl
    · rw [hk] at h; cases h
    · simp only at h; omega
    · exact h2 (ha h1))]
  rcases hr with ⟨rfl, hr⟩ | ⟨rfl, rfl⟩
  · exact hr.chk
  · show CF.sameRule CF.ru0 CF.ru0 = true
    decide +kernel
theorem brm_made {key val : LX.B} {any has : Bool} {dom up : Int} {r : CF.Ru} {ks : List Int} (hk : key.length ≤ 8) (hv : val.length ≤ 8) (hr : (has = true ∧ CF.RuM r) ∨ (has = false ∧ r = CF.ru0)) : BrM ⟨key, val, any, dom, up, has, r, ks⟩ := by
  rcases hr with ⟨rfl, hr⟩ | ⟨rfl, rfl⟩
  · exact ⟨hk, hv, hr.nl, hr.nr⟩
  · exact ⟨hk, hv, by simp [CF.ru0], by simp [CF.ru0]⟩
end Go.Proofs.YtgfhabofhefaaaaGreatDoor
