/- A part of the proof. -/
import Derived.Test.YtgfhabofhefaaaaGreatDoorSB28
import Derived.Test.YtgfhabofhefaaaaGreatDoorSB30
namespace Go.Proofs.YtgfhabofhefaaaaGreatDoor
open Go.RowKit
abbrev Dv := CF.Do × Value
def dcs (ls : List Dv) : List Value := ls.flatMap fun a => doL a.1 a.2
theorem dcs_cons (x : Dv) (t : List Dv) : dcs (x :: t) = doL x.1 x.2 ++ dcs t := rfl
theorem dcs_app (a b : List Dv) : dcs (a ++ b) = dcs a ++ dcs b := by simp [dcs]
theorem doL_len (a : CF.Do) (v : Value) : (doL a v).length = 2 := rfl
theorem dcs_at : ∀ {ls : List Dv} {j : Nat} {x : Dv}, ls[j]? = some x → ∀ i, i < 2 → (dcs ls)[j * 2 + i]? = (doL x.1 x.2)[i]?
  | [], _, _, h => by simp at h
  | x :: ls, 0, s, h => by
    have : x = s := by simpa using h
    subst this
    intro i hi
    rw [dcs_cons, List.getElem?_append_left (by rw [doL_len]; omega)]
    congr 1
    omega
  | x :: ls, j + 1, s, h => by
    have h' : ls[j]? = some s := by simpa using h
    intro i hi
    rw [← dcs_at h' i hi, dcs_cons, List.getElem?_append_right (by rw [doL_len]; omega), doL_len]
    congr 1
    omega
theorem dcs_set1 : ∀ {ls : List Dv} {j : Nat} {x : Dv} (y : Dv) (i : Nat) (u : Value), ls[j]? = some x → i < 2 → (doL x.1 x.2).set i u = doL y.1 y.2 → (dcs ls).set (j * 2 + i) u = dcs (ls.set j y)
  | [], _, _, _, _, _, h, _, _ => by simp at h
  | x :: ls, 0, s, y, i, u, h, hi, he => by
    have : x = s := by simpa using h
    subst this
    rw [dcs_cons, List.set_cons_zero, dcs_cons, ← he, List.set_append_left _ _ (by rw [doL_len]; omega)]
    congr 2
    omega
  | x :: ls, j + 1, s, y, i, u, h, hi, he => by
    have h' : ls[j]? = some s := by simpa using h
    rw [List.set_cons_succ, dcs_cons, dcs_cons, ← dcs_set1 y i u h' hi he, List.set_append_right _ _ (by rw [doL_len]; omega), doL_len]
    congr 2
    omega
def OwnD (w : World) (base : Nat) (v : Value) (ls : List Dv) : Prop := w.ownsRow base 58 2 v ls.length (dcs ls)
theorem OwnD.nil (w : World) (base : Nat) : OwnD w base (.slice none 0 0) [] := World.ownsRow_nil w base _ 2
theorem OwnD.slice {w : World} {base : Nat} {v : Value} {ls : List Dv} (h : OwnD w base v ls) : ∃ ao cap, v = .slice ao ls.length cap ∧ ls.length ≤ maxLen := by
  rcases h.2 with ⟨hv, hn⟩ | ⟨g, cap, cur, hv, _, _, hnc, hcm, _⟩
  · exact ⟨none, 0, by rw [hv, hn], by omega⟩
  · exact ⟨_, cap, hv, by omega⟩
theorem OwnD.ownBlock {w : World} {base : Nat} {v : Value} {ls : List Dv} (h : OwnD w base v ls) {g : Nat} (hg : v.ownBlock = some g) : (∃ cur, w.heap[g]? = some (.cells cur 58 (0, 0))) ∧ base ≤ g ∧ g < w.heap.size := by
  rcases h.2 with ⟨hv, _⟩ | ⟨g', cap, cur, hv, hb, hc, _⟩
  · rw [hv] at hg; cases hg
  · rw [hv] at hg
    obtain rfl : g' = g := Option.some.inj hg
    exact ⟨⟨cur, hc⟩, hb, (Array.getElem?_eq_some_iff.1 hc).1⟩
theorem OwnD.stand {w w' : World} {base : Nat} {v : Value} {ls : List Dv} (h : OwnD w base v ls) (hk : ∀ g, v.ownBlock = some g → w'.heap[g]? = w.heap[g]?) : OwnD w' base v ls := by
  refine ⟨h.1, ?_⟩
  rcases h.2 with hn | ⟨g, cap, cur, rfl, hb, hgg, rest⟩
  · exact .inl hn
  · exact .inr ⟨g, cap, cur, rfl, hb, (hk g rfl).trans hgg, rest⟩
theorem OwnD.off {w : World} {base p : Nat} {T : TypeId} {v : Value} {ls : List Dv} {cs : Array Value} (h : OwnD w base v ls) (hs : Str w p T cs) (hne : 58 ≠ T) : v.ownBlock ≠ some p := by
  intro e
  obtain ⟨⟨cur, hc⟩, _⟩ := h.ownBlock e
  have h' : w.heap[p]? = some (.cells cs T (0, 0)) := hs
  rw [h'] at hc
  simp at hc
  exact hne hc.2.symm
theorem OwnD.ne_int {w : World} {base base' : Nat} {v u : Value} {ls : List Dv} {xs : List Value} (ho : OwnD w base v ls) (h : Own w base' 3 u xs) : Ap u v := fun g h1 h2 => by
  obtain ⟨c, hc⟩ := h.block h1
  obtain ⟨⟨c', hc'⟩, _⟩ := ho.ownBlock h2
  rw [hc] at hc'
  simp at hc'
theorem OwnD.ne_br {w : World} {base base' : Nat} {v u : Value} {ls : List Dv} {vs : List Bv} (ho : OwnD w base v ls) (h : OwnB w base' u vs) : Ap u v := fun g h1 h2 => by
  obtain ⟨⟨c, hc⟩, _⟩ := h.ownBlock h1
  obtain ⟨⟨c', hc'⟩, _⟩ := ho.ownBlock h2
  rw [hc] at hc'
  simp at hc'
theorem OwnD.at {w : World} {base : Nat} {v : Value} {ls : List Dv} {j : Nat} {x : Dv} (h : OwnD w base v ls) (hj : ls[j]? = some x) :
    ∃ g cap, v = .slice (some ⟨g, 0, none⟩) ls.length cap ∧ base ≤ g ∧ g < w.heap.size ∧ w.cell? ⟨g, j * 2, none⟩ = some (.string ⟨x.1.name.toArray⟩) ∧ w.cell? ⟨g, j * 2 + 1, none⟩ = some x.2 ∧ ∀ i, w.frozen? ⟨g, i, none⟩ = false := by
  rcases h.2 with ⟨hv, hn⟩ | ⟨g, cap, cur, rfl, hb, hg, hnc, hcm, hcs, ht⟩
  · obtain rfl : ls = [] := List.length_eq_zero_iff.1 hn
    simp at hj
  · have k := dcs_at hj
    have q : ∀ i u, i < 2 → (doL x.1 x.2)[i]? = some u → w.cell? ⟨g, j * 2 + i, none⟩ = some u := fun i u hi hu => by
      have := World.ownsRow.cells h rfl _ _ ((k i hi).trans hu)
      rw [Addr.add_lit, Nat.zero_add] at this
      exact this
    exact ⟨g, cap, rfl, hb, (Array.getElem?_eq_some_iff.1 hg).1, q 0 _ (by decide) rfl, q 1 _ (by decide) rfl, fun i => World.ownsRow.frozenAt h i⟩
theorem OwnD.put1 {w : World} {base g cap : Nat} {ls : List Dv} {j : Nat} {x : Dv} (h : OwnD w base (.slice (some ⟨g, 0, none⟩) ls.length cap) ls) (hj : ls[j]? = some x) (y : Dv) (i : Nat) (u : Value) (hi : i < 2) (he : (doL x.1 x.2).set i u = doL y.1 y.2) :
    OwnD (w.setCell ⟨g, j * 2 + i, none⟩ u) base (.slice (some ⟨g, 0, none⟩) ls.length cap) (ls.set j y) := by
  have s0 := World.ownsRow.stored h (j * 2 + i) u
  have := s0.1
  rw [dcs_set1 y i u hj hi he] at this
  show World.ownsRow _ _ _ _ _ _ _
  rw [List.length_set]
  exact this
theorem OwnD.rdd {w : World} {base : Nat} {v : Value} {ls : List Dv} (h : OwnD w base v ls) (hk : ∀ a ∈ ls, Own w base 3 a.2 (ints a.1.kids)) : RdD w v (ls.map (·.1)) := by
  refine ⟨ls, rfl, ?_, fun a ha => (hk a ha).rd⟩
  rcases h.2 with ⟨hv, hn⟩ | ⟨g, cap, cur, hv, hb, hg, hnc, hcm, hcs, ht⟩
  · obtain rfl : ls = [] := List.length_eq_zero_iff.1 hn
    rw [hv]; exact RdF.nil w 2
  · refine ⟨some ⟨g, 0, none⟩, cap, by rw [hv, List.length_map], by rw [List.length_map]; exact hnc, hcm, (by intro h; cases h), fun j x hx => ⟨g, 0, rfl, fun i u hu => ?_⟩⟩
    rw [List.getElem?_map] at hx
    obtain ⟨y, hy, rfl⟩ := Option.map_eq_some_iff.1 hx
    have hi : i < 2 := (List.getElem?_eq_some_iff.1 hu).1
    have := World.ownsRow.cells h (by rw [hv]; rfl) _ _ ((dcs_at hy i hi).trans hu)
    rw [Addr.add_lit, Nat.zero_add] at this
    rw [Nat.zero_add]
    exact this
theorem Tryz.info_domain : (Tryz.prog.info? 58).map (fun i => (i.zero, i.size, i.bytes)) = some (some (.agg #[.string ⟨#[]⟩, .slice none 0 0]), 2, 40) := by kernel_rfl
theorem step_append_domain {w : World} {ops : Array Oper} {o : Oper} {a : Act} {K : Act → World → Prop} {Q : Exit → Act → World → Prop} {E : Prop} (hgd : o.guard = none) (s x : Operand)
    (ho : o.op = .call { callee := .builtin .append, args := #[s, x], argTypes := #[30, 30] })
    (base : Nat) {v : Value} {ls : List Dv} {l : CF.Do} {g0 c : Nat} (hs : a.eval s = v) (hown : OwnD w base v ls) (hx : a.eval x = .slice (some ⟨g0, 0, none⟩) 1 c) (hc : Str w g0 58 #[.string ⟨l.name.toArray⟩, .slice none 0 0])
    (hlen : ls.length ≤ 20000) (hbase : base ≤ w.heap.size)
    (h : ∀ g cap w', OwnD w' base (.slice (some ⟨g, 0, none⟩) (ls.length + 1) cap) (ls ++ [(l, .slice none 0 0)]) → w.grownBy w' v.ownBlock → K (a.put o.dst (.slice (some ⟨g, 0, none⟩) (ls.length + 1) cap)) w') :
    if Region.wanted o (yielded ops a.tmps) = true then Oper.wp Tryz.prog o a w K Q else E := by
  obtain ⟨i, hi, hz0, hz1, hz2⟩ := infoparts Tryz.info_domain
  refine step_append_lies _ hgd s x _ ho base _ i _ 2 40 Tryz.underlying30 hi hz0 hz1 hz2 rfl (by decide) v ls.length (dcs ls) hs hown ⟨g0, 0, none⟩ 1 c (dcs [(l, .slice none 0 0)]) hx rfl ?_ ?_ (by decide) (by unfold maxLen; omega) (by omega) hbase _ rfl ?_
  · intro j u hu
    rw [Addr.add_lit, Nat.zero_add, hc.cell j]
    match j, hu with
    | 0, hu => simpa [dcs, doL] using hu
    | 1, hu => simpa [dcs, doL] using hu
    | j + 2, hu => simp [dcs, doL] at hu
  · intro u hu
    simp [dcs, doL] at hu
    rcases hu with rfl | rfl <;> rfl
  · intro g cap' w' ho' hg _ _
    refine h g cap' w' ?_ hg
    show w'.ownsRow base _ 2 _ (ls ++ [((l, .slice none 0 0) : Dv)]).length (dcs (ls ++ [((l, .slice none 0 0) : Dv)]))
    rw [dcs_app, List.length_append]; exact ho'
end Go.Proofs.YtgfhabofhefaaaaGreatDoor
namespace Go.Proofs.YtgfhabofhefaaaaGreatDoor
open Go.RowKit
section
variable {w0 w w' w1 : World} {t pc R : Nat} {lv : Value} {zs : List Int} {dv dv' bv bv' kv : Value} {ds : List Dv} {vs more : List Bv}
theorem Ms.kbq {p q : Option Nat} (h : Ms w0 w t pc lv zs dv bv vs) (hk : Kb w w' p q) (t1 : some t ≠ p) (t2 : some t ≠ q) (c1 : some pc ≠ p) (c2 : some pc ≠ q) (p1 : ∀ g, p = some g → w0.heap.size ≤ g) (q1 : ∀ g, q = some g → w0.heap.size ≤ g)
    (b1 : bv.ownBlock = none ∨ bv.ownBlock ≠ p) (b2 : bv.ownBlock = none ∨ bv.ownBlock ≠ q) (k1 : ∀ a ∈ vs, a.2.ownBlock = none ∨ a.2.ownBlock ≠ p) (k2 : ∀ a ∈ vs, a.2.ownBlock = none ∨ a.2.ownBlock ≠ q) : Ms w0 w' t pc lv zs dv bv vs :=
  ⟨h.tp.kb hk t1 t2 p1 q1, h.hp, h.cf.kb hk c1 c2, h.ob.kb hk b1 b2, fun a ha => (h.kd a ha).kb hk (k1 a ha) (k2 a ha)⟩
theorem Ms.dom (h : Ms w0 w t pc lv zs dv bv vs) (u : Value) : Ms w0 (w.setCell ⟨pc, 0, none⟩ u) t pc lv zs u bv vs := by
  have kb := Kb.set w pc 0 u none
  have ne : some t ≠ some pc := fun e => h.ne (Option.some.inj e).symm
  exact ⟨h.tp.kb kb ne (by simp) (fun g hg => by have := Option.some.inj hg; have := h.hp; omega) (by simp), h.hp, by simpa using h.cf.set 0 u, h.ob.kb kb (h.ob.off h.cf (by decide)) no_or, fun a ha => (h.kd a ha).kb kb (.inr (h.cf.apart (h.kd a ha) (by decide))) no_or⟩
structure Cs (w0 w : World) (t pc R : Nat) (lv : Value) (zs : List Int) (dv bv : Value) (ds : List Dv) (vs : List Bv) : Prop where
  ms : Ms w0 w t pc lv zs dv bv vs
  od : OwnD w w0.heap.size dv ds
  kd : ∀ a ∈ ds, Own w w0.heap.size 3 a.2 (ints a.1.kids)
  rs : Str w R 33 #[.slice none 0 0, .slice none 0 0]
  hR : w0.heap.size ≤ R
  ne : R ≠ pc
theorem OwnD.offt (h : Tp w0 w t lv zs) {base : Nat} (ho : OwnD w base dv ds) : dv.ownBlock ≠ some t := by
  obtain ⟨k, _, hst⟩ := h.st
  exact ho.off hst (by decide)
theorem OwnD.kb {p q : Option Nat} {base : Nat} (h : OwnD w base dv ds) (hk : Kb w w' p q) (h1 : dv.ownBlock = none ∨ dv.ownBlock ≠ p) (h2 : dv.ownBlock = none ∨ dv.ownBlock ≠ q) : OwnD w' base dv ds :=
  h.stand fun g hg => hk.block g (h.ownBlock hg).2.2 (fun e => by
    rcases h1 with h1 | h1
    · rw [h1] at hg; cases hg
    · exact h1 (hg.trans e)) (fun e => by
    rcases h2 with h2 | h2
    · rw [h2] at hg; cases hg
    · exact h2 (hg.trans e))
theorem Cs.next (h : Cs w0 w t pc R lv zs dv bv ds vs) (ht : Tp w0 w' t lv zs) (hk : Kb w w' (some t) none) : Cs w0 w' t pc R lv zs dv bv ds vs :=
  ⟨h.ms.next ht hk, h.od.kb hk (.inr (OwnD.offt h.ms.tp h.od)) no_or, fun a ha => (h.kd a ha).kb hk (.inr (h.ms.tp.off (h.kd a ha) (by decide))) no_or, h.rs.kb hk (fun e => h.ms.tp.ne h.rs (by decide) (Option.some.inj e)) (by simp), h.hR, h.ne⟩
theorem Cs.calm (h : Cs w0 w t pc R lv zs dv bv ds vs) (hb : Below w.heap.size w w') : Cs w0 w' t pc R lv zs dv bv ds vs :=
  h.next (h.ms.tp.calm hb) (Kb.of_below hb _ _)
theorem Cs.push {x : CF.Do} (h : Cs w0 w t pc R lv zs dv bv ds vs) (hg : w.grownBy w1 dv.ownBlock) (ho : OwnD w1 w0.heap.size dv' (ds ++ [(x, .slice none 0 0)])) (hx : x.kids = []) :
    Str w1 pc 33 #[dv, bv] ∧ Cs w0 (w1.setCell ⟨pc, 0, none⟩ dv') t pc R lv zs dv' bv (ds ++ [(x, .slice none 0 0)]) vs := by
  have k1 := Kb.of_grown hg none
  have n1 : ∀ {p : Nat} {T : TypeId} {cs : Array Value}, Str w p T cs → 58 ≠ T → some p ≠ dv.ownBlock := fun hs hne e => h.od.off hs hne e.symm
  have s1 : Str w1 pc 33 #[dv, bv] := h.ms.cf.kb k1 (by simp) (n1 h.ms.cf (by decide))
  have r1 := h.rs.kb k1 (by simp) (n1 h.rs (by decide))
  have m1 : Ms w0 w1 t pc lv zs dv bv vs := h.ms.kbq k1 (by simp) (fun e => OwnD.offt h.ms.tp h.od e.symm) (by simp) (n1 h.ms.cf (by decide)) (by simp) (fun g hg => (h.od.ownBlock hg).2.1) no_or (h.od.ne_br h.ms.ob).or (fun a _ => no_or) (fun a ha => (h.od.ne_int (h.ms.kd a ha)).or)
  have d1 : ∀ a ∈ ds, Own w1 w0.heap.size 3 a.2 (ints a.1.kids) := fun a ha => (h.kd a ha).kb k1 no_or (h.od.ne_int (h.kd a ha)).or
  have kb := Kb.set w1 pc 0 dv' none
  refine ⟨s1, m1.dom dv', ho.kb kb (.inr (ho.off s1 (by decide))) no_or, fun a ha => ?_, r1.kb kb (fun e => h.ne (Option.some.inj e)) (by simp), h.hR, h.ne⟩
  rcases List.mem_append.1 ha with ha | ha
  · exact (d1 a ha).kb kb (.inr (s1.apart (d1 a ha) (by decide))) no_or
  · obtain rfl := List.mem_singleton.1 ha
    simp only [hx]; exact Own.nil _ _ _
theorem Cs.fed (h : Cs w0 w t pc R lv zs dv bv ds vs) (hm : Ms w0 w' t pc lv zs dv bv' (vs ++ more)) (hk : Km w w' t pc bv.ownBlock) : Cs w0 w' t pc R lv zs dv bv' ds (vs ++ more) := by
  refine ⟨hm, h.od.stand fun g hg => hk.block g (h.od.ownBlock hg).2.2 (fun e => OwnD.offt h.ms.tp h.od (hg.trans (congrArg some e))) (fun e => h.od.off h.ms.cf (by decide) (hg.trans (congrArg some e))) (fun e => h.od.ne_br h.ms.ob g e.symm hg), fun a ha => Km.own (h.kd a ha) hk (h.ms.tp.off (h.kd a ha) (by decide)) (h.ms.cf.apart (h.kd a ha) (by decide)) (h.ms.ob.ne_int (h.kd a ha)).or, Km.str h.rs hk (h.ms.tp.ne h.rs (by decide)) h.ne ?_, h.hR, h.ne⟩
  rcases h.ms.ob.off h.rs (by decide) with e | e
  · rw [e]; simp
  · exact fun e2 => e e2.symm
theorem Cs.kids {j : Nat} {x : Dv} {ks : List Int} (h : Cs w0 w t pc R lv zs dv bv ds vs) (hx : ds[j]? = some x) (hk : Own w w0.heap.size 3 kv (ints ks)) :
    ∃ g cap, dv = .slice (some ⟨g, 0, none⟩) ds.length cap ∧ w.cell? ⟨g, j * 2 + 1, none⟩ = some x.2 ∧ (∀ i, w.frozen? ⟨g, i, none⟩ = false) ∧ Cs w0 (w.setCell ⟨g, j * 2 + 1, none⟩ kv) t pc R lv zs dv bv (ds.set j ({ x.1 with kids := ks }, kv)) vs := by
  obtain ⟨g, cap, rfl, g1, g2, g3, g4, g5⟩ := h.od.at hx
  have p1 := h.od.put1 hx ({ x.1 with kids := ks }, kv) 1 kv (by decide) rfl
  have kb := Kb.set w g (j * 2 + 1) kv none
  have nt : some t ≠ some g := fun e => OwnD.offt h.ms.tp h.od e.symm
  have np : ∀ {p : Nat} {T : TypeId} {cs : Array Value}, Str w p T cs → 58 ≠ T → some p ≠ some g := fun hs hne e => h.od.off hs hne e.symm
  have ni : ∀ {v : Value} {xs : List Value} {base : Nat}, Own w base 3 v xs → Own (w.setCell ⟨g, j * 2 + 1, none⟩ kv) base 3 v xs := fun ho => ho.kb kb (h.od.ne_int ho).or no_or
  refine ⟨g, cap, rfl, g4, g5, ⟨h.ms.kbq kb nt (by simp) (np h.ms.cf (by decide)) (by simp) (fun g' hg' => by have := Option.some.inj hg'; omega) (by simp) (h.od.ne_br h.ms.ob).or no_or (fun a ha => (h.od.ne_int (h.ms.kd a ha)).or) (fun a _ => no_or), p1, fun a ha => ?_, h.rs.kb kb (np h.rs (by decide)) (by simp), h.hR, h.ne⟩⟩
  rcases List.mem_or_eq_of_mem_set ha with ha | rfl
  · exact ni (h.kd a ha)
  · exact ni hk
theorem Cs.res (h : Cs w0 w t pc R lv zs dv bv ds vs) : ∀ w9, w9 = (w.setCell ⟨R, 0, none⟩ dv).setCell ⟨R, 1, none⟩ bv →
    Str w9 R 33 #[dv, bv] ∧ Below w0.heap.size w0 w9 ∧ RdD w9 dv (ds.map (·.1)) ∧ RdB w9 bv (vs.map (·.1)) := by
  rintro w9 rfl
  have kb := (Kb.set w R 0 dv none).trans (Kb.set _ R 1 bv none)
  have s := (h.rs.set 0 dv).set 1 bv
  have hb := h.ms.tp.bl
  have ni : ∀ {v : Value} {xs : List Value} {base : Nat}, Own w base 3 v xs → Own ((w.setCell ⟨R, 0, none⟩ dv).setCell ⟨R, 1, none⟩ bv) base 3 v xs := fun ho => ho.kb kb (.inr (h.rs.apart ho (by decide))) no_or
  refine ⟨by simpa using s, hb.trans (kb.below hb.size (fun g hg => by have := Option.some.inj hg; have := h.hR; omega) (by simp)), (h.od.kb kb (.inr (h.od.off h.rs (by decide))) no_or).rdd fun a ha => ni (h.kd a ha), (h.ms.ob.kb kb (h.ms.ob.off h.rs (by decide)) no_or).rdb fun a ha => ni (h.ms.kd a ha)⟩
end
def DlM (ds : List Dv) (vs : List Bv) : Prop := ∀ (c : CF.Cf) (z : List CF.Br) (rest : List CF.Do), c.brs = vs.map (·.1) ++ z → CF.dl c [] (ds.map (·.1) ++ rest) 0 = CF.dl c (ds.map (·.1)) rest vs.length
theorem DlM.start : DlM [] [] := fun _ _ _ _ => rfl
theorem DlM.more {ds : List Dv} {vs more : List Bv} {x : CF.Do} {kv : Value} (h : DlM ds vs) (hn : D.nm x.name = true) (hd : ∀ a ∈ ds, a.1.name ≠ x.name) (hk : KfM 1 ((ds.length : Nat) : Int) (-1) vs.length (more.map (·.1)) x.kids) : DlM (ds ++ [(x, kv)]) (vs ++ more) := by
  intro c z rest hc
  rw [List.map_append, List.append_assoc] at hc
  have h2 := hk c (vs.map (·.1)) z (by simp) hc
  rw [List.map_append, List.append_assoc, h c _ _ hc]
  show CF.dl c (ds.map (·.1)) (x :: rest) vs.length = CF.dl c (ds.map (·.1) ++ [x]) rest _
  have hs : ((ds.map (·.1)).any fun y => decide (y.name = x.name)) = false := by
    rw [List.any_eq_false]
    intro y hy
    obtain ⟨a, ha, rfl⟩ := List.mem_map.1 hy
    simpa using hd a ha
  rw [CF.dl, if_neg (by rw [hn, hs]; simp), List.length_map]
  have e9 : (9 - 1 : Nat) = 8 := rfl
  rw [e9] at h2
  rw [h2, List.length_map, List.length_append]
theorem DlM.chk {ds : List Dv} {vs : List Bv} (h : DlM ds vs) (h1 : 1 ≤ ds.length) (h2 : ds.length ≤ 3) (h3 : vs.length ≤ 40) : CF.chk ⟨ds.map (·.1), vs.map (·.1)⟩ = true := by
  have := h ⟨ds.map (·.1), vs.map (·.1)⟩ [] [] (by simp)
  rw [List.append_nil, CF.dl] at this
  unfold CF.chk
  refine decide_eq_true ⟨?_, ?_, ?_, ?_⟩
  · show 1 ≤ (ds.map (·.1)).length; rw [List.length_map]; exact h1
  · show (ds.map (·.1)).length ≤ 16; rw [List.length_map]; omega
  · show (vs.map (·.1)).length ≤ 500; rw [List.length_map]; omega
  · rw [this, List.length_map]
def Nmd (ds : List Dv) : Prop := ds.map (·.1.name) = CF.mDoms.take ds.length
theorem Nmd.start : Nmd [] := rfl
theorem dom_ok : ∀ i, i < 3 → ∃ s, CF.mDoms[i]? = some s ∧ D.nm s = true ∧ s.length ≤ 8 ∧ ∀ x ∈ CF.mDoms.take i, x ≠ s := by
  intro k hk
  have : k = 0 ∨ k = 1 ∨ k = 2 := by omega
  rcases this with rfl | rfl | rfl
  · exact ⟨_, rfl, by decide +kernel⟩
  · exact ⟨_, rfl, by decide +kernel⟩
  · exact ⟨_, rfl, by decide +kernel⟩
theorem Nmd.more {ds : List Dv} {x : CF.Do} {kv : Value} (h : Nmd ds) (hs : CF.mDoms[ds.length]? = some x.name) : Nmd (ds ++ [(x, kv)]) := by
  unfold Nmd at h ⊢
  rw [List.map_append, h, List.length_append]
  show _ = CF.mDoms.take (ds.length + 1)
  rw [List.take_add_one, hs]; rfl
theorem Nmd.ne {ds : List Dv} {s : LX.B} (h : Nmd ds) (hs : ∀ x ∈ CF.mDoms.take ds.length, x ≠ s) : ∀ a ∈ ds, a.1.name ≠ s := fun a ha => hs _ (by rw [← h]; exact List.mem_map.2 ⟨a, ha, rfl⟩)
theorem doms_len : ∀ s ∈ CF.mDoms, s.length ≤ 8 := by decide +kernel
theorem Nmd.len {ds : List Dv} (h : Nmd ds) : ∀ a ∈ ds, a.1.name.length ≤ 8 := fun a ha => doms_len _ (List.mem_of_mem_take (by rw [← h]; exact List.mem_map.2 ⟨a, ha, rfl⟩))
theorem made_small {ds : List Dv} {vs : List Bv} (h : Nmd ds) (hb : ∀ a ∈ vs, BrM a.1) : CF.Small ⟨ds.map (·.1), vs.map (·.1)⟩ :=
  ⟨fun b hm => by obtain ⟨a, ha, rfl⟩ := List.mem_map.1 hm; exact ⟨(hb a ha).kl, (hb a ha).vl, (hb a ha).nl⟩, fun d hm => by obtain ⟨a, ha, rfl⟩ := List.mem_map.1 hm; exact h.len a ha⟩
theorem made_ok {ds : List Dv} {vs : List Bv} (h : Nmd ds) (hb : ∀ a ∈ vs, BrM a.1) : CfOk ⟨ds.map (·.1), vs.map (·.1)⟩ :=
  ⟨fun d hm => by obtain ⟨a, ha, rfl⟩ := List.mem_map.1 hm; have := h.len a ha; unfold maxLen; omega, fun b hm => by
    obtain ⟨a, ha, rfl⟩ := List.mem_map.1 hm
    have h1 := hb a ha
    have := h1.kl; have := h1.vl; have := h1.nl
    exact ⟨by unfold maxLen; omega, by unfold maxLen; omega, ⟨by unfold maxLen; omega, h1.nr⟩⟩⟩
structure Mad (c : CF.Cf) : Prop where
  chk : CF.chk c = true
  small : CF.Small c
  ok : CfOk c
  brs : c.brs.length ≤ 40
  doms : c.doms.length ≤ 3
theorem mad_of {ds : List Dv} {vs : List Bv} (h : DlM ds vs) (hn : Nmd ds) (hb : ∀ a ∈ vs, BrM a.1) (h1 : 1 ≤ ds.length) (h2 : ds.length ≤ 3) (h3 : vs.length ≤ 40) : Mad ⟨ds.map (·.1), vs.map (·.1)⟩ :=
  ⟨h.chk h1 h2 h3, made_small hn hb, made_ok hn hb, by show (vs.map (·.1)).length ≤ 40; rw [List.length_map]; exact h3, by show (ds.map (·.1)).length ≤ 3; rw [List.length_map]; exact h2⟩
def CgE (w : World) (e : Ending) (w' : World) : Prop := Below w.heap.size w w' ∧ ∃ (c : CF.Cf) (vd vb : Value), e = .returned (.agg #[vd, vb]) ∧ RdD w' vd c.doms ∧ RdB w' vb c.brs ∧ Mad c
theorem config_size2 : (Tryz.prog.info? 33).map (·.size) = some 2 := by kernel_rfl
theorem config_ret {tmps : Array Value} {w : World} {p : Nat} {cs : Array Value} (hp : tmps.getD 2 undef = .pointer (some ⟨p, 0, none⟩)) (h1 : Str w p 33 cs) (h4 : cs.size = 2) :
    (results Tryz.f7 tmps).run Tryz.prog w = .ok (.agg cs) w := by
  have hs1 : w.heap[p]? = some (.cells cs 33 (0, 0)) := h1
  have l1 := run_loadVar_row (P := Tryz.prog) w p 33 33 cs (0, 0) _ hs1 Tryz.underlying33 rfl (by rw [h4]; exact config_size2)
  have hp' : (asAddr (tmps.getD 2 undef)).run Tryz.prog w = .ok ⟨p, 0, none⟩ w := by rw [hp]; simp [asAddr]
  simp only [Array.getD_eq_getD_getElem?] at hp'
  simp only [results, Tryz.results7]
  simp [Sem.run_bind, Result.andThen, hp', l1]
theorem cs_start (w : World) {lv : Value} {zs : List Int} (h : Rdv w lv (ints zs)) :
    Cs w (((w.alloc (.cells #[.slice none 0 0, .slice none 0 0] 33)).alloc (.cells #[lv, .int .i64 0] 63)).alloc (.cells #[.slice none 0 0, .slice none 0 0] 33)) (w.heap.size + 1) (w.heap.size + 1 + 1) w.heap.size lv zs (.slice none 0 0) (.slice none 0 0) [] [] := by
  have b1 := below_alloc w (.cells #[.slice none 0 0, .slice none 0 0] 33)
  have s1 := Str.new w 33 #[.slice none 0 0, .slice none 0 0]
  obtain ⟨w1, hw1⟩ : ∃ w1, w.alloc (.cells #[.slice none 0 0, .slice none 0 0] 33) = w1 := ⟨_, rfl⟩
  have z1 : w1.heap.size = w.heap.size + 1 := by rw [← hw1, bx_size]
  rw [hw1] at b1 s1 ⊢
  have b2 := below_alloc w1 (.cells #[lv, .int .i64 0] 63)
  have s2 := Str.new w1 63 #[lv, .int .i64 0]
  obtain ⟨w2, hw2⟩ : ∃ w2, w1.alloc (.cells #[lv, .int .i64 0] 63) = w2 := ⟨_, rfl⟩
  have z2 : w2.heap.size = w.heap.size + 2 := by rw [← hw2, bx_size, z1]
  rw [hw2] at b2 s2 ⊢
  have b3 := below_alloc w2 (.cells #[.slice none 0 0, .slice none 0 0] 33)
  have s3 := Str.new w2 33 #[.slice none 0 0, .slice none 0 0]
  rw [z1] at s2
  rw [z2] at s3
  exact ⟨⟨⟨below_trans (below_trans b1 b2) b3, by omega, ⟨0, Nat.zero_le _, s2.below b3⟩, h⟩, by omega, s3, World.ownsRow_nil _ _ _ 13, by simp⟩, OwnD.nil _ _, by simp, (s1.below b2).below b3, Nat.le_refl _, by omega⟩
end Go.Proofs.YtgfhabofhefaaaaGreatDoor
namespace Go.Proofs.YtgfhabofhefaaaaGreatDoor
open Go.RowKit
theorem set_last {α : Type} {l : List α} {i : Nat} (h : l.length = i) (a b : α) : (l ++ [a]).set i b = l ++ [b] := by
  subst h
  rw [List.set_append_right _ _ (Nat.le_refl _), Nat.sub_self]; rfl
set_option maxRecDepth 10000 in
set_option maxHeartbeats 64000000 in
theorem mconfig_any (v : Value) (zs : List Int) (w : World) (h : Rdv w v (ints zs)) :
    Calls Tryz.prog 7 #[v] w (CgE w) := by
  obtain ⟨ao, cap, rfl⟩ := h.slice
  have HS := Lib.hid (cs_start w h)
  clear h
  obtain ⟨L, hL⟩ : ∃ L, (ints zs).length = L := ⟨_, rfl⟩
  rw [hL] at HS ⊢
  clear hL
  obtain ⟨R, hR⟩ : ∃ R, w.heap.size = R := ⟨_, rfl⟩
  rw [hR] at HS
  have HN0 := Lib.hid (mnext_lit HS.out.ms.tp 2 2 rfl (by decide) (by decide))
  go_enter Tryz.func7, Tryz.ntmps7
  go_upto_region 3 with fail
  generalize World.alloc (World.alloc (World.alloc _ _) _) _ = w3 at *
  go_upto_region 4 with (go_at_call 25; refine HN0.out.mono ?_; rintro e w1 ⟨⟨r, hr, rfl⟩, ht, hk⟩; have HC1 := Lib.hid (HS.out.next ht hk); have hri : (r : Int) < 2 := (by omega); clear ht hk)
  obtain ⟨M, hM⟩ : ∃ M : Nat, 1 + (r : Int) = (M : Int) := ⟨1 + r, by omega⟩
  have HMM : Hid (1 ≤ M ∧ M ≤ 2) := by show _ ∧ _; omega
  rw [hM]
  clear hM hri hr HN0 HS
  go_wp2
  go_loopg [6] M (fun g s6 wx => ∃ (i : Nat) (dv bv : Value) (ds : List Dv) (vs : List Bv), i + g = M ∧ s6 = .int .i64 (i : Int) ∧ Hid (Cs w wx (R + 1) (R + 1 + 1) R (.slice ao L cap) zs dv bv ds vs) ∧ Hid (ds.length = i ∧ vs.length ≤ 40 ∧ ∀ a ∈ vs, BrM a.1) ∧ Hid (DlM ds vs) ∧ Hid (Nmd ds))
  case atStart => exact ⟨0, _, _, [], [], by omega, rfl, HC1, Lib.hid ⟨rfl, by simp, by simp⟩, Lib.hid DlM.start, Lib.hid Nmd.start⟩
  case round =>
    clear HC1
    obtain ⟨i, dv, bv, ds, vs, hi, rfl, HC, HLN, HDL, HNM⟩ := hrel
    obtain ⟨do1, dc, rfl, hdm⟩ := HC.out.od.slice
    rw [HLN.out.1] at HC
    have p0 : wr.cell? ⟨R + 1 + 1, 0, none⟩ = some (.slice do1 i dc) := HC.out.ms.cf.cell 0
    clear hdm
    cases gk with
    | zero =>
      obtain rfl : i = M := by omega
      have p1 : wr.cell? ⟨R + 1 + 1, 1, none⟩ = some bv := HC.out.ms.cf.cell 1
      have z0 : wr.cell? ⟨R, 0, none⟩ = some (.slice none 0 0) := HC.out.rs.cell 0
      have y0 := HC.out.rs.frozen 0
      have z1 : wr.cell? ⟨R, 1, none⟩ = some (.slice none 0 0) := HC.out.rs.cell 1
      have y1 := HC.out.rs.frozen 1
      have HX := Lib.hid HC.out.res
      have HMD := Lib.hid (mad_of HDL.out HNM.out HLN.out.2.2 (by have h1 := HMM.out; have h2 := HLN.out.1; omega) (by have h1 := HMM.out; have h2 := HLN.out.1; omega) HLN.out.2.1)
      obtain ⟨bo, bc, rfl, -⟩ := HC.out.ms.ob.slice
      go_wp2
      obtain ⟨x1, x2, x3, x4⟩ := HX.out _ rfl
      refine bodyPost_ret (config_ret rfl x1 rfl) rfl ?_
      exact ⟨x2, _, _, _, rfl, x3, x4, HMD.out⟩
    | succ g =>
      have hiM : (i : Int) < (M : Int) := by omega
      have hMi : (M : Int) ≤ 2 := by have := HMM.out.2; omega
      have hi0 : (0 : Int) ≤ (i : Int) := by omega
      have hi3 : (i : Int) < 3 := by omega
      obtain ⟨nm, hnm, hnk, hnl, hnx⟩ := dom_ok i (by omega)
      have HND := Lib.hid (And.intro hnm (And.intro hnk hnx))
      clear hnm hnk hnl hnx
      go_upto_region 7 with fail
      go_cut [] (fun wx => ∃ do2 dc2, Hid (Cs w wx (R + 1) (R + 1 + 1) R (.slice ao L cap) zs (.slice do2 (i + 1) dc2) bv (ds ++ [((⟨nm, []⟩ : CF.Do), (.slice none 0 0 : Value))]) vs))
      case first =>
        have HDM := Lib.hid (mdoms_any wr.drew)
        go_region_law (first
          | (refine step_append_domain (l := (⟨nm, []⟩ : CF.Do)) (by rfl) (.tmp 20) (.tmp 26) (by rfl) w.heap.size (by rfl) HC5.out.od (by rfl) HS5.out (by have h1 := HLN.out.1; omega) HC5.out.ms.size ?_; intro g4 cap4 w5 ho4 hg4; rw [HLN.out.1] at ho4 ⊢; obtain ⟨s5, m5⟩ := HC5.out.push hg4 ho4 rfl; have HM5 := Lib.hid m5; have k0 : w5.cell? ⟨R + 1 + 1, 0, none⟩ = some (.slice do1 i dc) := s5.cell 0; have j0 := s5.frozen 0; clear ho4 hg4 s5 m5)
          | (go_simp; go_at_call 26; (with_reducible refine HDM.out.mono ?_); rintro e w2 ⟨kv, rfl, ho, hb⟩; have HC2 := HC.out.calm (below_trans (below_drew _) hb); obtain ⟨b3, o3, c3, e3, u3⟩ := ho.rd.atv (j := i) (u := .string ⟨nm.toArray⟩) (by simp [sv, HND.out.1]); rw [show (sv CF.mDoms).length = 3 from rfl] at e3; subst e3; have p2 : w2.cell? ⟨R + 1 + 1, 0, none⟩ = some (.slice do1 i dc) := HC2.ms.cf.cell 0; have A_p2 := fun o => ((below_alloc w2 o).cell (cell_lt p2)).trans p2; have HC5 := Lib.hid (HC2.calm (below_alloc w2 (.cells #[.string ⟨nm.toArray⟩, .slice none 0 0] 58))); have HS5 := Lib.hid (Str.new w2 58 #[.string ⟨nm.toArray⟩, .slice none 0 0]); clear ho hb HC2))
        all_goals
          go_wp2_with fail
          go_meet
          exact ⟨_, _, HM5⟩
      case rest =>
        obtain ⟨do2, dc2, HC2⟩ := hcut
        clear HC p0 wr
        have HNM1 : Hid (Nmd (ds ++ [((⟨nm, []⟩ : CF.Do), (.slice none 0 0 : Value))])) := Lib.hid (HNM.out.more (by rw [HLN.out.1]; exact HND.out.1))
        have HNX : Hid (∀ a ∈ ds, a.1.name ≠ nm) := Lib.hid (HNM.out.ne (by rw [HLN.out.1]; exact HND.out.2.2))
        obtain ⟨ds2, hds2⟩ : ∃ l, ds ++ [((⟨nm, []⟩ : CF.Do), (.slice none 0 0 : Value))] = l := ⟨_, rfl⟩
        have HDS := Lib.hid hds2
        rw [hds2] at HC2 HNM1
        clear hds2
        go_upto_region 8 with fail
        go_cut [35] (fun s35 wx => ∃ bb : Bool, s35 = .bool bb ∧ Hid (Cs w wx (R + 1) (R + 1 + 1) R (.slice ao L cap) zs (.slice do2 (i + 1) dc2) bv ds2 vs))
        case first =>
          by_cases h0 : i = 0
          · subst h0
            go_wp2_with fail
            go_meet
            exact ⟨_, rfl, HC2⟩
          · have h0i : ((i : Int) == 0) = false := by simpa using h0
            have h0n : (i == 0) = false := by simpa using h0
            have HN2 := Lib.hid (mnext_lit HC2.out.ms.tp 2 2 rfl (by decide) (by decide))
            go_wp2_with (go_at_call 25; refine HN2.out.mono ?_; rintro e w2 ⟨⟨r, hr, rfl⟩, ht, hk⟩; have HC3 := Lib.hid (HC2.out.next ht hk); clear ht hk)
            go_meet
            exact ⟨_, rfl, HC3⟩
        case rest =>
          obtain ⟨bb, rfl, HC⟩ := hcut
          clear HC2
          cases bb with
          | false =>
            have HDL1 : Hid (DlM ds2 vs) := by
              show DlM _ _
              have := HDL.out.more (more := []) (kv := .slice none 0 0) (x := (⟨nm, []⟩ : CF.Do)) HND.out.2.1 HNX.out (KfM.nil _ _ _ _)
              rw [List.append_nil, HDS.out] at this
              exact this
            have HLN1 : Hid (ds2.length = i + 1 ∧ vs.length ≤ 40 ∧ ∀ a ∈ vs, BrM a.1) := by
              show _ ∧ _
              refine ⟨?_, HLN.out.2⟩
              rw [← HDS.out, List.length_append, HLN.out.1]; rfl
            go_wp2
            go_roundg g
            case rel => exact ⟨i + 1, _, _, _, _, by omega, by first | rfl | (simp; done), HC, HLN1, HDL1, HNM1⟩
            case measure => omega
          | true =>
            have HBR := Lib.hid (mbranches_all 4 w wc (R + 1) (R + 1 + 1) (.slice ao L cap) zs (.slice do2 (i + 1) dc2) bv vs (i : Int) (-1) 1 HC.out.ms rfl (by omega) (by omega) HLN.out.2.1)
            rw [show ((1 : Nat) : Int) = 1 from rfl] at HBR
            have HX := Lib.hid (show ds2[i]? = some ((⟨nm, []⟩ : CF.Do), (.slice none 0 0 : Value)) by rw [← HDS.out, List.getElem?_append_right (by rw [HLN.out.1]; exact Nat.le_refl _), HLN.out.1, Nat.sub_self]; rfl)
            have HL2 : Hid (ds2.length = i + 1) := by show _ = _; rw [← HDS.out, List.length_append, HLN.out.1]; rfl
            go_wp2_with (go_at_call 27; refine HBR.out.mono ?_; rintro e w3 ⟨kv, nums, bv2, more, rfl, ho, hms, hn, hk, hlen, hnw, hkf⟩; have hc3 := HC.out.fed hms hk; obtain ⟨g6, cap6, hdv, a1, fz, hc4⟩ := hc3.kids HX.out (ho.base HC.out.ms.size); rw [HL2.out] at hdv; simp only [Value.slice.injEq] at hdv; obtain ⟨rfl, -, rfl⟩ := hdv; obtain ⟨ka, kc, rfl⟩ := ho.slice; have HC4 := Lib.hid hc4; have q0 : w3.cell? ⟨R + 1 + 1, 0, none⟩ = some (.slice (some ⟨g6, 0, none⟩) (i + 1) dc2) := hc3.ms.cf.cell 0; have f1 := fz (i * 2 + 1); have HKF := Lib.hid hkf; have HHL := Lib.hid hlen; have HNW := Lib.hid hnw; clear ho hms hn hk hlen hnw hkf hc3 hc4 fz)
            go_roundg g
            case rel =>
              have e2 : ds2.set i ((⟨nm, nums⟩ : CF.Do), (.slice ka (ints nums).length kc : Value)) = ds ++ [((⟨nm, nums⟩ : CF.Do), (.slice ka (ints nums).length kc : Value))] := by rw [← HDS.out]; exact set_last HLN.out.1 _ _
              have HC5 : Hid (Cs w (w3.setCell ⟨g6, i * 2 + 1, none⟩ (.slice ka (ints nums).length kc)) (R + 1) (R + 1 + 1) R (.slice ao L cap) zs (.slice (some ⟨g6, 0, none⟩) (i + 1) dc2) bv2 (ds ++ [((⟨nm, nums⟩ : CF.Do), (.slice ka (ints nums).length kc : Value))]) (vs ++ more)) := by
                rw [← e2]; exact HC4
              have HDL1 : Hid (DlM (ds ++ [((⟨nm, nums⟩ : CF.Do), (.slice ka (ints nums).length kc : Value))]) (vs ++ more)) := HDL.out.more (x := (⟨nm, nums⟩ : CF.Do)) HND.out.2.1 HNX.out (by rw [HLN.out.1]; exact HKF.out)
              have HLN1 : Hid ((ds ++ [((⟨nm, nums⟩ : CF.Do), (.slice ka (ints nums).length kc : Value))]).length = i + 1 ∧ (vs ++ more).length ≤ 40 ∧ ∀ a ∈ vs ++ more, BrM a.1) := by
                show _ ∧ _
                refine ⟨by rw [List.length_append, HLN.out.1]; rfl, HHL.out, fun a ha => ?_⟩
                rcases List.mem_append.1 ha with ha | ha
                · exact HLN.out.2.2 a ha
                · exact (HNW.out a ha).1
              have HNM2 : Hid (Nmd (ds ++ [((⟨nm, nums⟩ : CF.Do), (.slice ka (ints nums).length kc : Value))])) := HNM.out.more (by rw [HLN.out.1]; exact HND.out.1)
              exact ⟨i + 1, _, _, _, _, by omega, by first | rfl | (simp; done), HC5, HLN1, HDL1, HNM2⟩
            case measure => omega
end Go.Proofs.YtgfhabofhefaaaaGreatDoor
