/- A part of the proof. -/
import Derived.Test.YtgfhabofhefaaaaGreatDoorSB06
import Derived.Maps.AppendAt
import Derived.Laws.ResultCell
import Derived.Test.YtgfhabofhefaaaaGreatDoorSB07
import Derived.Test.YtgfhabofhefaaaaGreatDoorSB08
namespace Go.Proofs.YtgfhabofhefaaaaGreatDoor
open Go.RowKit
def RdAll (w : World) (vs : List Value) (bss : List (List UInt8)) : Prop := vs.length = bss.length ∧ ∀ (j : Nat) v bs, vs[j]? = some v → bss[j]? = some bs → Rdv w v (bv bs)
def OwnAll (w : World) (base : Nat) (e : TypeId) (vs : List Value) (bss : List (List UInt8)) : Prop := vs.length = bss.length ∧ ∀ (j : Nat) v bs, vs[j]? = some v → bss[j]? = some bs → Own w base e v (bv bs)
def Rdl (w : World) (v : Value) (bss : List (List UInt8)) : Prop := ∃ vs, Rdv w v vs ∧ RdAll w vs bss
def Ownl (w : World) (base : Nat) (r e : TypeId) (v : Value) (bss : List (List UInt8)) : Prop := ∃ vs, Own w base r v vs ∧ OwnAll w base e vs bss
theorem RdAll.below {w w' : World} {vs : List Value} {bss : List (List UInt8)} (h : RdAll w vs bss) (hb : Below w.heap.size w w') : RdAll w' vs bss := ⟨h.1, fun j v bs h1 h2 => (h.2 j v bs h1 h2).below hb⟩
theorem Rdl.below {w w' : World} {v : Value} {bss : List (List UInt8)} (h : Rdl w v bss) (hb : Below w.heap.size w w') : Rdl w' v bss := by
  obtain ⟨vs, h1, h2⟩ := h
  exact ⟨vs, h1.below hb, h2.below hb⟩
theorem OwnAll.below {w w' : World} {base : Nat} {e : TypeId} {vs : List Value} {bss : List (List UInt8)} (h : OwnAll w base e vs bss) (hb : Below w.heap.size w w') : OwnAll w' base e vs bss := ⟨h.1, fun j v bs h1 h2 => (h.2 j v bs h1 h2).below hb⟩
theorem Ownl.below {w w' : World} {base : Nat} {r e : TypeId} {v : Value} {bss : List (List UInt8)} (h : Ownl w base r e v bss) (hb : Below w.heap.size w w') : Ownl w' base r e v bss := by
  obtain ⟨vs, h1, h2⟩ := h
  exact ⟨vs, h1.below hb, h2.below hb⟩
theorem OwnAll.rd {w : World} {base : Nat} {e : TypeId} {vs : List Value} {bss : List (List UInt8)} (h : OwnAll w base e vs bss) : RdAll w vs bss := ⟨h.1, fun j v bs h1 h2 => (h.2 j v bs h1 h2).rd⟩
theorem Ownl.rd {w : World} {base : Nat} {r e : TypeId} {v : Value} {bss : List (List UInt8)} (h : Ownl w base r e v bss) : Rdl w v bss := by
  obtain ⟨vs, h1, h2⟩ := h
  exact ⟨vs, h1.rd, h2.rd⟩
theorem Ownl.nil (w : World) (base : Nat) (r e : TypeId) : Ownl w base r e (.slice none 0 0) [] := ⟨[], Own.nil w base r, rfl, by simp⟩
theorem Rdl.nil (w : World) : Rdl w (.slice none 0 0) [] := ⟨[], Rdv.nil w, rfl, by simp⟩
theorem Own.block {w : World} {base : Nat} {e : TypeId} {v : Value} {xs : List Value} (h : Own w base e v xs) {g : Nat} (hg : v.ownBlock = some g) : ∃ cur, w.heap[g]? = some (.cells cur e (0, 0)) := by
  rcases h.2 with ⟨hv, _⟩ | ⟨g', cap, cur, hv, _, hc, _⟩
  · rw [hv] at hg; cases hg
  · rw [hv] at hg
    obtain rfl : g' = g := Option.some.inj hg
    exact ⟨cur, hc⟩
theorem Own.apart {w : World} {base base' : Nat} {e e' : TypeId} {v v' : Value} {xs xs' : List Value} (h : Own w base e v xs) (h' : Own w base' e' v' xs') (hne : e ≠ e') : v.ownBlock = none ∨ v.ownBlock ≠ v'.ownBlock := by
  cases hg : v.ownBlock with
  | none => exact .inl rfl
  | some g =>
    right
    intro he
    obtain ⟨c, hc⟩ := h.block hg
    obtain ⟨c', hc'⟩ := h'.block he.symm
    rw [hc] at hc'
    simp at hc'
    exact hne hc'.2
theorem Own.one {w : World} {base : Nat} {e : TypeId} {v : Value} {xs : List Value} (h : Own w base e v xs) : v.oneCell' = true := by
  rcases h.2 with ⟨hv, _⟩ | ⟨g', cap, cur, hv, _⟩ <;> rw [hv] <;> rfl
theorem Rdv.one {w : World} {v : Value} {xs : List Value} (h : Rdv w v xs) : v.oneCell' = true := by
  obtain ⟨ao, cap, rfl, _⟩ := h
  rfl
theorem Rdl.at {w : World} {v : Value} {bss : List (List UInt8)} (h : Rdl w v bss) {j : Nat} (hj : j < bss.length) :
    ∃ b off cap ao c, v = .slice (some ⟨b, off, none⟩) bss.length cap ∧ b < w.heap.size ∧ w.cell? ⟨b, off + j, none⟩ = some (.slice ao bss[j].length c) ∧ Rdv w (.slice ao bss[j].length c) (bv bss[j]) := by
  obtain ⟨vs, hv, ha⟩ := h
  have hl := ha.1
  obtain ⟨ao, cap, rfl, h1, h2, h3, h4⟩ := hv
  have hj' : j < vs.length := by omega
  obtain ⟨⟨b, off, spot⟩, rfl, hcz⟩ := h4 0 vs[0] (by simp)
  have hspot : spot = none := by simpa [Addr.add] using World.cell?_spot hcz
  subst hspot
  obtain ⟨y, hy, hc0⟩ := h4 j vs[j] (by simp [hj'])
  obtain rfl := Option.some.inj hy
  have hr := ha.2 j vs[j] bss[j] (by simp [hj']) (by simp [hj])
  rw [Addr.add_lit] at hc0
  obtain ⟨ao, c, hv, _⟩ := id hr
  rw [bv_len] at hv
  rw [hv] at hc0 hr
  exact ⟨b, off, cap, ao, c, by rw [hl], cell_lt hc0, hc0, hr⟩
theorem Rdl.len_le {w : World} {v : Value} {bss : List (List UInt8)} (h : Rdl w v bss) : bss.length ≤ maxLen := by
  obtain ⟨vs, hv, ha⟩ := h
  rw [← ha.1]; exact hv.len_le
theorem Rdl.slice {w : World} {v : Value} {bss : List (List UInt8)} (h : Rdl w v bss) : ∃ ao cap, v = .slice ao bss.length cap ∧ bss.length ≤ cap ∧ cap ≤ maxLen := by
  obtain ⟨vs, ⟨ao, cap, rfl, h1, h2, _⟩, ha⟩ := h
  exact ⟨ao, cap, by rw [ha.1], by rw [← ha.1]; exact h1, h2⟩
theorem Rdl.take {w : World} {ao : Option Addr} {cap L : Nat} {bss : List (List UInt8)} (h : Rdl w (.slice ao bss.length cap) bss) (hL : L ≤ bss.length) : Rdl w (.slice ao L cap) (bss.take L) := by
  obtain ⟨vs, ⟨a', c', hv, h1, h2, h3, h4⟩, ha⟩ := h
  have hl := ha.1
  obtain ⟨rfl, -, rfl⟩ : ao = a' ∧ True ∧ cap = c' := by simp at hv; exact ⟨hv.1, trivial, hv.2.2⟩
  refine ⟨vs.take L, ⟨ao, cap, by rw [List.length_take, Nat.min_eq_left (by omega)], by rw [List.length_take]; omega, h2, h3, fun j u hu => h4 j u ?_⟩, by simp [hl], fun j u bs hu hb => ?_⟩
  · rw [List.getElem?_take] at hu
    split at hu
    · exact hu
    · cases hu
  · rw [List.getElem?_take] at hu hb
    split at hu
    · rename_i hj
      rw [if_pos hj] at hb
      exact ha.2 j u bs hu hb
    · cases hu
end Go.Proofs.YtgfhabofhefaaaaGreatDoor
namespace Go.Proofs.YtgfhabofhefaaaaGreatDoor
open Go.RowKit
structure Kb (w w' : World) (p q : Option Nat) : Prop where
  os : w'.os = w.os
  tape : w'.tape = w.tape
  output : w'.output = w.output
  size : w.heap.size ≤ w'.heap.size
  block : ∀ k, k < w.heap.size → some k ≠ p → some k ≠ q → w'.heap[k]? = w.heap[k]?
theorem Kb.refl (w : World) (p q : Option Nat) : Kb w w p q := ⟨rfl, rfl, rfl, Nat.le_refl _, fun _ _ _ _ => rfl⟩
theorem Kb.trans {a b c : World} {p q : Option Nat} (h : Kb a b p q) (k : Kb b c p q) : Kb a c p q :=
  ⟨k.os.trans h.os, k.tape.trans h.tape, k.output.trans h.output, Nat.le_trans h.size k.size, fun i hi h1 h2 => (k.block i (Nat.lt_of_lt_of_le hi h.size) h1 h2).trans (h.block i hi h1 h2)⟩
theorem Kb.trans_new {a b c : World} {p q q' : Option Nat} (h : Kb a b p q) (k : Kb b c p q') (hq : ∀ g, q' = some g → q' = q ∨ a.heap.size ≤ g) : Kb a c p q := by
  refine ⟨k.os.trans h.os, k.tape.trans h.tape, k.output.trans h.output, Nat.le_trans h.size k.size, fun i hi h1 h2 => (k.block i (Nat.lt_of_lt_of_le hi h.size) h1 ?_).trans (h.block i hi h1 h2)⟩
  intro e
  rcases hq i e.symm with hh | hh
  · exact h2 (e.trans hh)
  · omega
theorem Kb.of_below {w w' : World} (h : Below w.heap.size w w') (p q : Option Nat) : Kb w w' p q := ⟨h.os, h.tape, h.output, h.size, fun k hk _ _ => h.block k hk⟩
theorem Kb.of_grown {w w' : World} {q : Option Nat} (h : w.grownBy w' q) (p : Option Nat) : Kb w w' p q := ⟨h.os, h.tape, h.output, h.size, fun k hk _ h2 => h.block k hk h2⟩
theorem Kb.set (w : World) (p i : Nat) (u : Value) (q : Option Nat) : Kb w (w.setCell ⟨p, i, none⟩ u) (some p) q :=
  ⟨rfl, rfl, rfl, by simp [World.setCell], fun k _ h1 _ => Below.heap_setCell _ _ _ _ (by intro e; exact h1 (by rw [e]))⟩
theorem Kb.below {w w' : World} {p q : Option Nat} (h : Kb w w' p q) {B : Nat} (hB : B ≤ w.heap.size) (hp : ∀ g, p = some g → B ≤ g) (hq : ∀ g, q = some g → B ≤ g) : Below B w w' :=
  ⟨h.os, h.tape, h.output, h.size, fun k hk => h.block k (by omega) (fun e => by have := hp k e.symm; omega) (fun e => by have := hq k e.symm; omega)⟩
theorem Own.kb {w w' : World} {base : Nat} {e : TypeId} {v : Value} {xs : List Value} {p q : Option Nat} (h : Own w base e v xs) (hk : Kb w w' p q) (h1 : v.ownBlock = none ∨ v.ownBlock ≠ p) (h2 : v.ownBlock = none ∨ v.ownBlock ≠ q) : Own w' base e v xs := by
  refine ⟨h.1, ?_⟩
  rcases h.2 with hn | ⟨g, cap, cur, rfl, hb, hgg, rest⟩
  · exact .inl hn
  · refine .inr ⟨g, cap, cur, rfl, hb, ?_, rest⟩
    rw [hk.block g (Array.getElem?_eq_some_iff.1 hgg).1 (by simpa [Value.ownBlock] using h1) (by simpa [Value.ownBlock] using h2)]
    exact hgg
def Str (w : World) (p : Nat) (T : TypeId) (cs : Array Value) : Prop := w.heap[p]? = some (.cells cs T (0, 0))
theorem Str.lt {w : World} {p : Nat} {T : TypeId} {cs : Array Value} (h : Str w p T cs) : p < w.heap.size := (Array.getElem?_eq_some_iff.1 h).1
theorem Str.new (w : World) (T : TypeId) (cs : Array Value) : Str (w.alloc (.cells cs T)) w.heap.size T cs := heap_alloc_new w _
theorem Str.kb {w w' : World} {p : Nat} {T : TypeId} {cs : Array Value} {a b : Option Nat} (h : Str w p T cs) (hk : Kb w w' a b) (h1 : some p ≠ a) (h2 : some p ≠ b) : Str w' p T cs := (hk.block p h.lt h1 h2).trans h
theorem Str.below {w w' : World} {p : Nat} {T : TypeId} {cs : Array Value} (h : Str w p T cs) (hb : Below w.heap.size w w') : Str w' p T cs := (hb.block p h.lt).trans h
theorem Str.cell {w : World} {p : Nat} {T : TypeId} {cs : Array Value} (h : Str w p T cs) (i : Nat) : w.cell? ⟨p, i, none⟩ = cs[i]? := by
  unfold World.cell?
  have h' : w.heap[p]? = some (.cells cs T (0, 0)) := h
  simp only [h']
  simp
theorem Str.frozen {w : World} {p : Nat} {T : TypeId} {cs : Array Value} (h : Str w p T cs) (i : Nat) : w.frozen? ⟨p, i, none⟩ = false := by
  unfold World.frozen?
  have h' : w.heap[p]? = some (.cells cs T (0, 0)) := h
  simp only [h']
  simp
theorem Str.set {w : World} {p : Nat} {T : TypeId} {cs : Array Value} (h : Str w p T cs) (i : Nat) (u : Value) : Str (w.setCell ⟨p, i, none⟩ u) p T (cs.setIfInBounds i u) := by
  have h' : w.heap[p]? = some (.cells cs T (0, 0)) := h
  unfold Str World.setCell
  simp only [Array.getElem?_modify, h', if_pos]
  simp
theorem Str.apart {w : World} {p base : Nat} {T e : TypeId} {cs : Array Value} {v : Value} {xs : List Value} (h : Str w p T cs) (ho : Own w base e v xs) (hne : T ≠ e) : v.ownBlock ≠ some p := by
  intro hg
  obtain ⟨c, hc⟩ := ho.block hg
  have h' : w.heap[p]? = some (.cells cs T (0, 0)) := h
  rw [h'] at hc
  simp at hc
  exact hne hc.2
theorem Str.apart_str {w : World} {p q : Nat} {T U : TypeId} {cs ds : Array Value} (h : Str w p T cs) (h2 : Str w q U ds) (hne : T ≠ U) : p ≠ q := by
  rintro rfl
  have h' : w.heap[p]? = some (.cells cs T (0, 0)) := h
  have h2' : w.heap[p]? = some (.cells ds U (0, 0)) := h2
  rw [h'] at h2'
  simp at h2'
  exact hne h2'.2
theorem Own.lt {w : World} {base : Nat} {e : TypeId} {v : Value} {xs : List Value} (h : Own w base e v xs) {g : Nat} (hg : v.ownBlock = some g) : base ≤ g ∧ g < w.heap.size := World.ownsRow.lt h g hg
def Near (w : World) (v v' : Value) : Prop := v'.ownBlock = v.ownBlock ∨ ∀ g, v'.ownBlock = some g → w.heap.size ≤ g
theorem Near.apart {w : World} {v v' u : Value} {base : Nat} {e : TypeId} {xs : List Value} (h : Near w v v') (hu : Own w base e u xs) (ha : u.ownBlock = none ∨ u.ownBlock ≠ v.ownBlock) : u.ownBlock = none ∨ u.ownBlock ≠ v'.ownBlock := by
  rcases h with h | h
  · rwa [h]
  · cases hg : u.ownBlock with
    | none => exact .inl rfl
    | some g =>
      right
      intro he
      have := h g he.symm
      have := hu.lt hg
      omega
theorem wpList_append_at {P : Program} {w : World} {ops : Array Oper} {rest : List Oper} {o : Oper} {a : Act} {Q : Exit → Act → World → Prop} (hgd : o.guard = none) (s x : Operand) (t : TypeId)
    (ho : o.op = .call { callee := .builtin .append, args := #[s, x], argTypes := #[t, t] })
    (base : Nat) (e : TypeId) (z : Value) (bytes : Nat) (ht : P.underlying t = some (.slice e)) (hinfo : (P.info? e).map (fun i => (i.zero, i.size, i.bytes)) = some (some z, 1, bytes)) (hz : z.cells.size = 1)
    {v vx : Value} {xs news : List Value} (hs : a.eval s = v) (hown : Own w base e v xs) (hx : a.eval x = vx) (hrd : Rdv w vx news) (h1 : ∀ u ∈ news, u.oneCell' = true)
    (h63 : xs.length + news.length ≤ maxLen) (hbytes : (xs.length + news.length) * bytes ≤ 140737488355328) (hbase : base ≤ w.heap.size)
    (h : ∀ v' w', Own w' base e v' (xs ++ news) → w.grownBy w' v.ownBlock → Near w v v' → wpList P ops Q rest (a.put o.dst v') w') : wpList P ops Q (o :: rest) a w := by
  obtain ⟨i, hi, hz0, hz1, hz2⟩ := info_parts hinfo
  obtain ⟨ao, cap, rfl, h1', h2, h3, h4⟩ := hrd
  cases ao with
  | none =>
    have hc := h3 rfl
    have hn : news = [] := List.length_eq_zero_iff.1 (by omega)
    subst hn
    subst hc
    refine wpList_append_own_none hgd s x t ho base e i 1 ht hi v xs.length xs hs hown hx ?_
    exact h v w (by simpa using hown) (World.grownBy.refl _ _) (.inl rfl)
  | some ad =>
    refine wpList_append_own_at _ hgd s x t ho base e i z 1 bytes ht hi hz0 hz1 hz2 hz (by decide) v xs.length xs hs hown ad news.length cap news hx (by simp) (fun j u hu => ?_) h1 h63 hbytes hbase ?_
    · obtain ⟨y, hy, hc⟩ := h4 j u hu
      obtain rfl := Option.some.inj hy
      exact hc
    · intro v' w' ho' hg _ hloc
      refine h v' w' ?_ hg (hloc.imp id fun e g hg => ?_)
      · show w'.ownsRow base e 1 v' (xs ++ news).length (xs ++ news)
        rw [List.length_append]; exact ho'
      · rw [e] at hg
        have := Option.some.inj hg
        omega
def Rows (w : World) (base : Nat) (r e : TypeId) (vl : Value) (L : List (List UInt8)) (v : Value) : Prop :=
  ∃ vs, Own w base r vl vs ∧ OwnAll w base e vs L ∧ ∀ u ∈ vs, u.ownBlock = none ∨ u.ownBlock ≠ v.ownBlock
theorem Rows.own {w : World} {base : Nat} {r e : TypeId} {vl : Value} {L : List (List UInt8)} {v : Value} (h : Rows w base r e vl L v) : Ownl w base r e vl L := by
  obtain ⟨vs, h1, h2, _⟩ := h
  exact ⟨vs, h1, h2⟩
theorem Rows.nil (w : World) (base : Nat) (r e : TypeId) (v : Value) : Rows w base r e (.slice Option.none 0 0) [] v := ⟨[], Own.nil w base r, ⟨rfl, by simp⟩, by simp⟩
theorem OwnAll.mem {w : World} {base : Nat} {e : TypeId} {vs : List Value} {L : List (List UInt8)} (h : OwnAll w base e vs L) {u : Value} (hu : u ∈ vs) : ∃ xs, Own w base e u xs := by
  obtain ⟨j, hj, rfl⟩ := List.getElem_of_mem hu
  have hl := h.1
  exact ⟨_, h.2 j vs[j] (L[j]'(by omega)) (by simp [hj]) (by simp)⟩
theorem OwnAll.kb {w w' : World} {base : Nat} {e : TypeId} {vs : List Value} {L : List (List UInt8)} {p q : Option Nat} (h : OwnAll w base e vs L) (hk : Kb w w' p q) (h1 : ∀ u ∈ vs, u.ownBlock = none ∨ u.ownBlock ≠ p) (h2 : ∀ u ∈ vs, u.ownBlock = none ∨ u.ownBlock ≠ q) : OwnAll w' base e vs L :=
  ⟨h.1, fun j u bs hu hb => (h.2 j u bs hu hb).kb hk (h1 u (List.mem_of_getElem? hu)) (h2 u (List.mem_of_getElem? hu))⟩
end Go.Proofs.YtgfhabofhefaaaaGreatDoor
namespace Go.Proofs.YtgfhabofhefaaaaGreatDoor
open Go.RowKit
theorem Str.cells3 {x : World} {p : Nat} {T : TypeId} {a b c : Value} (h : Str x p T #[a, b, c]) : x.cell? ⟨p, 0, none⟩ = some a ∧ x.cell? ⟨p, 1, none⟩ = some b ∧ x.cell? ⟨p, 2, none⟩ = some c := ⟨h.cell 0, h.cell 1, h.cell 2⟩
theorem Str.frozen4 {x : World} {p : Nat} {T : TypeId} {cs : Array Value} (h : Str x p T cs) : x.frozen? ⟨p, 0, none⟩ = false ∧ x.frozen? ⟨p, 1, none⟩ = false ∧ x.frozen? ⟨p, 2, none⟩ = false ∧ x.frozen? ⟨p, 3, none⟩ = false := ⟨h.frozen 0, h.frozen 1, h.frozen 2, h.frozen 3⟩
end Go.Proofs.YtgfhabofhefaaaaGreatDoor
namespace Go.Proofs.YtgfhabofhefaaaaGreatDoor
open Go.RowKit
theorem bx_size (w : World) (o : Obj) : (w.alloc o).heap.size = w.heap.size + 1 := Array.size_push ..
theorem no_or {v : Value} : v.ownBlock = none ∨ v.ownBlock ≠ none := by cases hh : v.ownBlock <;> simp
theorem infoparts {P : Program} {e : TypeId} {z : Value} {a b : Nat} (h : (P.info? e).map (fun i => (i.zero, i.size, i.bytes)) = some (some z, a, b)) : ∃ i, P.info? e = some i ∧ i.zero = some z ∧ i.size = a ∧ i.bytes = b := by
  obtain ⟨i, hi, hx⟩ := Option.map_eq_some_iff.1 h
  simp only [Prod.mk.injEq] at hx
  exact ⟨i, hi, hx.1, hx.2.1, hx.2.2⟩
theorem Str.two' {w : World} {p : Nat} {T : TypeId} {x y : Value} (h : Str w p T #[x, y]) (u v : Value) : Str ((w.setCell ⟨p, 0, none⟩ u).setCell ⟨p, 1, none⟩ v) p T #[u, v] := by
  have := (h.set 0 u).set 1 v
  simpa using this
theorem ret_cb {P : Program} {fn : Func} {p u : Tmp} {ty : TypeId} (h : fn.results = #[.cell p ty, .tmp u]) {tmps : Array Value} {w : World} {g : Nat} {T : TypeId} {cs : Array Value} {d : TypeDesc} {b : Value} (hp : tmps.getD p undef = .pointer (some ⟨g, 0, none⟩)) (hb : tmps.getD u undef = b) (hs : Str w g T cs)
    (hu : P.underlying ty = some d) (hd : (match d with | .struct _ | .array _ _ => true | _ => false) = true) (hi : (P.info? ty).map (·.size) = some cs.size) :
    (results fn tmps).run P w = .ok (.tuple #[.agg cs, b]) w := by
  rw [results_cell_tmp h, hp, hb]
  have hs' : w.heap[g]? = some (.cells cs T (0, 0)) := hs
  simp [asAddr, run_loadVar_row w g T ty cs (0, 0) d hs' hu hd hi]
theorem ret_bc {P : Program} {fn : Func} {p u : Tmp} {ty : TypeId} (h : fn.results = #[.tmp u, .cell p ty]) {tmps : Array Value} {w : World} {g : Nat} {T : TypeId} {cs : Array Value} {d : TypeDesc} {b : Value} (hp : tmps.getD p undef = .pointer (some ⟨g, 0, none⟩)) (hb : tmps.getD u undef = b) (hs : Str w g T cs)
    (hu : P.underlying ty = some d) (hd : (match d with | .struct _ | .array _ _ => true | _ => false) = true) (hi : (P.info? ty).map (·.size) = some cs.size) :
    (results fn tmps).run P w = .ok (.tuple #[b, .agg cs]) w := by
  have hs' : w.heap[g]? = some (.cells cs T (0, 0)) := hs
  have hp' : (asAddr (tmps.getD p undef)).run P w = .ok ⟨g, 0, none⟩ w := by rw [hp]; simp [asAddr]
  have hl := run_loadVar_row w g T ty cs (0, 0) d hs' hu hd hi
  simp only [results, h]
  simp only [Array.getD_eq_getD_getElem?] at hp' hb
  simp [Sem.run_bind, Result.andThen, hp', hl, hb]
def MaxIs (w : World) : Prop := ∃ m, w.cell? ⟨1, 0, none⟩ = some (.int .i64 m)
theorem MaxIs.below {w w' : World} (h : MaxIs w) (hb : Below w.heap.size w w') : MaxIs w' := by
  obtain ⟨m, hm⟩ := h
  exact ⟨m, (hb.cell (cell_lt hm)).trans hm⟩
theorem fault_size : (Tryz.prog.info? 39).map (·.size) = some 2 := by kernel_rfl
theorem Str.cells2 {x : World} {p : Nat} {T : TypeId} {a b : Value} (h : Str x p T #[a, b]) : x.cell? ⟨p, 0, none⟩ = some a ∧ x.cell? ⟨p, 1, none⟩ = some b := ⟨h.cell 0, h.cell 1⟩
end Go.Proofs.YtgfhabofhefaaaaGreatDoor
namespace Go.Proofs.YtgfhabofhefaaaaGreatDoor
open Go.RowKit
def ruA (r : CF.Ru) : Array Value := #[.string ⟨r.name.toArray⟩, .int .i64 r.unit, .int .i64 r.limit, .float .f64 r.near, .bool r.shadow, .bool r.unl]
structure RuOk (r : CF.Ru) : Prop where
  nl : r.name.length ≤ maxLen
  nr : r.near < 18446744073709551616
theorem secs_any (u : Int) (w : World) :
    Calls Tryz.prog 136 #[.int .i64 u] w fun e w' => e = .returned (.int .i64 (CF.secs u)) ∧ w' = w := by
  unfold CF.secs
  by_cases h1 : u = 1
  · subst h1
    go_enter Tryz.func136, Tryz.ntmps136
    go_wp2
    go_ret
    exact ⟨rfl, rfl⟩
  by_cases h2 : u = 2
  · subst h2
    go_enter Tryz.func136, Tryz.ntmps136
    go_wp2
    go_ret
    exact ⟨rfl, rfl⟩
  by_cases h3 : u = 3
  · subst h3
    go_enter Tryz.func136, Tryz.ntmps136
    go_wp2
    go_ret
    exact ⟨rfl, rfl⟩
  by_cases h4 : u = 4
  · subst h4
    go_enter Tryz.func136, Tryz.ntmps136
    go_wp2
    go_ret
    exact ⟨rfl, rfl⟩
  rw [if_neg h1, if_neg h2, if_neg h3, if_neg h4]
  go_enter Tryz.func136, Tryz.ntmps136
  go_wp2
  go_ret
  exact ⟨rfl, rfl⟩
theorem unit_any (u : Int) (w : World) :
    Calls Tryz.prog 44 #[.int .i64 u] w fun e w' => e = .returned (.string ⟨(CF.unitS u).toArray⟩) ∧ w' = w := by
  unfold CF.unitS
  by_cases h1 : u = 1
  · subst h1
    go_enter Tryz.func44, Tryz.ntmps44
    go_wp2
    go_ret
    exact ⟨rfl, rfl⟩
  by_cases h2 : u = 2
  · subst h2
    go_enter Tryz.func44, Tryz.ntmps44
    go_wp2
    go_ret
    exact ⟨rfl, rfl⟩
  by_cases h3 : u = 3
  · subst h3
    go_enter Tryz.func44, Tryz.ntmps44
    go_wp2
    go_ret
    exact ⟨rfl, rfl⟩
  by_cases h4 : u = 4
  · subst h4
    go_enter Tryz.func44, Tryz.ntmps44
    go_wp2
    go_ret
    exact ⟨rfl, rfl⟩
  rw [if_neg h1, if_neg h2, if_neg h3, if_neg h4]
  go_enter Tryz.func44, Tryz.ntmps44
  go_wp2
  go_ret
  exact ⟨rfl, rfl⟩
set_option maxHeartbeats 8000000 in
theorem sameRule_any (a b : CF.Ru) (w : World) (ha : a.near < 18446744073709551616) (hb : b.near < 18446744073709551616) :
    Calls Tryz.prog 103 #[.agg (ruA a), .agg (ruA b)] w fun e w' => e = .returned (.bool (CF.sameRule a b)) ∧ Below w.heap.size w w' := by
  have HA := Lib.hid (fun w => alike_any a.near b.near ha hb w)
  obtain ⟨K, HK⟩ : ∃ K, Hid (K = CF.sameRule a b) := ⟨_, Lib.hid rfl⟩
  rw [← HK.out]
  have HBX : Hid (∀ a b : Array Value, Below w.heap.size w ((w.alloc (.cells a 90)).alloc (.cells b 90))) := fun a b => below_trans (below_alloc _ _) (below_alloc _ _)
  obtain ⟨xn, xu, xl, xr, xs, xx⟩ := a
  obtain ⟨yn, yu, yl, yr, ys, yx⟩ := b
  unfold ruA
  simp only at HA ⊢
  obtain ⟨o, ho⟩ : ∃ o, (ordI xr yr == 0) = o := ⟨_, rfl⟩
  rw [ho] at HA
  by_cases hn : xn = yn
  · subst hn
    by_cases hu : xu = yu
    · subst hu
      by_cases hl : xl = yl
      · subst hl
        by_cases hs : xs = ys
        · subst hs
          by_cases hx : xx = yx
          · subst hx
            have E : K = o := by rw [HK.out]; simp [CF.sameRule, ho]
            subst E
            clear ho ha hb
            cases xs <;> cases xx
            all_goals
              go_enter Tryz.func103, Tryz.ntmps103
              go_wp2_with (go_at_call 135; refine (HA.out _).mono ?_; rintro e w1 ⟨rfl, rfl⟩)
              go_ret
              exact ⟨rfl, HBX.out _ _⟩
          · have E : K = false := by rw [HK.out]; simp [CF.sameRule, hx]
            subst E
            clear ho ha hb HA HK
            cases xs <;> cases xx <;> cases yx <;> try exact absurd rfl hx
            all_goals
              go_enter Tryz.func103, Tryz.ntmps103
              go_wp2
              go_ret
              exact ⟨rfl, HBX.out _ _⟩
        · have E : K = false := by rw [HK.out]; simp [CF.sameRule, hs]
          subst E
          clear ho ha hb HA HK
          cases xs <;> cases ys <;> try exact absurd rfl hs
          all_goals
            go_enter Tryz.func103, Tryz.ntmps103
            go_wp2
            go_ret
            exact ⟨rfl, HBX.out _ _⟩
      · have E : K = false := by rw [HK.out]; simp [CF.sameRule, hl]
        subst E
        have hkb : (xl == yl) = false := by simpa using hl
        clear ho ha hb HA HK
        go_enter Tryz.func103, Tryz.ntmps103
        go_wp2
        go_ret
        exact ⟨rfl, HBX.out _ _⟩
    · have E : K = false := by rw [HK.out]; simp [CF.sameRule, hu]
      subst E
      have hkb : (xu == yu) = false := by simpa using hu
      clear ho ha hb HA HK
      go_enter Tryz.func103, Tryz.ntmps103
      go_wp2
      go_ret
      exact ⟨rfl, HBX.out _ _⟩
  · have E : K = false := by rw [HK.out]; simp [CF.sameRule, hn]
    subst E
    have htb : (xn == yn) = false := by simpa using hn
    clear ho ha hb HA HK
    go_enter Tryz.func103, Tryz.ntmps103
    go_wp2
    go_ret
    exact ⟨rfl, HBX.out _ _⟩
theorem chkRule_name {r : CF.Ru} (h1 : r.name ≠ []) (h2 : D.nm r.name = false) : CF.chkRule r = false := by
  unfold CF.chkRule; rw [if_pos ⟨h1, h2⟩]
theorem chkRule_unl {r : CF.Ru} (h1 : ¬ (r.name ≠ [] ∧ D.nm r.name = false)) (h2 : r.unl = true) : CF.chkRule r = (decide (r.unit = 0) && decide (r.limit = 0) && (ordI r.near 0 == 0)) := by
  unfold CF.chkRule; rw [if_neg h1, if_pos h2]
theorem chkRule_lim {r : CF.Ru} (h2 : r.unl = false) (h3 : CF.secs r.unit = 0 ∨ r.limit < 0 ∨ 4294967295 < r.limit) : CF.chkRule r = false := by
  unfold CF.chkRule
  split
  · rfl
  · simp only [h2, Bool.false_eq_true, if_false]
theorem chkRule_near {r : CF.Ru} (h1 : ¬ (r.name ≠ [] ∧ D.nm r.name = false)) (h2 : r.unl = false) (h3 : ¬ (CF.secs r.unit = 0 ∨ r.limit < 0 ∨ 4294967295 < r.limit)) :
    CF.chkRule r = if ordI r.near 0 < 0 ∨ 0 < ordI r.near 4607182418800017408 then false else wrOk r.near := by
  unfold CF.chkRule
  rw [if_neg h1, if_neg (by simp [h2]), if_neg h3]
structure RuC (r : CF.Ru) : Prop where
  name : ∀ w : World, Calls Tryz.prog 40 #[.string ⟨r.name.toArray⟩] w fun e w' => e = .returned (.bool (D.nm r.name)) ∧ w' = w
  alike : ∀ w : World, Calls Tryz.prog 135 #[.float .f64 r.near, .float .f64 0] w fun e w' => e = .returned (.bool (ordI r.near 0 == 0)) ∧ w = w'
  wr : ∀ w : World, Calls Tryz.prog 43 #[.float .f64 r.near] w fun e w' => e = .returned (.tuple #[.string ⟨(wrS r.near).toArray⟩, .bool (wrOk r.near)]) ∧ Below w.heap.size w w'
theorem RuOk.calls {r : CF.Ru} (h : RuOk r) : RuC r := ⟨fun w => rname_any _ h.nl w, fun w => alike_any _ _ h.nr (by decide) w, fun w => rwrite_any _ h.nr w⟩
theorem ordI_range (x y : Nat) : ordI x y = -1 ∨ ordI x y = 0 ∨ ordI x y = 1 := by
  unfold ordI
  split
  · simp
  · split <;> simp
set_option maxHeartbeats 16000000 in
theorem chkRule_any (r : CF.Ru) (w : World) (h : RuOk r) :
    Calls Tryz.prog 102 #[.agg (ruA r)] w fun e w' => e = .returned (.bool (CF.chkRule r)) ∧ Below w.heap.size w w' := by
  have HC := Lib.hid h.calls
  obtain ⟨K, HK⟩ : ∃ K, Hid (K = CF.chkRule r) := ⟨_, Lib.hid rfl⟩
  rw [← HK.out]
  have HBX : Hid (∀ a : Array Value, Below w.heap.size w (w.alloc (.cells a 90))) := fun a => below_alloc _ _
  obtain ⟨xn, xu, xl, xr, xs, xx⟩ := r
  have HN := Lib.hid HC.out.name
  have HL := Lib.hid HC.out.alike
  have HO := Lib.hid (fun (y : Nat) (hy : y < 18446744073709551616) (w : World) => rorder_any xr y h.nr hy w)
  have HW := Lib.hid HC.out.wr
  have HSE := Lib.hid (fun w => secs_any xu w)
  unfold ruA
  simp only at HN HL HW ⊢
  have hr0 := ordI_range xr 0
  have hr1 := ordI_range xr 4607182418800017408
  obtain ⟨nb, hnb⟩ : ∃ b, D.nm xn = b := ⟨_, rfl⟩
  obtain ⟨o, ho⟩ : ∃ o, (ordI xr 0 == 0) = o := ⟨_, rfl⟩
  obtain ⟨sc, hsc⟩ : ∃ o, CF.secs xu = o := ⟨_, rfl⟩
  obtain ⟨ws, hws⟩ : ∃ o, (wrS xr) = o := ⟨_, rfl⟩
  obtain ⟨wk, hwk⟩ : ∃ o, (wrOk xr) = o := ⟨_, rfl⟩
  rw [hnb] at HN
  rw [ho] at HL
  rw [hsc] at HSE
  rw [hws, hwk] at HW
  clear h HC
  -- the name
  by_cases hn : xn ≠ [] ∧ nb = false
  · have E : K = false := by rw [HK.out]; exact chkRule_name hn.1 (by rw [hnb]; exact hn.2)
    have htb : (xn == []) = false := by simpa using hn.1
    obtain ⟨-, rfl⟩ := hn
    subst E
    clear HL HO HW HSE HK hr0 hr1
    go_enter Tryz.func102, Tryz.ntmps102
    go_wp2_with (go_at_call 40; refine (HN.out _).mono ?_; rintro e w1 ⟨rfl, rfl⟩)
    go_ret
    exact ⟨rfl, HBX.out _⟩
  have hn' : ¬ ((⟨xn, xu, xl, xr, xs, xx⟩ : CF.Ru).name ≠ [] ∧ D.nm (⟨xn, xu, xl, xr, xs, xx⟩ : CF.Ru).name = false) := by simp only; rw [hnb]; exact hn
  have hz : (xn = []) ∨ ((xn == []) = false ∧ nb = true) := by
    by_cases hx : xn = []
    · exact .inl hx
    · exact .inr ⟨by simpa using hx, by
        cases nb with
        | true => rfl
        | false => exact absurd ⟨hx, rfl⟩ hn⟩
  cases xx with
  | true =>
    have E0 : K = (decide (xu = 0) && decide (xl = 0) && o) := by rw [HK.out, chkRule_unl hn' rfl, ho]
    clear hn hn' HK HO HW HSE hr0 hr1 ho hnb
    by_cases hu : xu = 0
    · subst hu
      by_cases hl : xl = 0
      · subst hl
        have E : K = o := by rw [E0]; simp
        subst E
        clear E0
        rcases hz with rfl | ⟨hz, rfl⟩
        all_goals
          go_enter Tryz.func102, Tryz.ntmps102
          go_wp2_with (first
            | (go_at_call 40; refine (HN.out _).mono ?_; rintro e w1 ⟨rfl, rfl⟩)
            | (go_at_call 135; refine (HL.out _).mono ?_; rintro e w1 ⟨rfl, rfl⟩)
            | (go_at_call 136; refine (HSE.out _).mono ?_; rintro e w1 ⟨rfl, rfl⟩)
            | (go_at_call 137; refine (HO.out _ (by decide) _).mono ?_; rintro e w1 ⟨rfl, rfl⟩))
          go_ret
          exact ⟨rfl, HBX.out _⟩
      · have E : K = false := by rw [E0]; simp [hl]
        subst E
        have hlb : (xl == 0) = false := by simpa using hl
        clear E0
        rcases hz with rfl | ⟨hz, rfl⟩
        all_goals
          go_enter Tryz.func102, Tryz.ntmps102
          go_wp2_with (first
            | (go_at_call 40; refine (HN.out _).mono ?_; rintro e w1 ⟨rfl, rfl⟩)
            | (go_at_call 135; refine (HL.out _).mono ?_; rintro e w1 ⟨rfl, rfl⟩)
            | (go_at_call 136; refine (HSE.out _).mono ?_; rintro e w1 ⟨rfl, rfl⟩)
            | (go_at_call 137; refine (HO.out _ (by decide) _).mono ?_; rintro e w1 ⟨rfl, rfl⟩))
          go_ret
          exact ⟨rfl, HBX.out _⟩
    · have E : K = false := by rw [E0]; simp [hu]
      subst E
      have hub : (xu == 0) = false := by simpa using hu
      clear E0
      rcases hz with rfl | ⟨hz, rfl⟩
      all_goals
        go_enter Tryz.func102, Tryz.ntmps102
        go_wp2_with (first
          | (go_at_call 40; refine (HN.out _).mono ?_; rintro e w1 ⟨rfl, rfl⟩)
          | (go_at_call 135; refine (HL.out _).mono ?_; rintro e w1 ⟨rfl, rfl⟩)
          | (go_at_call 136; refine (HSE.out _).mono ?_; rintro e w1 ⟨rfl, rfl⟩)
          | (go_at_call 137; refine (HO.out _ (by decide) _).mono ?_; rintro e w1 ⟨rfl, rfl⟩))
        go_ret
        exact ⟨rfl, HBX.out _⟩
  | false =>
    by_cases h3 : sc = 0 ∨ xl < 0 ∨ 4294967295 < xl
    · have E : K = false := by rw [HK.out]; exact chkRule_lim rfl (by simp only; rw [hsc]; exact h3)
      subst E
      clear hn hn' HK HO HW HL hr0 hr1 ho hnb hsc
      by_cases h4 : sc = 0
      · subst h4
        rcases hz with rfl | ⟨hz, rfl⟩
        all_goals
          go_enter Tryz.func102, Tryz.ntmps102
          go_wp2_with (first
            | (go_at_call 40; refine (HN.out _).mono ?_; rintro e w1 ⟨rfl, rfl⟩)
            | (go_at_call 135; refine (HL.out _).mono ?_; rintro e w1 ⟨rfl, rfl⟩)
            | (go_at_call 136; refine (HSE.out _).mono ?_; rintro e w1 ⟨rfl, rfl⟩)
            | (go_at_call 137; refine (HO.out _ (by decide) _).mono ?_; rintro e w1 ⟨rfl, rfl⟩))
          go_ret
          exact ⟨rfl, HBX.out _⟩
      have h4b : (sc == 0) = false := by simpa using h4
      by_cases h5 : xl < 0
      · rcases hz with rfl | ⟨hz, rfl⟩
        all_goals
          go_enter Tryz.func102, Tryz.ntmps102
          go_wp2_with (first
            | (go_at_call 40; refine (HN.out _).mono ?_; rintro e w1 ⟨rfl, rfl⟩)
            | (go_at_call 135; refine (HL.out _).mono ?_; rintro e w1 ⟨rfl, rfl⟩)
            | (go_at_call 136; refine (HSE.out _).mono ?_; rintro e w1 ⟨rfl, rfl⟩)
            | (go_at_call 137; refine (HO.out _ (by decide) _).mono ?_; rintro e w1 ⟨rfl, rfl⟩))
          go_ret
          exact ⟨rfl, HBX.out _⟩
      have h6 : 4294967295 < xl := by omega
      rcases hz with rfl | ⟨hz, rfl⟩
      all_goals
        go_enter Tryz.func102, Tryz.ntmps102
        go_wp2_with (first
          | (go_at_call 40; refine (HN.out _).mono ?_; rintro e w1 ⟨rfl, rfl⟩)
          | (go_at_call 135; refine (HL.out _).mono ?_; rintro e w1 ⟨rfl, rfl⟩)
          | (go_at_call 136; refine (HSE.out _).mono ?_; rintro e w1 ⟨rfl, rfl⟩)
          | (go_at_call 137; refine (HO.out _ (by decide) _).mono ?_; rintro e w1 ⟨rfl, rfl⟩))
        go_ret
        exact ⟨rfl, HBX.out _⟩
    · have E0 : K = if ordI xr 0 < 0 ∨ 0 < ordI xr 4607182418800017408 then false else wk := by
        rw [HK.out, chkRule_near hn' rfl (by simp only; rw [hsc]; exact h3)]
        simp only [hwk]
      have h4b : (sc == 0) = false := by
        have : ¬ sc = 0 := fun h => h3 (.inl h)
        simpa using this
      have h5 : ¬ xl < 0 := fun h => h3 (.inr (.inl h))
      have h6 : ¬ 4294967295 < xl := fun h => h3 (.inr (.inr h))
      clear hn hn' HK HL ho hnb hsc h3
      by_cases h7 : ordI xr 0 < 0
      · have E : K = false := by rw [E0, if_pos (.inl h7)]
        subst E
        clear E0 HW hr1
        rcases hz with rfl | ⟨hz, rfl⟩
        all_goals
          go_enter Tryz.func102, Tryz.ntmps102
          go_wp2_with (first
            | (go_at_call 40; refine (HN.out _).mono ?_; rintro e w1 ⟨rfl, rfl⟩)
            | (go_at_call 135; refine (HL.out _).mono ?_; rintro e w1 ⟨rfl, rfl⟩)
            | (go_at_call 136; refine (HSE.out _).mono ?_; rintro e w1 ⟨rfl, rfl⟩)
            | (go_at_call 137; refine (HO.out _ (by decide) _).mono ?_; rintro e w1 ⟨rfl, rfl⟩))
          go_ret
          exact ⟨rfl, HBX.out _⟩
      by_cases h8 : 0 < ordI xr 4607182418800017408
      · have E : K = false := by rw [E0, if_pos (.inr h8)]
        subst E
        clear E0 HW
        rcases hz with rfl | ⟨hz, rfl⟩
        all_goals
          go_enter Tryz.func102, Tryz.ntmps102
          go_wp2_with (first
            | (go_at_call 40; refine (HN.out _).mono ?_; rintro e w1 ⟨rfl, rfl⟩)
            | (go_at_call 135; refine (HL.out _).mono ?_; rintro e w1 ⟨rfl, rfl⟩)
            | (go_at_call 136; refine (HSE.out _).mono ?_; rintro e w1 ⟨rfl, rfl⟩)
            | (go_at_call 137; refine (HO.out _ (by decide) _).mono ?_; rintro e w1 ⟨rfl, rfl⟩))
          go_ret
          exact ⟨rfl, HBX.out _⟩
      have E : K = wk := by rw [E0, if_neg (fun hh => hh.elim h7 h8)]
      subst E
      clear E0
      rcases hz with rfl | ⟨hz, rfl⟩
      all_goals
        go_enter Tryz.func102, Tryz.ntmps102
        go_wp2_with (first
          | (go_at_call 40; refine (HN.out _).mono ?_; rintro e w1 ⟨rfl, rfl⟩)
          | (go_at_call 136; refine (HSE.out _).mono ?_; rintro e w1 ⟨rfl, rfl⟩)
          | (go_at_call 137; refine (HO.out _ (by decide) _).mono ?_; rintro e w1 ⟨rfl, rfl⟩)
          | (go_at_call 43; refine (HW.out _).mono ?_; rintro e w2 ⟨rfl, b2⟩; have B2 := Lib.hid (below_trans (HBX.out _) b2); clear b2))
        go_ret
        exact ⟨rfl, B2.out⟩
end Go.Proofs.YtgfhabofhefaaaaGreatDoor
