/- Several texts in one. -/
import Derived.Test.YtmgalfdiiegjjaaGreatDoorRows
import Derived.Test.YtmgalfdiiegjjaaGreatDoorSeg00
import Derived.Lib.ConvBytes
import Derived.WalkSmall
import Derived.Maps.AppendAt
import Derived.Laws.ResultCell
namespace Go.Proofs.YtmgalfdiiegjjaaGreatDoor
open Go.RowKit

theorem below_trans {a b c : World} (h : Below a.heap.size a b) (k : Below b.heap.size b c) : Below a.heap.size a c := h.trans (k.mono h.size)
theorem below_drew (w : World) : Below w.heap.size w w.drew := ⟨rfl, rfl, rfl, Nat.le_refl _, fun _ _ => rfl⟩
theorem below_drewN (w : World) (n : Nat) : Below w.heap.size w (w.drewN n) := ⟨rfl, rfl, rfl, Nat.le_refl _, fun _ _ => rfl⟩
theorem str_app (a b : List UInt8) : (⟨a.toArray⟩ : ByteArray) ++ ⟨b.toArray⟩ = ⟨(a ++ b).toArray⟩ := ByteArray.mk_append_mk a b
theorem str_size (l : List UInt8) : (⟨l.toArray⟩ : ByteArray).size = l.length := by simp [ByteArray.size]
theorem ret_s {a b : List UInt8} {P : Prop} (h : a = b) (hp : P) : Ending.returned (.string ⟨a.toArray⟩) = .returned (.string ⟨b.toArray⟩) ∧ P := ⟨by rw [h], hp⟩
theorem ret_b {a b : Bool} {P : Prop} (h : a = b) (hp : P) : Ending.returned (.bool a) = .returned (.bool b) ∧ P := ⟨by rw [h], hp⟩
theorem ret_sb {a b : List UInt8} {x y : Bool} {P : Prop} (h : a = b) (h2 : x = y) (hp : P) : Ending.returned (.tuple #[.string ⟨a.toArray⟩, .bool x]) = .returned (.tuple #[.string ⟨b.toArray⟩, .bool y]) ∧ P := ⟨by rw [h, h2], hp⟩
theorem ret_ssb {a b c d : List UInt8} {x y : Bool} {P : Prop} (h : a = b) (h2 : c = d) (h3 : x = y) (hp : P) : Ending.returned (.tuple #[.string ⟨a.toArray⟩, .string ⟨c.toArray⟩, .bool x]) = .returned (.tuple #[.string ⟨b.toArray⟩, .string ⟨d.toArray⟩, .bool y]) ∧ P := ⟨by rw [h, h2, h3], hp⟩
theorem str_eq (a b : List UInt8) : ((⟨a.toArray⟩ : ByteArray) = ⟨b.toArray⟩) ↔ a = b := ⟨fun h => by simpa using h, fun h => by rw [h]⟩

theorem at_s {l : List UInt8} {p : Nat} {c : UInt8} (hc : l[p]? = some c) (hlt : p < (⟨l.toArray⟩ : ByteArray).size) : ((⟨l.toArray⟩ : ByteArray)[p]'hlt) = c := by
  have h1 : p < l.length := by rw [str_size] at hlt; exact hlt
  have h2 : ((⟨l.toArray⟩ : ByteArray)[p]'hlt) = l[p]'h1 := rfl
  rw [h2]
  rw [List.getElem?_eq_getElem h1] at hc
  exact Option.some.inj hc
theorem i_of {b c : UInt8} {z : Int} (h : b = c) (hz : (c.toNat : Int) = z) : ((b.toNat : Nat) : Int) = z := by rw [h, hz]
theorem at_z {l : List UInt8} {p : Nat} {c : UInt8} {z : Int} (hc : l[p]? = some c) (hz : (c.toNat : Int) = z) (hlt : p < (⟨l.toArray⟩ : ByteArray).size) : ((((⟨l.toArray⟩ : ByteArray)[p]'hlt).toNat : Nat) : Int) = z := i_of (at_s hc hlt) hz

/-- '[]byte(s)': a new row, of which the call reads the text's bytes. -/
theorem bytes_of (l : List UInt8) (w : World) : ∃ (W : World) (cap : Nat), (convert 9 35 (.string ⟨l.toArray⟩)).run Tryz.prog w = .ok (.slice (some ⟨w.heap.size, 0, none⟩) l.length cap) W ∧ Below w.heap.size w W ∧ ∀ j c, l[j]? = some c → W.cell? ⟨w.heap.size, j, none⟩ = some (.int .u8 (c.toNat : Int)) := by
  have h := Lib.run_convert_string_bytes (P := Tryz.prog) w 9 35 5 ⟨l.toArray⟩ (u := .string) Tryz.underlying9 Tryz.underlying35 Tryz.underlying5
  rw [str_size] at h
  refine ⟨_, _, h, ?_, ?_⟩
  · refine ⟨rfl, rfl, rfl, ?_, ?_⟩
    · rw [Lib.bytesWorld_size]; omega
    · intro j hj
      exact Lib.bytesWorld_at_old _ _ _ _ hj
  · intro j c hc
    have hj : j < l.length := by
      rcases Nat.lt_or_ge j l.length with h1 | h1
      · exact h1
      · rw [List.getElem?_eq_none h1] at hc; cases hc
    have := Lib.bytesWorld_cell w 5 ⟨l.toArray⟩ j (by rw [str_size]; exact hj)
    rw [this]
    have e : (⟨l.toArray⟩ : ByteArray).data.toList = l := rfl
    rw [e, List.getD_eq_getElem?_getD, hc]; rfl
end Go.Proofs.YtmgalfdiiegjjaaGreatDoor

/- Slices of slices of bytes: what one reads as; what a call's own one holds; 'append(l, x)' as a law for a walk; a cut; an element. No program is named here. -/
namespace Go.Proofs.YtmgalfdiiegjjaaGreatDoor
open Go.RowKit

def RdAll (w : World) (vs : List Value) (bss : List (List UInt8)) : Prop := vs.length = bss.length ∧ ∀ (j : Nat) v bs, vs[j]? = some v → bss[j]? = some bs → Rdv w v (bv bs)
def OwnAll (w : World) (base : Nat) (e : TypeId) (vs : List Value) (bss : List (List UInt8)) : Prop := vs.length = bss.length ∧ ∀ (j : Nat) v bs, vs[j]? = some v → bss[j]? = some bs → Own w base e v (bv bs)
/-- The value v reads, in w, as the rows of bytes bss. -/
def Rdl (w : World) (v : Value) (bss : List (List UInt8)) : Prop := ∃ vs, Rdv w v vs ∧ RdAll w vs bss
/-- The value v is a row of the call's own, of rows of its own. -/
def Ownl (w : World) (base : Nat) (r e : TypeId) (v : Value) (bss : List (List UInt8)) : Prop := ∃ vs, Own w base r v vs ∧ OwnAll w base e vs bss

theorem RdAll.below {w w' : World} {vs : List Value} {bss : List (List UInt8)} (h : RdAll w vs bss) (hb : Below w.heap.size w w') : RdAll w' vs bss := ⟨h.1, fun j v bs h1 h2 => (h.2 j v bs h1 h2).below hb⟩
theorem Rdl.below {w w' : World} {v : Value} {bss : List (List UInt8)} (h : Rdl w v bss) (hb : Below w.heap.size w w') : Rdl w' v bss := by
  obtain ⟨vs, h1, h2⟩ := h
  exact ⟨vs, h1.below hb, h2.below hb⟩
theorem OwnAll.below {w w' : World} {base : Nat} {e : TypeId} {vs : List Value} {bss : List (List UInt8)} (h : OwnAll w base e vs bss) (hb : Below w.heap.size w w') : OwnAll w' base e vs bss := ⟨h.1, fun j v bs h1 h2 => (h.2 j v bs h1 h2).below hb⟩
theorem Ownl.below {w w' : World} {base : Nat} {r e : TypeId} {v : Value} {bss : List (List UInt8)} (h : Ownl w base r e v bss) (hb : Below w.heap.size w w') : Ownl w' base r e v bss := by
  obtain ⟨vs, h1, h2⟩ := h
  exact ⟨vs, h1.below hb, h2.below hb⟩
theorem OwnAll.rd {w : World} {base : Nat} {e : TypeId} {vs : List Value} {bss : List (List UInt8)} (h : OwnAll w base e vs bss) : RdAll w vs bss := ⟨h.1, fun j v bs h1 h2 => (h.2 j v bs h1 h2).rd⟩
theorem Ownl.rd {w : World} {base : Nat} {r e : TypeId} {v : Value} {bss : List (List UInt8)} (h : Ownl w base r e v bss) : Rdl w v bss := by
  obtain ⟨vs, h1, h2⟩ := h
  exact ⟨vs, h1.rd, h2.rd⟩
theorem Ownl.nil (w : World) (base : Nat) (r e : TypeId) : Ownl w base r e (.slice none 0 0) [] := ⟨[], Own.nil w base r, rfl, by simp⟩
theorem Rdl.nil (w : World) : Rdl w (.slice none 0 0) [] := ⟨[], Rdv.nil w, rfl, by simp⟩

theorem Own.block {w : World} {base : Nat} {e : TypeId} {v : Value} {xs : List Value} (h : Own w base e v xs) {g : Nat} (hg : v.ownBlock = some g) : ∃ cur, w.heap[g]? = some (.cells cur e (0, 0)) := by
  rcases h.2 with ⟨hv, _⟩ | ⟨g', cap, cur, hv, _, hc, _⟩
  · rw [hv] at hg; cases hg
  · rw [hv] at hg
    obtain rfl : g' = g := Option.some.inj hg
    exact ⟨cur, hc⟩
/-- Rows of unlike elements lie in unlike blocks. -/
theorem Own.apart {w : World} {base base' : Nat} {e e' : TypeId} {v v' : Value} {xs xs' : List Value} (h : Own w base e v xs) (h' : Own w base' e' v' xs') (hne : e ≠ e') : v.ownBlock = none ∨ v.ownBlock ≠ v'.ownBlock := by
  cases hg : v.ownBlock with
  | none => exact .inl rfl
  | some g =>
    right
    intro he
    obtain ⟨c, hc⟩ := h.block hg
    obtain ⟨c', hc'⟩ := h'.block he.symm
    rw [hc] at hc'
    simp at hc'
    exact hne hc'.2
theorem Own.one {w : World} {base : Nat} {e : TypeId} {v : Value} {xs : List Value} (h : Own w base e v xs) : v.oneCell' = true := by
  rcases h.2 with ⟨hv, _⟩ | ⟨g', cap, cur, hv, _⟩ <;> rw [hv] <;> rfl
theorem Rdv.one {w : World} {v : Value} {xs : List Value} (h : Rdv w v xs) : v.oneCell' = true := by
  obtain ⟨ao, cap, rfl, _⟩ := h
  rfl

/-- 'append(l, x)', l and x the call's own. -/
theorem wpList_append_row {P : Program} {w : World} {ops : Array Oper} {rest : List Oper} {o : Oper} {a : Act} {Q : Exit → Act → World → Prop} (hgd : o.guard = none) (s x : Operand) (t : TypeId)
    (ho : o.op = .call { callee := .builtin .append, args := #[s, x], argTypes := #[t, t] })
    (base : Nat) (r e : TypeId) (hre : e ≠ r) (z : Value) (bytes : Nat) (ht : P.underlying t = some (.slice r)) (hinfo : (P.info? r).map (fun i => (i.zero, i.size, i.bytes)) = some (some z, 1, bytes)) (hz : z.cells.size = 1)
    {v vx : Value} {bss : List (List UInt8)} {xb : List UInt8} (hs : a.eval s = v) (hown : Ownl w base r e v bss) (hx : a.eval x = .slice (some ⟨w.heap.size, 0, none⟩) 1 1) (hxo : Own w base e vx (bv xb))
    (hlen : bss.length < 1099511627776) (hb24 : bytes ≤ 64) (hbase : base ≤ w.heap.size)
    (h : ∀ v' w', Ownl w' base r e v' (bss ++ [xb]) → Below base w w' → wpList P ops Q rest (a.put o.dst v') w') : wpList P ops Q (o :: rest) a (w.alloc (.cells #[vx] r)) := by
  obtain ⟨vs, ho1, ho2⟩ := hown
  have hl : vs.length = bss.length := ho2.1
  have B0 := below_alloc w (.cells #[vx] r)
  have hb1 : base ≤ (w.alloc (.cells #[vx] r)).heap.size := Nat.le_trans hbase B0.size
  have hmul : (vs.length + 1) * bytes ≤ (vs.length + 1) * 64 := Nat.mul_le_mul_left _ hb24
  refine wpList_append_rd hgd s x t ho base r z bytes ht hinfo hz hs (ho1.alloc _) hx (Own.lit (base := 0) w (e := r) [vx] (Nat.zero_le _) (by simp [maxLen])).rd (by simp [hxo.one]) (by simp [maxLen]; omega) (by simp; omega) hb1 ?_
  intro v' w' h1 h2 h3
  refine h v' w' ⟨vs ++ [vx], h1, by simp [hl], ?_⟩ ?_
  · intro j u bs hu hb
    by_cases hj : j < vs.length
    · rw [List.getElem?_append_left hj] at hu
      rw [List.getElem?_append_left (by omega)] at hb
      have hk := (ho2.2 j u bs hu hb).below B0
      exact hk.kept h2 (hk.apart (ho1.alloc _) hre)
    · have hj1 := (List.getElem?_eq_some_iff.1 hu).1
      rw [List.length_append] at hj1
      obtain rfl : j = vs.length := by simp at hj1; omega
      rw [List.getElem?_append_right (Nat.le_refl _)] at hu
      rw [hl, List.getElem?_append_right (Nat.le_refl _)] at hb
      simp at hu hb
      subst hu hb
      have hk := hxo.below B0
      exact hk.kept h2 (hk.apart (ho1.alloc _) hre)
  · exact ((Below.refl base w).alloc hbase _).trans h3

/-- What is known of an element. -/
theorem Rdl.at {w : World} {v : Value} {bss : List (List UInt8)} (h : Rdl w v bss) {j : Nat} (hj : j < bss.length) :
    ∃ b off cap ao c, v = .slice (some ⟨b, off, none⟩) bss.length cap ∧ b < w.heap.size ∧ w.cell? ⟨b, off + j, none⟩ = some (.slice ao bss[j].length c) ∧ Rdv w (.slice ao bss[j].length c) (bv bss[j]) := by
  obtain ⟨vs, hv, ha⟩ := h
  have hl := ha.1
  obtain ⟨ao, cap, rfl, h1, h2, h3, h4⟩ := hv
  have hj' : j < vs.length := by omega
  obtain ⟨⟨b, off, spot⟩, rfl, hcz⟩ := h4 0 vs[0] (by simp)
  have hspot : spot = none := by simpa [Addr.add] using World.cell?_spot hcz
  subst hspot
  obtain ⟨y, hy, hc0⟩ := h4 j vs[j] (by simp [hj'])
  obtain rfl := Option.some.inj hy
  have hr := ha.2 j vs[j] bss[j] (by simp [hj']) (by simp [hj])
  rw [Addr.add_lit] at hc0
  obtain ⟨ao, c, hv, _⟩ := id hr
  rw [bv_len] at hv
  rw [hv] at hc0 hr
  exact ⟨b, off, cap, ao, c, by rw [hl], cell_lt hc0, hc0, hr⟩
theorem Rdl.len_le {w : World} {v : Value} {bss : List (List UInt8)} (h : Rdl w v bss) : bss.length ≤ maxLen := by
  obtain ⟨vs, hv, ha⟩ := h
  rw [← ha.1]; exact hv.len_le
theorem Rdl.slice {w : World} {v : Value} {bss : List (List UInt8)} (h : Rdl w v bss) : ∃ ao cap, v = .slice ao bss.length cap ∧ bss.length ≤ cap ∧ cap ≤ maxLen := by
  obtain ⟨vs, ⟨ao, cap, rfl, h1, h2, _⟩, ha⟩ := h
  exact ⟨ao, cap, by rw [ha.1], by rw [← ha.1]; exact h1, h2⟩
/-- A beginning. -/
theorem Rdl.take {w : World} {ao : Option Addr} {cap L : Nat} {bss : List (List UInt8)} (h : Rdl w (.slice ao bss.length cap) bss) (hL : L ≤ bss.length) : Rdl w (.slice ao L cap) (bss.take L) := by
  obtain ⟨vs, ⟨a', c', hv, h1, h2, h3, h4⟩, ha⟩ := h
  have hl := ha.1
  obtain ⟨rfl, -, rfl⟩ : ao = a' ∧ True ∧ cap = c' := by simp at hv; exact ⟨hv.1, trivial, hv.2.2⟩
  refine ⟨vs.take L, ⟨ao, cap, by rw [List.length_take, Nat.min_eq_left (by omega)], by rw [List.length_take]; omega, h2, h3, fun j u hu => h4 j u ?_⟩, by simp [hl], fun j u bs hu hb => ?_⟩
  · rw [List.getElem?_take] at hu
    split at hu
    · exact hu
    · cases hu
  · rw [List.getElem?_take] at hu hb
    split at hu
    · rename_i hj
      rw [if_pos hj] at hb
      exact ha.2 j u bs hu hb
    · cases hu
end Go.Proofs.YtmgalfdiiegjjaaGreatDoor

/- A struct that lies behind a pointer, beside rows of the call's own: which blocks stand, which turn. No program is named here. -/
namespace Go.Proofs.YtmgalfdiiegjjaaGreatDoor
open Go.RowKit

/-- Every block of w but p and q stands in w'. -/
structure Kb (w w' : World) (p q : Option Nat) : Prop where
  os : w'.os = w.os
  tape : w'.tape = w.tape
  output : w'.output = w.output
  size : w.heap.size ≤ w'.heap.size
  block : ∀ k, k < w.heap.size → some k ≠ p → some k ≠ q → w'.heap[k]? = w.heap[k]?
theorem Kb.refl (w : World) (p q : Option Nat) : Kb w w p q := ⟨rfl, rfl, rfl, Nat.le_refl _, fun _ _ _ _ => rfl⟩
theorem Kb.trans {a b c : World} {p q : Option Nat} (h : Kb a b p q) (k : Kb b c p q) : Kb a c p q :=
  ⟨k.os.trans h.os, k.tape.trans h.tape, k.output.trans h.output, Nat.le_trans h.size k.size, fun i hi h1 h2 => (k.block i (Nat.lt_of_lt_of_le hi h.size) h1 h2).trans (h.block i hi h1 h2)⟩
/-- A second step that may turn another block, one that the first step made. -/
theorem Kb.trans_new {a b c : World} {p q q' : Option Nat} (h : Kb a b p q) (k : Kb b c p q') (hq : ∀ g, q' = some g → q' = q ∨ a.heap.size ≤ g) : Kb a c p q := by
  refine ⟨k.os.trans h.os, k.tape.trans h.tape, k.output.trans h.output, Nat.le_trans h.size k.size, fun i hi h1 h2 => (k.block i (Nat.lt_of_lt_of_le hi h.size) h1 ?_).trans (h.block i hi h1 h2)⟩
  intro e
  rcases hq i e.symm with hh | hh
  · exact h2 (e.trans hh)
  · omega
theorem Kb.of_below {w w' : World} (h : Below w.heap.size w w') (p q : Option Nat) : Kb w w' p q := ⟨h.os, h.tape, h.output, h.size, fun k hk _ _ => h.block k hk⟩
theorem Kb.of_grown {w w' : World} {q : Option Nat} (h : w.grownBy w' q) (p : Option Nat) : Kb w w' p q := ⟨h.os, h.tape, h.output, h.size, fun k hk _ h2 => h.block k hk h2⟩
theorem Kb.set (w : World) (p i : Nat) (u : Value) (q : Option Nat) : Kb w (w.setCell ⟨p, i, none⟩ u) (some p) q :=
  ⟨rfl, rfl, rfl, by simp [World.setCell], fun k _ h1 _ => Below.heap_setCell _ _ _ _ (by intro e; exact h1 (by rw [e]))⟩
theorem Kb.below {w w' : World} {p q : Option Nat} (h : Kb w w' p q) {B : Nat} (hB : B ≤ w.heap.size) (hp : ∀ g, p = some g → B ≤ g) (hq : ∀ g, q = some g → B ≤ g) : Below B w w' :=
  ⟨h.os, h.tape, h.output, h.size, fun k hk => h.block k (by omega) (fun e => by have := hp k e.symm; omega) (fun e => by have := hq k e.symm; omega)⟩
theorem Own.kb {w w' : World} {base : Nat} {e : TypeId} {v : Value} {xs : List Value} {p q : Option Nat} (h : Own w base e v xs) (hk : Kb w w' p q) (h1 : v.ownBlock = none ∨ v.ownBlock ≠ p) (h2 : v.ownBlock = none ∨ v.ownBlock ≠ q) : Own w' base e v xs := by
  refine ⟨h.1, ?_⟩
  rcases h.2 with hn | ⟨g, cap, cur, rfl, hb, hgg, rest⟩
  · exact .inl hn
  · refine .inr ⟨g, cap, cur, rfl, hb, ?_, rest⟩
    rw [hk.block g (Array.getElem?_eq_some_iff.1 hgg).1 (by simpa [Value.ownBlock] using h1) (by simpa [Value.ownBlock] using h2)]
    exact hgg

/-- The block p of w holds a struct's cells. -/
def Str (w : World) (p : Nat) (T : TypeId) (cs : Array Value) : Prop := w.heap[p]? = some (.cells cs T (0, 0))
theorem Str.lt {w : World} {p : Nat} {T : TypeId} {cs : Array Value} (h : Str w p T cs) : p < w.heap.size := (Array.getElem?_eq_some_iff.1 h).1
theorem Str.new (w : World) (T : TypeId) (cs : Array Value) : Str (w.alloc (.cells cs T)) w.heap.size T cs := heap_alloc_new w _
theorem Str.kb {w w' : World} {p : Nat} {T : TypeId} {cs : Array Value} {a b : Option Nat} (h : Str w p T cs) (hk : Kb w w' a b) (h1 : some p ≠ a) (h2 : some p ≠ b) : Str w' p T cs := (hk.block p h.lt h1 h2).trans h
theorem Str.below {w w' : World} {p : Nat} {T : TypeId} {cs : Array Value} (h : Str w p T cs) (hb : Below w.heap.size w w') : Str w' p T cs := (hb.block p h.lt).trans h
theorem Str.cell {w : World} {p : Nat} {T : TypeId} {cs : Array Value} (h : Str w p T cs) (i : Nat) : w.cell? ⟨p, i, none⟩ = cs[i]? := by
  unfold World.cell?
  have h' : w.heap[p]? = some (.cells cs T (0, 0)) := h
  simp only [h']
  simp
theorem Str.frozen {w : World} {p : Nat} {T : TypeId} {cs : Array Value} (h : Str w p T cs) (i : Nat) : w.frozen? ⟨p, i, none⟩ = false := by
  unfold World.frozen?
  have h' : w.heap[p]? = some (.cells cs T (0, 0)) := h
  simp only [h']
  simp
theorem Str.set {w : World} {p : Nat} {T : TypeId} {cs : Array Value} (h : Str w p T cs) (i : Nat) (u : Value) : Str (w.setCell ⟨p, i, none⟩ u) p T (cs.setIfInBounds i u) := by
  have h' : w.heap[p]? = some (.cells cs T (0, 0)) := h
  unfold Str World.setCell
  simp only [Array.getElem?_modify, h', if_pos]
  simp
theorem Str.apart {w : World} {p base : Nat} {T e : TypeId} {cs : Array Value} {v : Value} {xs : List Value} (h : Str w p T cs) (ho : Own w base e v xs) (hne : T ≠ e) : v.ownBlock ≠ some p := by
  intro hg
  obtain ⟨c, hc⟩ := ho.block hg
  have h' : w.heap[p]? = some (.cells cs T (0, 0)) := h
  rw [h'] at hc
  simp at hc
  exact hne hc.2
theorem Str.apart_str {w : World} {p q : Nat} {T U : TypeId} {cs ds : Array Value} (h : Str w p T cs) (h2 : Str w q U ds) (hne : T ≠ U) : p ≠ q := by
  rintro rfl
  have h' : w.heap[p]? = some (.cells cs T (0, 0)) := h
  have h2' : w.heap[p]? = some (.cells ds U (0, 0)) := h2
  rw [h'] at h2'
  simp at h2'
  exact hne h2'.2

theorem Own.lt {w : World} {base : Nat} {e : TypeId} {v : Value} {xs : List Value} (h : Own w base e v xs) {g : Nat} (hg : v.ownBlock = some g) : base ≤ g ∧ g < w.heap.size := World.ownsRow.lt h g hg

/-- v' lies where v lay, or in a block that w had not. -/
def Near (w : World) (v v' : Value) : Prop := v'.ownBlock = v.ownBlock ∨ ∀ g, v'.ownBlock = some g → w.heap.size ≤ g
theorem Near.apart {w : World} {v v' u : Value} {base : Nat} {e : TypeId} {xs : List Value} (h : Near w v v') (hu : Own w base e u xs) (ha : u.ownBlock = none ∨ u.ownBlock ≠ v.ownBlock) : u.ownBlock = none ∨ u.ownBlock ≠ v'.ownBlock := by
  rcases h with h | h
  · rwa [h]
  · cases hg : u.ownBlock with
    | none => exact .inl rfl
    | some g =>
      right
      intro he
      have := h g he.symm
      have := hu.lt hg
      omega

/-- 'append(s, x...)', s the call's own, x whatever reads; and where it lies. -/
theorem wpList_append_at {P : Program} {w : World} {ops : Array Oper} {rest : List Oper} {o : Oper} {a : Act} {Q : Exit → Act → World → Prop} (hgd : o.guard = none) (s x : Operand) (t : TypeId)
    (ho : o.op = .call { callee := .builtin .append, args := #[s, x], argTypes := #[t, t] })
    (base : Nat) (e : TypeId) (z : Value) (bytes : Nat) (ht : P.underlying t = some (.slice e)) (hinfo : (P.info? e).map (fun i => (i.zero, i.size, i.bytes)) = some (some z, 1, bytes)) (hz : z.cells.size = 1)
    {v vx : Value} {xs news : List Value} (hs : a.eval s = v) (hown : Own w base e v xs) (hx : a.eval x = vx) (hrd : Rdv w vx news) (h1 : ∀ u ∈ news, u.oneCell' = true)
    (h63 : xs.length + news.length ≤ maxLen) (hbytes : (xs.length + news.length) * bytes ≤ 140737488355328) (hbase : base ≤ w.heap.size)
    (h : ∀ v' w', Own w' base e v' (xs ++ news) → w.grownBy w' v.ownBlock → Near w v v' → wpList P ops Q rest (a.put o.dst v') w') : wpList P ops Q (o :: rest) a w := by
  obtain ⟨i, hi, hz0, hz1, hz2⟩ := info_parts hinfo
  obtain ⟨ao, cap, rfl, h1', h2, h3, h4⟩ := hrd
  cases ao with
  | none =>
    have hc := h3 rfl
    have hn : news = [] := List.length_eq_zero_iff.1 (by omega)
    subst hn
    subst hc
    refine wpList_append_own_none hgd s x t ho base e i 1 ht hi v xs.length xs hs hown hx ?_
    exact h v w (by simpa using hown) (World.grownBy.refl _ _) (.inl rfl)
  | some ad =>
    refine wpList_append_own_at _ hgd s x t ho base e i z 1 bytes ht hi hz0 hz1 hz2 hz (by decide) v xs.length xs hs hown ad news.length cap news hx (by simp) (fun j u hu => ?_) h1 h63 hbytes hbase ?_
    · obtain ⟨y, hy, hc⟩ := h4 j u hu
      obtain rfl := Option.some.inj hy
      exact hc
    · intro v' w' ho' hg _ hloc
      refine h v' w' ?_ hg (hloc.imp id fun e g hg => ?_)
      · show w'.ownsRow base e 1 v' (xs ++ news).length (xs ++ news)
        rw [List.length_append]; exact ho'
      · rw [e] at hg
        have := Option.some.inj hg
        omega

theorem wpList_append_bytes_at {P : Program} {w : World} {ops : Array Oper} {rest : List Oper} {o : Oper} {a : Act} {Q : Exit → Act → World → Prop} (hgd : o.guard = none) (s x : Operand) (t : TypeId)
    (ho : o.op = .call { callee := .builtin .append, args := #[s, x], argTypes := #[t, t] })
    (base : Nat) (e : TypeId) (ht : P.underlying t = some (.slice e)) (hinfo : (P.info? e).map (fun i => (i.zero, i.size, i.bytes)) = some (some (.int .u8 0), 1, 1))
    {v vx : Value} {xs news : List UInt8} (hs : a.eval s = v) (hown : Own w base e v (bv xs)) (hx : a.eval x = vx) (hrd : Rdv w vx (bv news))
    (hlen : xs.length + news.length ≤ 140737488355328) (hbase : base ≤ w.heap.size)
    (h : ∀ v' w', Own w' base e v' (bv (xs ++ news)) → w.grownBy w' v.ownBlock → Near w v v' → wpList P ops Q rest (a.put o.dst v') w') : wpList P ops Q (o :: rest) a w :=
  wpList_append_at hgd s x t ho base e (.int .u8 0) 1 ht hinfo rfl hs hown hx hrd bv_one (by rw [bv_len, bv_len]; unfold maxLen; omega) (by rw [bv_len, bv_len]; omega) hbase
    (fun v' w' h1 h2 h3 => h v' w' (by rw [bv_app]; exact h1) h2 h3)

/-- The rows that a call hands over: its own, and none of them where v lies. -/
def Rows (w : World) (base : Nat) (r e : TypeId) (vl : Value) (L : List (List UInt8)) (v : Value) : Prop :=
  ∃ vs, Own w base r vl vs ∧ OwnAll w base e vs L ∧ ∀ u ∈ vs, u.ownBlock = none ∨ u.ownBlock ≠ v.ownBlock
theorem Rows.own {w : World} {base : Nat} {r e : TypeId} {vl : Value} {L : List (List UInt8)} {v : Value} (h : Rows w base r e vl L v) : Ownl w base r e vl L := by
  obtain ⟨vs, h1, h2, _⟩ := h
  exact ⟨vs, h1, h2⟩
theorem Rows.nil (w : World) (base : Nat) (r e : TypeId) (v : Value) : Rows w base r e (.slice Option.none 0 0) [] v := ⟨[], Own.nil w base r, ⟨rfl, by simp⟩, by simp⟩
theorem OwnAll.mem {w : World} {base : Nat} {e : TypeId} {vs : List Value} {L : List (List UInt8)} (h : OwnAll w base e vs L) {u : Value} (hu : u ∈ vs) : ∃ xs, Own w base e u xs := by
  obtain ⟨j, hj, rfl⟩ := List.getElem_of_mem hu
  have hl := h.1
  exact ⟨_, h.2 j vs[j] (L[j]'(by omega)) (by simp [hj]) (by simp)⟩
theorem OwnAll.kb {w w' : World} {base : Nat} {e : TypeId} {vs : List Value} {L : List (List UInt8)} {p q : Option Nat} (h : OwnAll w base e vs L) (hk : Kb w w' p q) (h1 : ∀ u ∈ vs, u.ownBlock = none ∨ u.ownBlock ≠ p) (h2 : ∀ u ∈ vs, u.ownBlock = none ∨ u.ownBlock ≠ q) : OwnAll w' base e vs L :=
  ⟨h.1, fun j u bs hu hb => (h.2 j u bs hu hb).kb hk (h1 u (List.mem_of_getElem? hu)) (h2 u (List.mem_of_getElem? hu))⟩
end Go.Proofs.YtmgalfdiiegjjaaGreatDoor

/- Structs of three and of four cells. No program is named here. -/
namespace Go.Proofs.YtmgalfdiiegjjaaGreatDoor
open Go.RowKit

theorem Str.cells3 {x : World} {p : Nat} {T : TypeId} {a b c : Value} (h : Str x p T #[a, b, c]) : x.cell? ⟨p, 0, none⟩ = some a ∧ x.cell? ⟨p, 1, none⟩ = some b ∧ x.cell? ⟨p, 2, none⟩ = some c := ⟨h.cell 0, h.cell 1, h.cell 2⟩
theorem Str.cells4 {x : World} {p : Nat} {T : TypeId} {a b c d : Value} (h : Str x p T #[a, b, c, d]) : x.cell? ⟨p, 0, none⟩ = some a ∧ x.cell? ⟨p, 1, none⟩ = some b ∧ x.cell? ⟨p, 2, none⟩ = some c ∧ x.cell? ⟨p, 3, none⟩ = some d := ⟨h.cell 0, h.cell 1, h.cell 2, h.cell 3⟩
theorem Str.frozen4 {x : World} {p : Nat} {T : TypeId} {cs : Array Value} (h : Str x p T cs) : x.frozen? ⟨p, 0, none⟩ = false ∧ x.frozen? ⟨p, 1, none⟩ = false ∧ x.frozen? ⟨p, 2, none⟩ = false ∧ x.frozen? ⟨p, 3, none⟩ = false := ⟨h.frozen 0, h.frozen 1, h.frozen 2, h.frozen 3⟩
/-- A store of three cells, of four. -/
def three (w : World) (p : Nat) (x y z : Value) : World := ((w.setCell ⟨p, 0, none⟩ x).setCell ⟨p, 1, none⟩ y).setCell ⟨p, 2, none⟩ z
def four (w : World) (p : Nat) (x y z u : Value) : World := (((w.setCell ⟨p, 0, none⟩ x).setCell ⟨p, 1, none⟩ y).setCell ⟨p, 2, none⟩ z).setCell ⟨p, 3, none⟩ u
theorem Str.three {w : World} {p : Nat} {T : TypeId} {a b c : Value} (h : Str w p T #[a, b, c]) (x y z : Value) : Str (three w p x y z) p T #[x, y, z] := by
  have h1 := ((h.set 0 x).set 1 y).set 2 z
  simp only [List.setIfInBounds_toArray, List.set_cons_zero, List.set_cons_succ] at h1
  exact h1
theorem Str.four {w : World} {p : Nat} {T : TypeId} {a b c d : Value} (h : Str w p T #[a, b, c, d]) (x y z u : Value) : Str (four w p x y z u) p T #[x, y, z, u] := by
  have h1 := (((h.set 0 x).set 1 y).set 2 z).set 3 u
  simp only [List.setIfInBounds_toArray, List.set_cons_zero, List.set_cons_succ] at h1
  exact h1
theorem Kb.three (w : World) (p : Nat) (x y z : Value) (q : Option Nat) : Kb w (three w p x y z) (some p) q := ((Kb.set w p 0 x q).trans (Kb.set _ p 1 y q)).trans (Kb.set _ p 2 z q)
theorem Kb.four (w : World) (p : Nat) (x y z u : Value) (q : Option Nat) : Kb w (four w p x y z u) (some p) q := (((Kb.set w p 0 x q).trans (Kb.set _ p 1 y q)).trans (Kb.set _ p 2 z q)).trans (Kb.set _ p 3 u q)
end Go.Proofs.YtmgalfdiiegjjaaGreatDoor

/- Results that lie in cells; the library's own bound; faults. -/
namespace Go.Proofs.YtmgalfdiiegjjaaGreatDoor
open Go.RowKit

theorem bx_size (w : World) (o : Obj) : (w.alloc o).heap.size = w.heap.size + 1 := Array.size_push ..
theorem no_or {v : Value} : v.ownBlock = none ∨ v.ownBlock ≠ none := by cases hh : v.ownBlock <;> simp

theorem infoparts {P : Program} {e : TypeId} {z : Value} {a b : Nat} (h : (P.info? e).map (fun i => (i.zero, i.size, i.bytes)) = some (some z, a, b)) : ∃ i, P.info? e = some i ∧ i.zero = some z ∧ i.size = a ∧ i.bytes = b := by
  obtain ⟨i, hi, hx⟩ := Option.map_eq_some_iff.1 h
  simp only [Prod.mk.injEq] at hx
  exact ⟨i, hi, hx.1, hx.2.1, hx.2.2⟩
theorem Str.two' {w : World} {p : Nat} {T : TypeId} {x y : Value} (h : Str w p T #[x, y]) (u v : Value) : Str ((w.setCell ⟨p, 0, none⟩ u).setCell ⟨p, 1, none⟩ v) p T #[u, v] := by
  have := (h.set 0 u).set 1 v
  simpa using this
theorem ret_cb {P : Program} {fn : Func} {p u : Tmp} {ty : TypeId} (h : fn.results = #[.cell p ty, .tmp u]) {tmps : Array Value} {w : World} {g : Nat} {T : TypeId} {cs : Array Value} {d : TypeDesc} {b : Value} (hp : tmps.getD p undef = .pointer (some ⟨g, 0, none⟩)) (hb : tmps.getD u undef = b) (hs : Str w g T cs)
    (hu : P.underlying ty = some d) (hd : (match d with | .struct _ | .array _ _ => true | _ => false) = true) (hi : (P.info? ty).map (·.size) = some cs.size) :
    (results fn tmps).run P w = .ok (.tuple #[.agg cs, b]) w := by
  rw [results_cell_tmp h, hp, hb]
  have hs' : w.heap[g]? = some (.cells cs T (0, 0)) := hs
  simp [asAddr, run_loadVar_row w g T ty cs (0, 0) d hs' hu hd hi]
/-- A slot and a cell are handed back. -/
theorem ret_bc {P : Program} {fn : Func} {p u : Tmp} {ty : TypeId} (h : fn.results = #[.tmp u, .cell p ty]) {tmps : Array Value} {w : World} {g : Nat} {T : TypeId} {cs : Array Value} {d : TypeDesc} {b : Value} (hp : tmps.getD p undef = .pointer (some ⟨g, 0, none⟩)) (hb : tmps.getD u undef = b) (hs : Str w g T cs)
    (hu : P.underlying ty = some d) (hd : (match d with | .struct _ | .array _ _ => true | _ => false) = true) (hi : (P.info? ty).map (·.size) = some cs.size) :
    (results fn tmps).run P w = .ok (.tuple #[b, .agg cs]) w := by
  have hs' : w.heap[g]? = some (.cells cs T (0, 0)) := hs
  have hp' : (asAddr (tmps.getD p undef)).run P w = .ok ⟨g, 0, none⟩ w := by rw [hp]; simp [asAddr]
  have hl := run_loadVar_row w g T ty cs (0, 0) d hs' hu hd hi
  simp only [results, h]
  simp only [Array.getD_eq_getD_getElem?] at hp' hb
  simp [Sem.run_bind, Result.andThen, hp', hl, hb]

/-- The library's own bound lies there as a number. -/
def MaxIs (w : World) : Prop := ∃ m, w.cell? ⟨1, 0, none⟩ = some (.int .i64 m)
theorem MaxIs.below {w w' : World} (h : MaxIs w) (hb : Below w.heap.size w w') : MaxIs w' := by
  obtain ⟨m, hm⟩ := h
  exact ⟨m, (hb.cell (cell_lt hm)).trans hm⟩

theorem fault_size : (Tryz.prog.info? 39).map (·.size) = some 2 := by kernel_rfl
theorem Str.cells2 {x : World} {p : Nat} {T : TypeId} {a b : Value} (h : Str x p T #[a, b]) : x.cell? ⟨p, 0, none⟩ = some a ∧ x.cell? ⟨p, 1, none⟩ = some b := ⟨h.cell 0, h.cell 1⟩
end Go.Proofs.YtmgalfdiiegjjaaGreatDoor
