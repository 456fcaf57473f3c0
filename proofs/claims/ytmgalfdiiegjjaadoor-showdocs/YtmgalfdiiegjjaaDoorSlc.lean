/- Slices whose elements are one cell each: what a slice value reads as in a world; what a call's own rows hold; append, cut, and the text of bytes, as laws for a walk. No program is named here. -/
import Derived.WalkKit
import Derived.Lib.Hide
import Derived.Laws.BytesArg
import Derived.Laws.AppendOwnNone
import Derived.ArgAppend
namespace Go.Proofs.YtmgalfdiiegjjaaDoor
open Go.RowKit

/-- The slice value v reads, in w, as the cells xs. -/
def Rdv (w : World) (v : Value) (xs : List Value) : Prop :=
  ∃ ao cap, v = .slice ao xs.length cap ∧ xs.length ≤ cap ∧ cap ≤ maxLen ∧ (ao = none → cap = 0) ∧ ∀ j u, xs[j]? = some u → ∃ x, ao = some x ∧ w.cell? (x.add j) = some u

/-- The slice value v is a row of the call's own (from block 'base' on), whose elements are the cells xs. -/
def Own (w : World) (base : Nat) (e : TypeId) (v : Value) (xs : List Value) : Prop := w.ownsRow base e 1 v xs.length xs

def bv (bs : List UInt8) : List Value := bs.map fun b => .int .u8 (b.toNat : Int)
theorem bv_len (bs : List UInt8) : (bv bs).length = bs.length := by simp [bv]
theorem bv_app (a b : List UInt8) : bv (a ++ b) = bv a ++ bv b := by simp [bv]
theorem bv_get {bs : List UInt8} {j : Nat} (h : j < bs.length) : (bv bs)[j]? = some (.int .u8 (bs[j].toNat : Int)) := by simp [bv, h]
theorem bv_one {bs : List UInt8} : ∀ u ∈ bv bs, u.oneCell' = true := by
  intro u hu
  obtain ⟨_, _, rfl⟩ := List.mem_map.1 hu
  rfl
theorem bv_inj {a b : List UInt8} (h : bv a = bv b) : a = b := by
  have := congrArg (List.map fun v => match v with | .int _ z => UInt8.ofNat z.toNat | _ => 0) h
  simpa [bv, Function.comp_def] using this

theorem cell_lt {w : World} {x : Addr} {u : Value} (h : w.cell? x = some u) : x.block < w.heap.size := World.block_lt_of_cell? w x h
theorem add_block (x : Addr) (j : Nat) : (x.add j).block = x.block := by unfold Addr.add; split <;> rfl

theorem Rdv.below {w w' : World} {v : Value} {xs : List Value} (h : Rdv w v xs) (hb : Below w.heap.size w w') : Rdv w' v xs := by
  obtain ⟨ao, cap, hv, h1, h2, h3, h4⟩ := h
  refine ⟨ao, cap, hv, h1, h2, h3, fun j u hu => ?_⟩
  obtain ⟨x, hx, hc⟩ := h4 j u hu
  exact ⟨x, hx, (hb.cell (cell_lt hc)).trans hc⟩

theorem Rdv.len_le {w : World} {v : Value} {xs : List Value} (h : Rdv w v xs) : xs.length ≤ maxLen := by
  obtain ⟨ao, cap, hv, h1, h2, _⟩ := h
  omega

theorem Rdv.nil (w : World) : Rdv w (.slice none 0 0) [] := ⟨none, 0, rfl, by simp, by simp [maxLen], fun _ => rfl, by simp⟩

theorem Own.rd {w : World} {base : Nat} {e : TypeId} {v : Value} {xs : List Value} (h : Own w base e v xs) : Rdv w v xs := by
  rcases h.2 with ⟨hv, hn⟩ | ⟨g, cap, cur, hv, hb, hg, hnc, hcm, hcs, ht⟩
  · obtain rfl : xs = [] := List.length_eq_zero_iff.1 hn
    rw [hv]; exact Rdv.nil w
  · refine ⟨some ⟨g, 0, none⟩, cap, hv, hnc, hcm, (by intro h; cases h), fun j u hu => ⟨_, rfl, ?_⟩⟩
    exact World.ownsRow.cells h (by rw [hv]; rfl) j u hu

theorem Own.nil (w : World) (base : Nat) (e : TypeId) : Own w base e (.slice none 0 0) [] := World.ownsRow_nil w base e 1

theorem Own.below {w w' : World} {base : Nat} {e : TypeId} {v : Value} {xs : List Value} (h : Own w base e v xs) (hb : Below w.heap.size w w') : Own w' base e v xs := by
  refine ⟨h.1, ?_⟩
  rcases h.2 with hn | ⟨g, cap, cur, hv, hbg, hg, rest⟩
  · exact .inl hn
  · exact .inr ⟨g, cap, cur, hv, hbg, (hb.block g (Array.getElem?_eq_some_iff.1 hg).1).trans hg, rest⟩

theorem Own.base {w : World} {base base' : Nat} {e : TypeId} {v : Value} {xs : List Value} (h : Own w base e v xs) (hb : base' ≤ base) : Own w base' e v xs := by
  refine ⟨h.1, ?_⟩
  rcases h.2 with hn | ⟨g, cap, cur, hv, hbg, rest⟩
  · exact .inl hn
  · exact .inr ⟨g, cap, cur, hv, Nat.le_trans hb hbg, rest⟩

theorem Own.kept {w w' : World} {base : Nat} {e : TypeId} {v : Value} {xs : List Value} {row : Option Nat} (h : Own w base e v xs) (hg : w.grownBy w' row) (hne : v.ownBlock = none ∨ v.ownBlock ≠ row) : Own w' base e v xs := World.ownsRow.kept h hg hne
theorem Own.alloc {w : World} {base : Nat} {e : TypeId} {v : Value} {xs : List Value} (h : Own w base e v xs) (o : Obj) : Own (w.alloc o) base e v xs := World.ownsRow.alloc h o

/-- A row that was written out: '[]T{x, y}'. -/
theorem Own.lit (w : World) {base : Nat} {e : TypeId} (cs : List Value) (hb : base ≤ w.heap.size) (hm : cs.length ≤ maxLen) :
    Own (w.alloc (.cells cs.toArray e)) base e (.slice (some ⟨w.heap.size, 0, none⟩) cs.length cs.length) cs := by
  have := World.ownsRow_lit (e := e) (size := 1) (base := base) w cs.toArray cs.length hb hm (by simp)
  show (w.alloc (.cells cs.toArray e)).ownsRow base e 1 _ cs.length cs
  simpa using this

theorem below_alloc (w : World) (o : Obj) : Below w.heap.size w (w.alloc o) := (Below.refl _ w).alloc (Nat.le_refl _) o
theorem below_of_grown {w w' : World} {base : Nat} {e : TypeId} {v : Value} {xs : List Value} (h : Own w base e v xs) (hg : w.grownBy w' v.ownBlock) (hB : base ≤ w.heap.size) : Below base w w' :=
  (Below.refl base w).grown hg hB (fun k hk => (World.ownsRow.lt h k hk).1)
theorem below_tr {a b c : World} (h : Below a.heap.size a b) (k : Below b.heap.size b c) : Below a.heap.size a c := h.trans (k.mono h.size)

/-- 'append(out, x...)', out the call's own, x whatever reads. -/
theorem wpList_append_rd {P : Program} {w : World} {ops : Array Oper} {rest : List Oper} {o : Oper} {a : Act} {Q : Exit → Act → World → Prop} (hgd : o.guard = none) (s x : Operand) (t : TypeId)
    (ho : o.op = .call { callee := .builtin .append, args := #[s, x], argTypes := #[t, t] })
    (base : Nat) (e : TypeId) (z : Value) (bytes : Nat) (ht : P.underlying t = some (.slice e)) (hinfo : (P.info? e).map (fun i => (i.zero, i.size, i.bytes)) = some (some z, 1, bytes)) (hz : z.cells.size = 1)
    {v vx : Value} {xs news : List Value} (hs : a.eval s = v) (hown : Own w base e v xs) (hx : a.eval x = vx) (hrd : Rdv w vx news) (h1 : ∀ u ∈ news, u.oneCell' = true)
    (h63 : xs.length + news.length ≤ maxLen) (hbytes : (xs.length + news.length) * bytes ≤ 140737488355328) (hbase : base ≤ w.heap.size)
    (h : ∀ v' w', Own w' base e v' (xs ++ news) → w.grownBy w' v.ownBlock → Below base w w' → wpList P ops Q rest (a.put o.dst v') w') : wpList P ops Q (o :: rest) a w := by
  obtain ⟨i, hi, hz0, hz1, hz2⟩ := info_parts hinfo
  obtain ⟨ao, cap, rfl, h1', h2, h3, h4⟩ := hrd
  cases ao with
  | none =>
    have hc := h3 rfl
    have hn : news = [] := List.length_eq_zero_iff.1 (by omega)
    subst hn
    subst hc
    refine wpList_append_own_none hgd s x t ho base e i 1 ht hi v xs.length xs hs hown hx ?_
    exact h v w (by simpa using hown) (World.grownBy.refl _ _) (Below.refl _ _)
  | some ad =>
    refine wpList_append_own _ hgd s x t ho base e i z 1 bytes ht hi hz0 hz1 hz2 hz (by decide) v xs.length xs hs hown ad news.length cap news hx (by simp) (fun j u hu => ?_) h1 h63 hbytes hbase ?_
    · obtain ⟨y, hy, hc⟩ := h4 j u hu
      obtain rfl := Option.some.inj hy
      exact hc
    · intro v' w' ho' hg _
      refine h v' w' ?_ hg (below_of_grown hown hg hbase)
      show w'.ownsRow base e 1 v' (xs ++ news).length (xs ++ news)
      rw [List.length_append]; exact ho'

/-- The same of bytes. -/
theorem wpList_append_bytes {P : Program} {w : World} {ops : Array Oper} {rest : List Oper} {o : Oper} {a : Act} {Q : Exit → Act → World → Prop} (hgd : o.guard = none) (s x : Operand) (t : TypeId)
    (ho : o.op = .call { callee := .builtin .append, args := #[s, x], argTypes := #[t, t] })
    (base : Nat) (e : TypeId) (ht : P.underlying t = some (.slice e)) (hinfo : (P.info? e).map (fun i => (i.zero, i.size, i.bytes)) = some (some (.int .u8 0), 1, 1))
    {v vx : Value} {xs news : List UInt8} (hs : a.eval s = v) (hown : Own w base e v (bv xs)) (hx : a.eval x = vx) (hrd : Rdv w vx (bv news))
    (hlen : xs.length + news.length ≤ 140737488355328) (hbase : base ≤ w.heap.size)
    (h : ∀ v' w', Own w' base e v' (bv (xs ++ news)) → w.grownBy w' v.ownBlock → Below base w w' → wpList P ops Q rest (a.put o.dst v') w') : wpList P ops Q (o :: rest) a w :=
  wpList_append_rd hgd s x t ho base e (.int .u8 0) 1 ht hinfo rfl hs hown hx hrd bv_one (by rw [bv_len, bv_len]; unfold maxLen; omega) (by rw [bv_len, bv_len]; omega) hbase
    (fun v' w' h1 h2 h3 => h v' w' (by rw [bv_app]; exact h1) h2 h3)

/-- 'make([]T, 0, n)'. -/
theorem wpList_make0 {P : Program} {w : World} {ops : Array Oper} {rest : List Oper} {o : Oper} {a : Act} {Q : Exit → Act → World → Prop} (hgd : o.guard = none) (l c : Operand) (t : TypeId) (hop : o.op = Op.makeSlice t l c)
    (base : Nat) (e : TypeId) (z : Value) (bytes : Nat) (ht : P.underlying t = some (.slice e)) (hinfo : (P.info? e).map (fun i => (i.zero, i.size, i.bytes)) = some (some z, 1, bytes))
    {kl kc : IntKind} {C : Int} (n : Nat) (hl : a.eval l = .int kl 0) (hc : a.eval c = .int kc C) (hC : C = (n : Int)) (b2 : bytes * n ≤ 281474976710656) (b3 : n ≤ maxLen) (b4 : base ≤ w.heap.size)
    (hK : ∀ v' w', Own w' base e v' [] → Below base w w' → wpList P ops Q rest (a.put o.dst v') w') : wpList P ops Q (o :: rest) a w := by
  obtain ⟨i, hi, hz0, hz1, hz2⟩ := info_parts hinfo
  subst hz2
  refine wpList_make_own _ hgd l c t hop base e i z 1 ht hi hz0 hz1 kl kc C n hl hc hC b2 b3 b4 ?_
  intro w' ho hg
  exact hK _ w' ho ((Below.refl base w).grown hg b4 (fun k hk => by cases hk))

/-- A row of one byte that was laid for an append. -/
theorem one_rd {w : World} {e : TypeId} {B : Int} {b : UInt8} (h : B = (b.toNat : Int)) : Rdv (w.alloc (.cells #[.int .u8 B] e)) (.slice (some ⟨w.heap.size, 0, none⟩) 1 1) (bv [b]) := by
  subst h
  exact (Own.lit (base := 0) w (e := e) (bv [b]) (Nat.zero_le _) (by simp [bv, maxLen])).rd
theorem lit_rd {w : World} {e : TypeId} (bs : List UInt8) (hm : bs.length ≤ maxLen) : Rdv (w.alloc (.cells (bv bs).toArray e)) (.slice (some ⟨w.heap.size, 0, none⟩) bs.length bs.length) (bv bs) := by
  have := (Own.lit (base := 0) w (e := e) (bv bs) (Nat.zero_le _) (by simpa [bv] using hm)).rd
  rwa [bv_len] at this

/-- 'append(s, x...)', s whatever reads, with no room behind it. -/
theorem wpList_append_full {P : Program} {w : World} {ops : Array Oper} {rest : List Oper} {o : Oper} {a : Act} {Q : Exit → Act → World → Prop} (hgd : o.guard = none) (s x : Operand) (t : TypeId)
    (ho : o.op = .call { callee := .builtin .append, args := #[s, x], argTypes := #[t, t] })
    (e : TypeId) (z : Value) (bytes : Nat) (ht : P.underlying t = some (.slice e)) (hinfo : (P.info? e).map (fun i => (i.zero, i.size, i.bytes)) = some (some z, 1, bytes)) (hz : z.cells.size = 1)
    {v vx : Value} {xs news : List Value} (hs : a.eval s = v) (hrs : Rdv w v xs) (hfull : ∃ ao, v = .slice ao xs.length xs.length) (hx : a.eval x = vx) (hrd : Rdv w vx news) (h1 : ∀ u ∈ news, u.oneCell' = true)
    (h63 : xs.length + news.length ≤ maxLen) (hbytes : (xs.length + news.length) * bytes ≤ 140737488355328)
    (h : ∀ v' w', Rdv w' v' (xs ++ news) → Below w.heap.size w w' → wpList P ops Q rest (a.put o.dst v') w') : wpList P ops Q (o :: rest) a w := by
  obtain ⟨i, hi, hz0, hz1, hz2⟩ := info_parts hinfo
  obtain ⟨ax, hvx⟩ := hfull
  have hrs' := hrs
  obtain ⟨as, cap, hv, g1, g2, g3, g4⟩ := hrs
  obtain ⟨rfl, -, rfl⟩ : as = ax ∧ True ∧ cap = xs.length := by rw [hvx] at hv; simp at hv; exact ⟨hv.1.symm, trivial, hv.2.symm⟩
  obtain ⟨ao, cp, rfl, h1', h2, h3, h4⟩ := hrd
  by_cases hn : news = []
  · subst hn
    refine wpList_plain hgd fun K hK => ?_
    have hrun : (Builtin.append_ #[t, t] o.type #[v, .slice ao 0 cp]).run P w = .ok v w := by
      subst hv
      cases ao <;> cases as <;> simp [Builtin.append_, run_underlying ht, sizeOf, typeInfo, hi, Builtin.lenOf, Builtin.firstCells, storeCells, loadCells, loadCellsFrom]
    unfold Oper.wp
    simp [execOp, ho, resolve, invoke, builtin, hs, hx, hrun, Result.andThen]
    exact hK _ _ (h v w (by simpa using hrs') (Below.refl _ _))
  · have hpos : 0 < news.length := List.length_pos_iff.2 hn
    obtain ⟨ad, rfl, _⟩ := h4 0 news[0] (by simp [hpos])
    refine wpList_append_grows _ hgd s x t ho e i z 1 bytes ht hi hz0 hz1 hz2 hz (by decide) as xs.length xs.length xs (hs.trans hv) (fun h => ⟨g3 h, g3 h⟩) (by simp) ?_ ad news.length cp news hx (by simp) (fun j u hu => ?_) h1 (by omega) h63 hbytes ?_
    · intro b hb j u hu
      obtain ⟨y, hy, hc⟩ := g4 j u hu
      rw [hb] at hy
      obtain rfl := Option.some.inj hy
      exact hc
    · obtain ⟨y, hy, hc⟩ := h4 j u hu
      obtain rfl := Option.some.inj hy
      exact hc
    · intro v' w' ho' hg
      have ho2 : Own w' w.heap.size e v' (xs ++ news) := by
        show w'.ownsRow w.heap.size e 1 v' (xs ++ news).length (xs ++ news)
        rw [List.length_append]; exact ho'
      exact h v' w' ho2.rd ⟨hg.os, hg.tape, hg.output, hg.size, fun k hk => hg.block k hk (by simp)⟩

theorem wpList_append_full_bytes {P : Program} {w : World} {ops : Array Oper} {rest : List Oper} {o : Oper} {a : Act} {Q : Exit → Act → World → Prop} (hgd : o.guard = none) (s x : Operand) (t : TypeId)
    (ho : o.op = .call { callee := .builtin .append, args := #[s, x], argTypes := #[t, t] })
    (e : TypeId) (ht : P.underlying t = some (.slice e)) (hinfo : (P.info? e).map (fun i => (i.zero, i.size, i.bytes)) = some (some (.int .u8 0), 1, 1))
    {v vx : Value} {xs news : List UInt8} (hs : a.eval s = v) (hrs : Rdv w v (bv xs)) (hfull : ∃ ao, v = .slice ao xs.length xs.length) (hx : a.eval x = vx) (hrd : Rdv w vx (bv news))
    (hlen : xs.length + news.length ≤ 140737488355328)
    (h : ∀ v' w', Rdv w' v' (bv (xs ++ news)) → Below w.heap.size w w' → wpList P ops Q rest (a.put o.dst v') w') : wpList P ops Q (o :: rest) a w :=
  wpList_append_full hgd s x t ho e (.int .u8 0) 1 ht hinfo rfl hs hrs (by rw [bv_len]; exact hfull) hx hrd bv_one (by rw [bv_len, bv_len]; unfold maxLen; omega) (by rw [bv_len, bv_len]; omega)
    (fun v' w' h1 h2 => h v' w' (by rw [bv_app]; exact h1) h2)

/-- A cut 'v[l:h:m]' of what reads. -/
theorem Rdv.cut {w : World} {ao : Option Addr} {cap : Nat} {xs : List Value} (hr : Rdv w (.slice ao xs.length cap) xs) {l h m : Nat} (h1 : l ≤ h) (h2 : h ≤ xs.length) (h3 : h ≤ m) (h4 : m ≤ cap) :
    Rdv w (sliced ao l h m 1) ((xs.take h).drop l) ∧ ∃ a', sliced ao l h m 1 = .slice a' ((xs.take h).drop l).length (m - l) := by
  obtain ⟨as, cp, hv, g1, g2, g3, g4⟩ := hr
  obtain ⟨rfl, rfl⟩ : ao = as ∧ cap = cp := by simpa using hv
  have hl : ((xs.take h).drop l).length = h - l := by simp; omega
  refine ⟨⟨_, m - l, by rw [hl]; rfl, by omega, by omega, ?_, ?_⟩, ⟨_, by rw [hl]; rfl⟩⟩
  · intro hn
    split at hn
    · have := g3 hn; omega
    · have := g3 (by simpa using hn); omega
  · intro j u hu
    have hj : j < h - l := by
      have := (List.getElem?_eq_some_iff.1 hu).1
      omega
    have hu' : xs[l + j]? = some u := by
      rw [List.getElem?_drop, List.getElem?_take, if_pos (by omega)] at hu
      exact hu
    obtain ⟨x, hx, hc⟩ := g4 (l + j) u hu'
    have hml : ¬ m = l := by omega
    refine ⟨x.add l, by simp [hml, hx], ?_⟩
    have : (x.add l).add j = x.add (l + j) := by
      unfold Addr.add
      split <;> split <;> split <;> simp_all <;> omega
    rw [this]; exact hc

theorem bv_cut (bs : List UInt8) (l h : Nat) : ((bv bs).take h).drop l = bv ((bs.take h).drop l) := by simp [bv, List.map_take, List.map_drop]

/-- A cut of bytes. -/
theorem Rdv.cutb {w : World} {ao : Option Addr} {cap : Nat} {bs : List UInt8} (hr : Rdv w (.slice ao bs.length cap) (bv bs)) {l h m : Nat} (h1 : l ≤ h) (h2 : h ≤ bs.length) (h3 : h ≤ m) (h4 : m ≤ cap) :
    Rdv w (sliced ao l h m 1) (bv ((bs.take h).drop l)) ∧ ∃ a', sliced ao l h m 1 = .slice a' ((bs.take h).drop l).length (m - l) := by
  have := Rdv.cut (xs := bv bs) (by rw [bv_len]; exact hr) h1 (by rw [bv_len]; exact h2) h3 h4
  rw [bv_cut, bv_len] at this
  exact this

/-- The cut 'v[l:l+k]' as a walk spells it, by whether any room is left behind l. -/
theorem Rdv.cut2 {w : World} {ao : Option Addr} {cap : Nat} {bs : List UInt8} (hr : Rdv w (.slice ao bs.length cap) (bv bs)) {l k : Nat} (h : l + k ≤ bs.length) :
    (¬ cap = l → Rdv w (.slice (ao.map (fun x => x.add l)) k (cap - l)) (bv ((bs.take (l + k)).drop l))) ∧ (cap = l → Rdv w (.slice ao k 0) (bv ((bs.take (l + k)).drop l))) := by
  have hc : bs.length ≤ cap := by
    obtain ⟨a', c', hv, h1, _⟩ := id hr
    obtain ⟨-, -, rfl⟩ : ao = a' ∧ True ∧ cap = c' := by simpa [bv_len] using hv
    rwa [bv_len] at h1
  have hk := (Rdv.cutb hr (l := l) (h := l + k) (m := cap) (by omega) h (by omega) (Nat.le_refl _)).1
  rw [sliced, Nat.add_sub_cancel_left, Nat.mul_one] at hk
  refine ⟨fun hne => by rwa [if_neg hne] at hk, fun he => ?_⟩
  rw [if_pos he] at hk
  rwa [he, Nat.sub_self] at hk
/-- The cut 'v[l:]'. -/
theorem Rdv.rest {w : World} {ao : Option Addr} {cap : Nat} {bs : List UInt8} (hr : Rdv w (.slice ao bs.length cap) (bv bs)) {l : Nat} (h : l ≤ bs.length) :
    (¬ cap = l → Rdv w (.slice (ao.map (fun x => x.add l)) (bs.length - l) (cap - l)) (bv (bs.drop l))) ∧ (cap = l → Rdv w (.slice ao (bs.length - l) 0) (bv (bs.drop l))) := by
  have := Rdv.cut2 hr (l := l) (k := bs.length - l) (by omega)
  rwa [Nat.add_sub_cancel' h, List.take_length] at this

theorem below_undrew {w w' : World} (h : Below w.drew.heap.size w.drew w') : Below w.heap.size w w' := ⟨h.os, h.tape, h.output, h.size, h.block⟩

theorem Rdv.take {w : World} {ao : Option Addr} {cap L : Nat} {bs : List UInt8} (hr : Rdv w (.slice ao bs.length cap) (bv bs)) (hL : L ≤ bs.length) : Rdv w (.slice ao L cap) (bv (bs.take L)) := by
  obtain ⟨a', c', hv, h1, h2, h3, h4⟩ := hr
  obtain ⟨rfl, -, rfl⟩ : ao = a' ∧ True ∧ cap = c' := by simpa [bv_len] using hv
  rw [bv_len] at h1
  refine ⟨ao, cap, by rw [bv_len, List.length_take, Nat.min_eq_left hL], by rw [bv_len, List.length_take]; omega, h2, h3, fun j u hu => h4 j u ?_⟩
  have e : bv (bs.take L) = (bv bs).take L := by simp [bv, List.map_take]
  rw [e, List.getElem?_take] at hu
  split at hu
  · exact hu
  · cases hu

/-- 'string(b)', b whatever reads as bytes. -/
theorem run_string_rd {P : Program} {w : World} (src e dst : TypeId) (hs : P.underlying src = some (.slice e)) (he : P.underlying e = some (.int .u8)) (hd : P.underlying dst = some .string) {v : Value} {bs : List UInt8} (h : Rdv w v (bv bs)) :
    (convert src dst v).run P w = .ok (.string ⟨bs.toArray⟩) w := by
  obtain ⟨ao, cap, rfl, h1, h2, h3, h4⟩ := h
  by_cases hb : bs = []
  · subst hb
    rw [run_convert_bytes_string w src dst e _ _ cap hs he hd]
    cases ao <;> simp [Conv.bytesToString, loadCells, bv] <;> rfl
  · have hpos : 0 < bs.length := List.length_pos_iff.2 hb
    obtain ⟨⟨b, off, spot⟩, rfl, hc0⟩ := h4 0 _ (bv_get hpos)
    have hspot : spot = none := by simpa [Addr.add] using World.cell?_spot hc0
    subst hspot
    have := run_convert_bytes_arg (P := P) w src e hs he b off bs.length cap (bs.map fun b => (b.toNat : Int)) (by simp) (fun i hi => by
      obtain ⟨y, hy, hc⟩ := h4 i _ (bv_get hi)
      obtain rfl := Option.some.inj hy
      rw [Addr.add_lit] at hc
      rw [hc]; simp [List.getD, hi]) dst hd
    rw [bv_len, this]
    simp [strOfNums, Function.comp_def]

/-- What is known of a cell of what reads as bytes. -/
theorem Rdv.at {w : World} {v : Value} {bs : List UInt8} (h : Rdv w v (bv bs)) {j : Nat} (hj : j < bs.length) :
    ∃ b off cap, v = .slice (some ⟨b, off, none⟩) bs.length cap ∧ b < w.heap.size ∧ ∀ i (hi : i < bs.length), w.cell? ⟨b, off + i, none⟩ = some (.int .u8 (bs[i].toNat : Int)) := by
  obtain ⟨ao, cap, rfl, h1, h2, h3, h4⟩ := h
  have hpos : 0 < bs.length := by omega
  obtain ⟨⟨b, off, spot⟩, rfl, hc0⟩ := h4 0 _ (bv_get hpos)
  have hspot : spot = none := by simpa [Addr.add] using World.cell?_spot hc0
  subst hspot
  refine ⟨b, off, cap, by rw [bv_len], cell_lt (by simpa [Addr.add] using hc0), fun i hi => ?_⟩
  obtain ⟨y, hy, hc⟩ := h4 i _ (bv_get hi)
  obtain rfl := Option.some.inj hy
  rwa [Addr.add_lit] at hc

theorem lit_at {x : World} {g : Nat} {e : TypeId} (bs : List UInt8) (hm : bs.length ≤ maxLen) (hg : x.heap.size = g) : Rdv (x.alloc (.cells (bv bs).toArray e)) (.slice (some ⟨g, 0, none⟩) bs.length bs.length) (bv bs) := by
  subst hg; exact lit_rd bs hm
end Go.Proofs.YtmgalfdiiegjjaaDoor
