/- Several texts in one. -/
import Derived.Lib.TrimByte
import Derived.Lib.IndexMore
import Derived.WalkKit
import Derived.Lib.Hide
import Derived.Laws.BytesArg
import Derived.Laws.AppendOwnNone
import Derived.ArgAppend
namespace Go.Proofs.YtmgalfdiiegjjaaGreatDoor
namespace LX
open Go

abbrev B := List UInt8
/-- A piece: its kind, line, column, text, and whether it is quoted. -/
abbrev Pc := Int × Int × Int × B × Bool
/-- A line: its number, its indent, its text. -/
abbrev Lz := Int × Int × B

def sgn (c : UInt8) : Bool := decide (97 ≤ c.toNat ∧ c.toNat ≤ 122) || decide (65 ≤ c.toNat ∧ c.toNat ≤ 90) || decide (48 ≤ c.toNat ∧ c.toNat ≤ 57) || decide (c.toNat = 95) || decide (c.toNat = 45) || decide (c.toNat = 46)
def tl (l : B) : B := Lib.trimLeftB l 32
theorem tl_len (l : B) : (tl l).length ≤ l.length := (List.dropWhile_sublist _).length_le
def dash : B → Bool
  | [] => false
  | [c] => c == 45
  | c :: d :: _ => c == 45 && d == 32
theorem dash_len {l : B} (h : dash l = true) : 1 ≤ l.length := by
  cases l with
  | nil => cases h
  | cons => simp
/-- How many bytes of a kind stand at the front. -/
def runp (p : UInt8 → Bool) : B → Nat
  | [] => 0
  | c :: t => if p c then runp p t + 1 else 0
theorem runp_le (p : UInt8 → Bool) : ∀ l : B, runp p l ≤ l.length
  | [] => Nat.le_refl 0
  | c :: t => by
    unfold runp
    have := runp_le p t
    split
    · simp; omega
    · simp
theorem runp_at {p : UInt8 → Bool} : ∀ {l : B} {k : Nat}, k < runp p l → ∃ c, l[k]? = some c ∧ p c = true
  | [], k, h => by simp [runp] at h
  | c :: t, 0, h => by
    unfold runp at h
    split at h
    · rename_i hs; exact ⟨c, rfl, hs⟩
    · omega
  | c :: t, k + 1, h => by
    unfold runp at h
    split at h
    · have := runp_at (p := p) (l := t) (k := k) (by omega)
      simpa using this
    · omega
theorem runp_end {p : UInt8 → Bool} : ∀ {l : B} {c : UInt8}, l[runp p l]? = some c → p c = false
  | [], c, h => by simp [runp] at h
  | d :: t, c, h => by
    unfold runp at h
    split at h
    · exact runp_end (l := t) (by simpa using h)
    · rename_i hs
      have : d = c := by simpa using h
      subst this
      simpa using hs
/-- Where a run ends that has gone k far. -/
theorem runp_stop {p : UInt8 → Bool} {l : B} {k : Nat} (hk : k ≤ runp p l) (h : ∀ c, l[k]? = some c → p c = false) : runp p l = k := by
  rcases Nat.lt_or_ge k (runp p l) with h1 | h1
  · obtain ⟨c, hc, hs⟩ := runp_at h1
    rw [h c hc] at hs; cases hs
  · omega
theorem runp_more {p : UInt8 → Bool} {l : B} {k : Nat} {c : UInt8} (hk : k ≤ runp p l) (hc : l[k]? = some c) (hs : p c = true) : k + 1 ≤ runp p l := by
  rcases Nat.lt_or_ge k (runp p l) with h1 | h1
  · exact h1
  · obtain rfl : k = runp p l := by omega
    rw [runp_end hc] at hs; cases hs
/-- How many keys' signs, how many blanks stand at the front. -/
def run (l : B) : Nat := runp sgn l
def bn (l : B) : Nat := runp (· == 32) l
theorem tl_drop : ∀ l : B, tl l = l.drop (bn l)
  | [] => rfl
  | c :: t => by
    unfold tl Lib.trimLeftB bn runp
    by_cases h : (c == 32) = true
    · rw [List.dropWhile_cons_of_pos (p := fun x => x == 32) h, if_pos h, List.drop_succ_cons]
      exact tl_drop t
    · rw [List.dropWhile_cons_of_neg (p := fun x => x == 32) h, if_neg h, List.drop_zero]
/-- What stands behind a key. -/
def kend : B → Bool
  | [c] => c == 58
  | c :: d :: _ => c == 58 && d == 32
  | [] => false
def key (l : B) : Nat := if kend (l.drop (run l)) then run l else 0
theorem key_lt {l : B} (h : 0 < key l) : key l < l.length := by
  unfold key at h ⊢
  split
  · rename_i hk
    rcases Nat.lt_or_ge (run l) l.length with h1 | h1
    · exact h1
    · rw [List.drop_eq_nil_of_le h1] at hk; cases hk
  · rename_i hk; rw [if_neg hk] at h; omega
def hx (c : UInt8) : Option Nat := if 48 ≤ c.toNat ∧ c.toNat ≤ 57 then some (c.toNat - 48) else if 97 ≤ c.toNat ∧ c.toNat ≤ 102 then some (c.toNat - 87) else none
/-- What stands behind a single quote that opened. -/
def sq : B → Option B
  | [] => none
  | c :: t =>
    if c = 39 then
      match t with
      | [] => some []
      | d :: u => if d = 39 then (sq u).map (39 :: ·) else none
    else (sq t).map (c :: ·)
/-- What stands behind a backslash: a byte, and how many bytes that takes. -/
def esc : B → Option (UInt8 × Nat)
  | [] => none
  | d :: u =>
    if d = 92 ∨ d = 34 then some (d, 1)
    else if d = 110 then some (10, 1)
    else if d = 116 then some (9, 1)
    else if d = 120 then
      match u with
      | a :: b :: _ => match hx a, hx b with
        | some x, some y => some (UInt8.ofNat (16 * x + y), 3)
        | _, _ => none
      | _ => none
    else none
theorem esc_len {l : B} {c : UInt8} {n : Nat} (h : esc l = some (c, n)) : 1 ≤ n ∧ n ≤ l.length ∧ n ≤ 3 := by
  cases l with
  | nil => cases h
  | cons d u =>
    rw [esc.eq_def] at h
    simp only at h
    by_cases h1 : d = 92 ∨ d = 34
    · rw [if_pos h1] at h; cases h; simp
    · rw [if_neg h1] at h
      by_cases h2 : d = 110
      · rw [if_pos h2] at h; cases h; simp
      · rw [if_neg h2] at h
        by_cases h3 : d = 116
        · rw [if_pos h3] at h; cases h; simp
        · rw [if_neg h3] at h
          by_cases h4 : d = 120
          · rw [if_pos h4] at h
            match u, h with
            | a :: b :: v, h =>
              cases ha : hx a with
              | none => simp [ha] at h
              | some x =>
                cases hb : hx b with
                | none => simp [ha, hb] at h
                | some y =>
                  simp [ha, hb] at h
                  obtain ⟨_, rfl⟩ := h
                  simp
            | [_], h => cases h
            | [], h => cases h
          · rw [if_neg h4] at h; cases h
/-- What stands behind a double quote that opened. The number: no less than its length. -/
def dqf : Nat → B → Option B
  | 0, _ => none
  | _ + 1, [] => none
  | n + 1, c :: t =>
    if c = 34 then (if t = [] then some [] else none)
    else if c = 92 then
      match esc t with
      | none => none
      | some (d, k) => (dqf n (t.drop k)).map (d :: ·)
    else (dqf n t).map (c :: ·)
theorem dqf_more : ∀ {n m : Nat} {l : B}, l.length ≤ n → l.length ≤ m → dqf n l = dqf m l
  | 0, 0, _, _, _ => rfl
  | 0, m + 1, l, h, _ => by
    obtain rfl : l = [] := List.length_eq_zero_iff.1 (by omega)
    rfl
  | n + 1, 0, l, _, h => by
    obtain rfl : l = [] := List.length_eq_zero_iff.1 (by omega)
    rfl
  | n + 1, m + 1, [], _, _ => rfl
  | n + 1, m + 1, c :: t, h1, h2 => by
    simp only [List.length_cons] at h1 h2
    unfold dqf
    rw [dqf_more (n := n) (m := m) (l := t) (by omega) (by omega)]
    have hd : ∀ k, dqf n (t.drop k) = dqf m (t.drop k) := fun k => dqf_more (by rw [List.length_drop]; omega) (by rw [List.length_drop]; omega)
    simp only [hd]
def dq (l : B) : Option B := dqf l.length l
theorem dq_nil : dq [] = none := rfl
theorem dq_end {t : B} : dq (34 :: t) = if t = [] then some [] else none := by simp [dq, dqf]
theorem dq_esc {t : B} : dq (92 :: t) = match esc t with | none => none | some (d, k) => (dq (t.drop k)).map (d :: ·) := by
  unfold dq
  simp only [List.length_cons]
  rw [dqf, if_neg (by decide), if_pos rfl]
  have hd : ∀ k, dqf t.length (t.drop k) = dqf (t.drop k).length (t.drop k) := fun k => dqf_more (by rw [List.length_drop]; omega) (Nat.le_refl _)
  simp only [hd]
theorem dq_pass {c : UInt8} {t : B} (h1 : c ≠ 34) (h2 : c ≠ 92) : dq (c :: t) = (dq t).map (c :: ·) := by
  unfold dq
  simp only [List.length_cons]
  rw [dqf, if_neg h1, if_neg h2]
theorem sq_end : sq [39] = some [] := by simp [sq]
theorem sq_two {t : B} : sq (39 :: 39 :: t) = (sq t).map (39 :: ·) := by
  rw [sq.eq_def]; simp
theorem sq_bad {d : UInt8} {t : B} (h : d ≠ 39) : sq (39 :: d :: t) = none := by
  rw [sq.eq_def]; simp [h]
theorem sq_pass {c : UInt8} {t : B} (h : c ≠ 39) : sq (c :: t) = (sq t).map (c :: ·) := by
  rw [sq.eq_def]; simp [h]

def bars : B := [91, 93, 123, 125, 38, 42, 33, 124, 62, 37, 64, 44, 63, 96]
def odd (c : UInt8) : Bool := bars.contains c
/-- The fault's kind, or 0 and what the text says and whether it is quoted. -/
abbrev T := Int × B × Bool
def lng (x : B) (q : Bool) : T := if 200 < x.length then (4, [], false) else (0, x, q)
def txt : B → T
  | [] => (4, [], false)
  | c :: t =>
    if c = 39 then (match sq t with | none => (3, [], false) | some x => lng x true)
    else if c = 34 then (match dq t with | none => (3, [], false) | some x => lng x true)
    else if odd c || dash (c :: t) || decide (0 < key (c :: t)) then (4, [], false)
    else lng (c :: t) false
/-- The fault's kind, or 0 and the pieces. -/
abbrev R := Int × List Pc
def fin (no col : Int) (acc : List Pc) (l : B) : R :=
  if l = [] then (0, acc)
  else if (txt l).1 = 0 then (0, acc ++ [(3, no, col - l.length, (txt l).2.1, (txt l).2.2)]) else ((txt l).1, [])
def mid (no col : Int) (acc : List Pc) (l : B) : R :=
  if key l = 0 then fin no col acc l
  else if 64 < key l then (5, [])
  else fin no col (acc ++ [(2, no, col - l.length, l.take (key l), false)]) (tl (l.drop (key l + 1)))
def go (no col : Int) : Nat → List Pc → B → R
  | 0, acc, l => mid no col acc l
  | n + 1, acc, l => if dash l then go no col n (acc ++ [(1, no, col - l.length, [], false)]) (tl (l.drop 1)) else mid no col acc l
def row (l : Lz) : R :=
  if l.2.1 < 0 ∨ 16384 < l.2.1 then (6, [])
  else go l.1 (l.2.1 + l.2.2.length) (tl l.2.2).length [] (tl l.2.2)
theorem go_dash {no col : Int} {n : Nat} {acc : List Pc} {l : B} (h : dash l = true) : go no col (n + 1) acc l = go no col n (acc ++ [(1, no, col - l.length, [], false)]) (tl (l.drop 1)) := by
  rw [go, if_pos h]
theorem go_mid {no col : Int} {n : Nat} {acc : List Pc} {l : B} (h : dash l = false) : go no col n acc l = mid no col acc l := by
  cases n with
  | zero => rfl
  | succ n => rw [go, if_neg (by rw [h]; simp)]
/-- The pieces of lines. -/
def all : List Lz → R × Int
  | [] => ((0, []), 0)
  | l :: ls => if (row l).1 = 0 then (((all ls).1.1, if (all ls).1.1 = 0 then (row l).2 ++ (all ls).1.2 else []), (all ls).2) else (((row l).1, []), l.1)
end LX
end Go.Proofs.YtmgalfdiiegjjaaGreatDoor

/- Descriptors over lists: what may be. No program is named here. -/
namespace Go.Proofs.YtmgalfdiiegjjaaGreatDoor
namespace D

/-- 1 to 64 bytes, all to be seen. -/
def vis (c : UInt8) : Bool := decide (33 ≤ c.toNat ∧ c.toNat ≤ 126)
def nm (l : List UInt8) : Bool := decide (1 ≤ l.length) && decide (l.length ≤ 64) && l.all vis

abbrev E := List UInt8 × List UInt8
def okE (e : E) : Bool := nm e.1 && decide (e.2.length ≤ 128)
def chk (es : List E) : Bool := decide (1 ≤ es.length) && decide (es.length ≤ 8) && es.all okE
theorem chk_ne {es : List E} (h : chk es = true) : es ≠ [] := by
  rintro rfl; revert h; decide
theorem chk_len {es : List E} (h : chk es = true) : 1 ≤ es.length ∧ es.length ≤ 8 := by
  unfold chk at h
  simp only [Bool.and_eq_true, decide_eq_true_eq] at h
  exact h.1
end D
end Go.Proofs.YtmgalfdiiegjjaaGreatDoor

/- Slices whose elements are one cell each: what a slice value reads as in a world; what a call's own rows hold; append, cut, and the text of bytes, as laws for a walk. No program is named here. -/
namespace Go.Proofs.YtmgalfdiiegjjaaGreatDoor
open Go.RowKit

/-- The slice value v reads, in w, as the cells xs. -/
def Rdv (w : World) (v : Value) (xs : List Value) : Prop :=
  ∃ ao cap, v = .slice ao xs.length cap ∧ xs.length ≤ cap ∧ cap ≤ maxLen ∧ (ao = none → cap = 0) ∧ ∀ j u, xs[j]? = some u → ∃ x, ao = some x ∧ w.cell? (x.add j) = some u

/-- The slice value v is a row of the call's own (from block 'base' on), whose elements are the cells xs. -/
def Own (w : World) (base : Nat) (e : TypeId) (v : Value) (xs : List Value) : Prop := w.ownsRow base e 1 v xs.length xs

def bv (bs : List UInt8) : List Value := bs.map fun b => .int .u8 (b.toNat : Int)
theorem bv_len (bs : List UInt8) : (bv bs).length = bs.length := by simp [bv]
theorem bv_app (a b : List UInt8) : bv (a ++ b) = bv a ++ bv b := by simp [bv]
theorem bv_get {bs : List UInt8} {j : Nat} (h : j < bs.length) : (bv bs)[j]? = some (.int .u8 (bs[j].toNat : Int)) := by simp [bv, h]
theorem bv_one {bs : List UInt8} : ∀ u ∈ bv bs, u.oneCell' = true := by
  intro u hu
  obtain ⟨_, _, rfl⟩ := List.mem_map.1 hu
  rfl
theorem bv_inj {a b : List UInt8} (h : bv a = bv b) : a = b := by
  have := congrArg (List.map fun v => match v with | .int _ z => UInt8.ofNat z.toNat | _ => 0) h
  simpa [bv, Function.comp_def] using this

theorem cell_lt {w : World} {x : Addr} {u : Value} (h : w.cell? x = some u) : x.block < w.heap.size := World.block_lt_of_cell? w x h
theorem add_block (x : Addr) (j : Nat) : (x.add j).block = x.block := by unfold Addr.add; split <;> rfl

theorem Rdv.below {w w' : World} {v : Value} {xs : List Value} (h : Rdv w v xs) (hb : Below w.heap.size w w') : Rdv w' v xs := by
  obtain ⟨ao, cap, hv, h1, h2, h3, h4⟩ := h
  refine ⟨ao, cap, hv, h1, h2, h3, fun j u hu => ?_⟩
  obtain ⟨x, hx, hc⟩ := h4 j u hu
  exact ⟨x, hx, (hb.cell (cell_lt hc)).trans hc⟩

theorem Rdv.len_le {w : World} {v : Value} {xs : List Value} (h : Rdv w v xs) : xs.length ≤ maxLen := by
  obtain ⟨ao, cap, hv, h1, h2, _⟩ := h
  omega

theorem Rdv.nil (w : World) : Rdv w (.slice none 0 0) [] := ⟨none, 0, rfl, by simp, by simp [maxLen], fun _ => rfl, by simp⟩

theorem Own.rd {w : World} {base : Nat} {e : TypeId} {v : Value} {xs : List Value} (h : Own w base e v xs) : Rdv w v xs := by
  rcases h.2 with ⟨hv, hn⟩ | ⟨g, cap, cur, hv, hb, hg, hnc, hcm, hcs, ht⟩
  · obtain rfl : xs = [] := List.length_eq_zero_iff.1 hn
    rw [hv]; exact Rdv.nil w
  · refine ⟨some ⟨g, 0, none⟩, cap, hv, hnc, hcm, (by intro h; cases h), fun j u hu => ⟨_, rfl, ?_⟩⟩
    exact World.ownsRow.cells h (by rw [hv]; rfl) j u hu

theorem Own.nil (w : World) (base : Nat) (e : TypeId) : Own w base e (.slice none 0 0) [] := World.ownsRow_nil w base e 1

theorem Own.below {w w' : World} {base : Nat} {e : TypeId} {v : Value} {xs : List Value} (h : Own w base e v xs) (hb : Below w.heap.size w w') : Own w' base e v xs := by
  refine ⟨h.1, ?_⟩
  rcases h.2 with hn | ⟨g, cap, cur, hv, hbg, hg, rest⟩
  · exact .inl hn
  · exact .inr ⟨g, cap, cur, hv, hbg, (hb.block g (Array.getElem?_eq_some_iff.1 hg).1).trans hg, rest⟩

theorem Own.base {w : World} {base base' : Nat} {e : TypeId} {v : Value} {xs : List Value} (h : Own w base e v xs) (hb : base' ≤ base) : Own w base' e v xs := by
  refine ⟨h.1, ?_⟩
  rcases h.2 with hn | ⟨g, cap, cur, hv, hbg, rest⟩
  · exact .inl hn
  · exact .inr ⟨g, cap, cur, hv, Nat.le_trans hb hbg, rest⟩

theorem Own.kept {w w' : World} {base : Nat} {e : TypeId} {v : Value} {xs : List Value} {row : Option Nat} (h : Own w base e v xs) (hg : w.grownBy w' row) (hne : v.ownBlock = none ∨ v.ownBlock ≠ row) : Own w' base e v xs := World.ownsRow.kept h hg hne
theorem Own.alloc {w : World} {base : Nat} {e : TypeId} {v : Value} {xs : List Value} (h : Own w base e v xs) (o : Obj) : Own (w.alloc o) base e v xs := World.ownsRow.alloc h o

/-- A row that was written out: '[]T{x, y}'. -/
theorem Own.lit (w : World) {base : Nat} {e : TypeId} (cs : List Value) (hb : base ≤ w.heap.size) (hm : cs.length ≤ maxLen) :
    Own (w.alloc (.cells cs.toArray e)) base e (.slice (some ⟨w.heap.size, 0, none⟩) cs.length cs.length) cs := by
  have := World.ownsRow_lit (e := e) (size := 1) (base := base) w cs.toArray cs.length hb hm (by simp)
  show (w.alloc (.cells cs.toArray e)).ownsRow base e 1 _ cs.length cs
  simpa using this

theorem below_alloc (w : World) (o : Obj) : Below w.heap.size w (w.alloc o) := (Below.refl _ w).alloc (Nat.le_refl _) o
theorem below_of_grown {w w' : World} {base : Nat} {e : TypeId} {v : Value} {xs : List Value} (h : Own w base e v xs) (hg : w.grownBy w' v.ownBlock) (hB : base ≤ w.heap.size) : Below base w w' :=
  (Below.refl base w).grown hg hB (fun k hk => (World.ownsRow.lt h k hk).1)
theorem below_tr {a b c : World} (h : Below a.heap.size a b) (k : Below b.heap.size b c) : Below a.heap.size a c := h.trans (k.mono h.size)

/-- 'append(out, x...)', out the call's own, x whatever reads. -/
theorem wpList_append_rd {P : Program} {w : World} {ops : Array Oper} {rest : List Oper} {o : Oper} {a : Act} {Q : Exit → Act → World → Prop} (hgd : o.guard = none) (s x : Operand) (t : TypeId)
    (ho : o.op = .call { callee := .builtin .append, args := #[s, x], argTypes := #[t, t] })
    (base : Nat) (e : TypeId) (z : Value) (bytes : Nat) (ht : P.underlying t = some (.slice e)) (hinfo : (P.info? e).map (fun i => (i.zero, i.size, i.bytes)) = some (some z, 1, bytes)) (hz : z.cells.size = 1)
    {v vx : Value} {xs news : List Value} (hs : a.eval s = v) (hown : Own w base e v xs) (hx : a.eval x = vx) (hrd : Rdv w vx news) (h1 : ∀ u ∈ news, u.oneCell' = true)
    (h63 : xs.length + news.length ≤ maxLen) (hbytes : (xs.length + news.length) * bytes ≤ 140737488355328) (hbase : base ≤ w.heap.size)
    (h : ∀ v' w', Own w' base e v' (xs ++ news) → w.grownBy w' v.ownBlock → Below base w w' → wpList P ops Q rest (a.put o.dst v') w') : wpList P ops Q (o :: rest) a w := by
  obtain ⟨i, hi, hz0, hz1, hz2⟩ := info_parts hinfo
  obtain ⟨ao, cap, rfl, h1', h2, h3, h4⟩ := hrd
  cases ao with
  | none =>
    have hc := h3 rfl
    have hn : news = [] := List.length_eq_zero_iff.1 (by omega)
    subst hn
    subst hc
    refine wpList_append_own_none hgd s x t ho base e i 1 ht hi v xs.length xs hs hown hx ?_
    exact h v w (by simpa using hown) (World.grownBy.refl _ _) (Below.refl _ _)
  | some ad =>
    refine wpList_append_own _ hgd s x t ho base e i z 1 bytes ht hi hz0 hz1 hz2 hz (by decide) v xs.length xs hs hown ad news.length cap news hx (by simp) (fun j u hu => ?_) h1 h63 hbytes hbase ?_
    · obtain ⟨y, hy, hc⟩ := h4 j u hu
      obtain rfl := Option.some.inj hy
      exact hc
    · intro v' w' ho' hg _
      refine h v' w' ?_ hg (below_of_grown hown hg hbase)
      show w'.ownsRow base e 1 v' (xs ++ news).length (xs ++ news)
      rw [List.length_append]; exact ho'

/-- The same of bytes. -/
theorem wpList_append_bytes {P : Program} {w : World} {ops : Array Oper} {rest : List Oper} {o : Oper} {a : Act} {Q : Exit → Act → World → Prop} (hgd : o.guard = none) (s x : Operand) (t : TypeId)
    (ho : o.op = .call { callee := .builtin .append, args := #[s, x], argTypes := #[t, t] })
    (base : Nat) (e : TypeId) (ht : P.underlying t = some (.slice e)) (hinfo : (P.info? e).map (fun i => (i.zero, i.size, i.bytes)) = some (some (.int .u8 0), 1, 1))
    {v vx : Value} {xs news : List UInt8} (hs : a.eval s = v) (hown : Own w base e v (bv xs)) (hx : a.eval x = vx) (hrd : Rdv w vx (bv news))
    (hlen : xs.length + news.length ≤ 140737488355328) (hbase : base ≤ w.heap.size)
    (h : ∀ v' w', Own w' base e v' (bv (xs ++ news)) → w.grownBy w' v.ownBlock → Below base w w' → wpList P ops Q rest (a.put o.dst v') w') : wpList P ops Q (o :: rest) a w :=
  wpList_append_rd hgd s x t ho base e (.int .u8 0) 1 ht hinfo rfl hs hown hx hrd bv_one (by rw [bv_len, bv_len]; unfold maxLen; omega) (by rw [bv_len, bv_len]; omega) hbase
    (fun v' w' h1 h2 h3 => h v' w' (by rw [bv_app]; exact h1) h2 h3)

/-- 'make([]T, 0, n)'. -/
theorem wpList_make0 {P : Program} {w : World} {ops : Array Oper} {rest : List Oper} {o : Oper} {a : Act} {Q : Exit → Act → World → Prop} (hgd : o.guard = none) (l c : Operand) (t : TypeId) (hop : o.op = Op.makeSlice t l c)
    (base : Nat) (e : TypeId) (z : Value) (bytes : Nat) (ht : P.underlying t = some (.slice e)) (hinfo : (P.info? e).map (fun i => (i.zero, i.size, i.bytes)) = some (some z, 1, bytes))
    {kl kc : IntKind} {C : Int} (n : Nat) (hl : a.eval l = .int kl 0) (hc : a.eval c = .int kc C) (hC : C = (n : Int)) (b2 : bytes * n ≤ 281474976710656) (b3 : n ≤ maxLen) (b4 : base ≤ w.heap.size)
    (hK : ∀ v' w', Own w' base e v' [] → Below base w w' → wpList P ops Q rest (a.put o.dst v') w') : wpList P ops Q (o :: rest) a w := by
  obtain ⟨i, hi, hz0, hz1, hz2⟩ := info_parts hinfo
  subst hz2
  refine wpList_make_own _ hgd l c t hop base e i z 1 ht hi hz0 hz1 kl kc C n hl hc hC b2 b3 b4 ?_
  intro w' ho hg
  exact hK _ w' ho ((Below.refl base w).grown hg b4 (fun k hk => by cases hk))

/-- A row of one byte that was laid for an append. -/
theorem one_rd {w : World} {e : TypeId} {B : Int} {b : UInt8} (h : B = (b.toNat : Int)) : Rdv (w.alloc (.cells #[.int .u8 B] e)) (.slice (some ⟨w.heap.size, 0, none⟩) 1 1) (bv [b]) := by
  subst h
  exact (Own.lit (base := 0) w (e := e) (bv [b]) (Nat.zero_le _) (by simp [bv, maxLen])).rd
theorem lit_rd {w : World} {e : TypeId} (bs : List UInt8) (hm : bs.length ≤ maxLen) : Rdv (w.alloc (.cells (bv bs).toArray e)) (.slice (some ⟨w.heap.size, 0, none⟩) bs.length bs.length) (bv bs) := by
  have := (Own.lit (base := 0) w (e := e) (bv bs) (Nat.zero_le _) (by simpa [bv] using hm)).rd
  rwa [bv_len] at this

/-- 'append(s, x...)', s whatever reads, with no room behind it. -/
theorem wpList_append_full {P : Program} {w : World} {ops : Array Oper} {rest : List Oper} {o : Oper} {a : Act} {Q : Exit → Act → World → Prop} (hgd : o.guard = none) (s x : Operand) (t : TypeId)
    (ho : o.op = .call { callee := .builtin .append, args := #[s, x], argTypes := #[t, t] })
    (e : TypeId) (z : Value) (bytes : Nat) (ht : P.underlying t = some (.slice e)) (hinfo : (P.info? e).map (fun i => (i.zero, i.size, i.bytes)) = some (some z, 1, bytes)) (hz : z.cells.size = 1)
    {v vx : Value} {xs news : List Value} (hs : a.eval s = v) (hrs : Rdv w v xs) (hfull : ∃ ao, v = .slice ao xs.length xs.length) (hx : a.eval x = vx) (hrd : Rdv w vx news) (h1 : ∀ u ∈ news, u.oneCell' = true)
    (h63 : xs.length + news.length ≤ maxLen) (hbytes : (xs.length + news.length) * bytes ≤ 140737488355328)
    (h : ∀ v' w', Rdv w' v' (xs ++ news) → Below w.heap.size w w' → wpList P ops Q rest (a.put o.dst v') w') : wpList P ops Q (o :: rest) a w := by
  obtain ⟨i, hi, hz0, hz1, hz2⟩ := info_parts hinfo
  obtain ⟨ax, hvx⟩ := hfull
  have hrs' := hrs
  obtain ⟨as, cap, hv, g1, g2, g3, g4⟩ := hrs
  obtain ⟨rfl, -, rfl⟩ : as = ax ∧ True ∧ cap = xs.length := by rw [hvx] at hv; simp at hv; exact ⟨hv.1.symm, trivial, hv.2.symm⟩
  obtain ⟨ao, cp, rfl, h1', h2, h3, h4⟩ := hrd
  by_cases hn : news = []
  · subst hn
    refine wpList_plain hgd fun K hK => ?_
    have hrun : (Builtin.append_ #[t, t] o.type #[v, .slice ao 0 cp]).run P w = .ok v w := by
      subst hv
      cases ao <;> cases as <;> simp [Builtin.append_, run_underlying ht, sizeOf, typeInfo, hi, Builtin.lenOf, Builtin.firstCells, storeCells, loadCells, loadCellsFrom]
    unfold Oper.wp
    simp [execOp, ho, resolve, invoke, builtin, hs, hx, hrun, Result.andThen]
    exact hK _ _ (h v w (by simpa using hrs') (Below.refl _ _))
  · have hpos : 0 < news.length := List.length_pos_iff.2 hn
    obtain ⟨ad, rfl, _⟩ := h4 0 news[0] (by simp [hpos])
    refine wpList_append_grows _ hgd s x t ho e i z 1 bytes ht hi hz0 hz1 hz2 hz (by decide) as xs.length xs.length xs (hs.trans hv) (fun h => ⟨g3 h, g3 h⟩) (by simp) ?_ ad news.length cp news hx (by simp) (fun j u hu => ?_) h1 (by omega) h63 hbytes ?_
    · intro b hb j u hu
      obtain ⟨y, hy, hc⟩ := g4 j u hu
      rw [hb] at hy
      obtain rfl := Option.some.inj hy
      exact hc
    · obtain ⟨y, hy, hc⟩ := h4 j u hu
      obtain rfl := Option.some.inj hy
      exact hc
    · intro v' w' ho' hg
      have ho2 : Own w' w.heap.size e v' (xs ++ news) := by
        show w'.ownsRow w.heap.size e 1 v' (xs ++ news).length (xs ++ news)
        rw [List.length_append]; exact ho'
      exact h v' w' ho2.rd ⟨hg.os, hg.tape, hg.output, hg.size, fun k hk => hg.block k hk (by simp)⟩

theorem wpList_append_full_bytes {P : Program} {w : World} {ops : Array Oper} {rest : List Oper} {o : Oper} {a : Act} {Q : Exit → Act → World → Prop} (hgd : o.guard = none) (s x : Operand) (t : TypeId)
    (ho : o.op = .call { callee := .builtin .append, args := #[s, x], argTypes := #[t, t] })
    (e : TypeId) (ht : P.underlying t = some (.slice e)) (hinfo : (P.info? e).map (fun i => (i.zero, i.size, i.bytes)) = some (some (.int .u8 0), 1, 1))
    {v vx : Value} {xs news : List UInt8} (hs : a.eval s = v) (hrs : Rdv w v (bv xs)) (hfull : ∃ ao, v = .slice ao xs.length xs.length) (hx : a.eval x = vx) (hrd : Rdv w vx (bv news))
    (hlen : xs.length + news.length ≤ 140737488355328)
    (h : ∀ v' w', Rdv w' v' (bv (xs ++ news)) → Below w.heap.size w w' → wpList P ops Q rest (a.put o.dst v') w') : wpList P ops Q (o :: rest) a w :=
  wpList_append_full hgd s x t ho e (.int .u8 0) 1 ht hinfo rfl hs hrs (by rw [bv_len]; exact hfull) hx hrd bv_one (by rw [bv_len, bv_len]; unfold maxLen; omega) (by rw [bv_len, bv_len]; omega)
    (fun v' w' h1 h2 => h v' w' (by rw [bv_app]; exact h1) h2)

/-- A cut 'v[l:h:m]' of what reads. -/
theorem Rdv.cut {w : World} {ao : Option Addr} {cap : Nat} {xs : List Value} (hr : Rdv w (.slice ao xs.length cap) xs) {l h m : Nat} (h1 : l ≤ h) (h2 : h ≤ xs.length) (h3 : h ≤ m) (h4 : m ≤ cap) :
    Rdv w (sliced ao l h m 1) ((xs.take h).drop l) ∧ ∃ a', sliced ao l h m 1 = .slice a' ((xs.take h).drop l).length (m - l) := by
  obtain ⟨as, cp, hv, g1, g2, g3, g4⟩ := hr
  obtain ⟨rfl, rfl⟩ : ao = as ∧ cap = cp := by simpa using hv
  have hl : ((xs.take h).drop l).length = h - l := by simp; omega
  refine ⟨⟨_, m - l, by rw [hl]; rfl, by omega, by omega, ?_, ?_⟩, ⟨_, by rw [hl]; rfl⟩⟩
  · intro hn
    split at hn
    · have := g3 hn; omega
    · have := g3 (by simpa using hn); omega
  · intro j u hu
    have hj : j < h - l := by
      have := (List.getElem?_eq_some_iff.1 hu).1
      omega
    have hu' : xs[l + j]? = some u := by
      rw [List.getElem?_drop, List.getElem?_take, if_pos (by omega)] at hu
      exact hu
    obtain ⟨x, hx, hc⟩ := g4 (l + j) u hu'
    have hml : ¬ m = l := by omega
    refine ⟨x.add l, by simp [hml, hx], ?_⟩
    have : (x.add l).add j = x.add (l + j) := by
      unfold Addr.add
      split <;> split <;> split <;> simp_all <;> omega
    rw [this]; exact hc

theorem bv_cut (bs : List UInt8) (l h : Nat) : ((bv bs).take h).drop l = bv ((bs.take h).drop l) := by simp [bv, List.map_take, List.map_drop]

/-- A cut of bytes. -/
theorem Rdv.cutb {w : World} {ao : Option Addr} {cap : Nat} {bs : List UInt8} (hr : Rdv w (.slice ao bs.length cap) (bv bs)) {l h m : Nat} (h1 : l ≤ h) (h2 : h ≤ bs.length) (h3 : h ≤ m) (h4 : m ≤ cap) :
    Rdv w (sliced ao l h m 1) (bv ((bs.take h).drop l)) ∧ ∃ a', sliced ao l h m 1 = .slice a' ((bs.take h).drop l).length (m - l) := by
  have := Rdv.cut (xs := bv bs) (by rw [bv_len]; exact hr) h1 (by rw [bv_len]; exact h2) h3 h4
  rw [bv_cut, bv_len] at this
  exact this

/-- The cut 'v[l:l+k]' as a walk spells it, by whether any room is left behind l. -/
theorem Rdv.cut2 {w : World} {ao : Option Addr} {cap : Nat} {bs : List UInt8} (hr : Rdv w (.slice ao bs.length cap) (bv bs)) {l k : Nat} (h : l + k ≤ bs.length) :
    (¬ cap = l → Rdv w (.slice (ao.map (fun x => x.add l)) k (cap - l)) (bv ((bs.take (l + k)).drop l))) ∧ (cap = l → Rdv w (.slice ao k 0) (bv ((bs.take (l + k)).drop l))) := by
  have hc : bs.length ≤ cap := by
    obtain ⟨a', c', hv, h1, _⟩ := id hr
    obtain ⟨-, -, rfl⟩ : ao = a' ∧ True ∧ cap = c' := by simpa [bv_len] using hv
    rwa [bv_len] at h1
  have hk := (Rdv.cutb hr (l := l) (h := l + k) (m := cap) (by omega) h (by omega) (Nat.le_refl _)).1
  rw [sliced, Nat.add_sub_cancel_left, Nat.mul_one] at hk
  refine ⟨fun hne => by rwa [if_neg hne] at hk, fun he => ?_⟩
  rw [if_pos he] at hk
  rwa [he, Nat.sub_self] at hk
/-- The cut 'v[l:]'. -/
theorem Rdv.rest {w : World} {ao : Option Addr} {cap : Nat} {bs : List UInt8} (hr : Rdv w (.slice ao bs.length cap) (bv bs)) {l : Nat} (h : l ≤ bs.length) :
    (¬ cap = l → Rdv w (.slice (ao.map (fun x => x.add l)) (bs.length - l) (cap - l)) (bv (bs.drop l))) ∧ (cap = l → Rdv w (.slice ao (bs.length - l) 0) (bv (bs.drop l))) := by
  have := Rdv.cut2 hr (l := l) (k := bs.length - l) (by omega)
  rwa [Nat.add_sub_cancel' h, List.take_length] at this

theorem below_undrew {w w' : World} (h : Below w.drew.heap.size w.drew w') : Below w.heap.size w w' := ⟨h.os, h.tape, h.output, h.size, h.block⟩

theorem Rdv.take {w : World} {ao : Option Addr} {cap L : Nat} {bs : List UInt8} (hr : Rdv w (.slice ao bs.length cap) (bv bs)) (hL : L ≤ bs.length) : Rdv w (.slice ao L cap) (bv (bs.take L)) := by
  obtain ⟨a', c', hv, h1, h2, h3, h4⟩ := hr
  obtain ⟨rfl, -, rfl⟩ : ao = a' ∧ True ∧ cap = c' := by simpa [bv_len] using hv
  rw [bv_len] at h1
  refine ⟨ao, cap, by rw [bv_len, List.length_take, Nat.min_eq_left hL], by rw [bv_len, List.length_take]; omega, h2, h3, fun j u hu => h4 j u ?_⟩
  have e : bv (bs.take L) = (bv bs).take L := by simp [bv, List.map_take]
  rw [e, List.getElem?_take] at hu
  split at hu
  · exact hu
  · cases hu

/-- 'string(b)', b whatever reads as bytes. -/
theorem run_string_rd {P : Program} {w : World} (src e dst : TypeId) (hs : P.underlying src = some (.slice e)) (he : P.underlying e = some (.int .u8)) (hd : P.underlying dst = some .string) {v : Value} {bs : List UInt8} (h : Rdv w v (bv bs)) :
    (convert src dst v).run P w = .ok (.string ⟨bs.toArray⟩) w := by
  obtain ⟨ao, cap, rfl, h1, h2, h3, h4⟩ := h
  by_cases hb : bs = []
  · subst hb
    rw [run_convert_bytes_string w src dst e _ _ cap hs he hd]
    cases ao <;> simp [Conv.bytesToString, loadCells, bv] <;> rfl
  · have hpos : 0 < bs.length := List.length_pos_iff.2 hb
    obtain ⟨⟨b, off, spot⟩, rfl, hc0⟩ := h4 0 _ (bv_get hpos)
    have hspot : spot = none := by simpa [Addr.add] using World.cell?_spot hc0
    subst hspot
    have := run_convert_bytes_arg (P := P) w src e hs he b off bs.length cap (bs.map fun b => (b.toNat : Int)) (by simp) (fun i hi => by
      obtain ⟨y, hy, hc⟩ := h4 i _ (bv_get hi)
      obtain rfl := Option.some.inj hy
      rw [Addr.add_lit] at hc
      rw [hc]; simp [List.getD, hi]) dst hd
    rw [bv_len, this]
    simp [strOfNums, Function.comp_def]

/-- What is known of a cell of what reads as bytes. -/
theorem Rdv.at {w : World} {v : Value} {bs : List UInt8} (h : Rdv w v (bv bs)) {j : Nat} (hj : j < bs.length) :
    ∃ b off cap, v = .slice (some ⟨b, off, none⟩) bs.length cap ∧ b < w.heap.size ∧ ∀ i (hi : i < bs.length), w.cell? ⟨b, off + i, none⟩ = some (.int .u8 (bs[i].toNat : Int)) := by
  obtain ⟨ao, cap, rfl, h1, h2, h3, h4⟩ := h
  have hpos : 0 < bs.length := by omega
  obtain ⟨⟨b, off, spot⟩, rfl, hc0⟩ := h4 0 _ (bv_get hpos)
  have hspot : spot = none := by simpa [Addr.add] using World.cell?_spot hc0
  subst hspot
  refine ⟨b, off, cap, by rw [bv_len], cell_lt (by simpa [Addr.add] using hc0), fun i hi => ?_⟩
  obtain ⟨y, hy, hc⟩ := h4 i _ (bv_get hi)
  obtain rfl := Option.some.inj hy
  rwa [Addr.add_lit] at hc

theorem lit_at {x : World} {g : Nat} {e : TypeId} (bs : List UInt8) (hm : bs.length ≤ maxLen) (hg : x.heap.size = g) : Rdv (x.alloc (.cells (bv bs).toArray e)) (.slice (some ⟨g, 0, none⟩) bs.length bs.length) (bv bs) := by
  subst hg; exact lit_rd bs hm
end Go.Proofs.YtmgalfdiiegjjaaGreatDoor
