/- Several texts in one. -/
import Derived.Test.YtmgalfdiiegjjaaGreatDoorSeg07
import Derived.Test.YtmgalfdiiegjjaaGreatDoorSeg09
import Derived.Test.YtmgalfdiiegjjaaGreatDoorSeg06
namespace Go.Proofs.YtmgalfdiiegjjaaGreatDoor
namespace SH
open LX (B Pc Lz)
open DC (Nd bl)

/-- What a text is written as, and that it is read as it was. -/
structure Leaf (w x : B) (q : Bool) : Prop where
  fst : ∃ c t, w = c :: t ∧ c ≠ 32
  lst : ∀ c, w[w.length - 1]? = some c → c ≠ 32
  bad : LN.bad w = false
  go : LN.go (.out true) w = some w.length
  txt : LX.txt w = (0, x, q)
  dash : LX.dash w = false
  key : LX.key w = 0
/-- A key that may be. -/
structure Key (k : B) : Prop where
  ne : k ≠ []
  len : k.length ≤ 64
  sg : ∀ c ∈ k, LX.sgn c = true
theorem sgn_not {c : UInt8} (h : LX.sgn c = true) : c ≠ 32 ∧ c ≠ 35 ∧ c ≠ 39 ∧ c ≠ 34 ∧ c ≠ 10 ∧ c ≠ 58 ∧ (decide (c.toNat < 32) || decide (c.toNat = 127)) = false := by
  refine ⟨?_, ?_, ?_, ?_, ?_, ?_, ?_⟩
  · rintro rfl; exact absurd h (by decide)
  · rintro rfl; exact absurd h (by decide)
  · rintro rfl; exact absurd h (by decide)
  · rintro rfl; exact absurd h (by decide)
  · rintro rfl; exact absurd h (by decide)
  · rintro rfl; exact absurd h (by decide)
  · unfold LX.sgn at h
    simp only [Bool.or_eq_true, decide_eq_true_eq] at h
    rw [Bool.or_eq_false_iff]
    exact ⟨decide_eq_false (by omega), decide_eq_false (by omega)⟩
def dashes : Nat → B
  | 0 => []
  | m + 1 => 45 :: 32 :: dashes m
theorem dashes_len : ∀ m, (dashes m).length = 2 * m
  | 0 => rfl
  | m + 1 => by rw [dashes, List.length_cons, List.length_cons, dashes_len m]; omega
/-- What stands in a row behind its dashes. -/
inductive Rt where
  | leaf (w x : B) (q : Bool)
  | kleaf (k w x : B) (q : Bool)
  | key (k : B)
def Rt.b : Rt → B
  | .leaf w _ _ => w
  | .kleaf k w _ _ => k ++ 58 :: 32 :: w
  | .key k => k ++ [58]
def Rt.ok : Rt → Prop
  | .leaf w x q => Leaf w x q
  | .kleaf k w x q => Key k ∧ Leaf w x q
  | .key k => Key k
structure Rw where
  ind : Nat
  m : Nat
  t : Rt
def Rw.c (r : Rw) : B := dashes r.m ++ r.t.b
def Rw.bs (r : Rw) : B := bl r.ind ++ r.c
def dashP (no I : Int) : Nat → List Pc
  | 0 => []
  | m + 1 => (1, no, I, [], false) :: dashP no (I + 2) m
def Rt.ps (no c : Int) : Rt → List Pc
  | .leaf _ x q => [(3, no, c, x, q)]
  | .kleaf k _ x q => [(2, no, c, k, false), (3, no, c + k.length + 2, x, q)]
  | .key k => [(2, no, c, k, false)]
def Rw.ps (no : Int) (r : Rw) : List Pc := dashP no r.ind r.m ++ r.t.ps no (r.ind + 2 * r.m)
theorem dashP_succ (no : Int) : ∀ (m : Nat) (I : Int), dashP no I (m + 1) = dashP no I m ++ [(1, no, I + 2 * m, [], false)]
  | 0, I => by simp [dashP]
  | m + 1, I => by
    have e : I + 2 + 2 * (m : Int) = I + 2 * ((m + 1 : Nat) : Int) := by push_cast; omega
    show (1, no, I, [], false) :: dashP no (I + 2) (m + 1) = ((1, no, I, [], false) :: dashP no (I + 2) m) ++ _
    rw [dashP_succ no m (I + 2), e]
    rfl
theorem go_dashes : ∀ (m : Nat) (l : B), LN.go (.out true) (dashes m ++ l) = (LN.go (.out true) l).map (· + 2 * m)
  | 0, l => by simp [dashes]
  | m + 1, l => by
    have e : dashes (m + 1) ++ l = 45 :: 32 :: (dashes m ++ l) := rfl
    rw [e, LN.go, if_neg (by decide), if_neg (by decide), if_neg (by decide), LN.go, if_neg (by decide), if_neg (by decide), if_neg (by decide)]
    rw [show ((32 : UInt8) == 32) = true from rfl, go_dashes m l, LN.map_add, LN.map_add, show 1 + 1 + 2 * m = 2 * (m + 1) by omega]
theorem go_sg : ∀ (k l : B) (f : Bool), (∀ c ∈ k, LX.sgn c = true) → k ≠ [] → LN.go (.out f) (k ++ l) = (LN.go (.out false) l).map (· + k.length)
  | [], _, _, _, h => absurd rfl h
  | c :: k, l, f, hs, _ => by
    obtain ⟨n1, n2, n3, n4, _⟩ := sgn_not (hs c (by simp))
    rw [List.cons_append, LN.go, if_neg (fun h => n2 h.2), if_neg (fun h => n3 h.2), if_neg (fun h => n4 h.2)]
    rw [show (c == 32) = false by simpa using n1]
    by_cases hk : k = []
    · subst hk
      simp
    · rw [go_sg k l false (fun c hc => hs c (by simp [hc])) hk, LN.map_add, List.length_cons, Nat.add_comm 1]
theorem Rt.go {t : Rt} (h : t.ok) : LN.go (.out true) t.b = some t.b.length := by
  cases t with
  | leaf w x q => exact h.go
  | kleaf k w x q =>
    obtain ⟨hk, hw⟩ := h
    show LN.go _ (k ++ 58 :: 32 :: w) = some (k ++ 58 :: 32 :: w).length
    rw [go_sg k _ true hk.sg hk.ne, LN.go, if_neg (by decide), if_neg (by decide), if_neg (by decide), show ((58 : UInt8) == 32) = false from rfl, LN.go, if_neg (by decide), if_neg (by decide), if_neg (by decide), show ((32 : UInt8) == 32) = true from rfl, hw.go]
    simp; omega
  | key k =>
    show LN.go _ (k ++ [58]) = some (k ++ [58]).length
    rw [go_sg k _ true h.sg h.ne, LN.go, if_neg (by decide), if_neg (by decide), if_neg (by decide), show ((58 : UInt8) == 32) = false from rfl, LN.go]
    simp; omega
theorem Rt.fst {t : Rt} (h : t.ok) : ∃ c s, t.b = c :: s ∧ c ≠ 32 := by
  cases t with
  | leaf w x q => exact h.fst
  | kleaf k w x q =>
    obtain ⟨hk, hw⟩ := h
    cases k with
    | nil => exact absurd rfl hk.ne
    | cons c k => exact ⟨c, _, rfl, (sgn_not (hk.sg c (by simp))).1⟩
  | key k =>
    cases k with
    | nil => exact absurd rfl h.ne
    | cons c k => exact ⟨c, _, rfl, (sgn_not (h.sg c (by simp))).1⟩
theorem last_app {a b : B} (hb : b ≠ []) : (a ++ b)[(a ++ b).length - 1]? = b[b.length - 1]? := by
  have : 0 < b.length := List.length_pos_iff.2 hb
  rw [List.length_append, List.getElem?_append_right (by omega)]
  congr 1
  omega
theorem Rt.lst {t : Rt} (h : t.ok) : ∀ c, t.b[t.b.length - 1]? = some c → c ≠ 32 := by
  cases t with
  | leaf w x q => exact h.lst
  | kleaf k w x q =>
    obtain ⟨hk, hw⟩ := h
    intro c hc
    obtain ⟨d, s, e, _⟩ := hw.fst
    have e2 : (Rt.kleaf k w x q).b = (k ++ [58, 32]) ++ w := by simp [Rt.b]
    rw [e2, last_app (by rw [e]; simp)] at hc
    exact hw.lst c hc
  | key k =>
    intro c hc
    have e2 : (Rt.key k).b = k ++ [58] := rfl
    rw [e2, last_app (by simp)] at hc
    have : c = 58 := by simpa using hc.symm
    rw [this]; decide
theorem bad_app (a b : B) : LN.bad (a ++ b) = (LN.bad a || LN.bad b) := by simp [LN.bad]
theorem bad_sg {k : B} (h : ∀ c ∈ k, LX.sgn c = true) : LN.bad k = false := by
  unfold LN.bad
  rw [List.any_eq_false]
  intro c hc
  rw [(sgn_not (h c hc)).2.2.2.2.2.2]
  simp
theorem bad_dashes : ∀ m, LN.bad (dashes m) = false
  | 0 => rfl
  | m + 1 => by
    have e : dashes (m + 1) = [45, 32] ++ dashes m := rfl
    rw [e, bad_app, bad_dashes m]; rfl
theorem Rt.bad {t : Rt} (h : t.ok) : LN.bad t.b = false := by
  cases t with
  | leaf w x q => exact h.bad
  | kleaf k w x q =>
    obtain ⟨hk, hw⟩ := h
    have e2 : (Rt.kleaf k w x q).b = (k ++ [58, 32]) ++ w := by simp [Rt.b]
    rw [e2, bad_app, bad_app, bad_sg hk.sg, hw.bad]; rfl
  | key k =>
    have e2 : (Rt.key k).b = k ++ [58] := rfl
    rw [e2, bad_app, bad_sg h.sg]; rfl
theorem bad_bl : ∀ n, LN.bad (bl n) = false
  | 0 => rfl
  | n + 1 => by
    have e : bl (n + 1) = [32] ++ bl n := rfl
    rw [e, bad_app, bad_bl n]; rfl
theorem tl_self {c : UInt8} {s : B} (h : c ≠ 32) : LN.tl (c :: s) = c :: s := by
  unfold LN.tl Lib.trimLeftB
  rw [List.dropWhile_cons_of_neg]
  simpa using h
theorem Rw.fst {r : Rw} (h : r.t.ok) : ∃ c s, r.c = c :: s ∧ c ≠ 32 := by
  obtain ⟨I, m, t⟩ := r
  cases m with
  | zero => exact Rt.fst h
  | succ m => exact ⟨45, _, rfl, by decide⟩
theorem Rw.strip {r : Rw} (h : r.t.ok) : LN.strip r.c = some r.c := by
  have hg : LN.go (.out true) r.c = some r.c.length := by
    unfold Rw.c
    rw [go_dashes, Rt.go h, List.length_append, dashes_len]
    simp; omega
  unfold LN.strip LN.fin
  rw [List.drop_zero, hg]
  simp only [Option.map_some, Nat.add_zero, List.take_length, Option.some.injEq]
  apply LN.tr_ne
  intro c hc
  obtain ⟨d, s, e, _⟩ := Rt.fst h
  unfold Rw.c at hc
  rw [last_app (by rw [e]; simp)] at hc
  exact Rt.lst h c hc
theorem Rw.tl {r : Rw} (h : r.t.ok) : LN.tl r.bs = r.c := by
  unfold Rw.bs
  rw [DC.tl_bl]
  obtain ⟨c, s, e, hc⟩ := Rw.fst h
  rw [e, tl_self hc]
theorem Rw.bad {r : Rw} (h : r.t.ok) : LN.bad r.bs = false := by
  unfold Rw.bs Rw.c
  rw [bad_app, bad_app, bad_bl, bad_dashes, Rt.bad h]; rfl
theorem Rw.kind {r : Rw} (h : r.t.ok) : LN.kind r.bs = 0 := by
  unfold LN.kind
  rw [if_neg (by rw [Rw.bad h]; simp), if_neg (by rw [Rw.tl h, Rw.strip h]; simp)]
theorem Rw.said {r : Rw} (h : r.t.ok) : LN.said r.bs = r.c := by
  unfold LN.said
  rw [Rw.tl h, Rw.strip h]; rfl
theorem Rw.indE {r : Rw} (h : r.t.ok) : LN.ind r.bs = r.ind := by
  unfold LN.ind
  rw [Rw.tl h]
  unfold Rw.bs
  simp [bl]
theorem no10 {l : B} (h : LN.bad l = false) : 10 ∉ l := by
  intro hm
  unfold LN.bad at h
  rw [List.any_eq_false] at h
  exact absurd (h 10 hm) (by decide)

/-! ### The pieces of a row -/
theorem ltl_self {c : UInt8} {s : B} (h : c ≠ 32) : LX.tl (c :: s) = c :: s := tl_self h
theorem ltl_bl {s : B} : LX.tl (32 :: s) = LX.tl s := by
  unfold LX.tl Lib.trimLeftB
  rw [List.dropWhile_cons_of_pos (by rfl)]
theorem lgo_dashes (no col : Int) : ∀ (m n : Nat) (acc : List Pc) (l : B), (∃ c s, l = c :: s ∧ c ≠ 32) → LX.go no col (n + m) acc (dashes m ++ l) = LX.go no col n (acc ++ dashP no (col - (dashes m ++ l).length) m) l
  | 0, n, acc, l, _ => by simp [dashes, dashP]
  | m + 1, n, acc, l, h => by
    have e : dashes (m + 1) ++ l = 45 :: 32 :: (dashes m ++ l) := rfl
    have hf : ∃ c s, dashes m ++ l = c :: s ∧ c ≠ 32 := by
      cases m with
      | zero => exact h
      | succ m => exact ⟨45, _, rfl, by decide⟩
    obtain ⟨c, s, hc, hc2⟩ := hf
    rw [e, ← Nat.add_assoc, LX.go_dash (by rfl)]
    rw [List.drop_succ_cons, List.drop_zero, ltl_bl, hc, ltl_self hc2, ← hc]
    rw [lgo_dashes no col m n _ l h, dashP, List.append_assoc]
    simp only [List.length_cons, List.singleton_append]
    congr 3
    push_cast
    congr 1
    omega
theorem run_sg : ∀ {k l : B}, (∀ c ∈ k, LX.sgn c = true) → (∀ c s, l = c :: s → LX.sgn c = false) → LX.run (k ++ l) = k.length
  | [], l, _, h => by
    cases l with
    | nil => rfl
    | cons c s => rw [List.nil_append, LX.run, LX.runp, h c s rfl]; rfl
  | c :: k, l, hs, h => by
    rw [List.cons_append, LX.run, LX.runp, if_pos (hs c (by simp))]
    have := run_sg (k := k) (l := l) (fun c hc => hs c (by simp [hc])) h
    rw [LX.run] at this
    rw [this]; rfl
theorem key_of {k l : B} (hk : Key k) (h : LX.kend (58 :: l) = true) : LX.key (k ++ 58 :: l) = k.length := by
  have hr : LX.run (k ++ 58 :: l) = k.length := run_sg hk.sg (fun c s e => by obtain ⟨rfl, -⟩ := List.cons.inj e; rfl)
  unfold LX.key
  rw [hr, List.drop_left, if_pos h]
theorem dash_key {k l : B} (hk : Key k) : LX.dash (k ++ 58 :: l) = false := by
  cases k with
  | nil => exact absurd rfl hk.ne
  | cons c k =>
    cases k with
    | nil =>
      show (c == 45 && (58 : UInt8) == 32) = false
      simp
    | cons d k =>
      show (c == 45 && d == 32) = false
      have := (sgn_not (hk.sg d (by simp))).1
      simp [this]
theorem Rt.lgo {t : Rt} (h : t.ok) (no col : Int) (n : Nat) (acc : List Pc) : LX.go no col n acc t.b = (0, acc ++ t.ps no (col - t.b.length)) := by
  cases t with
  | leaf w x q =>
    show LX.go no col n acc w = _
    rw [LX.go_mid h.dash, LX.mid, if_pos h.key, LX.fin, if_neg, h.txt]
    · simp [Rt.ps, Rt.b]
    · obtain ⟨c, s, e, _⟩ := h.fst
      rw [e]; simp
  | kleaf k w x q =>
    obtain ⟨hk, hw⟩ := h
    obtain ⟨c, s, e, hc⟩ := hw.fst
    have hl := List.length_pos_iff.2 hk.ne
    show LX.go no col n acc (k ++ 58 :: 32 :: w) = _
    rw [LX.go_mid (dash_key hk), LX.mid, key_of hk (by rfl), if_neg (by omega), if_neg (by have := hk.len; omega)]
    have e2 : (k ++ 58 :: 32 :: w).drop (k.length + 1) = 32 :: w := by
      rw [show k ++ 58 :: 32 :: w = (k ++ [58]) ++ 32 :: w by simp, List.drop_left' (by simp)]
    rw [e2, ltl_bl, e, ltl_self hc, ← e, List.take_left, LX.fin, if_neg (by rw [e]; simp), hw.txt]
    have e3 : col - (w.length : Int) = col - ((k ++ 58 :: 32 :: w).length : Int) + k.length + 2 := by
      simp only [List.length_append, List.length_cons]
      push_cast
      omega
    rw [e3]
    simp [Rt.ps, Rt.b]
  | key k =>
    have hl := List.length_pos_iff.2 h.ne
    show LX.go no col n acc (k ++ [58]) = _
    rw [LX.go_mid (dash_key h), LX.mid, key_of h (by rfl), if_neg (by omega), if_neg (by have := h.len; omega)]
    have e2 : (k ++ [58]).drop (k.length + 1) = [] := by
      rw [List.drop_eq_nil_of_le]; simp
    rw [e2, List.take_left]
    show LX.fin no col _ [] = _
    rw [LX.fin, if_pos rfl]
    rfl
theorem Rw.row {r : Rw} (h : r.t.ok) (no : Int) (hI : r.ind ≤ 16384) : LX.row (no, r.ind, r.c) = (0, r.ps no) := by
  obtain ⟨c, s, e, hc⟩ := Rw.fst h
  have ht : LX.tl r.c = r.c := by rw [e, ltl_self hc]
  unfold LX.row
  simp only
  rw [if_neg (by omega), ht]
  unfold Rw.c
  have hl : (dashes r.m ++ r.t.b).length = (2 * r.m + r.t.b.length - r.m) + r.m := by
    rw [List.length_append, dashes_len]; omega
  obtain ⟨n, hn⟩ : ∃ n, (dashes r.m ++ r.t.b).length = n + r.m := ⟨_, hl⟩
  rw [hn, lgo_dashes _ _ _ _ _ _ (Rt.fst h), Rt.lgo h]
  unfold Rw.ps
  rw [List.nil_append, List.length_append, dashes_len] at *
  congr 2
  · congr 1
    omega
  · congr 1
    push_cast
    omega
end SH
end Go.Proofs.YtmgalfdiiegjjaaGreatDoor

/- A tree of a document, written out, is parsed as its nodes. No program is named here. -/
namespace Go.Proofs.YtmgalfdiiegjjaaGreatDoor
namespace SH
open LX (B Pc Lz)
open DC (Nd bl)

def wr (t : B) (q : Bool) : B := if q then LX.quo t else t
mutual
/-- The rows of a tree, whose first row stands I in and has m dashes ahead. -/
def rowsT : Tr → Nat → Nat → List Rw
  | .text t q, I, m => [⟨I, m, .leaf (wr t q) t q⟩]
  | .list k, I, m => rowsL k I m (I + 2 * m)
  | .map k, I, m => rowsM k I m (I + 2 * m)
def rowsL : Fo → Nat → Nat → Nat → List Rw
  | .nil, _, _, _ => []
  | .cons _ t r, I, m, c => rowsT t I (m + 1) ++ rowsL r c 0 c
def rowsM : Fo → Nat → Nat → Nat → List Rw
  | .nil, _, _, _ => []
  | .cons key (.text s q) r, I, m, c => ⟨I, m, .kleaf key (wr s q) s q⟩ :: rowsM r c 0 c
  | .cons key (.list k) r, I, m, c => ⟨I, m, .key key⟩ :: (rowsL k (c + 2) 0 (c + 2) ++ rowsM r c 0 c)
  | .cons key (.map k) r, I, m, c => ⟨I, m, .key key⟩ :: (rowsM k (c + 2) 0 (c + 2) ++ rowsM r c 0 c)
end
mutual
/-- A tree as it is written, at a column, without what stands ahead of its first line. -/
def showT : Tr → Nat → B
  | .text t q, _ => wr t q ++ [10]
  | .list k, c => showL k c true
  | .map k, c => showM k c true
def showL : Fo → Nat → Bool → B
  | .nil, _, _ => []
  | .cons _ t r, c, f => (if f then [] else bl c) ++ (45 :: 32 :: showT t (c + 2)) ++ showL r c false
def showM : Fo → Nat → Bool → B
  | .nil, _, _ => []
  | .cons key (.text s q) r, c, f => (if f then [] else bl c) ++ (key ++ 58 :: 32 :: (wr s q ++ [10])) ++ showM r c false
  | .cons key (.list k) r, c, f => (if f then [] else bl c) ++ (key ++ 58 :: 10 :: (bl (c + 2) ++ showL k (c + 2) true)) ++ showM r c false
  | .cons key (.map k) r, c, f => (if f then [] else bl c) ++ (key ++ 58 :: 10 :: (bl (c + 2) ++ showM k (c + 2) true)) ++ showM r c false
end
def cat (rs : List Rw) : B := rs.flatMap fun r => r.bs ++ [10]
theorem cat_app (a b : List Rw) : cat (a ++ b) = cat a ++ cat b := by simp [cat]
theorem cat_cons (r : Rw) (rs : List Rw) : cat (r :: rs) = r.bs ++ [10] ++ cat rs := rfl
theorem dashes_succ : ∀ m, dashes (m + 1) = dashes m ++ [45, 32]
  | 0 => rfl
  | m + 1 => by
    show 45 :: 32 :: dashes (m + 1) = (45 :: 32 :: dashes m) ++ [45, 32]
    rw [dashes_succ m]; rfl
mutual
/-- Lists and maps have kids, lists no keys. -/
def fulT : Tr → Prop
  | .text _ _ => True
  | .list k => k ≠ .nil ∧ fulF k
  | .map k => k ≠ .nil ∧ fulF k
def fulF : Fo → Prop
  | .nil => True
  | .cons _ t r => fulT t ∧ fulF r
end
mutual
theorem okT_ful : ∀ t : Tr, okT t → fulT t
  | .text _ _, _ => by rw [fulT]; trivial
  | .list k, h => by rw [okT] at h; rw [fulT]; exact ⟨h.1, okF_ful k h.2.2⟩
  | .map k, h => by rw [okT] at h; rw [fulT]; exact ⟨h.1, okF_ful k h.2.2⟩
theorem okF_ful : ∀ k : Fo, okF k → fulF k
  | .nil, _ => by rw [fulF]; trivial
  | .cons _ t r, h => by rw [okF] at h; rw [fulF]; exact ⟨okT_ful t h.1, okF_ful r h.2⟩
end
mutual
theorem cat_T : ∀ (t : Tr) (I m : Nat), fulT t → bl I ++ dashes m ++ showT t (I + 2 * m) = cat (rowsT t I m)
  | .text t q, I, m, _ => by
    rw [showT, rowsT, cat_cons]
    simp [Rw.bs, Rw.c, Rt.b, cat]
  | .list k, I, m, h => by
    rw [fulT] at h
    rw [showT, rowsT]
    exact cat_L k I m h.1 h.2
  | .map k, I, m, h => by
    rw [fulT] at h
    rw [showT, rowsT]
    exact cat_M k I m h.1 h.2
theorem cat_L : ∀ (k : Fo) (I m : Nat), k ≠ .nil → fulF k → bl I ++ dashes m ++ showL k (I + 2 * m) true = cat (rowsL k I m (I + 2 * m))
  | .nil, _, _, h, _ => absurd rfl h
  | .cons _ t r, I, m, _, h => by
    rw [fulF] at h
    have h1 := cat_T t I (m + 1) h.1
    have h2 := cat_Lf r (I + 2 * m) h.2
    rw [showL, rowsL, cat_app, ← h1, ← h2, dashes_succ, show I + 2 * (m + 1) = I + 2 * m + 2 by omega]
    simp
theorem cat_Lf : ∀ (k : Fo) (c : Nat), fulF k → showL k c false = cat (rowsL k c 0 c)
  | .nil, _, _ => by rw [showL, rowsL]; rfl
  | .cons _ t r, c, h => by
    rw [fulF] at h
    have h1 := cat_T t c 1 h.1
    have h2 := cat_Lf r c h.2
    rw [showL, rowsL, cat_app, ← h2]
    rw [show 0 + 1 = 1 from rfl, ← h1]
    simp [dashes]
theorem cat_M : ∀ (k : Fo) (I m : Nat), k ≠ .nil → fulF k → bl I ++ dashes m ++ showM k (I + 2 * m) true = cat (rowsM k I m (I + 2 * m))
  | .nil, _, _, h, _ => absurd rfl h
  | .cons key (.text s q) r, I, m, _, h => by
    rw [fulF] at h
    have h2 := cat_Mf r (I + 2 * m) h.2
    rw [showM, rowsM, cat_cons, ← h2]
    simp [Rw.bs, Rw.c, Rt.b]
  | .cons key (.list k) r, I, m, _, h => by
    rw [fulF, fulT] at h
    have h1 := cat_L k (I + 2 * m + 2) 0 h.1.1 h.1.2
    have h2 := cat_Mf r (I + 2 * m) h.2
    rw [Nat.mul_zero, Nat.add_zero] at h1
    rw [showM, rowsM, cat_cons, cat_app, ← h2, ← h1]
    simp [Rw.bs, Rw.c, Rt.b, dashes]
  | .cons key (.map k) r, I, m, _, h => by
    rw [fulF, fulT] at h
    have h1 := cat_M k (I + 2 * m + 2) 0 h.1.1 h.1.2
    have h2 := cat_Mf r (I + 2 * m) h.2
    rw [Nat.mul_zero, Nat.add_zero] at h1
    rw [showM, rowsM, cat_cons, cat_app, ← h2, ← h1]
    simp [Rw.bs, Rw.c, Rt.b, dashes]
theorem cat_Mf : ∀ (k : Fo) (c : Nat), fulF k → showM k c false = cat (rowsM k c 0 c)
  | .nil, _, _ => by rw [showM, rowsM]; rfl
  | .cons key (.text s q) r, c, h => by
    rw [fulF] at h
    have h2 := cat_Mf r c h.2
    rw [showM, rowsM, cat_cons, ← h2]
    simp [Rw.bs, Rw.c, Rt.b, dashes]
  | .cons key (.list k) r, c, h => by
    rw [fulF, fulT] at h
    have h1 := cat_L k (c + 2) 0 h.1.1 h.1.2
    have h2 := cat_Mf r c h.2
    rw [Nat.mul_zero, Nat.add_zero] at h1
    rw [showM, rowsM, cat_cons, cat_app, ← h2, ← h1]
    simp [Rw.bs, Rw.c, Rt.b, dashes]
  | .cons key (.map k) r, c, h => by
    rw [fulF, fulT] at h
    have h1 := cat_M k (c + 2) 0 h.1.1 h.1.2
    have h2 := cat_Mf r c h.2
    rw [Nat.mul_zero, Nat.add_zero] at h1
    rw [showM, rowsM, cat_cons, cat_app, ← h2, ← h1]
    simp [Rw.bs, Rw.c, Rt.b, dashes]
end

/-! ### Its pieces -/
def psR : Int → List Rw → List Pc
  | _, [] => []
  | n, r :: rs => r.ps n ++ psR (n + 1) rs
theorem psR_app : ∀ (n : Int) (a b : List Rw), psR n (a ++ b) = psR n a ++ psR (n + a.length) b
  | n, [], b => by simp [psR]
  | n, r :: a, b => by
    rw [List.cons_append, psR, psR, psR_app (n + 1) a b, List.append_assoc]
    congr 3
    rw [List.length_cons]
    push_cast
    omega
mutual
theorem ps_T : ∀ (t : Tr) (I m : Nat) (n : Int), okT t → ∃ L, psR n (rowsT t I m) = dashP n I m ++ L ∧ ShT t ((I : Int) + 2 * m) L
  | .text t q, I, m, n, _ => by
    refine ⟨[(3, n, (I : Int) + 2 * m, t, q)], ?_, ?_⟩
    · rw [rowsT, psR, psR]; simp [Rw.ps, Rt.ps]
    · rw [ShT]; exact ⟨n, rfl⟩
  | .list k, I, m, n, h => by
    rw [okT] at h
    obtain ⟨L, h1, h2⟩ := ps_L k I m n h.1 h.2.1 h.2.2
    exact ⟨L, by rw [rowsT]; exact h1, by rw [ShT]; exact h2⟩
  | .map k, I, m, n, h => by
    rw [okT] at h
    obtain ⟨L, h1, h2⟩ := ps_M k I m n h.1 h.2.2
    exact ⟨L, by rw [rowsT]; exact h1, by rw [ShT]; exact h2⟩
theorem ps_L : ∀ (k : Fo) (I m : Nat) (n : Int), k ≠ .nil → (∀ x ∈ keysF k, x = []) → okF k → ∃ L, psR n (rowsL k I m (I + 2 * m)) = dashP n I m ++ L ∧ ShF k 1 ((I : Int) + 2 * m) L
  | .nil, _, _, _, h, _, _ => absurd rfl h
  | .cons key t r, I, m, n, _, hk, h => by
    rw [okF] at h
    obtain ⟨L1, h1, h2⟩ := ps_T t I (m + 1) n h.1
    obtain ⟨L2, h3, h4⟩ := ps_Lf r (I + 2 * m) (n + (rowsT t I (m + 1)).length) (fun x hx => hk x (by rw [keysF]; exact List.mem_cons_of_mem _ hx)) h.2
    have hkey : key = [] := hk key (by rw [keysF]; simp)
    refine ⟨(1, n, (I : Int) + 2 * m, key, false) :: (L1 ++ L2), ?_, ?_⟩
    · rw [rowsL, psR_app, h1, h3, dashP_succ, hkey]; simp
    · rw [ShF]
      refine ⟨n, (I : Int) + 2 * ((m + 1 : Nat) : Int), L1, L2, by push_cast; omega, rfl, h2, ?_⟩
      have e : ((I + 2 * m : Nat) : Int) = (I : Int) + 2 * m := by push_cast; rfl
      rw [← e]; exact h4
theorem ps_Lf : ∀ (k : Fo) (c : Nat) (n : Int), (∀ x ∈ keysF k, x = []) → okF k → ∃ L, psR n (rowsL k c 0 c) = L ∧ ShF k 1 (c : Int) L
  | .nil, c, n, _, _ => ⟨[], by rw [rowsL]; rfl, by rw [ShF]⟩
  | .cons key t r, c, n, hk, h => by
    rw [okF] at h
    obtain ⟨L1, h1, h2⟩ := ps_T t c 1 n h.1
    obtain ⟨L2, h3, h4⟩ := ps_Lf r c (n + (rowsT t c 1).length) (fun x hx => hk x (by rw [keysF]; exact List.mem_cons_of_mem _ hx)) h.2
    have hkey : key = [] := hk key (by rw [keysF]; simp)
    refine ⟨(1, n, (c : Int), key, false) :: (L1 ++ L2), ?_, ?_⟩
    · rw [rowsL, psR_app, show 0 + 1 = 1 from rfl, h1, h3, hkey]; simp [dashP]
    · rw [ShF]
      exact ⟨n, (c : Int) + 2 * ((1 : Nat) : Int), L1, L2, by push_cast; omega, rfl, h2, h4⟩
theorem ps_M : ∀ (k : Fo) (I m : Nat) (n : Int), k ≠ .nil → okF k → ∃ L, psR n (rowsM k I m (I + 2 * m)) = dashP n I m ++ L ∧ ShF k 2 ((I : Int) + 2 * m) L
  | .nil, _, _, _, h, _ => absurd rfl h
  | .cons key (.text s q) r, I, m, n, _, h => by
    rw [okF] at h
    obtain ⟨L2, h3, h4⟩ := ps_Mf r (I + 2 * m) (n + 1) h.2
    have e : ((I + 2 * m : Nat) : Int) = (I : Int) + 2 * m := by push_cast; rfl
    refine ⟨(2, n, (I : Int) + 2 * m, key, false) :: ([(3, n, (I : Int) + 2 * m + key.length + 2, s, q)] ++ L2), ?_, ?_⟩
    · rw [rowsM, psR, h3]; simp [Rw.ps, Rt.ps]
    · rw [ShF]
      refine ⟨n, (I : Int) + 2 * m + key.length + 2, _, L2, by omega, rfl, ?_, ?_⟩
      · rw [ShT]; exact ⟨n, rfl⟩
      · rw [← e]; exact h4
  | .cons key (.list k) r, I, m, n, _, h => by
    rw [okF, okT] at h
    obtain ⟨L1, h1, h2⟩ := ps_L k (I + 2 * m + 2) 0 (n + 1) h.1.1 h.1.2.1 h.1.2.2
    obtain ⟨L2, h3, h4⟩ := ps_Mf r (I + 2 * m) (n + 1 + (rowsL k (I + 2 * m + 2) 0 (I + 2 * m + 2)).length) h.2
    have e : ((I + 2 * m : Nat) : Int) = (I : Int) + 2 * m := by push_cast; rfl
    rw [Nat.mul_zero, Nat.add_zero] at h1
    refine ⟨(2, n, (I : Int) + 2 * m, key, false) :: (L1 ++ L2), ?_, ?_⟩
    · rw [rowsM, psR, psR_app, h1, h3]; simp [Rw.ps, Rt.ps, dashP]
    · rw [ShF]
      refine ⟨n, ((I + 2 * m + 2 : Nat) : Int) + 2 * ((0 : Nat) : Int), L1, L2, by push_cast; omega, rfl, ?_, ?_⟩
      · rw [ShT]; exact h2
      · rw [← e]; exact h4
  | .cons key (.map k) r, I, m, n, _, h => by
    rw [okF, okT] at h
    obtain ⟨L1, h1, h2⟩ := ps_M k (I + 2 * m + 2) 0 (n + 1) h.1.1 h.1.2.2
    obtain ⟨L2, h3, h4⟩ := ps_Mf r (I + 2 * m) (n + 1 + (rowsM k (I + 2 * m + 2) 0 (I + 2 * m + 2)).length) h.2
    have e : ((I + 2 * m : Nat) : Int) = (I : Int) + 2 * m := by push_cast; rfl
    rw [Nat.mul_zero, Nat.add_zero] at h1
    refine ⟨(2, n, (I : Int) + 2 * m, key, false) :: (L1 ++ L2), ?_, ?_⟩
    · rw [rowsM, psR, psR_app, h1, h3]; simp [Rw.ps, Rt.ps, dashP]
    · rw [ShF]
      refine ⟨n, ((I + 2 * m + 2 : Nat) : Int) + 2 * ((0 : Nat) : Int), L1, L2, by push_cast; omega, rfl, ?_, ?_⟩
      · rw [ShT]; exact h2
      · rw [← e]; exact h4
theorem ps_Mf : ∀ (k : Fo) (c : Nat) (n : Int), okF k → ∃ L, psR n (rowsM k c 0 c) = L ∧ ShF k 2 (c : Int) L
  | .nil, c, n, _ => ⟨[], by rw [rowsM]; rfl, by rw [ShF]⟩
  | .cons key t r, c, n, h => by
    obtain ⟨L, h1, h2⟩ := ps_M (.cons key t r) c 0 n (by simp) h
    rw [Nat.mul_zero, Nat.add_zero] at h1
    refine ⟨L, by rw [h1]; rfl, ?_⟩
    have e : (c : Int) + 2 * ((0 : Nat) : Int) = c := by simp
    rw [e] at h2
    exact h2
end
end SH
end Go.Proofs.YtmgalfdiiegjjaaGreatDoor

/- A tree of a document, written out, is parsed as its nodes. No program is named here. -/
namespace Go.Proofs.YtmgalfdiiegjjaaGreatDoor
namespace SH
open LX (B Pc Lz)
open DC (Nd bl)

mutual
/-- Its texts and keys may be. -/
def godT : Tr → Prop
  | .text t q => Leaf (wr t q) t q
  | .list k => godF k
  | .map k => (∀ x ∈ keysF k, Key x) ∧ godF k
def godF : Fo → Prop
  | .nil => True
  | .cons _ t r => godT t ∧ godF r
end
mutual
theorem rows_T : ∀ (t : Tr) (I m : Nat), godT t → ∀ r ∈ rowsT t I m, r.t.ok
  | .text t q, I, m, h => by
    rw [godT] at h
    intro r hr
    rw [rowsT, List.mem_singleton] at hr
    subst hr
    exact h
  | .list k, I, m, h => by
    rw [godT] at h
    rw [rowsT]
    exact rows_L k I m _ h
  | .map k, I, m, h => by
    rw [godT] at h
    rw [rowsT]
    exact rows_M k I m _ h.1 h.2
theorem rows_L : ∀ (k : Fo) (I m c : Nat), godF k → ∀ r ∈ rowsL k I m c, r.t.ok
  | .nil, _, _, _, _ => by rw [rowsL]; simp
  | .cons _ t r, I, m, c, h => by
    rw [godF] at h
    intro x hx
    rw [rowsL, List.mem_append] at hx
    exact hx.elim (rows_T t I (m + 1) h.1 x) (rows_L r c 0 c h.2 x)
theorem rows_M : ∀ (k : Fo) (I m c : Nat), (∀ x ∈ keysF k, Key x) → godF k → ∀ r ∈ rowsM k I m c, r.t.ok
  | .nil, _, _, _, _, _ => by rw [rowsM]; simp
  | .cons key (.text s q) r, I, m, c, hk, h => by
    rw [godF, godT] at h
    intro x hx
    rw [rowsM, List.mem_cons] at hx
    rcases hx with rfl | hx
    · exact ⟨hk key (by rw [keysF]; simp), h.1⟩
    · exact rows_M r c 0 c (fun x hx => hk x (by rw [keysF]; exact List.mem_cons_of_mem _ hx)) h.2 x hx
  | .cons key (.list k) r, I, m, c, hk, h => by
    rw [godF, godT] at h
    intro x hx
    rw [rowsM, List.mem_cons, List.mem_append] at hx
    rcases hx with rfl | hx | hx
    · exact hk key (by rw [keysF]; simp)
    · exact rows_L k _ 0 _ h.1 x hx
    · exact rows_M r c 0 c (fun x hx => hk x (by rw [keysF]; exact List.mem_cons_of_mem _ hx)) h.2 x hx
  | .cons key (.map k) r, I, m, c, hk, h => by
    rw [godF, godT] at h
    intro x hx
    rw [rowsM, List.mem_cons, List.mem_append] at hx
    rcases hx with rfl | hx | hx
    · exact hk key (by rw [keysF]; simp)
    · exact rows_M k _ 0 _ h.1.1 h.1.2 x hx
    · exact rows_M r c 0 c (fun x hx => hk x (by rw [keysF]; exact List.mem_cons_of_mem _ hx)) h.2 x hx
end
/-- The rows of many rows, each with its end. -/
theorem rows_cat : ∀ rs : List Rw, (∀ r ∈ rs, r.t.ok) → LN.rows (cat rs) = rs.map Rw.bs ++ [[]]
  | [], _ => rfl
  | r :: rs, h => by
    have h1 : 10 ∉ r.bs := no10 (Rw.bad (h r (by simp)))
    rw [cat_cons, List.append_assoc, List.singleton_append, LN.rows_app, LN.rows_one h1, rows_cat rs (fun x hx => h x (by simp [hx]))]
    rfl
theorem flt_cat : ∀ (n : Nat) (rs : List Rw), (∀ r ∈ rs, r.t.ok) → LN.flt n (rs.map Rw.bs ++ [[]]) = (0, 0)
  | n, [], _ => rfl
  | n, r :: rs, h => by
    rw [List.map_cons, List.cons_append, LN.flt, if_pos (Rw.kind (h r (by simp)))]
    exact flt_cat (n + 1) rs fun x hx => h x (by simp [hx])
def lz : Int → List Rw → List Lz
  | _, [] => []
  | n, r :: rs => (n, r.ind, r.c) :: lz (n + 1) rs
theorem lns_cat : ∀ (n : Nat) (rs : List Rw), (∀ r ∈ rs, r.t.ok) → (LN.lns n (rs.map Rw.bs ++ [[]])).map DC.zl = lz n rs
  | n, [], _ => rfl
  | n, r :: rs, h => by
    have hr := h r (by simp)
    obtain ⟨c, s, e, _⟩ := Rw.fst hr
    rw [List.map_cons, List.cons_append, LN.lns, if_neg (by rw [Rw.said hr, e]; simp), List.map_cons, lns_cat (n + 1) rs (fun x hx => h x (by simp [hx])), Rw.said hr, Rw.indE hr, lz]
    rfl
theorem all_cat : ∀ (n : Int) (rs : List Rw), (∀ r ∈ rs, r.t.ok) → (∀ r ∈ rs, r.ind ≤ 16384) → LX.all (lz n rs) = ((0, psR n rs), 0)
  | n, [], _, _ => rfl
  | n, r :: rs, h, hi => by
    have ih := all_cat (n + 1) rs (fun x hx => h x (by simp [hx])) (fun x hx => hi x (by simp [hx]))
    have hr := Rw.row (h r (by simp)) n (hi r (by simp))
    rw [lz, LX.all, hr, ih]
    simp [psR]
theorem ind_cat : ∀ {rs : List Rw} {r : Rw}, r ∈ rs → r.ind ≤ (cat rs).length
  | [], _, h => by simp at h
  | x :: rs, r, h => by
    rw [cat_cons]
    simp only [List.length_append]
    rcases List.mem_cons.1 h with rfl | h
    · have : r.ind ≤ r.bs.length := by simp [Rw.bs, bl]
      omega
    · have := ind_cat h
      omega
theorem parse_cat (rs : List Rw) (h : ∀ r ∈ rs, r.t.ok) (hl : (cat rs).length ≤ 16384) : DC.parse (cat rs) = DC.doc (psR 1 rs) := by
  have h1 : LN.outF (cat rs) = (0, 0) := by
    unfold LN.outF
    rw [if_neg (by omega), rows_cat rs h, flt_cat 1 rs h]
  have h2 : (LN.outL (cat rs)).map DC.zl = lz 1 rs := by
    unfold LN.outL
    rw [if_pos h1, rows_cat rs h]
    exact lns_cat 1 rs h
  have h3 := all_cat 1 rs h (fun r hr => Nat.le_trans (ind_cat hr) hl)
  unfold DC.parse
  rw [if_neg (by rw [h1]; simp), h2, h3, if_neg (by simp)]
/-- A document's tree, written out, is parsed as its nodes, but for their lines. -/
theorem parse_tree (t : Tr) (hg : godT t) (ho : okT t) (hd : depT t 1) (hN : sizeT t ≤ 2000) (hl : (showT t 0).length ≤ 16384) : ∃ ms, DC.parse (showT t 0) = .ok ms ∧ ms.map z = flatT t 0 := by
  have hc := cat_T t 0 0 (okT_ful t ho)
  have e : bl 0 ++ dashes 0 ++ showT t (0 + 2 * 0) = showT t 0 := rfl
  rw [e] at hc
  rw [hc] at hl ⊢
  rw [parse_cat _ (rows_T t 0 0 hg) hl]
  obtain ⟨L, h1, h2⟩ := ps_T t 0 0 1 ho
  rw [h1]
  exact doc_flat t (by simpa [dashP] using h2) ho hd hN
end SH
end Go.Proofs.YtmgalfdiiegjjaaGreatDoor
