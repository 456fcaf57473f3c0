/- Trees of documents as text: rows, what each says, its pieces; the text is parsed as the tree's nodes. No program is named here. -/
import Derived.Test.YtmgalfdiiegjjaaDoorSeg13
import Derived.Test.YtmgalfdiiegjjaaDoorSeg15
import Derived.Test.YtmgalfdiiegjjaaDoorSeg11
namespace Go.Proofs.YtmgalfdiiegjjaaDoor
namespace SH
open LX (B Pc Lz)
open DC (Nd bl)

/-- What a text is written as, and that it is read as it was. -/
structure Leaf (w x : B) (q : Bool) : Prop where
  fst : ∃ c t, w = c :: t ∧ c ≠ 32
  lst : ∀ c, w[w.length - 1]? = some c → c ≠ 32
  bad : LN.bad w = false
  go : LN.go (.out true) w = some w.length
  txt : LX.txt w = (0, x, q)
  dash : LX.dash w = false
  key : LX.key w = 0
/-- A key that may be. -/
structure Key (k : B) : Prop where
  ne : k ≠ []
  len : k.length ≤ 64
  sg : ∀ c ∈ k, LX.sgn c = true
theorem sgn_not {c : UInt8} (h : LX.sgn c = true) : c ≠ 32 ∧ c ≠ 35 ∧ c ≠ 39 ∧ c ≠ 34 ∧ c ≠ 10 ∧ c ≠ 58 ∧ (decide (c.toNat < 32) || decide (c.toNat = 127)) = false := by
  refine ⟨?_, ?_, ?_, ?_, ?_, ?_, ?_⟩
  · rintro rfl; exact absurd h (by decide)
  · rintro rfl; exact absurd h (by decide)
  · rintro rfl; exact absurd h (by decide)
  · rintro rfl; exact absurd h (by decide)
  · rintro rfl; exact absurd h (by decide)
  · rintro rfl; exact absurd h (by decide)
  · unfold LX.sgn at h
    simp only [Bool.or_eq_true, decide_eq_true_eq] at h
    rw [Bool.or_eq_false_iff]
    exact ⟨decide_eq_false (by omega), decide_eq_false (by omega)⟩
def dashes : Nat → B
  | 0 => []
  | m + 1 => 45 :: 32 :: dashes m
theorem dashes_len : ∀ m, (dashes m).length = 2 * m
  | 0 => rfl
  | m + 1 => by rw [dashes, List.length_cons, List.length_cons, dashes_len m]; omega
/-- What stands in a row behind its dashes. -/
inductive Rt where
  | leaf (w x : B) (q : Bool)
  | kleaf (k w x : B) (q : Bool)
  | key (k : B)
def Rt.b : Rt → B
  | .leaf w _ _ => w
  | .kleaf k w _ _ => k ++ 58 :: 32 :: w
  | .key k => k ++ [58]
def Rt.ok : Rt → Prop
  | .leaf w x q => Leaf w x q
  | .kleaf k w x q => Key k ∧ Leaf w x q
  | .key k => Key k
structure Rw where
  ind : Nat
  m : Nat
  t : Rt
def Rw.c (r : Rw) : B := dashes r.m ++ r.t.b
def Rw.bs (r : Rw) : B := bl r.ind ++ r.c
def dashP (no I : Int) : Nat → List Pc
  | 0 => []
  | m + 1 => (1, no, I, [], false) :: dashP no (I + 2) m
def Rt.ps (no c : Int) : Rt → List Pc
  | .leaf _ x q => [(3, no, c, x, q)]
  | .kleaf k _ x q => [(2, no, c, k, false), (3, no, c + k.length + 2, x, q)]
  | .key k => [(2, no, c, k, false)]
def Rw.ps (no : Int) (r : Rw) : List Pc := dashP no r.ind r.m ++ r.t.ps no (r.ind + 2 * r.m)
theorem dashP_succ (no : Int) : ∀ (m : Nat) (I : Int), dashP no I (m + 1) = dashP no I m ++ [(1, no, I + 2 * m, [], false)]
  | 0, I => by simp [dashP]
  | m + 1, I => by
    have e : I + 2 + 2 * (m : Int) = I + 2 * ((m + 1 : Nat) : Int) := by push_cast; omega
    show (1, no, I, [], false) :: dashP no (I + 2) (m + 1) = ((1, no, I, [], false) :: dashP no (I + 2) m) ++ _
    rw [dashP_succ no m (I + 2), e]
    rfl
theorem go_dashes : ∀ (m : Nat) (l : B), LN.go (.out true) (dashes m ++ l) = (LN.go (.out true) l).map (· + 2 * m)
  | 0, l => by simp [dashes]
  | m + 1, l => by
    have e : dashes (m + 1) ++ l = 45 :: 32 :: (dashes m ++ l) := rfl
    rw [e, LN.go, if_neg (by decide), if_neg (by decide), if_neg (by decide), LN.go, if_neg (by decide), if_neg (by decide), if_neg (by decide)]
    rw [show ((32 : UInt8) == 32) = true from rfl, go_dashes m l, LN.map_add, LN.map_add, show 1 + 1 + 2 * m = 2 * (m + 1) by omega]
theorem go_sg : ∀ (k l : B) (f : Bool), (∀ c ∈ k, LX.sgn c = true) → k ≠ [] → LN.go (.out f) (k ++ l) = (LN.go (.out false) l).map (· + k.length)
  | [], _, _, _, h => absurd rfl h
  | c :: k, l, f, hs, _ => by
    obtain ⟨n1, n2, n3, n4, _⟩ := sgn_not (hs c (by simp))
    rw [List.cons_append, LN.go, if_neg (fun h => n2 h.2), if_neg (fun h => n3 h.2), if_neg (fun h => n4 h.2)]
    rw [show (c == 32) = false by simpa using n1]
    by_cases hk : k = []
    · subst hk
      simp
    · rw [go_sg k l false (fun c hc => hs c (by simp [hc])) hk, LN.map_add, List.length_cons, Nat.add_comm 1]
theorem Rt.go {t : Rt} (h : t.ok) : LN.go (.out true) t.b = some t.b.length := by
  cases t with
  | leaf w x q => exact h.go
  | kleaf k w x q =>
    obtain ⟨hk, hw⟩ := h
    show LN.go _ (k ++ 58 :: 32 :: w) = some (k ++ 58 :: 32 :: w).length
    rw [go_sg k _ true hk.sg hk.ne, LN.go, if_neg (by decide), if_neg (by decide), if_neg (by decide), show ((58 : UInt8) == 32) = false from rfl, LN.go, if_neg (by decide), if_neg (by decide), if_neg (by decide), show ((32 : UInt8) == 32) = true from rfl, hw.go]
    simp; omega
  | key k =>
    show LN.go _ (k ++ [58]) = some (k ++ [58]).length
    rw [go_sg k _ true h.sg h.ne, LN.go, if_neg (by decide), if_neg (by decide), if_neg (by decide), show ((58 : UInt8) == 32) = false from rfl, LN.go]
    simp; omega
theorem Rt.fst {t : Rt} (h : t.ok) : ∃ c s, t.b = c :: s ∧ c ≠ 32 := by
  cases t with
  | leaf w x q => exact h.fst
  | kleaf k w x q =>
    obtain ⟨hk, hw⟩ := h
    cases k with
    | nil => exact absurd rfl hk.ne
    | cons c k => exact ⟨c, _, rfl, (sgn_not (hk.sg c (by simp))).1⟩
  | key k =>
    cases k with
    | nil => exact absurd rfl h.ne
    | cons c k => exact ⟨c, _, rfl, (sgn_not (h.sg c (by simp))).1⟩
theorem last_app {a b : B} (hb : b ≠ []) : (a ++ b)[(a ++ b).length - 1]? = b[b.length - 1]? := by
  have : 0 < b.length := List.length_pos_iff.2 hb
  rw [List.length_append, List.getElem?_append_right (by omega)]
  congr 1
  omega
theorem Rt.lst {t : Rt} (h : t.ok) : ∀ c, t.b[t.b.length - 1]? = some c → c ≠ 32 := by
  cases t with
  | leaf w x q => exact h.lst
  | kleaf k w x q =>
    obtain ⟨hk, hw⟩ := h
    intro c hc
    obtain ⟨d, s, e, _⟩ := hw.fst
    have e2 : (Rt.kleaf k w x q).b = (k ++ [58, 32]) ++ w := by simp [Rt.b]
    rw [e2, last_app (by rw [e]; simp)] at hc
    exact hw.lst c hc
  | key k =>
    intro c hc
    have e2 : (Rt.key k).b = k ++ [58] := rfl
    rw [e2, last_app (by simp)] at hc
    have : c = 58 := by simpa using hc.symm
    rw [this]; decide
theorem bad_app (a b : B) : LN.bad (a ++ b) = (LN.bad a || LN.bad b) := by simp [LN.bad]
theorem bad_sg {k : B} (h : ∀ c ∈ k, LX.sgn c = true) : LN.bad k = false := by
  unfold LN.bad
  rw [List.any_eq_false]
  intro c hc
  rw [(sgn_not (h c hc)).2.2.2.2.2.2]
  simp
theorem bad_dashes : ∀ m, LN.bad (dashes m) = false
  | 0 => rfl
  | m + 1 => by
    have e : dashes (m + 1) = [45, 32] ++ dashes m := rfl
    rw [e, bad_app, bad_dashes m]; rfl
theorem Rt.bad {t : Rt} (h : t.ok) : LN.bad t.b = false := by
  cases t with
  | leaf w x q => exact h.bad
  | kleaf k w x q =>
    obtain ⟨hk, hw⟩ := h
    have e2 : (Rt.kleaf k w x q).b = (k ++ [58, 32]) ++ w := by simp [Rt.b]
    rw [e2, bad_app, bad_app, bad_sg hk.sg, hw.bad]; rfl
  | key k =>
    have e2 : (Rt.key k).b = k ++ [58] := rfl
    rw [e2, bad_app, bad_sg h.sg]; rfl
theorem bad_bl : ∀ n, LN.bad (bl n) = false
  | 0 => rfl
  | n + 1 => by
    have e : bl (n + 1) = [32] ++ bl n := rfl
    rw [e, bad_app, bad_bl n]; rfl
theorem tl_self {c : UInt8} {s : B} (h : c ≠ 32) : LN.tl (c :: s) = c :: s := by
  unfold LN.tl Lib.trimLeftB
  rw [List.dropWhile_cons_of_neg]
  simpa using h
theorem Rw.fst {r : Rw} (h : r.t.ok) : ∃ c s, r.c = c :: s ∧ c ≠ 32 := by
  obtain ⟨I, m, t⟩ := r
  cases m with
  | zero => exact Rt.fst h
  | succ m => exact ⟨45, _, rfl, by decide⟩
theorem Rw.strip {r : Rw} (h : r.t.ok) : LN.strip r.c = some r.c := by
  have hg : LN.go (.out true) r.c = some r.c.length := by
    unfold Rw.c
    rw [go_dashes, Rt.go h, List.length_append, dashes_len]
    simp; omega
  unfold LN.strip LN.fin
  rw [List.drop_zero, hg]
  simp only [Option.map_some, Nat.add_zero, List.take_length, Option.some.injEq]
  apply LN.tr_ne
  intro c hc
  obtain ⟨d, s, e, _⟩ := Rt.fst h
  unfold Rw.c at hc
  rw [last_app (by rw [e]; simp)] at hc
  exact Rt.lst h c hc
theorem Rw.tl {r : Rw} (h : r.t.ok) : LN.tl r.bs = r.c := by
  unfold Rw.bs
  rw [DC.tl_bl]
  obtain ⟨c, s, e, hc⟩ := Rw.fst h
  rw [e, tl_self hc]
theorem Rw.bad {r : Rw} (h : r.t.ok) : LN.bad r.bs = false := by
  unfold Rw.bs Rw.c
  rw [bad_app, bad_app, bad_bl, bad_dashes, Rt.bad h]; rfl
theorem Rw.kind {r : Rw} (h : r.t.ok) : LN.kind r.bs = 0 := by
  unfold LN.kind
  rw [if_neg (by rw [Rw.bad h]; simp), if_neg (by rw [Rw.tl h, Rw.strip h]; simp)]
theorem Rw.said {r : Rw} (h : r.t.ok) : LN.said r.bs = r.c := by
  unfold LN.said
  rw [Rw.tl h, Rw.strip h]; rfl
theorem Rw.indE {r : Rw} (h : r.t.ok) : LN.ind r.bs = r.ind := by
  unfold LN.ind
  rw [Rw.tl h]
  unfold Rw.bs
  simp [bl]
theorem no10 {l : B} (h : LN.bad l = false) : 10 ∉ l := by
  intro hm
  unfold LN.bad at h
  rw [List.any_eq_false] at h
  exact absurd (h 10 hm) (by decide)

/-! ### The pieces of a row -/
theorem ltl_self {c : UInt8} {s : B} (h : c ≠ 32) : LX.tl (c :: s) = c :: s := tl_self h
theorem ltl_bl {s : B} : LX.tl (32 :: s) = LX.tl s := by
  unfold LX.tl Lib.trimLeftB
  rw [List.dropWhile_cons_of_pos (by rfl)]
theorem lgo_dashes (no col : Int) : ∀ (m n : Nat) (acc : List Pc) (l : B), (∃ c s, l = c :: s ∧ c ≠ 32) → LX.go no col (n + m) acc (dashes m ++ l) = LX.go no col n (acc ++ dashP no (col - (dashes m ++ l).length) m) l
  | 0, n, acc, l, _ => by simp [dashes, dashP]
  | m + 1, n, acc, l, h => by
    have e : dashes (m + 1) ++ l = 45 :: 32 :: (dashes m ++ l) := rfl
    have hf : ∃ c s, dashes m ++ l = c :: s ∧ c ≠ 32 := by
      cases m with
      | zero => exact h
      | succ m => exact ⟨45, _, rfl, by decide⟩
    obtain ⟨c, s, hc, hc2⟩ := hf
    rw [e, ← Nat.add_assoc, LX.go_dash (by rfl)]
    rw [List.drop_succ_cons, List.drop_zero, ltl_bl, hc, ltl_self hc2, ← hc]
    rw [lgo_dashes no col m n _ l h, dashP, List.append_assoc]
    simp only [List.length_cons, List.singleton_append]
    congr 3
    push_cast
    congr 1
    omega
theorem run_sg : ∀ {k l : B}, (∀ c ∈ k, LX.sgn c = true) → (∀ c s, l = c :: s → LX.sgn c = false) → LX.run (k ++ l) = k.length
  | [], l, _, h => by
    cases l with
    | nil => rfl
    | cons c s => rw [List.nil_append, LX.run, LX.runp, h c s rfl]; rfl
  | c :: k, l, hs, h => by
    rw [List.cons_append, LX.run, LX.runp, if_pos (hs c (by simp))]
    have := run_sg (k := k) (l := l) (fun c hc => hs c (by simp [hc])) h
    rw [LX.run] at this
    rw [this]; rfl
theorem key_of {k l : B} (hk : Key k) (h : LX.kend (58 :: l) = true) : LX.key (k ++ 58 :: l) = k.length := by
  have hr : LX.run (k ++ 58 :: l) = k.length := run_sg hk.sg (fun c s e => by obtain ⟨rfl, -⟩ := List.cons.inj e; rfl)
  unfold LX.key
  rw [hr, List.drop_left, if_pos h]
theorem dash_key {k l : B} (hk : Key k) : LX.dash (k ++ 58 :: l) = false := by
  cases k with
  | nil => exact absurd rfl hk.ne
  | cons c k =>
    cases k with
    | nil =>
      show (c == 45 && (58 : UInt8) == 32) = false
      simp
    | cons d k =>
      show (c == 45 && d == 32) = false
      have := (sgn_not (hk.sg d (by simp))).1
      simp [this]
theorem Rt.lgo {t : Rt} (h : t.ok) (no col : Int) (n : Nat) (acc : List Pc) : LX.go no col n acc t.b = (0, acc ++ t.ps no (col - t.b.length)) := by
  cases t with
  | leaf w x q =>
    show LX.go no col n acc w = _
    rw [LX.go_mid h.dash, LX.mid, if_pos h.key, LX.fin, if_neg, h.txt]
    · simp [Rt.ps, Rt.b]
    · obtain ⟨c, s, e, _⟩ := h.fst
      rw [e]; simp
  | kleaf k w x q =>
    obtain ⟨hk, hw⟩ := h
    obtain ⟨c, s, e, hc⟩ := hw.fst
    have hl := List.length_pos_iff.2 hk.ne
    show LX.go no col n acc (k ++ 58 :: 32 :: w) = _
    rw [LX.go_mid (dash_key hk), LX.mid, key_of hk (by rfl), if_neg (by omega), if_neg (by have := hk.len; omega)]
    have e2 : (k ++ 58 :: 32 :: w).drop (k.length + 1) = 32 :: w := by
      rw [show k ++ 58 :: 32 :: w = (k ++ [58]) ++ 32 :: w by simp, List.drop_left' (by simp)]
    rw [e2, ltl_bl, e, ltl_self hc, ← e, List.take_left, LX.fin, if_neg (by rw [e]; simp), hw.txt]
    have e3 : col - (w.length : Int) = col - ((k ++ 58 :: 32 :: w).length : Int) + k.length + 2 := by
      simp only [List.length_append, List.length_cons]
      push_cast
      omega
    rw [e3]
    simp [Rt.ps, Rt.b]
  | key k =>
    have hl := List.length_pos_iff.2 h.ne
    show LX.go no col n acc (k ++ [58]) = _
    rw [LX.go_mid (dash_key h), LX.mid, key_of h (by rfl), if_neg (by omega), if_neg (by have := h.len; omega)]
    have e2 : (k ++ [58]).drop (k.length + 1) = [] := by
      rw [List.drop_eq_nil_of_le]; simp
    rw [e2, List.take_left]
    show LX.fin no col _ [] = _
    rw [LX.fin, if_pos rfl]
    rfl
theorem Rw.row {r : Rw} (h : r.t.ok) (no : Int) (hI : r.ind ≤ 16384) : LX.row (no, r.ind, r.c) = (0, r.ps no) := by
  obtain ⟨c, s, e, hc⟩ := Rw.fst h
  have ht : LX.tl r.c = r.c := by rw [e, ltl_self hc]
  unfold LX.row
  simp only
  rw [if_neg (by omega), ht]
  unfold Rw.c
  have hl : (dashes r.m ++ r.t.b).length = (2 * r.m + r.t.b.length - r.m) + r.m := by
    rw [List.length_append, dashes_len]; omega
  obtain ⟨n, hn⟩ : ∃ n, (dashes r.m ++ r.t.b).length = n + r.m := ⟨_, hl⟩
  rw [hn, lgo_dashes _ _ _ _ _ _ (Rt.fst h), Rt.lgo h]
  unfold Rw.ps
  rw [List.nil_append, List.length_append, dashes_len] at *
  congr 2
  · congr 1
    omega
  · congr 1
    push_cast
    omega
end SH
end Go.Proofs.YtmgalfdiiegjjaaDoor
