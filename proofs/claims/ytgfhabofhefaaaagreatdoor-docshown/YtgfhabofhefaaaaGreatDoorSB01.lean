/- A part of the proof. -/
import Derived.Lib.TrimByte
import Derived.Lib.Split
import Derived.Lib.SplitLaws
import Derived.Test.YtgfhabofhefaaaaGreatDoorSB00
import Derived.Lib.Replace
namespace Go.Proofs.YtgfhabofhefaaaaGreatDoor
namespace LN
inductive Q where
  | out (fresh : Bool)
  | one
  | two
def go : Q → List UInt8 → Option Nat
  | .out _, [] => some 0
  | .one, [] => none
  | .two, [] => none
  | .out f, x :: r => if f = true ∧ x = 35 then some 0 else if f = true ∧ x = 39 then (go .one r).map (· + 1) else if f = true ∧ x = 34 then (go .two r).map (· + 1) else (go (.out (x == 32)) r).map (· + 1)
  | .one, [x] => if x = 39 then some 1 else none
  | .one, x :: y :: r => if x = 39 then (if y = 39 then (go .one r).map (· + 2) else (go (.out false) (y :: r)).map (· + 1)) else (go .one (y :: r)).map (· + 1)
  | .two, [x] => if x = 92 then none else if x = 34 then some 1 else none
  | .two, x :: y :: r => if x = 92 then (go .two r).map (· + 2) else if x = 34 then (go (.out false) (y :: r)).map (· + 1) else (go .two (y :: r)).map (· + 1)
def fin (l : List UInt8) (i : Nat) (q : Q) : Option Nat := (go q (l.drop i)).map (· + i)
def tr (l : List UInt8) : List UInt8 := Lib.trimRightB l 32
def tl (l : List UInt8) : List UInt8 := Lib.trimLeftB l 32
def strip (l : List UInt8) : Option (List UInt8) := (fin l 0 (.out true)).map fun e => tr (l.take e)
theorem drop_of {l : List UInt8} {i : Nat} {c : UInt8} (h : l[i]? = some c) : l.drop i = c :: l.drop (i + 1) := by
  have hi : i < l.length := (List.getElem?_eq_some_iff.1 h).1
  rw [List.drop_eq_getElem_cons hi]
  rw [List.getElem?_eq_getElem hi] at h
  rw [Option.some.inj h]
theorem map_add (o : Option Nat) (a b : Nat) : (o.map (· + a)).map (· + b) = o.map (· + (b + a)) := by
  cases o with
  | none => rfl
  | some x => simp; omega
theorem fin_end {l : List UInt8} {i : Nat} {f : Bool} (h : l.length = i) : fin l i (.out f) = some i := by
  unfold fin
  rw [List.drop_eq_nil_of_le (by omega)]
  simp [go]
theorem fin_one_end {l : List UInt8} {i : Nat} (h : l.length ≤ i) : fin l i .one = none := by
  unfold fin
  rw [List.drop_eq_nil_of_le h]
  simp [go]
theorem fin_two_end {l : List UInt8} {i : Nat} (h : l.length ≤ i) : fin l i .two = none := by
  unfold fin
  rw [List.drop_eq_nil_of_le h]
  simp [go]
theorem fin_remark {l : List UInt8} {i : Nat} (h : l[i]? = some 35) : fin l i (.out true) = some i := by
  unfold fin
  rw [drop_of h, go, if_pos ⟨rfl, rfl⟩]; simp
theorem fin_q1 {l : List UInt8} {i : Nat} (h : l[i]? = some 39) : fin l i (.out true) = fin l (i + 1) .one := by
  unfold fin
  rw [drop_of h, go, if_neg (by decide), if_pos ⟨rfl, rfl⟩, map_add]
theorem fin_q2 {l : List UInt8} {i : Nat} (h : l[i]? = some 34) : fin l i (.out true) = fin l (i + 1) .two := by
  unfold fin
  rw [drop_of h, go, if_neg (by decide), if_neg (by decide), if_pos ⟨rfl, rfl⟩, map_add]
theorem fin_plain {l : List UInt8} {i : Nat} {f : Bool} {c : UInt8} (h : l[i]? = some c) (hf : f = false ∨ (c ≠ 35 ∧ c ≠ 39 ∧ c ≠ 34)) : fin l i (.out f) = fin l (i + 1) (.out (c == 32)) := by
  unfold fin
  rw [drop_of h, go, if_neg, if_neg, if_neg, map_add]
  all_goals
    rintro ⟨h1, h2⟩
    rcases hf with h3 | ⟨h3, h4, h5⟩
    · rw [h1] at h3; cases h3
    · contradiction
theorem go_one_pass {l : List UInt8} {i : Nat} {c : UInt8} (h : l[i]? = some c) (hc : c ≠ 39) : fin l i .one = fin l (i + 1) .one := by
  unfold fin
  rw [drop_of h]
  cases hd : l.drop (i + 1) with
  | nil => simp [go, hc]
  | cons y r => rw [go, if_neg hc, map_add]
theorem go_one_two {l : List UInt8} {i : Nat} (h : l[i]? = some 39) (h2 : l[i + 1]? = some 39) : fin l i .one = fin l (i + 2) .one := by
  unfold fin
  rw [drop_of h, drop_of h2, go, if_pos rfl, if_pos rfl, map_add]
theorem go_one_end {l : List UInt8} {i : Nat} (h : l[i]? = some 39) (h2 : l[i + 1]? ≠ some 39) : fin l i .one = fin l (i + 1) (.out false) := by
  unfold fin
  rw [drop_of h]
  cases hd : l.drop (i + 1) with
  | nil => simp [go]; omega
  | cons y r =>
    have : l[i + 1]? = some y := by
      have := congrArg (·[0]?) hd
      simpa using this
    have e : go .one (39 :: y :: r) = (go (.out false) (y :: r)).map (· + 1) := by
      conv => lhs; rw [go, if_pos rfl, if_neg (by rintro rfl; exact h2 this)]
    rw [e, map_add]
theorem go_two_esc {l : List UInt8} {i : Nat} (h : l[i]? = some 92) : fin l i .two = fin l (i + 2) .two := by
  unfold fin
  rw [drop_of h]
  cases hd : l.drop (i + 1) with
  | nil =>
    have : l.drop (i + 2) = [] := List.drop_eq_nil_of_le (by have := List.drop_eq_nil_iff.1 hd; omega)
    rw [this]
    simp [go]
  | cons y r =>
    have : l.drop (i + 2) = r := by
      rw [show i + 2 = (i + 1) + 1 by omega, ← List.drop_drop, hd]; rfl
    rw [go, if_pos rfl, map_add, this]
theorem go_two_end {l : List UInt8} {i : Nat} (h : l[i]? = some 34) : fin l i .two = fin l (i + 1) (.out false) := by
  unfold fin
  rw [drop_of h]
  cases hd : l.drop (i + 1) with
  | nil => simp [go]; omega
  | cons y r =>
    have e : go .two (34 :: y :: r) = (go (.out false) (y :: r)).map (· + 1) := by
      conv => lhs; rw [go, if_neg (by decide), if_pos rfl]
    rw [e, map_add]
theorem go_two_pass {l : List UInt8} {i : Nat} {c : UInt8} (h : l[i]? = some c) (hc : c ≠ 92) (hc' : c ≠ 34) : fin l i .two = fin l (i + 1) .two := by
  unfold fin
  rw [drop_of h]
  cases hd : l.drop (i + 1) with
  | nil => simp [go, hc, hc']
  | cons y r => rw [go, if_neg hc, if_neg hc', map_add]
theorem go_le (q : Q) (l : List UInt8) : ∀ e, go q l = some e → e ≤ l.length := by
  fun_induction go q l <;> intro e h
  all_goals simp_all
  all_goals first
    | omega
    | (obtain ⟨a, h1, h2⟩ := h; rename_i ih; have := ih _ h1; omega)
    | skip
theorem fin_le {l : List UInt8} {e : Nat} (h : fin l 0 (.out true) = some e) : e ≤ l.length := by
  unfold fin at h
  simp at h
  exact go_le _ _ _ h
theorem down {x : UInt8} {r : List UInt8} {m e : Nat} (hb : ∀ j, m + 1 ≤ j → j < e + 1 → (x :: r)[j]? = some 32) : ∀ j, m ≤ j → j < e → r[j]? = some 32 := fun j h1 h2 => by
  have := hb (j + 1) (by omega) (by omega)
  simpa using this
theorem map_some {o : Option Nat} {k e : Nat} (h : o.map (· + k) = some e) : ∃ e', o = some e' ∧ e = e' + k := by
  cases o with
  | none => cases h
  | some x => exact ⟨x, rfl, by simpa using h.symm⟩
theorem go_take (q : Q) (l : List UInt8) : ∀ e m, go q l = some e → m ≤ e → (∀ j, m ≤ j → j < e → l[j]? = some 32) → go q (l.take m) = some m := by
  fun_induction go q l <;> intro e m h hm hb
  case case1 => obtain rfl := Option.some.inj h; obtain rfl : m = 0 := by omega
                simp [go]
  case case2 => cases h
  case case3 => cases h
  case case4 f x r hx =>
    obtain rfl := Option.some.inj h
    obtain rfl : m = 0 := by omega
    simp [go]
  case case5 f x r hx hy ih =>
    obtain ⟨rfl, rfl⟩ := hy
    obtain ⟨e, h', rfl⟩ := map_some h
    clear h
    cases m with
    | zero => simp [go]
    | succ m =>
      have := ih e m h' (by omega) (down hb)
      simp [go, this]
  case case6 f x r hx hx2 hy ih =>
    obtain ⟨rfl, rfl⟩ := hy
    obtain ⟨e, h', rfl⟩ := map_some h
    clear h
    cases m with
    | zero => simp [go]
    | succ m =>
      have := ih e m h' (by omega) (down hb)
      simp [go, this]
  case case7 f x r hx hx2 hx3 ih =>
    obtain ⟨e, h', rfl⟩ := map_some h
    clear h
    cases m with
    | zero => simp [go]
    | succ m =>
      have := ih e m h' (by omega) (down hb)
      rw [List.take_succ_cons, go, if_neg hx, if_neg hx2, if_neg hx3, this]
      rfl
  case case8 =>
    obtain rfl := Option.some.inj h
    rcases Nat.eq_zero_or_pos m with rfl | h1
    · have := hb 0 (by omega) (by omega); simp at this
    · obtain rfl : m = 1 := by omega
      simp [go]
  case case9 => cases h
  case case10 r ih =>
    obtain ⟨e, h', rfl⟩ := map_some h
    clear h
    match m with
    | 0 => have := hb 0 (by omega) (by omega); simp at this
    | 1 => have := hb 1 (by omega) (by omega); simp at this
    | m + 2 =>
      have := ih e m h' (by omega) (down (x := 39) (down hb))
      rw [List.take_succ_cons, List.take_succ_cons, go, if_pos rfl, if_pos rfl, this]
      rfl
  case case11 y r hy ih =>
    obtain ⟨e, h', rfl⟩ := map_some h
    clear h
    match m with
    | 0 => have := hb 0 (by omega) (by omega); simp at this
    | 1 => simp [go]
    | m + 2 =>
      have := ih e (m + 1) h' (by omega) (down hb)
      rw [List.take_succ_cons] at this
      rw [List.take_succ_cons, List.take_succ_cons, go, if_pos rfl, if_neg hy, this]
      rfl
  case case12 x y r hx ih =>
    obtain ⟨e, h', rfl⟩ := map_some h
    clear h
    match m with
    | 0 =>
      have := ih e 0 h' (by omega) (fun j h1 h2 => by have := hb (j + 1) (by omega) (by omega); simpa using this)
      simp [go] at this
    | 1 =>
      have := ih e 0 h' (by omega) (down hb)
      simp [go] at this
    | m + 2 =>
      have := ih e (m + 1) h' (by omega) (down hb)
      rw [List.take_succ_cons] at this
      rw [List.take_succ_cons, List.take_succ_cons, go, if_neg hx, this]
      rfl
  case case13 => cases h
  case case14 =>
    obtain rfl := Option.some.inj h
    rcases Nat.eq_zero_or_pos m with rfl | h1
    · have := hb 0 (by omega) (by omega); simp at this
    · obtain rfl : m = 1 := by omega
      simp [go]
  case case15 => cases h
  case case16 y r ih =>
    obtain ⟨e, h', rfl⟩ := map_some h
    clear h
    match m with
    | 0 => have := hb 0 (by omega) (by omega); simp at this
    | 1 =>
      have := ih e 0 h' (by omega) (fun j h1 h2 => by have := hb (j + 2) (by omega) (by omega); simpa using this)
      simp [go] at this
    | m + 2 =>
      have := ih e m h' (by omega) (down (x := y) (down hb))
      rw [List.take_succ_cons, List.take_succ_cons, go, if_pos rfl, this]
      rfl
  case case17 y r hy ih =>
    obtain ⟨e, h', rfl⟩ := map_some h
    clear h
    match m with
    | 0 => have := hb 0 (by omega) (by omega); simp at this
    | 1 => simp [go]
    | m + 2 =>
      have := ih e (m + 1) h' (by omega) (down hb)
      rw [List.take_succ_cons] at this
      rw [List.take_succ_cons, List.take_succ_cons, go, if_neg hy, if_pos rfl, this]
      rfl
  case case18 x y r hx hx2 ih =>
    obtain ⟨e, h', rfl⟩ := map_some h
    clear h
    match m with
    | 0 =>
      have := ih e 0 h' (by omega) (fun j h1 h2 => by have := hb (j + 1) (by omega) (by omega); simpa using this)
      simp [go] at this
    | 1 =>
      have := ih e 0 h' (by omega) (down hb)
      simp [go] at this
    | m + 2 =>
      have := ih e (m + 1) h' (by omega) (down hb)
      rw [List.take_succ_cons] at this
      rw [List.take_succ_cons, List.take_succ_cons, go, if_neg hx, if_neg hx2, this]
      rfl
theorem tr_take (l : List UInt8) : ∃ k, k ≤ l.length ∧ tr l = l.take k ∧ (∀ j, k ≤ j → j < l.length → l[j]? = some 32) ∧ (0 < k → l[k - 1]? ≠ some 32) := by
  unfold tr Lib.trimRightB
  generalize hr : l.reverse = r
  have hl : l = r.reverse := by rw [← hr, List.reverse_reverse]
  subst hl
  clear hr
  induction r with
  | nil => exact ⟨0, by simp, by simp, by simp, by simp⟩
  | cons x r ih =>
    by_cases hx : x = 32
    · obtain ⟨k, h1, h2, h3, h4⟩ := ih
      subst hx
      refine ⟨k, by simp at h1 ⊢; omega, ?_, ?_, ?_⟩
      · rw [List.dropWhile_cons_of_pos (by rfl), h2]
        simp only [List.reverse_cons]
        rw [List.take_append_of_le_length h1]
      · intro j hj1 hj2
        simp only [List.reverse_cons, List.length_append, List.length_cons, List.length_nil] at hj2 ⊢
        rcases Nat.lt_or_ge j r.reverse.length with h | h
        · rw [List.getElem?_append_left h]; exact h3 j hj1 h
        · rw [List.getElem?_append_right h, show j - r.reverse.length = 0 by omega]; rfl
      · intro hk
        have hkl := h1
        simp only [List.reverse_cons]
        rw [List.getElem?_append_left (by omega)]
        exact h4 hk
    · refine ⟨r.length + 1, by simp, ?_, ?_, ?_⟩
      · rw [List.dropWhile_cons_of_neg (by simpa using hx), List.take_of_length_le (by simp)]
      · intro j h1 h2; simp at h2; omega
      · intro _
        simp [hx]
theorem tr_uniq {l : List UInt8} {k : Nat} (hk : k ≤ l.length) (h1 : ∀ j, k ≤ j → j < l.length → l[j]? = some 32) (h2 : 0 < k → l[k - 1]? ≠ some 32) : tr l = l.take k := by
  obtain ⟨m, hm, e, g1, g2⟩ := tr_take l
  have : m = k := by
    rcases Nat.lt_trichotomy m k with h | h | h
    · exact absurd (g1 (k - 1) (by omega) (by omega)) (h2 (by omega))
    · exact h
    · exact absurd (h1 (m - 1) (by omega) (by omega)) (g2 (by omega))
  rw [e, this]
theorem tr_ne {l : List UInt8} (h : ∀ c, l[l.length - 1]? = some c → c ≠ 32) : tr l = l := by
  have := tr_uniq (l := l) (Nat.le_refl _) (fun j h1 h2 => by omega) (fun _ e => h _ e rfl)
  rw [this, List.take_length]
theorem strip_again {l x : List UInt8} (h : strip l = some x) : strip x = some x ∧ x.length ≤ l.length ∧ l.take x.length = x := by
  unfold strip at h
  cases hf : fin l 0 (.out true) with
  | none => rw [hf] at h; cases h
  | some e =>
    rw [hf] at h
    have hx : tr (l.take e) = x := by simpa using h
    have hel := fin_le hf
    have hg : go (.out true) l = some e := by
      unfold fin at hf; simpa using hf
    obtain ⟨k, h1, h2, h3, h4⟩ := tr_take (l.take e)
    have hlt : (l.take e).length = e := by simp; omega
    rw [hlt] at h1 h3
    rw [hx, List.take_take, Nat.min_eq_left h1] at h2
    have hgk := go_take _ _ e k hg h1 (fun j j1 j2 => by have := h3 j j1 j2; rwa [List.getElem?_take_of_lt j2] at this)
    have hxl : x.length = k := by rw [h2]; simp; omega
    refine ⟨?_, by omega, by rw [hxl, h2]⟩
    have hfx : fin x 0 (.out true) = some k := by
      unfold fin
      rw [h2]
      simp [hgk]
    unfold strip
    rw [hfx]
    show some (tr (x.take k)) = some x
    rw [← hxl, List.take_length, tr_ne]
    intro c hc e32
    subst e32
    rw [hxl, h2] at hc
    by_cases hk0 : 0 < k
    · rw [List.getElem?_take_of_lt (by omega)] at hc
      have := h4 hk0
      rw [List.getElem?_take_of_lt (by omega)] at this
      exact this hc
    · obtain rfl : k = 0 := by omega
      simp at hc
def rows : List UInt8 → List (List UInt8)
  | [] => [[]]
  | x :: r => if x = 10 then [] :: rows r else match rows r with
    | [] => [[x]]
    | h :: t => (x :: h) :: t
theorem rows_ne (l : List UInt8) : ∃ h t, rows l = h :: t := by
  cases l with
  | nil => exact ⟨_, _, rfl⟩
  | cons x r =>
    unfold rows
    split
    · exact ⟨_, _, rfl⟩
    · split
      · exact ⟨_, _, rfl⟩
      · exact ⟨_, _, rfl⟩
theorem rows_app (a b : List UInt8) : rows (a ++ 10 :: b) = rows a ++ rows b := by
  induction a with
  | nil => simp [rows]
  | cons x a ih =>
    rw [List.cons_append]
    by_cases hx : x = 10
    · rw [rows, if_pos hx, ih]
      conv => rhs; rw [rows, if_pos hx]
      rfl
    · obtain ⟨h, t, e⟩ := rows_ne a
      rw [rows, if_neg hx, ih, e]
      conv => rhs; rw [rows, if_neg hx, e]
      rfl
theorem rows_one {a : List UInt8} (h : 10 ∉ a) : rows a = [a] := by
  induction a with
  | nil => rfl
  | cons x a ih =>
    have h1 : x ≠ 10 := fun e => h (by simp [e])
    have h2 : 10 ∉ a := fun e => h (by simp [e])
    rw [rows, if_neg h1, ih h2]
theorem rows_len (l : List UInt8) : (rows l).length = l.count 10 + 1 := by
  induction l with
  | nil => rfl
  | cons x r ih =>
    by_cases hx : x = 10
    · subst hx
      rw [rows, if_pos rfl]
      simp [ih]
    · obtain ⟨h, t, e⟩ := rows_ne r
      rw [rows, if_neg hx, e, List.count_cons_of_ne (by simpa using hx), ← ih, e]
      rfl
theorem rows_le (l : List UInt8) : ∀ r ∈ rows l, r.length ≤ l.length := by
  induction l with
  | nil => intro r h; simp [rows] at h; simp [h]
  | cons x l ih =>
    intro r h
    by_cases hx : x = 10
    · rw [rows, if_pos hx] at h
      rcases List.mem_cons.1 h with rfl | h
      · simp
      · have := ih r h
        simp; omega
    · obtain ⟨a, t, e⟩ := rows_ne l
      rw [rows, if_neg hx, e] at h
      rw [e] at ih
      rcases List.mem_cons.1 h with rfl | h
      · have := ih a (by simp)
        simp; omega
      · have := ih r (by simp [h])
        simp; omega
theorem index10 (l : List UInt8) : (Lib.index l [10] = -1 ∧ 10 ∉ l) ∨ ∃ i : Nat, Lib.index l [10] = i ∧ 10 ∉ l.take i ∧ l[i]? = some 10 := by
  induction l with
  | nil => exact .inl ⟨by simp [Lib.index], by simp⟩
  | cons x r ih =>
    by_cases hx : x = 10
    · subst hx
      exact .inr ⟨0, by simp [Lib.index], by simp, by simp⟩
    · have hp : ([10] : List UInt8).isPrefixOf (x :: r) = false := by
        have : ((10 : UInt8) == x) = false := beq_eq_false_iff_ne.2 fun e => hx e.symm
        show ((10 : UInt8) == x && _) = false
        rw [this]; rfl
      rcases ih with ⟨h1, h2⟩ | ⟨i, h1, h2, h3⟩
      · exact .inl ⟨by rw [Lib.index, hp]; simp [h1], by simp; exact ⟨fun e => hx e.symm, h2⟩⟩
      · refine .inr ⟨i + 1, ?_, ?_, by simpa using h3⟩
        · rw [Lib.index, hp]
          simp [h1]
        · rw [List.take_succ_cons]; simp; exact ⟨fun e => hx e.symm, h2⟩
theorem split_rows : ∀ (k : Nat) (l : List UInt8), l.count 10 ≤ k → Lib.splitK [10] 0 k l = rows l
  | 0, l, h => by
    have : 10 ∉ l := List.count_eq_zero.1 (by omega)
    rw [rows_one this]; rfl
  | k + 1, l, h => by
    unfold Lib.splitK
    rcases index10 l with ⟨h1, h2⟩ | ⟨i, h1, h2, h3⟩
    · rw [if_pos (by rw [h1]; rfl), rows_one h2]
    · have hi : i < l.length := (List.getElem?_eq_some_iff.1 h3).1
      have e : l = l.take i ++ 10 :: l.drop (i + 1) := by
        conv => lhs; rw [← List.take_append_drop i l, drop_of h3]
      have hc : (l.drop (i + 1)).count 10 ≤ k := by
        have := congrArg (List.count 10) e
        rw [List.count_append, List.count_cons_self] at this
        omega
      rw [if_neg (by rw [h1]; simp), h1]
      have e1 : ((i : Int)).toNat = i := by omega
      rw [e1]
      show l.take i :: Lib.splitK [10] 0 k (l.drop (i + 1)) = _
      rw [split_rows k _ hc]
      conv => rhs; rw [e, rows_app, rows_one h2]
      rfl
theorem split_all (l : List UInt8) : Lib.splitK [10] 0 (Lib.count l [10]) l = rows l := split_rows _ l (by rw [Lib.count_one]; exact Nat.le_refl _)
abbrev Ln := Nat × Nat × List UInt8
def bad (r : List UInt8) : Bool := r.any fun c => decide (c.toNat < 32) || decide (c.toNat = 127)
def kind (r : List UInt8) : Nat := if bad r = true then 2 else if strip (tl r) = none then 3 else 0
def said (r : List UInt8) : List UInt8 := (strip (tl r)).getD []
def ind (r : List UInt8) : Nat := r.length - (tl r).length
def flt : Nat → List (List UInt8) → Nat × Nat
  | _, [] => (0, 0)
  | n, r :: rs => if kind r = 0 then flt (n + 1) rs else (kind r, n)
def lns : Nat → List (List UInt8) → List Ln
  | _, [] => []
  | n, r :: rs => if said r = [] then lns (n + 1) rs else (n, ind r, said r) :: lns (n + 1) rs
def outF (l : List UInt8) : Nat × Nat := if 16384 < l.length then (1, 1) else flt 1 (rows l)
def outL (l : List UInt8) : List Ln := if outF l = (0, 0) then lns 1 (rows l) else []
def up (no : Nat) (x : Ln) : Ln := (if no < x.1 then x.1 + 1 else x.1, x.2.1, x.2.2)
theorem kind_lt (r : List UInt8) : kind r < 4 := by
  unfold kind
  split
  · decide
  · split <;> decide
theorem flt_step {rs : List (List UInt8)} {k : Nat} {r : List UInt8} (h : rs[k]? = some r) : flt (k + 1) (rs.drop k) = if kind r = 0 then flt (k + 2) (rs.drop (k + 1)) else (kind r, k + 1) := by
  have hk := (List.getElem?_eq_some_iff.1 h).1
  rw [List.drop_eq_getElem_cons hk]
  rw [List.getElem?_eq_getElem hk] at h
  rw [Option.some.inj h, flt]
theorem lns_step {rs : List (List UInt8)} {k : Nat} {r : List UInt8} (h : rs[k]? = some r) : lns (k + 1) (rs.drop k) = if said r = [] then lns (k + 2) (rs.drop (k + 1)) else (k + 1, ind r, said r) :: lns (k + 2) (rs.drop (k + 1)) := by
  have hk := (List.getElem?_eq_some_iff.1 h).1
  rw [List.drop_eq_getElem_cons hk]
  rw [List.getElem?_eq_getElem hk] at h
  rw [Option.some.inj h, lns]
end LN
end Go.Proofs.YtgfhabofhefaaaaGreatDoor
namespace Go.Proofs.YtgfhabofhefaaaaGreatDoor
namespace LX
open Go
def Rise (no ind : Int) (ls : List Pc) : Prop :=
  ∀ i x, ls[i]? = some x → x.2.1 = no ∧ ind ≤ x.2.2.1 ∧ ∀ j y, i = j + 1 → ls[j]? = some y → y.2.2.1 < x.2.2.1 ∧ y.1 ≤ x.1 ∧ (x.1 = 1 ∨ x.1 ≠ y.1)
theorem Rise.nil (no ind : Int) : Rise no ind [] := by intro i x h; simp at h
def Upto (p k : Int) (ls : List Pc) : Prop := ∀ x ∈ ls, x.2.2.1 < p ∧ x.1 ≤ k
theorem Upto.nil (p k : Int) : Upto p k [] := by intro x h; cases h
theorem Upto.more {p p' k k' : Int} {ls : List Pc} (h : Upto p k ls) (h1 : p ≤ p') (h2 : k ≤ k') : Upto p' k' ls := fun x hx => ⟨Int.lt_of_lt_of_le (h x hx).1 h1, Int.le_trans (h x hx).2 h2⟩
theorem Rise.app {no ind p k K : Int} {ls : List Pc} {t : B} {q : Bool} (h : Rise no ind ls) (hu : Upto p k ls) (hp : ind ≤ p) (hk : k < K ∨ (k ≤ K ∧ K = 1)) : Rise no ind (ls ++ [(K, no, p, t, q)]) := by
  intro i x hx
  rcases Nat.lt_or_ge i ls.length with hi | hi
  · rw [List.getElem?_append_left hi] at hx
    obtain ⟨a, b, c⟩ := h i x hx
    refine ⟨a, b, fun j y hj hy => c j y hj ?_⟩
    rw [List.getElem?_append_left (by omega)] at hy
    exact hy
  · obtain rfl : i = ls.length := by
      have := (List.getElem?_eq_some_iff.1 hx).1
      simp at this
      omega
    obtain rfl : (K, no, p, t, q) = x := by simpa using hx
    refine ⟨rfl, hp, fun j y hj hy => ?_⟩
    rw [List.getElem?_append_left (by omega)] at hy
    obtain ⟨a, b⟩ := hu y (List.mem_of_getElem? hy)
    refine ⟨a, ?_, ?_⟩
    · show y.1 ≤ K; omega
    · show K = 1 ∨ K ≠ y.1; omega
theorem Upto.app {no p p' k K : Int} {ls : List Pc} {t : B} {q : Bool} (hu : Upto p k ls) (hp : p < p') (hk : k ≤ K) : Upto p' K (ls ++ [(K, no, p, t, q)]) := by
  intro x hx
  rcases List.mem_append.1 hx with hx | hx
  · obtain ⟨a, b⟩ := hu x hx
    exact ⟨by omega, by omega⟩
  · obtain rfl : x = (K, no, p, t, q) := by simpa using hx
    exact ⟨hp, Int.le_refl _⟩
theorem fin_len {no col : Int} {acc : List Pc} {l : B} {N : Nat} (h : acc.length + l.length ≤ N) : (fin no col acc l).2.length ≤ N := by
  unfold fin
  split
  · show acc.length ≤ N; omega
  · rename_i hne
    have : 1 ≤ l.length := by cases l with | nil => exact absurd rfl hne | cons => simp
    split
    · simp only [List.length_append, List.length_cons, List.length_nil]; omega
    · simp
theorem mid_len {no col : Int} {acc : List Pc} {l : B} {N : Nat} (h : acc.length + l.length ≤ N) : (mid no col acc l).2.length ≤ N := by
  unfold mid
  split
  · exact fin_len h
  · split
    · simp
    · have hlt := key_lt (l := l) (by omega)
      have h1 := tl_len (l.drop (key l + 1))
      rw [List.length_drop] at h1
      refine fin_len ?_
      simp only [List.length_append, List.length_cons, List.length_nil]
      omega
theorem go_len {no col : Int} : ∀ {n : Nat} {acc : List Pc} {l : B} {N : Nat}, acc.length + l.length ≤ N → (go no col n acc l).2.length ≤ N
  | 0, _, _, _, h => mid_len h
  | n + 1, acc, l, N, h => by
    rw [go]
    split
    · rename_i hd
      have h0 := dash_len hd
      have h1 := tl_len (l.drop 1)
      rw [List.length_drop] at h1
      refine go_len ?_
      simp only [List.length_append, List.length_cons, List.length_nil]
      omega
    · exact mid_len h
theorem row_len (l : Lz) : (row l).2.length ≤ l.2.2.length := by
  unfold row
  split
  · simp
  · have h1 := tl_len l.2.2
    refine go_len ?_
    simp only [List.length_nil]
    omega
def plus (acc : List Pc) (r : R × Int) : R × Int := ((r.1.1, if r.1.1 = 0 then acc ++ r.1.2 else []), r.2)
theorem all_ok {l : Lz} {ls : List Lz} {P : List Pc} (h : row l = (0, P)) : all (l :: ls) = plus P (all ls) := by
  rw [all, h, if_pos rfl]; rfl
theorem all_no {l : Lz} {ls : List Lz} {k : Int} {P : List Pc} (h : row l = (k, P)) (hk : k ≠ 0) : all (l :: ls) = ((k, []), l.1) := by
  rw [all, h, if_neg hk]
theorem plus_plus (a b : List Pc) (r : R × Int) : plus a (plus b r) = plus (a ++ b) r := by
  unfold plus
  by_cases h : r.1.1 = 0
  · simp only [h, if_true, List.append_assoc]
  · simp only [if_neg h]
theorem plus_end (a : List Pc) : plus a (all []) = ((0, a), 0) := by
  show ((0, if (0 : Int) = 0 then a ++ [] else []), 0) = _
  rw [if_pos rfl, List.append_nil]
theorem plus_no {a : List Pc} {k n : Int} (hk : k ≠ 0) : plus a ((k, []), n) = ((k, []), n) := by
  unfold plus
  simp only [if_neg hk]
theorem all_none : ∀ ls : List Lz, (all ls).1.1 ≠ 0 → (all ls).1.2 = []
  | [], h => absurd rfl h
  | l :: ls, h => by
    by_cases hk : (row l).1 = 0
    · rw [all_ok (P := (row l).2) (by rw [← hk])] at h ⊢
      show (if (all ls).1.1 = 0 then _ else _) = _
      exact if_neg h
    · rw [all_no (k := (row l).1) (P := (row l).2) rfl hk]
theorem plus_nil (ls : List Lz) : plus [] (all ls) = all ls := by
  have hn := all_none ls
  generalize all ls = r at hn ⊢
  obtain ⟨⟨k, P⟩, n⟩ := r
  unfold plus
  simp only at hn ⊢
  by_cases h : k = 0
  · rw [if_pos h, List.nil_append]
  · rw [if_neg h, hn h]
def wt (ls : List Lz) : Nat := (ls.map (·.2.2.length)).sum
theorem wt_cons (l : Lz) (ls : List Lz) : wt (l :: ls) = l.2.2.length + wt ls := rfl
end LX
end Go.Proofs.YtgfhabofhefaaaaGreatDoor
namespace Go.Proofs.YtgfhabofhefaaaaGreatDoor
namespace DC
open LX (B Pc Lz)
def sh (k : Int) (p : Pc) : Pc := (p.1, p.2.1, p.2.2.1 + k, p.2.2.2.1, p.2.2.2.2)
def bl (k : Nat) : B := List.replicate k 32
theorem tl_bl (k : Nat) (r : B) : LN.tl (bl k ++ r) = LN.tl r := by
  induction k with
  | zero => rfl
  | succ k ih =>
    have e2 : bl (k + 1) ++ r = 32 :: (bl k ++ r) := rfl
    rw [e2, ← ih]
    unfold LN.tl Lib.trimLeftB
    rw [List.dropWhile_cons_of_pos (by decide)]
theorem bad_bl (k : Nat) (r : B) : LN.bad (bl k ++ r) = LN.bad r := by
  unfold LN.bad
  rw [List.any_append]
  have : ((bl k).any fun c => decide (c.toNat < 32) || decide (c.toNat = 127)) = false := by
    rw [List.any_eq_false]
    intro c hc
    obtain rfl := (List.mem_replicate.1 hc).2
    decide
  rw [this, Bool.false_or]
theorem tl_le (r : B) : (LN.tl r).length ≤ r.length := (List.dropWhile_sublist _).length_le
def zl (x : LN.Ln) : Lz := ((x.1 : Int), (x.2.1 : Int), x.2.2)
theorem ind_le : ∀ (n : Nat) (rs : List B) (x : LN.Ln), x ∈ LN.lns n rs → ∃ r ∈ rs, x.2.1 ≤ r.length ∧ x.2.2.length ≤ r.length
  | _, [], _, h => by cases h
  | n, r :: rs, x, h => by
    rw [LN.lns] at h
    split at h
    · obtain ⟨r', h1, h2⟩ := ind_le _ rs x h
      exact ⟨r', by simp [h1], h2⟩
    · rcases List.mem_cons.1 h with rfl | h
      · refine ⟨r, by simp, by show r.length - _ ≤ _; omega, ?_⟩
        show (LN.said r).length ≤ r.length
        unfold LN.said
        cases hs : LN.strip (LN.tl r) with
        | none => simp
        | some s =>
          have := (LN.strip_again hs).2.1
          have := tl_le r
          simp only [Option.getD_some]
          omega
      · obtain ⟨r', h1, h2⟩ := ind_le _ rs x h
        exact ⟨r', by simp [h1], h2⟩
theorem outL_le {l : B} {x : LN.Ln} (h : x ∈ LN.outL l) (_hl : l.length ≤ 16384) : x.2.1 ≤ l.length ∧ x.2.2.length ≤ l.length := by
  unfold LN.outL at h
  split at h
  · obtain ⟨r, h1, h2, h3⟩ := ind_le _ _ _ h
    have := LN.rows_le l r h1
    omega
  · cases h
def parse (l : B) : Out (List Nd) :=
  if (LN.outF l).1 ≠ 0 then .bad (LN.outF l).1 (LN.outF l).2
  else if (LX.all ((LN.outL l).map zl)).1.1 ≠ 0 then .bad (LX.all ((LN.outL l).map zl)).1.1 (LX.all ((LN.outL l).map zl)).2
  else doc (LX.all ((LN.outL l).map zl)).1.2
end DC
end Go.Proofs.YtgfhabofhefaaaaGreatDoor
namespace Go.Proofs.YtgfhabofhefaaaaGreatDoor
namespace LX
open Go
def hexd (n : Nat) : UInt8 := UInt8.ofNat (if n < 10 then 48 + n else 87 + n)
def q1 (c : UInt8) : B :=
  if c = 92 ∨ c = 34 then [92, c]
  else if c = 10 then [92, 110]
  else if c = 9 then [92, 116]
  else if c.toNat < 32 ∨ c = 127 then [92, 120, hexd (c.toNat / 16), hexd (c.toNat % 16)]
  else [c]
theorem q1_self {c : UInt8} (h1 : c ≠ 92) (h2 : c ≠ 34) (h3 : c ≠ 10) (h4 : c ≠ 9) (h5 : ¬ (c.toNat < 32 ∨ c = 127)) : q1 c = [c] := by
  unfold q1
  rw [if_neg (fun h => h.elim h1 h2), if_neg h3, if_neg h4, if_neg h5]
theorem q1_hex {c : UInt8} (h1 : c ≠ 92) (h2 : c ≠ 34) (h3 : c ≠ 10) (h4 : c ≠ 9) (h5 : c.toNat < 32 ∨ c = 127) : q1 c = [92, 120, hexd (c.toNat / 16), hexd (c.toNat % 16)] := by
  unfold q1
  rw [if_neg (fun h => h.elim h1 h2), if_neg h3, if_neg h4, if_pos h5]
def hexs : B := [48, 49, 50, 51, 52, 53, 54, 55, 56, 57, 97, 98, 99, 100, 101, 102]
theorem hexs_at : ∀ n : Fin 16, hexs[n.val]? = some (hexd n.val) := by decide +kernel
def quo (s : B) : B := 34 :: (s.flatMap q1 ++ [34])
theorem hx_hexd : ∀ n : Fin 16, hx (hexd n.val) = some n.val := by decide +kernel
theorem dq_q1 (c : UInt8) (r : B) : dq (q1 c ++ r) = (dq r).map (c :: ·) := by
  unfold q1
  by_cases h1 : c = 92 ∨ c = 34
  · rw [if_pos h1]
    show dq (92 :: c :: r) = _
    rw [dq_esc]
    have : esc (c :: r) = some (c, 1) := by rw [esc.eq_def]; exact if_pos h1
    rw [this]; rfl
  · rw [if_neg h1]
    by_cases h2 : c = 10
    · rw [if_pos h2, h2]
      show dq (92 :: 110 :: r) = _
      rw [dq_esc]; rfl
    · rw [if_neg h2]
      by_cases h3 : c = 9
      · rw [if_pos h3, h3]
        show dq (92 :: 116 :: r) = _
        rw [dq_esc]; rfl
      · rw [if_neg h3]
        by_cases h4 : c.toNat < 32 ∨ c = 127
        · rw [if_pos h4]
          show dq (92 :: 120 :: hexd (c.toNat / 16) :: hexd (c.toNat % 16) :: r) = _
          rw [dq_esc]
          have hc := c.toNat_lt
          have a := hx_hexd ⟨c.toNat / 16, by omega⟩
          have b := hx_hexd ⟨c.toNat % 16, by omega⟩
          have e : esc (120 :: hexd (c.toNat / 16) :: hexd (c.toNat % 16) :: r) = some (c, 3) := by
            rw [esc.eq_def]
            simp only at a b ⊢
            rw [if_neg (by decide), if_neg (by decide), if_neg (by decide), if_pos trivial, a, b]
            simp only [Option.some.injEq, Prod.mk.injEq, and_true]
            rw [show 16 * (c.toNat / 16) + c.toNat % 16 = c.toNat by omega]
            exact UInt8.ofNat_toNat
          rw [e]; rfl
        · rw [if_neg h4]
          exact dq_pass (fun h => h1 (.inr h)) (fun h => h1 (.inl h))
theorem dq_quo : ∀ s : B, dq (s.flatMap q1 ++ [34]) = some s
  | [] => by show dq [34] = _; rw [dq_end]; rfl
  | c :: t => by
    rw [List.flatMap_cons, List.append_assoc, dq_q1, dq_quo t]; rfl
theorem q1_len (c : UInt8) : 1 ≤ (q1 c).length ∧ (q1 c).length ≤ 4 := by
  unfold q1
  split
  · simp
  · split
    · simp
    · split
      · simp
      · split <;> simp
theorem flat_len {f : UInt8 → B} {k : Nat} (h : ∀ c, (f c).length ≤ k) : ∀ s : B, (s.flatMap f).length ≤ k * s.length
  | [] => by simp
  | c :: t => by
    rw [List.flatMap_cons, List.length_append]
    have := h c
    have := flat_len h t
    simp only [List.length_cons, Nat.mul_add]
    omega
theorem quo_len (s : B) : (quo s).length ≤ 4 * s.length + 2 := by
  have := flat_len (fun c => (q1_len c).2) s
  simp only [quo, List.length_cons, List.length_append, List.length_nil]
  omega
theorem txt_dq {t x : B} (h : dq t = some x) : txt (34 :: t) = lng x true := by
  rw [txt.eq_def]
  simp only
  rw [if_neg (by decide), if_pos trivial, h]
def s1 (c : UInt8) : B := if c = 39 then [39, 39] else [c]
end LX
end Go.Proofs.YtgfhabofhefaaaaGreatDoor
namespace Go.Proofs.YtgfhabofhefaaaaGreatDoor
namespace SH
open LX (B Pc Lz)
open DC (Nd bl)
structure Leaf (w x : B) (q : Bool) : Prop where
  fst : ∃ c t, w = c :: t ∧ c ≠ 32
  lst : ∀ c, w[w.length - 1]? = some c → c ≠ 32
  bad : LN.bad w = false
  go : LN.go (.out true) w = some w.length
  txt : LX.txt w = (0, x, q)
  dash : LX.dash w = false
  key : LX.key w = 0
structure Key (k : B) : Prop where
  ne : k ≠ []
  len : k.length ≤ 64
  sg : ∀ c ∈ k, LX.sgn c = true
theorem sgn_not {c : UInt8} (h : LX.sgn c = true) : c ≠ 32 ∧ c ≠ 35 ∧ c ≠ 39 ∧ c ≠ 34 ∧ c ≠ 10 ∧ c ≠ 58 ∧ (decide (c.toNat < 32) || decide (c.toNat = 127)) = false := by
  refine ⟨?_, ?_, ?_, ?_, ?_, ?_, ?_⟩
  · rintro rfl; exact absurd h (by decide)
  · rintro rfl; exact absurd h (by decide)
  · rintro rfl; exact absurd h (by decide)
  · rintro rfl; exact absurd h (by decide)
  · rintro rfl; exact absurd h (by decide)
  · rintro rfl; exact absurd h (by decide)
  · unfold LX.sgn at h
    simp only [Bool.or_eq_true, decide_eq_true_eq] at h
    rw [Bool.or_eq_false_iff]
    exact ⟨decide_eq_false (by omega), decide_eq_false (by omega)⟩
def dashes : Nat → B
  | 0 => []
  | m + 1 => 45 :: 32 :: dashes m
theorem dashes_len : ∀ m, (dashes m).length = 2 * m
  | 0 => rfl
  | m + 1 => by rw [dashes, List.length_cons, List.length_cons, dashes_len m]; omega
inductive Rt where
  | leaf (w x : B) (q : Bool)
  | kleaf (k w x : B) (q : Bool)
  | key (k : B)
def Rt.b : Rt → B
  | .leaf w _ _ => w
  | .kleaf k w _ _ => k ++ 58 :: 32 :: w
  | .key k => k ++ [58]
def Rt.ok : Rt → Prop
  | .leaf w x q => Leaf w x q
  | .kleaf k w x q => Key k ∧ Leaf w x q
  | .key k => Key k
structure Rw where
  ind : Nat
  m : Nat
  t : Rt
def Rw.c (r : Rw) : B := dashes r.m ++ r.t.b
def Rw.bs (r : Rw) : B := bl r.ind ++ r.c
def dashP (no I : Int) : Nat → List Pc
  | 0 => []
  | m + 1 => (1, no, I, [], false) :: dashP no (I + 2) m
def Rt.ps (no c : Int) : Rt → List Pc
  | .leaf _ x q => [(3, no, c, x, q)]
  | .kleaf k _ x q => [(2, no, c, k, false), (3, no, c + k.length + 2, x, q)]
  | .key k => [(2, no, c, k, false)]
def Rw.ps (no : Int) (r : Rw) : List Pc := dashP no r.ind r.m ++ r.t.ps no (r.ind + 2 * r.m)
theorem dashP_succ (no : Int) : ∀ (m : Nat) (I : Int), dashP no I (m + 1) = dashP no I m ++ [(1, no, I + 2 * m, [], false)]
  | 0, I => by simp [dashP]
  | m + 1, I => by
    have e : I + 2 + 2 * (m : Int) = I + 2 * ((m + 1 : Nat) : Int) := by push_cast; omega
    show (1, no, I, [], false) :: dashP no (I + 2) (m + 1) = ((1, no, I, [], false) :: dashP no (I + 2) m) ++ _
    rw [dashP_succ no m (I + 2), e]
    rfl
theorem go_dashes : ∀ (m : Nat) (l : B), LN.go (.out true) (dashes m ++ l) = (LN.go (.out true) l).map (· + 2 * m)
  | 0, l => by simp [dashes]
  | m + 1, l => by
    have e : dashes (m + 1) ++ l = 45 :: 32 :: (dashes m ++ l) := rfl
    rw [e, LN.go, if_neg (by decide), if_neg (by decide), if_neg (by decide), LN.go, if_neg (by decide), if_neg (by decide), if_neg (by decide)]
    rw [show ((32 : UInt8) == 32) = true from rfl, go_dashes m l, LN.map_add, LN.map_add, show 1 + 1 + 2 * m = 2 * (m + 1) by omega]
theorem go_sg : ∀ (k l : B) (f : Bool), (∀ c ∈ k, LX.sgn c = true) → k ≠ [] → LN.go (.out f) (k ++ l) = (LN.go (.out false) l).map (· + k.length)
  | [], _, _, _, h => absurd rfl h
  | c :: k, l, f, hs, _ => by
    obtain ⟨n1, n2, n3, n4, _⟩ := sgn_not (hs c (by simp))
    rw [List.cons_append, LN.go, if_neg (fun h => n2 h.2), if_neg (fun h => n3 h.2), if_neg (fun h => n4 h.2)]
    rw [show (c == 32) = false by simpa using n1]
    by_cases hk : k = []
    · subst hk
      simp
    · rw [go_sg k l false (fun c hc => hs c (by simp [hc])) hk, LN.map_add, List.length_cons, Nat.add_comm 1]
theorem Rt.go {t : Rt} (h : t.ok) : LN.go (.out true) t.b = some t.b.length := by
  cases t with
  | leaf w x q => exact h.go
  | kleaf k w x q =>
    obtain ⟨hk, hw⟩ := h
    show LN.go _ (k ++ 58 :: 32 :: w) = some (k ++ 58 :: 32 :: w).length
    rw [go_sg k _ true hk.sg hk.ne, LN.go, if_neg (by decide), if_neg (by decide), if_neg (by decide), show ((58 : UInt8) == 32) = false from rfl, LN.go, if_neg (by decide), if_neg (by decide), if_neg (by decide), show ((32 : UInt8) == 32) = true from rfl, hw.go]
    simp; omega
  | key k =>
    show LN.go _ (k ++ [58]) = some (k ++ [58]).length
    rw [go_sg k _ true h.sg h.ne, LN.go, if_neg (by decide), if_neg (by decide), if_neg (by decide), show ((58 : UInt8) == 32) = false from rfl, LN.go]
    simp; omega
theorem Rt.fst {t : Rt} (h : t.ok) : ∃ c s, t.b = c :: s ∧ c ≠ 32 := by
  cases t with
  | leaf w x q => exact h.fst
  | kleaf k w x q =>
    obtain ⟨hk, hw⟩ := h
    cases k with
    | nil => exact absurd rfl hk.ne
    | cons c k => exact ⟨c, _, rfl, (sgn_not (hk.sg c (by simp))).1⟩
  | key k =>
    cases k with
    | nil => exact absurd rfl h.ne
    | cons c k => exact ⟨c, _, rfl, (sgn_not (h.sg c (by simp))).1⟩
theorem last_app {a b : B} (hb : b ≠ []) : (a ++ b)[(a ++ b).length - 1]? = b[b.length - 1]? := by
  have : 0 < b.length := List.length_pos_iff.2 hb
  rw [List.length_append, List.getElem?_append_right (by omega)]
  congr 1
  omega
theorem Rt.lst {t : Rt} (h : t.ok) : ∀ c, t.b[t.b.length - 1]? = some c → c ≠ 32 := by
  cases t with
  | leaf w x q => exact h.lst
  | kleaf k w x q =>
    obtain ⟨hk, hw⟩ := h
    intro c hc
    obtain ⟨d, s, e, _⟩ := hw.fst
    have e2 : (Rt.kleaf k w x q).b = (k ++ [58, 32]) ++ w := by simp [Rt.b]
    rw [e2, last_app (by rw [e]; simp)] at hc
    exact hw.lst c hc
  | key k =>
    intro c hc
    have e2 : (Rt.key k).b = k ++ [58] := rfl
    rw [e2, last_app (by simp)] at hc
    have : c = 58 := by simpa using hc.symm
    rw [this]; decide
theorem bad_app (a b : B) : LN.bad (a ++ b) = (LN.bad a || LN.bad b) := by simp [LN.bad]
theorem bad_sg {k : B} (h : ∀ c ∈ k, LX.sgn c = true) : LN.bad k = false := by
  unfold LN.bad
  rw [List.any_eq_false]
  intro c hc
  rw [(sgn_not (h c hc)).2.2.2.2.2.2]
  simp
theorem bad_dashes : ∀ m, LN.bad (dashes m) = false
  | 0 => rfl
  | m + 1 => by
    have e : dashes (m + 1) = [45, 32] ++ dashes m := rfl
    rw [e, bad_app, bad_dashes m]; rfl
theorem Rt.bad {t : Rt} (h : t.ok) : LN.bad t.b = false := by
  cases t with
  | leaf w x q => exact h.bad
  | kleaf k w x q =>
    obtain ⟨hk, hw⟩ := h
    have e2 : (Rt.kleaf k w x q).b = (k ++ [58, 32]) ++ w := by simp [Rt.b]
    rw [e2, bad_app, bad_app, bad_sg hk.sg, hw.bad]; rfl
  | key k =>
    have e2 : (Rt.key k).b = k ++ [58] := rfl
    rw [e2, bad_app, bad_sg h.sg]; rfl
theorem bad_bl : ∀ n, LN.bad (bl n) = false
  | 0 => rfl
  | n + 1 => by
    have e : bl (n + 1) = [32] ++ bl n := rfl
    rw [e, bad_app, bad_bl n]; rfl
theorem tl_self {c : UInt8} {s : B} (h : c ≠ 32) : LN.tl (c :: s) = c :: s := by
  unfold LN.tl Lib.trimLeftB
  rw [List.dropWhile_cons_of_neg]
  simpa using h
theorem Rw.fst {r : Rw} (h : r.t.ok) : ∃ c s, r.c = c :: s ∧ c ≠ 32 := by
  obtain ⟨I, m, t⟩ := r
  cases m with
  | zero => exact Rt.fst h
  | succ m => exact ⟨45, _, rfl, by decide⟩
theorem Rw.strip {r : Rw} (h : r.t.ok) : LN.strip r.c = some r.c := by
  have hg : LN.go (.out true) r.c = some r.c.length := by
    unfold Rw.c
    rw [go_dashes, Rt.go h, List.length_append, dashes_len]
    simp; omega
  unfold LN.strip LN.fin
  rw [List.drop_zero, hg]
  simp only [Option.map_some, Nat.add_zero, List.take_length, Option.some.injEq]
  apply LN.tr_ne
  intro c hc
  obtain ⟨d, s, e, _⟩ := Rt.fst h
  unfold Rw.c at hc
  rw [last_app (by rw [e]; simp)] at hc
  exact Rt.lst h c hc
theorem Rw.tl {r : Rw} (h : r.t.ok) : LN.tl r.bs = r.c := by
  unfold Rw.bs
  rw [DC.tl_bl]
  obtain ⟨c, s, e, hc⟩ := Rw.fst h
  rw [e, tl_self hc]
theorem Rw.bad {r : Rw} (h : r.t.ok) : LN.bad r.bs = false := by
  unfold Rw.bs Rw.c
  rw [bad_app, bad_app, bad_bl, bad_dashes, Rt.bad h]; rfl
theorem Rw.kind {r : Rw} (h : r.t.ok) : LN.kind r.bs = 0 := by
  unfold LN.kind
  rw [if_neg (by rw [Rw.bad h]; simp), if_neg (by rw [Rw.tl h, Rw.strip h]; simp)]
theorem Rw.said {r : Rw} (h : r.t.ok) : LN.said r.bs = r.c := by
  unfold LN.said
  rw [Rw.tl h, Rw.strip h]; rfl
theorem Rw.indE {r : Rw} (h : r.t.ok) : LN.ind r.bs = r.ind := by
  unfold LN.ind
  rw [Rw.tl h]
  unfold Rw.bs
  simp [bl]
theorem no10 {l : B} (h : LN.bad l = false) : 10 ∉ l := by
  intro hm
  unfold LN.bad at h
  rw [List.any_eq_false] at h
  exact absurd (h 10 hm) (by decide)
theorem ltl_self {c : UInt8} {s : B} (h : c ≠ 32) : LX.tl (c :: s) = c :: s := tl_self h
theorem ltl_bl {s : B} : LX.tl (32 :: s) = LX.tl s := by
  unfold LX.tl Lib.trimLeftB
  rw [List.dropWhile_cons_of_pos (by rfl)]
theorem lgo_dashes (no col : Int) : ∀ (m n : Nat) (acc : List Pc) (l : B), (∃ c s, l = c :: s ∧ c ≠ 32) → LX.go no col (n + m) acc (dashes m ++ l) = LX.go no col n (acc ++ dashP no (col - (dashes m ++ l).length) m) l
  | 0, n, acc, l, _ => by simp [dashes, dashP]
  | m + 1, n, acc, l, h => by
    have e : dashes (m + 1) ++ l = 45 :: 32 :: (dashes m ++ l) := rfl
    have hf : ∃ c s, dashes m ++ l = c :: s ∧ c ≠ 32 := by
      cases m with
      | zero => exact h
      | succ m => exact ⟨45, _, rfl, by decide⟩
    obtain ⟨c, s, hc, hc2⟩ := hf
    rw [e, ← Nat.add_assoc, LX.go_dash (by rfl)]
    rw [List.drop_succ_cons, List.drop_zero, ltl_bl, hc, ltl_self hc2, ← hc]
    rw [lgo_dashes no col m n _ l h, dashP, List.append_assoc]
    simp only [List.length_cons, List.singleton_append]
    congr 3
    push_cast
    congr 1
    omega
theorem run_sg : ∀ {k l : B}, (∀ c ∈ k, LX.sgn c = true) → (∀ c s, l = c :: s → LX.sgn c = false) → LX.run (k ++ l) = k.length
  | [], l, _, h => by
    cases l with
    | nil => rfl
    | cons c s => rw [List.nil_append, LX.run, LX.runp, h c s rfl]; rfl
  | c :: k, l, hs, h => by
    rw [List.cons_append, LX.run, LX.runp, if_pos (hs c (by simp))]
    have := run_sg (k := k) (l := l) (fun c hc => hs c (by simp [hc])) h
    rw [LX.run] at this
    rw [this]; rfl
theorem key_of {k l : B} (hk : Key k) (h : LX.kend (58 :: l) = true) : LX.key (k ++ 58 :: l) = k.length := by
  have hr : LX.run (k ++ 58 :: l) = k.length := run_sg hk.sg (fun c s e => by obtain ⟨rfl, -⟩ := List.cons.inj e; rfl)
  unfold LX.key
  rw [hr, List.drop_left, if_pos h]
theorem dash_key {k l : B} (hk : Key k) : LX.dash (k ++ 58 :: l) = false := by
  cases k with
  | nil => exact absurd rfl hk.ne
  | cons c k =>
    cases k with
    | nil =>
      show (c == 45 && (58 : UInt8) == 32) = false
      simp
    | cons d k =>
      show (c == 45 && d == 32) = false
      have := (sgn_not (hk.sg d (by simp))).1
      simp [this]
theorem Rt.lgo {t : Rt} (h : t.ok) (no col : Int) (n : Nat) (acc : List Pc) : LX.go no col n acc t.b = (0, acc ++ t.ps no (col - t.b.length)) := by
  cases t with
  | leaf w x q =>
    show LX.go no col n acc w = _
    rw [LX.go_mid h.dash, LX.mid, if_pos h.key, LX.fin, if_neg, h.txt]
    · simp [Rt.ps, Rt.b]
    · obtain ⟨c, s, e, _⟩ := h.fst
      rw [e]; simp
  | kleaf k w x q =>
    obtain ⟨hk, hw⟩ := h
    obtain ⟨c, s, e, hc⟩ := hw.fst
    have hl := List.length_pos_iff.2 hk.ne
    show LX.go no col n acc (k ++ 58 :: 32 :: w) = _
    rw [LX.go_mid (dash_key hk), LX.mid, key_of hk (by rfl), if_neg (by omega), if_neg (by have := hk.len; omega)]
    have e2 : (k ++ 58 :: 32 :: w).drop (k.length + 1) = 32 :: w := by
      rw [show k ++ 58 :: 32 :: w = (k ++ [58]) ++ 32 :: w by simp, List.drop_left' (by simp)]
    rw [e2, ltl_bl, e, ltl_self hc, ← e, List.take_left, LX.fin, if_neg (by rw [e]; simp), hw.txt]
    have e3 : col - (w.length : Int) = col - ((k ++ 58 :: 32 :: w).length : Int) + k.length + 2 := by
      simp only [List.length_append, List.length_cons]
      push_cast
      omega
    rw [e3]
    simp [Rt.ps, Rt.b]
  | key k =>
    have hl := List.length_pos_iff.2 h.ne
    show LX.go no col n acc (k ++ [58]) = _
    rw [LX.go_mid (dash_key h), LX.mid, key_of h (by rfl), if_neg (by omega), if_neg (by have := h.len; omega)]
    have e2 : (k ++ [58]).drop (k.length + 1) = [] := by
      rw [List.drop_eq_nil_of_le]; simp
    rw [e2, List.take_left]
    show LX.fin no col _ [] = _
    rw [LX.fin, if_pos rfl]
    rfl
theorem Rw.row {r : Rw} (h : r.t.ok) (no : Int) (hI : r.ind ≤ 16384) : LX.row (no, r.ind, r.c) = (0, r.ps no) := by
  obtain ⟨c, s, e, hc⟩ := Rw.fst h
  have ht : LX.tl r.c = r.c := by rw [e, ltl_self hc]
  unfold LX.row
  simp only
  rw [if_neg (by omega), ht]
  unfold Rw.c
  have hl : (dashes r.m ++ r.t.b).length = (2 * r.m + r.t.b.length - r.m) + r.m := by
    rw [List.length_append, dashes_len]; omega
  obtain ⟨n, hn⟩ : ∃ n, (dashes r.m ++ r.t.b).length = n + r.m := ⟨_, hl⟩
  rw [hn, lgo_dashes _ _ _ _ _ _ (Rt.fst h), Rt.lgo h]
  unfold Rw.ps
  rw [List.nil_append, List.length_append, dashes_len] at *
  congr 2
  · congr 1
    omega
  · congr 1
    push_cast
    omega
end SH
end Go.Proofs.YtgfhabofhefaaaaGreatDoor
