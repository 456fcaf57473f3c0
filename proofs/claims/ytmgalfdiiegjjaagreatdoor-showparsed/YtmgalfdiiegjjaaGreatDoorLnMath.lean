/- Lines of a configuration over lists: remarks, quoted texts, rows, lines, faults. No program is named here. -/
import Derived.Lib.TrimByte
import Derived.Lib.Split
import Derived.Lib.SplitLaws
namespace Go.Proofs.YtmgalfdiiegjjaaGreatDoor
namespace LN

/-- Where a reader of a line stands: outside (behind nothing or a blank?), in what a ' opened, in what a " opened. -/
inductive Q where
  | out (fresh : Bool)
  | one
  | two
/-- How many bytes from here on are said, ahead of a remark; none: a quoted text does not end. -/
def go : Q → List UInt8 → Option Nat
  | .out _, [] => some 0
  | .one, [] => none
  | .two, [] => none
  | .out f, x :: r => if f = true ∧ x = 35 then some 0 else if f = true ∧ x = 39 then (go .one r).map (· + 1) else if f = true ∧ x = 34 then (go .two r).map (· + 1) else (go (.out (x == 32)) r).map (· + 1)
  | .one, [x] => if x = 39 then some 1 else none
  | .one, x :: y :: r => if x = 39 then (if y = 39 then (go .one r).map (· + 2) else (go (.out false) (y :: r)).map (· + 1)) else (go .one (y :: r)).map (· + 1)
  | .two, [x] => if x = 92 then none else if x = 34 then some 1 else none
  | .two, x :: y :: r => if x = 92 then (go .two r).map (· + 2) else if x = 34 then (go (.out false) (y :: r)).map (· + 1) else (go .two (y :: r)).map (· + 1)

/-- The same by places: where what is said ends, of a reader that stands at place i. -/
def fin (l : List UInt8) (i : Nat) (q : Q) : Option Nat := (go q (l.drop i)).map (· + i)
def tr (l : List UInt8) : List UInt8 := Lib.trimRightB l 32
def tl (l : List UInt8) : List UInt8 := Lib.trimLeftB l 32
/-- A line without its remark. -/
def strip (l : List UInt8) : Option (List UInt8) := (fin l 0 (.out true)).map fun e => tr (l.take e)

theorem drop_of {l : List UInt8} {i : Nat} {c : UInt8} (h : l[i]? = some c) : l.drop i = c :: l.drop (i + 1) := by
  have hi : i < l.length := (List.getElem?_eq_some_iff.1 h).1
  rw [List.drop_eq_getElem_cons hi]
  rw [List.getElem?_eq_getElem hi] at h
  rw [Option.some.inj h]
theorem map_add (o : Option Nat) (a b : Nat) : (o.map (· + a)).map (· + b) = o.map (· + (b + a)) := by
  cases o with
  | none => rfl
  | some x => simp; omega
theorem fin_end {l : List UInt8} {i : Nat} {f : Bool} (h : l.length = i) : fin l i (.out f) = some i := by
  unfold fin
  rw [List.drop_eq_nil_of_le (by omega)]
  simp [go]
theorem fin_one_end {l : List UInt8} {i : Nat} (h : l.length ≤ i) : fin l i .one = none := by
  unfold fin
  rw [List.drop_eq_nil_of_le h]
  simp [go]
theorem fin_two_end {l : List UInt8} {i : Nat} (h : l.length ≤ i) : fin l i .two = none := by
  unfold fin
  rw [List.drop_eq_nil_of_le h]
  simp [go]
theorem fin_remark {l : List UInt8} {i : Nat} (h : l[i]? = some 35) : fin l i (.out true) = some i := by
  unfold fin
  rw [drop_of h, go, if_pos ⟨rfl, rfl⟩]; simp
theorem fin_q1 {l : List UInt8} {i : Nat} (h : l[i]? = some 39) : fin l i (.out true) = fin l (i + 1) .one := by
  unfold fin
  rw [drop_of h, go, if_neg (by decide), if_pos ⟨rfl, rfl⟩, map_add]
theorem fin_q2 {l : List UInt8} {i : Nat} (h : l[i]? = some 34) : fin l i (.out true) = fin l (i + 1) .two := by
  unfold fin
  rw [drop_of h, go, if_neg (by decide), if_neg (by decide), if_pos ⟨rfl, rfl⟩, map_add]
theorem fin_plain {l : List UInt8} {i : Nat} {f : Bool} {c : UInt8} (h : l[i]? = some c) (hf : f = false ∨ (c ≠ 35 ∧ c ≠ 39 ∧ c ≠ 34)) : fin l i (.out f) = fin l (i + 1) (.out (c == 32)) := by
  unfold fin
  rw [drop_of h, go, if_neg, if_neg, if_neg, map_add]
  all_goals
    rintro ⟨h1, h2⟩
    rcases hf with h3 | ⟨h3, h4, h5⟩
    · rw [h1] at h3; cases h3
    · contradiction
theorem go_one_pass {l : List UInt8} {i : Nat} {c : UInt8} (h : l[i]? = some c) (hc : c ≠ 39) : fin l i .one = fin l (i + 1) .one := by
  unfold fin
  rw [drop_of h]
  cases hd : l.drop (i + 1) with
  | nil => simp [go, hc]
  | cons y r => rw [go, if_neg hc, map_add]
theorem go_one_two {l : List UInt8} {i : Nat} (h : l[i]? = some 39) (h2 : l[i + 1]? = some 39) : fin l i .one = fin l (i + 2) .one := by
  unfold fin
  rw [drop_of h, drop_of h2, go, if_pos rfl, if_pos rfl, map_add]
theorem go_one_end {l : List UInt8} {i : Nat} (h : l[i]? = some 39) (h2 : l[i + 1]? ≠ some 39) : fin l i .one = fin l (i + 1) (.out false) := by
  unfold fin
  rw [drop_of h]
  cases hd : l.drop (i + 1) with
  | nil => simp [go]; omega
  | cons y r =>
    have : l[i + 1]? = some y := by
      have := congrArg (·[0]?) hd
      simpa using this
    have e : go .one (39 :: y :: r) = (go (.out false) (y :: r)).map (· + 1) := by
      conv => lhs; rw [go, if_pos rfl, if_neg (by rintro rfl; exact h2 this)]
    rw [e, map_add]
theorem go_two_esc {l : List UInt8} {i : Nat} (h : l[i]? = some 92) : fin l i .two = fin l (i + 2) .two := by
  unfold fin
  rw [drop_of h]
  cases hd : l.drop (i + 1) with
  | nil =>
    have : l.drop (i + 2) = [] := List.drop_eq_nil_of_le (by have := List.drop_eq_nil_iff.1 hd; omega)
    rw [this]
    simp [go]
  | cons y r =>
    have : l.drop (i + 2) = r := by
      rw [show i + 2 = (i + 1) + 1 by omega, ← List.drop_drop, hd]; rfl
    rw [go, if_pos rfl, map_add, this]
theorem go_two_end {l : List UInt8} {i : Nat} (h : l[i]? = some 34) : fin l i .two = fin l (i + 1) (.out false) := by
  unfold fin
  rw [drop_of h]
  cases hd : l.drop (i + 1) with
  | nil => simp [go]; omega
  | cons y r =>
    have e : go .two (34 :: y :: r) = (go (.out false) (y :: r)).map (· + 1) := by
      conv => lhs; rw [go, if_neg (by decide), if_pos rfl]
    rw [e, map_add]
theorem go_two_pass {l : List UInt8} {i : Nat} {c : UInt8} (h : l[i]? = some c) (hc : c ≠ 92) (hc' : c ≠ 34) : fin l i .two = fin l (i + 1) .two := by
  unfold fin
  rw [drop_of h]
  cases hd : l.drop (i + 1) with
  | nil => simp [go, hc, hc']
  | cons y r => rw [go, if_neg hc, if_neg hc', map_add]

theorem go_le (q : Q) (l : List UInt8) : ∀ e, go q l = some e → e ≤ l.length := by
  fun_induction go q l <;> intro e h
  all_goals simp_all
  all_goals first
    | omega
    | (obtain ⟨a, h1, h2⟩ := h; rename_i ih; have := ih _ h1; omega)
    | skip
theorem fin_le {l : List UInt8} {e : Nat} (h : fin l 0 (.out true) = some e) : e ≤ l.length := by
  unfold fin at h
  simp at h
  exact go_le _ _ _ h

theorem down {x : UInt8} {r : List UInt8} {m e : Nat} (hb : ∀ j, m + 1 ≤ j → j < e + 1 → (x :: r)[j]? = some 32) : ∀ j, m ≤ j → j < e → r[j]? = some 32 := fun j h1 h2 => by
  have := hb (j + 1) (by omega) (by omega)
  simpa using this
theorem map_some {o : Option Nat} {k e : Nat} (h : o.map (· + k) = some e) : ∃ e', o = some e' ∧ e = e' + k := by
  cases o with
  | none => cases h
  | some x => exact ⟨x, rfl, by simpa using h.symm⟩
/-- What was said, cut anywhere in the blanks at its end, is said again. -/
theorem go_take (q : Q) (l : List UInt8) : ∀ e m, go q l = some e → m ≤ e → (∀ j, m ≤ j → j < e → l[j]? = some 32) → go q (l.take m) = some m := by
  fun_induction go q l <;> intro e m h hm hb
  case case1 => obtain rfl := Option.some.inj h; obtain rfl : m = 0 := by omega
                simp [go]
  case case2 => cases h
  case case3 => cases h
  case case4 f x r hx =>
    obtain rfl := Option.some.inj h
    obtain rfl : m = 0 := by omega
    simp [go]
  case case5 f x r hx hy ih =>
    obtain ⟨rfl, rfl⟩ := hy
    obtain ⟨e, h', rfl⟩ := map_some h
    clear h
    cases m with
    | zero => simp [go]
    | succ m =>
      have := ih e m h' (by omega) (down hb)
      simp [go, this]
  case case6 f x r hx hx2 hy ih =>
    obtain ⟨rfl, rfl⟩ := hy
    obtain ⟨e, h', rfl⟩ := map_some h
    clear h
    cases m with
    | zero => simp [go]
    | succ m =>
      have := ih e m h' (by omega) (down hb)
      simp [go, this]
  case case7 f x r hx hx2 hx3 ih =>
    obtain ⟨e, h', rfl⟩ := map_some h
    clear h
    cases m with
    | zero => simp [go]
    | succ m =>
      have := ih e m h' (by omega) (down hb)
      rw [List.take_succ_cons, go, if_neg hx, if_neg hx2, if_neg hx3, this]
      rfl
  case case8 =>
    obtain rfl := Option.some.inj h
    rcases Nat.eq_zero_or_pos m with rfl | h1
    · have := hb 0 (by omega) (by omega); simp at this
    · obtain rfl : m = 1 := by omega
      simp [go]
  case case9 => cases h
  case case10 r ih =>
    obtain ⟨e, h', rfl⟩ := map_some h
    clear h
    match m with
    | 0 => have := hb 0 (by omega) (by omega); simp at this
    | 1 => have := hb 1 (by omega) (by omega); simp at this
    | m + 2 =>
      have := ih e m h' (by omega) (down (x := 39) (down hb))
      rw [List.take_succ_cons, List.take_succ_cons, go, if_pos rfl, if_pos rfl, this]
      rfl
  case case11 y r hy ih =>
    obtain ⟨e, h', rfl⟩ := map_some h
    clear h
    match m with
    | 0 => have := hb 0 (by omega) (by omega); simp at this
    | 1 => simp [go]
    | m + 2 =>
      have := ih e (m + 1) h' (by omega) (down hb)
      rw [List.take_succ_cons] at this
      rw [List.take_succ_cons, List.take_succ_cons, go, if_pos rfl, if_neg hy, this]
      rfl
  case case12 x y r hx ih =>
    obtain ⟨e, h', rfl⟩ := map_some h
    clear h
    match m with
    | 0 =>
      have := ih e 0 h' (by omega) (fun j h1 h2 => by have := hb (j + 1) (by omega) (by omega); simpa using this)
      simp [go] at this
    | 1 =>
      have := ih e 0 h' (by omega) (down hb)
      simp [go] at this
    | m + 2 =>
      have := ih e (m + 1) h' (by omega) (down hb)
      rw [List.take_succ_cons] at this
      rw [List.take_succ_cons, List.take_succ_cons, go, if_neg hx, this]
      rfl
  case case13 => cases h
  case case14 =>
    obtain rfl := Option.some.inj h
    rcases Nat.eq_zero_or_pos m with rfl | h1
    · have := hb 0 (by omega) (by omega); simp at this
    · obtain rfl : m = 1 := by omega
      simp [go]
  case case15 => cases h
  case case16 y r ih =>
    obtain ⟨e, h', rfl⟩ := map_some h
    clear h
    match m with
    | 0 => have := hb 0 (by omega) (by omega); simp at this
    | 1 =>
      have := ih e 0 h' (by omega) (fun j h1 h2 => by have := hb (j + 2) (by omega) (by omega); simpa using this)
      simp [go] at this
    | m + 2 =>
      have := ih e m h' (by omega) (down (x := y) (down hb))
      rw [List.take_succ_cons, List.take_succ_cons, go, if_pos rfl, this]
      rfl
  case case17 y r hy ih =>
    obtain ⟨e, h', rfl⟩ := map_some h
    clear h
    match m with
    | 0 => have := hb 0 (by omega) (by omega); simp at this
    | 1 => simp [go]
    | m + 2 =>
      have := ih e (m + 1) h' (by omega) (down hb)
      rw [List.take_succ_cons] at this
      rw [List.take_succ_cons, List.take_succ_cons, go, if_neg hy, if_pos rfl, this]
      rfl
  case case18 x y r hx hx2 ih =>
    obtain ⟨e, h', rfl⟩ := map_some h
    clear h
    match m with
    | 0 =>
      have := ih e 0 h' (by omega) (fun j h1 h2 => by have := hb (j + 1) (by omega) (by omega); simpa using this)
      simp [go] at this
    | 1 =>
      have := ih e 0 h' (by omega) (down hb)
      simp [go] at this
    | m + 2 =>
      have := ih e (m + 1) h' (by omega) (down hb)
      rw [List.take_succ_cons] at this
      rw [List.take_succ_cons, List.take_succ_cons, go, if_neg hx, if_neg hx2, this]
      rfl

/-- The blanks at the end: where they begin. -/
theorem tr_take (l : List UInt8) : ∃ k, k ≤ l.length ∧ tr l = l.take k ∧ (∀ j, k ≤ j → j < l.length → l[j]? = some 32) ∧ (0 < k → l[k - 1]? ≠ some 32) := by
  unfold tr Lib.trimRightB
  generalize hr : l.reverse = r
  have hl : l = r.reverse := by rw [← hr, List.reverse_reverse]
  subst hl
  clear hr
  induction r with
  | nil => exact ⟨0, by simp, by simp, by simp, by simp⟩
  | cons x r ih =>
    by_cases hx : x = 32
    · obtain ⟨k, h1, h2, h3, h4⟩ := ih
      subst hx
      refine ⟨k, by simp at h1 ⊢; omega, ?_, ?_, ?_⟩
      · rw [List.dropWhile_cons_of_pos (by rfl), h2]
        simp only [List.reverse_cons]
        rw [List.take_append_of_le_length h1]
      · intro j hj1 hj2
        simp only [List.reverse_cons, List.length_append, List.length_cons, List.length_nil] at hj2 ⊢
        rcases Nat.lt_or_ge j r.reverse.length with h | h
        · rw [List.getElem?_append_left h]; exact h3 j hj1 h
        · rw [List.getElem?_append_right h, show j - r.reverse.length = 0 by omega]; rfl
      · intro hk
        have hkl := h1
        simp only [List.reverse_cons]
        rw [List.getElem?_append_left (by omega)]
        exact h4 hk
    · refine ⟨r.length + 1, by simp, ?_, ?_, ?_⟩
      · rw [List.dropWhile_cons_of_neg (by simpa using hx), List.take_of_length_le (by simp)]
      · intro j h1 h2; simp at h2; omega
      · intro _
        simp [hx]
theorem tr_uniq {l : List UInt8} {k : Nat} (hk : k ≤ l.length) (h1 : ∀ j, k ≤ j → j < l.length → l[j]? = some 32) (h2 : 0 < k → l[k - 1]? ≠ some 32) : tr l = l.take k := by
  obtain ⟨m, hm, e, g1, g2⟩ := tr_take l
  have : m = k := by
    rcases Nat.lt_trichotomy m k with h | h | h
    · exact absurd (g1 (k - 1) (by omega) (by omega)) (h2 (by omega))
    · exact h
    · exact absurd (h1 (m - 1) (by omega) (by omega)) (g2 (by omega))
  rw [e, this]
theorem tr_ne {l : List UInt8} (h : ∀ c, l[l.length - 1]? = some c → c ≠ 32) : tr l = l := by
  have := tr_uniq (l := l) (Nat.le_refl _) (fun j h1 h2 => by omega) (fun _ e => h _ e rfl)
  rw [this, List.take_length]

/-- Stripped once, as it is stripped again; a beginning of what it was. -/
theorem strip_again {l x : List UInt8} (h : strip l = some x) : strip x = some x ∧ x.length ≤ l.length ∧ l.take x.length = x := by
  unfold strip at h
  cases hf : fin l 0 (.out true) with
  | none => rw [hf] at h; cases h
  | some e =>
    rw [hf] at h
    have hx : tr (l.take e) = x := by simpa using h
    have hel := fin_le hf
    have hg : go (.out true) l = some e := by
      unfold fin at hf; simpa using hf
    obtain ⟨k, h1, h2, h3, h4⟩ := tr_take (l.take e)
    have hlt : (l.take e).length = e := by simp; omega
    rw [hlt] at h1 h3
    rw [hx, List.take_take, Nat.min_eq_left h1] at h2
    have hgk := go_take _ _ e k hg h1 (fun j j1 j2 => by have := h3 j j1 j2; rwa [List.getElem?_take_of_lt j2] at this)
    have hxl : x.length = k := by rw [h2]; simp; omega
    refine ⟨?_, by omega, by rw [hxl, h2]⟩
    have hfx : fin x 0 (.out true) = some k := by
      unfold fin
      rw [h2]
      simp [hgk]
    unfold strip
    rw [hfx]
    show some (tr (x.take k)) = some x
    rw [← hxl, List.take_length, tr_ne]
    intro c hc e32
    subst e32
    rw [hxl, h2] at hc
    by_cases hk0 : 0 < k
    · rw [List.getElem?_take_of_lt (by omega)] at hc
      have := h4 hk0
      rw [List.getElem?_take_of_lt (by omega)] at this
      exact this hc
    · obtain rfl : k = 0 := by omega
      simp at hc

/-- The rows of a text: what stands between its bytes 10. -/
def rows : List UInt8 → List (List UInt8)
  | [] => [[]]
  | x :: r => if x = 10 then [] :: rows r else match rows r with
    | [] => [[x]]
    | h :: t => (x :: h) :: t
theorem rows_ne (l : List UInt8) : ∃ h t, rows l = h :: t := by
  cases l with
  | nil => exact ⟨_, _, rfl⟩
  | cons x r =>
    unfold rows
    split
    · exact ⟨_, _, rfl⟩
    · split
      · exact ⟨_, _, rfl⟩
      · exact ⟨_, _, rfl⟩
theorem rows_app (a b : List UInt8) : rows (a ++ 10 :: b) = rows a ++ rows b := by
  induction a with
  | nil => simp [rows]
  | cons x a ih =>
    rw [List.cons_append]
    by_cases hx : x = 10
    · rw [rows, if_pos hx, ih]
      conv => rhs; rw [rows, if_pos hx]
      rfl
    · obtain ⟨h, t, e⟩ := rows_ne a
      rw [rows, if_neg hx, ih, e]
      conv => rhs; rw [rows, if_neg hx, e]
      rfl
theorem rows_one {a : List UInt8} (h : 10 ∉ a) : rows a = [a] := by
  induction a with
  | nil => rfl
  | cons x a ih =>
    have h1 : x ≠ 10 := fun e => h (by simp [e])
    have h2 : 10 ∉ a := fun e => h (by simp [e])
    rw [rows, if_neg h1, ih h2]
theorem rows_len (l : List UInt8) : (rows l).length = l.count 10 + 1 := by
  induction l with
  | nil => rfl
  | cons x r ih =>
    by_cases hx : x = 10
    · subst hx
      rw [rows, if_pos rfl]
      simp [ih]
    · obtain ⟨h, t, e⟩ := rows_ne r
      rw [rows, if_neg hx, e, List.count_cons_of_ne (by simpa using hx), ← ih, e]
      rfl
theorem rows_le (l : List UInt8) : ∀ r ∈ rows l, r.length ≤ l.length := by
  induction l with
  | nil => intro r h; simp [rows] at h; simp [h]
  | cons x l ih =>
    intro r h
    by_cases hx : x = 10
    · rw [rows, if_pos hx] at h
      rcases List.mem_cons.1 h with rfl | h
      · simp
      · have := ih r h
        simp; omega
    · obtain ⟨a, t, e⟩ := rows_ne l
      rw [rows, if_neg hx, e] at h
      rw [e] at ih
      rcases List.mem_cons.1 h with rfl | h
      · have := ih a (by simp)
        simp; omega
      · have := ih r (by simp [h])
        simp; omega
theorem index10 (l : List UInt8) : (Lib.index l [10] = -1 ∧ 10 ∉ l) ∨ ∃ i : Nat, Lib.index l [10] = i ∧ 10 ∉ l.take i ∧ l[i]? = some 10 := by
  induction l with
  | nil => exact .inl ⟨by simp [Lib.index], by simp⟩
  | cons x r ih =>
    by_cases hx : x = 10
    · subst hx
      exact .inr ⟨0, by simp [Lib.index], by simp, by simp⟩
    · have hp : ([10] : List UInt8).isPrefixOf (x :: r) = false := by
        have : ((10 : UInt8) == x) = false := beq_eq_false_iff_ne.2 fun e => hx e.symm
        show ((10 : UInt8) == x && _) = false
        rw [this]; rfl
      rcases ih with ⟨h1, h2⟩ | ⟨i, h1, h2, h3⟩
      · exact .inl ⟨by rw [Lib.index, hp]; simp [h1], by simp; exact ⟨fun e => hx e.symm, h2⟩⟩
      · refine .inr ⟨i + 1, ?_, ?_, by simpa using h3⟩
        · rw [Lib.index, hp]
          simp [h1]
        · rw [List.take_succ_cons]; simp; exact ⟨fun e => hx e.symm, h2⟩
theorem split_rows : ∀ (k : Nat) (l : List UInt8), l.count 10 ≤ k → Lib.splitK [10] 0 k l = rows l
  | 0, l, h => by
    have : 10 ∉ l := List.count_eq_zero.1 (by omega)
    rw [rows_one this]; rfl
  | k + 1, l, h => by
    unfold Lib.splitK
    rcases index10 l with ⟨h1, h2⟩ | ⟨i, h1, h2, h3⟩
    · rw [if_pos (by rw [h1]; rfl), rows_one h2]
    · have hi : i < l.length := (List.getElem?_eq_some_iff.1 h3).1
      have e : l = l.take i ++ 10 :: l.drop (i + 1) := by
        conv => lhs; rw [← List.take_append_drop i l, drop_of h3]
      have hc : (l.drop (i + 1)).count 10 ≤ k := by
        have := congrArg (List.count 10) e
        rw [List.count_append, List.count_cons_self] at this
        omega
      rw [if_neg (by rw [h1]; simp), h1]
      have e1 : ((i : Int)).toNat = i := by omega
      rw [e1]
      show l.take i :: Lib.splitK [10] 0 k (l.drop (i + 1)) = _
      rw [split_rows k _ hc]
      conv => rhs; rw [e, rows_app, rows_one h2]
      rfl
theorem split_all (l : List UInt8) : Lib.splitK [10] 0 (Lib.count l [10]) l = rows l := split_rows _ l (by rw [Lib.count_one]; exact Nat.le_refl _)

/-- A line: its number, the blanks at its front, what it says. -/
abbrev Ln := Nat × Nat × List UInt8
def bad (r : List UInt8) : Bool := r.any fun c => decide (c.toNat < 32) || decide (c.toNat = 127)
def kind (r : List UInt8) : Nat := if bad r = true then 2 else if strip (tl r) = none then 3 else 0
def said (r : List UInt8) : List UInt8 := (strip (tl r)).getD []
def ind (r : List UInt8) : Nat := r.length - (tl r).length
/-- What is wrong with the first row that may not be, and where it stands. -/
def flt : Nat → List (List UInt8) → Nat × Nat
  | _, [] => (0, 0)
  | n, r :: rs => if kind r = 0 then flt (n + 1) rs else (kind r, n)
/-- The lines that say something. -/
def lns : Nat → List (List UInt8) → List Ln
  | _, [] => []
  | n, r :: rs => if said r = [] then lns (n + 1) rs else (n, ind r, said r) :: lns (n + 1) rs
def outF (l : List UInt8) : Nat × Nat := if 16384 < l.length then (1, 1) else flt 1 (rows l)
def outL (l : List UInt8) : List Ln := if outF l = (0, 0) then lns 1 (rows l) else []

theorem flt_zero : ∀ (n : Nat) (rs : List (List UInt8)), flt n rs = (0, 0) ∨ ((flt n rs).1 ≠ 0 ∧ n ≤ (flt n rs).2 ∧ (flt n rs).2 < n + rs.length)
  | _, [] => .inl rfl
  | n, r :: rs => by
    unfold flt
    by_cases h : kind r = 0
    · rw [if_pos h]
      rcases flt_zero (n + 1) rs with h1 | ⟨h1, h2, h3⟩
      · exact .inl h1
      · exact .inr ⟨h1, by omega, by simp; omega⟩
    · rw [if_neg h]
      exact .inr ⟨h, Nat.le_refl _, by simp⟩
theorem flt_app : ∀ (n : Nat) (a b : List (List UInt8)), flt n (a ++ b) = if flt n a = (0, 0) then flt (n + a.length) b else flt n a
  | n, [], b => by simp [flt]
  | n, r :: a, b => by
    have e : n + (r :: a).length = n + 1 + a.length := by simp; omega
    rw [List.cons_append, e, flt.eq_2, flt.eq_2]
    by_cases h : kind r = 0
    · rw [if_pos h, if_pos h, flt_app (n + 1) a b]
    · rw [if_neg h, if_neg h, if_neg (by simp [h])]
theorem lns_app : ∀ (n : Nat) (a b : List (List UInt8)), lns n (a ++ b) = lns n a ++ lns (n + a.length) b
  | n, [], b => by simp [lns]
  | n, r :: a, b => by
    have e : n + (r :: a).length = n + 1 + a.length := by simp; omega
    rw [List.cons_append, e, lns.eq_2, lns.eq_2]
    by_cases h : said r = []
    · rw [if_pos h, if_pos h, lns_app (n + 1) a b]
    · rw [if_neg h, if_neg h, lns_app (n + 1) a b]; rfl
theorem lns_bound : ∀ (n : Nat) (a : List (List UInt8)), ∀ x ∈ lns n a, n ≤ x.1 ∧ x.1 < n + a.length
  | _, [], x, h => by cases h
  | n, r :: a, x, h => by
    unfold lns at h
    by_cases hs : said r = []
    · rw [if_pos hs] at h
      have := lns_bound (n + 1) a x h
      simp; omega
    · rw [if_neg hs] at h
      rcases List.mem_cons.1 h with rfl | h
      · simp
      · have := lns_bound (n + 1) a x h
        simp; omega
/-- A line behind row 'no' has one more. -/
def up (no : Nat) (x : Ln) : Ln := (if no < x.1 then x.1 + 1 else x.1, x.2.1, x.2.2)
def upF (no : Nat) (f : Nat × Nat) : Nat × Nat := (f.1, if no < f.2 then f.2 + 1 else f.2)
theorem lns_up (no : Nat) : ∀ (n : Nat) (a : List (List UInt8)), no < n → lns (n + 1) a = (lns n a).map (up no)
  | _, [], _ => rfl
  | n, r :: a, h => by
    unfold lns
    by_cases hs : said r = []
    · rw [if_pos hs, if_pos hs, lns_up no (n + 1) a (by omega)]
    · rw [if_neg hs, if_neg hs, List.map_cons, lns_up no (n + 1) a (by omega)]
      simp [up, h]
theorem flt_up (no : Nat) : ∀ (n : Nat) (a : List (List UInt8)), no < n → flt (n + 1) a = upF no (flt n a)
  | _, [], _ => by simp [flt, upF]
  | n, r :: a, h => by
    unfold flt
    by_cases hs : kind r = 0
    · rw [if_pos hs, if_pos hs, flt_up no (n + 1) a (by omega)]
    · rw [if_neg hs, if_neg hs]
      simp [upF, h]
theorem lns_stay {no n : Nat} {a : List (List UInt8)} (h : n + a.length ≤ no + 1) : (lns n a).map (up no) = lns n a := by
  conv => rhs; rw [← List.map_id (lns n a)]
  apply List.map_congr_left
  intro x hx
  have := lns_bound n a x hx
  simp [up]
  rw [if_neg (by omega)]
theorem flt_stay {no n : Nat} {a : List (List UInt8)} (h : n + a.length ≤ no + 1) : upF no (flt n a) = flt n a := by
  rcases flt_zero n a with h1 | ⟨_, _, h3⟩
  · rw [h1]; simp [upF]
  · unfold upF
    rw [if_neg (by omega)]

theorem kind_lt (r : List UInt8) : kind r < 4 := by
  unfold kind
  split
  · decide
  · split <;> decide
theorem flt_step {rs : List (List UInt8)} {k : Nat} {r : List UInt8} (h : rs[k]? = some r) : flt (k + 1) (rs.drop k) = if kind r = 0 then flt (k + 2) (rs.drop (k + 1)) else (kind r, k + 1) := by
  have hk := (List.getElem?_eq_some_iff.1 h).1
  rw [List.drop_eq_getElem_cons hk]
  rw [List.getElem?_eq_getElem hk] at h
  rw [Option.some.inj h, flt]
theorem lns_step {rs : List (List UInt8)} {k : Nat} {r : List UInt8} (h : rs[k]? = some r) : lns (k + 1) (rs.drop k) = if said r = [] then lns (k + 2) (rs.drop (k + 1)) else (k + 1, ind r, said r) :: lns (k + 2) (rs.drop (k + 1)) := by
  have hk := (List.getElem?_eq_some_iff.1 h).1
  rw [List.drop_eq_getElem_cons hk]
  rw [List.getElem?_eq_getElem hk] at h
  rw [Option.some.inj h, lns]
/-- A row that says nothing, put in. -/
theorem put_in (xs ys : List (List UInt8)) (r : List UInt8) (hk : kind r = 0) (hs : said r = []) :
    flt 1 (xs ++ r :: ys) = upF xs.length (flt 1 (xs ++ ys)) ∧ lns 1 (xs ++ r :: ys) = (lns 1 (xs ++ ys)).map (up xs.length) := by
  constructor
  · rw [flt_app, flt_app]
    by_cases h : flt 1 xs = (0, 0)
    · rw [if_pos h, if_pos h, ← flt_up _ _ _ (by omega), flt, if_pos hk]
    · rw [if_neg h, if_neg h, flt_stay (by omega)]
  · rw [lns_app, lns_app, List.map_append, lns_stay (by omega), ← lns_up _ _ _ (by omega), lns, if_pos hs]
end LN
end Go.Proofs.YtmgalfdiiegjjaaGreatDoor
