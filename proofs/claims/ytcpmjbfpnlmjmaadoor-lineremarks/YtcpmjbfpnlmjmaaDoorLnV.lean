/- A remark put in among lines, over lists. No program is named here. -/
import Derived.Test.YtcpmjbfpnlmjmaaDoorLnU
namespace Go.Proofs.YtcpmjbfpnlmjmaaDoor
namespace LN

/-- What of a remark's bytes is put in. -/
def kept (rm : List UInt8) : List UInt8 := rm.filter fun c => !wrongB c
/-- The line that is put in. -/
def more (n : Nat) (rm : List UInt8) : List UInt8 := (List.replicate n 32 ++ (if rm = [] then [] else [35])) ++ kept rm
theorem kept_next {rm : List UInt8} {j : Nat} {c : UInt8} (h : rm[j]? = some c) : kept (rm.take (j + 1)) = if wrongB c = true then kept (rm.take j) else kept (rm.take j) ++ [c] := by
  have hj := (List.getElem?_eq_some_iff.1 h).1
  rw [List.take_succ_eq_append_getElem hj]
  rw [List.getElem?_eq_getElem hj] at h
  rw [Option.some.inj h]
  unfold kept
  rw [List.filter_append]
  by_cases hw : wrongB c = true
  · simp [hw]
  · have : wrongB c = false := by simpa using hw
    simp [this]
theorem kept_len (rm : List UInt8) : (kept rm).length ≤ rm.length := List.length_filter_le _ _
theorem more_fine (n : Nat) (rm : List UInt8) : ∀ c ∈ more n rm, wrongB c = false := by
  intro c hc
  unfold more at hc
  rw [List.mem_append, List.mem_append] at hc
  rcases hc with (h | h) | h
  · rw [(List.mem_replicate.1 h).2]; decide
  · split at h
    · cases h
    · rw [List.mem_singleton.1 h]; decide
  · have := (List.mem_filter.1 h).2
    simpa using this
theorem more_ten (n : Nat) (rm : List UInt8) : 10 ∉ more n rm := fun h => by
  have := more_fine n rm 10 h
  revert this; decide
theorem more_bad (n : Nat) (rm : List UInt8) : bad (more n rm) = false := by
  unfold bad
  rw [List.any_eq_false]
  intro c hc
  have := more_fine n rm c hc
  unfold wrongB at this
  rw [this]; simp
theorem more_len (n : Nat) (rm : List UInt8) : (more n rm).length ≤ n + 1 + rm.length := by
  unfold more
  have := kept_len rm
  rw [List.length_append, List.length_append, List.length_replicate]
  split <;> simp <;> omega
theorem tl_blanks (n : Nat) (l : List UInt8) (h : ∀ c, l[0]? = some c → c ≠ 32) : tl (List.replicate n 32 ++ l) = l := by
  rw [tl_drop (m := n) (by simp) (fun j hj => by rw [List.getElem?_append_left (by simpa using hj)]; simp [hj]) (fun c hc => h c (by rw [List.getElem?_append_right (by simp)] at hc; simpa using hc))]
  simp
theorem more_says (n : Nat) (rm : List UInt8) : strip (tl (more n rm)) = some [] := by
  unfold more
  rw [List.append_assoc, tl_blanks]
  · by_cases h : rm = []
    · subst h; decide
    · rw [if_neg h]
      show strip (35 :: kept rm) = _
      unfold strip
      rw [fin_remark (by rfl)]
      simp [tr, Lib.trimRightB]
  · intro c hc
    by_cases h : rm = []
    · subst h; cases hc
    · rw [if_neg h] at hc
      obtain rfl : c = 35 := by simpa using hc.symm
      decide
theorem more_kind (n : Nat) (rm : List UInt8) : kind (more n rm) = 0 := by
  unfold kind
  rw [more_bad, if_neg (by simp), more_says, if_neg (by simp)]
theorem more_said (n : Nat) (rm : List UInt8) : said (more n rm) = [] := by
  unfold said
  rw [more_says]; rfl
/-- The text with the line put in. -/
def with1 (bs : List UInt8) (k : Nat) (m : List UInt8) : List UInt8 := ((bs.take k ++ m) ++ [10]) ++ bs.drop k
theorem with1_rows {bs m : List UInt8} {k : Nat} (hm : 10 ∉ m) (hk : k ≤ bs.length) (h : k = 0 ∨ bs[k - 1]? = some 10) : ∃ xs ys, rows bs = xs ++ ys ∧ rows (with1 bs k m) = xs ++ m :: ys ∧ xs.length = (bs.take k).count 10 := by
  rcases Nat.eq_zero_or_pos k with rfl | hp
  · refine ⟨[], rows bs, rfl, ?_, by simp⟩
    have : with1 bs 0 m = m ++ 10 :: bs := by simp [with1]
    rw [this, rows_app, rows_one hm]; rfl
  · have hc : bs[k - 1]? = some 10 := by
      rcases h with h | h
      · omega
      · exact h
    obtain ⟨p, rfl⟩ : ∃ p, k = p + 1 := ⟨k - 1, by omega⟩
    have hc' : bs[p]? = some 10 := hc
    have hlt := (List.getElem?_eq_some_iff.1 hc').1
    have ht : bs.take (p + 1) = bs.take p ++ [10] := by
      rw [List.take_succ_eq_append_getElem hlt]
      rw [List.getElem?_eq_getElem hlt] at hc'
      rw [Option.some.inj hc']
    refine ⟨rows (bs.take p), rows (bs.drop (p + 1)), ?_, ?_, ?_⟩
    · conv => lhs; rw [← List.take_append_drop p bs, drop_of hc', rows_app]
    · have : with1 bs (p + 1) m = bs.take p ++ 10 :: (m ++ 10 :: bs.drop (p + 1)) := by
        unfold with1
        rw [ht]; simp
      rw [this, rows_app, rows_app, rows_one hm]; rfl
    · rw [rows_len, ht, List.count_append]; simp
theorem with1_len (bs m : List UInt8) (k : Nat) : (with1 bs k m).length = bs.length + m.length + 1 := by
  have := congrArg List.length (List.take_append_drop k bs)
  rw [List.length_append] at this
  unfold with1
  simp only [List.length_append, List.length_cons, List.length_nil]
  omega
theorem upF_zero (no : Nat) (f : Nat × Nat) : upF no f = (0, 0) ↔ f = (0, 0) := by
  obtain ⟨a, b⟩ := f
  unfold upF
  simp only [Prod.mk.injEq]
  constructor
  · rintro ⟨h1, h2⟩
    split at h2
    · omega
    · exact ⟨h1, h2⟩
  · rintro ⟨rfl, rfl⟩
    simp
/-- A remark that is put in turns nothing but the numbers behind it. -/
theorem remark_math {bs rm : List UInt8} {k n no : Nat} (hb : bs.length ≤ 5000) (hn : n ≤ 50) (hr : rm.length ≤ 200) (hk : k ≤ bs.length) (h : k = 0 ∨ bs[k - 1]? = some 10) (hno : no = (bs.take k).count 10) :
    outF (with1 bs k (more n rm)) = upF no (outF bs) ∧ outL (with1 bs k (more n rm)) = (outL bs).map (up no) := by
  obtain ⟨xs, ys, h1, h2, h3⟩ := with1_rows (more_ten n rm) hk h
  have hl := with1_len bs (more n rm) k
  have hml := more_len n rm
  obtain ⟨p1, p2⟩ := put_in xs ys (more n rm) (more_kind n rm) (more_said n rm)
  rw [h3, ← hno] at p1 p2
  have e1 : outF (with1 bs k (more n rm)) = upF no (outF bs) := by
    unfold outF
    rw [if_neg (by omega), if_neg (by omega), h2, p1, h1]
  refine ⟨e1, ?_⟩
  unfold outL
  rw [e1]
  by_cases hz : outF bs = (0, 0)
  · rw [if_pos ((upF_zero no _).2 hz), if_pos hz, h2, p2, h1]
  · rw [if_neg (fun e => hz ((upF_zero no _).1 e)), if_neg hz]; rfl
theorem lns_len : ∀ (n : Nat) (rs : List (List UInt8)), (lns n rs).length ≤ rs.length
  | _, [] => Nat.le_refl _
  | n, r :: rs => by
    have := lns_len (n + 1) rs
    unfold lns
    split <;> simp <;> omega
theorem out_small {bs : List UInt8} (hb : bs.length ≤ 5000) : (outL bs).length ≤ 6000 ∧ (∀ x ∈ outL bs, x.1 ≤ 6000) ∧ (outF bs).2 ≤ 6000 := by
  have hr : (rows bs).length ≤ 5001 := by
    rw [rows_len]
    have := List.count_le_length (a := (10 : UInt8)) (l := bs)
    omega
  have h1 := lns_len 1 (rows bs)
  have h2 := lns_bound 1 (rows bs)
  refine ⟨?_, ?_, ?_⟩
  · unfold outL
    split
    · omega
    · simp
  · intro x hx
    unfold outL at hx
    split at hx
    · have := h2 x hx
      omega
    · cases hx
  · unfold outF
    rw [if_neg (by omega)]
    rcases flt_zero 1 (rows bs) with h | ⟨_, _, h⟩
    · rw [h]; simp
    · omega
end LN
end Go.Proofs.YtcpmjbfpnlmjmaaDoor
