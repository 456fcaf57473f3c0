/- Frames out of pieces, as plain functions: what is told of bytes and of more bytes behind them; a reader's state; what a row of pieces comes to. -/
import Derived.Test.YtaajdodicepbdaaFrMath
namespace Go.Proofs.Ytaajdodicepbdaa
namespace F

theorem next_app {a : List UInt8} {m : Nat} (c : List UInt8) (h : (next a m).2.2 ≠ 3) : next (a ++ c) m = next a m := by
  have h3 : V.ge a ≠ 3 := by
    intro h3
    rw [next_wrong (by omega)] at h
    exact h h3
  have e : V.get (a ++ c) 0 0 = V.get a 0 0 := V.get_app a c 0 0 h3
  have e1 : V.gv (a ++ c) = V.gv a := by unfold V.gv; rw [e]
  have e2 : V.gn (a ++ c) = V.gn a := by unfold V.gn; rw [e]
  have e3 : V.ge (a ++ c) = V.ge a := by unfold V.ge; rw [e]
  by_cases h0 : V.ge a = 0
  · by_cases h1 : m < V.gv a
    · rw [next_big h0 h1, next_big (by omega) (by omega)]
    · by_cases h2 : a.length < V.gn a + V.gv a
      · rw [next_more h0 h1 h2] at h
        exact absurd rfl h
      · rw [next_ok h0 h1 h2, next_ok (by omega) (by omega) (by rw [e1, e2, List.length_append]; omega), e1, e2, List.take_append_of_le_length (by omega)]
  · rw [next_wrong h0, next_wrong (by omega), e3]

theorem next_e4 (a : List UInt8) (m : Nat) : (next a m).2.2 = 0 ∨ (next a m).2.2 = 2 ∨ (next a m).2.2 = 3 ∨ (next a m).2.2 = 4 := by
  by_cases h : V.ge a = 0
  · by_cases h2 : m < V.gv a
    · rw [next_big h h2]; simp
    · by_cases h3 : a.length < V.gn a + V.gv a
      · rw [next_more h h2 h3]; simp
      · rw [next_ok h h2 h3]; simp
  · rw [next_wrong h]
    have := V.ge_123 (bs := a)
    show V.ge a = 0 ∨ V.ge a = 2 ∨ V.ge a = 3 ∨ V.ge a = 4
    omega

theorem all_facts (m : Nat) : ∀ (k : Nat) (a : List UInt8), a.length ≤ k → (all a m).2.1 ≤ a.length ∧ ((all a m).2.2 = 0 ∨ (all a m).2.2 = 2 ∨ (all a m).2.2 = 3 ∨ (all a m).2.2 = 4) ∧ (all a m).1.length ≤ a.length
  | 0, a, h => by
    obtain rfl : a = [] := List.length_eq_zero_iff.1 (by omega)
    rw [all_nil]; simp
  | k + 1, a, h => by
    by_cases hn : a = []
    · subst hn; rw [all_nil]; simp
    · by_cases he : (next a m).2.2 = 0
      · have hc := next_cases a m
        have hl : (a.drop (next a m).2.1).length = a.length - (next a m).2.1 := by simp
        obtain ⟨i1, i2, i3⟩ := all_facts m k (a.drop (next a m).2.1) (by omega)
        rw [all_step hn he]
        refine ⟨?_, i2, ?_⟩
        · show (next a m).2.1 + _ ≤ _; omega
        · show _ + 1 ≤ _; omega
      · rw [all_wrong hn he]
        have := next_e4 a m
        refine ⟨by simp, ?_, by simp⟩
        exact this
theorem all_n (a : List UInt8) (m : Nat) : (all a m).2.1 ≤ a.length := (all_facts m _ a (Nat.le_refl _)).1
theorem all_e (a : List UInt8) (m : Nat) : (all a m).2.2 = 0 ∨ (all a m).2.2 = 2 ∨ (all a m).2.2 = 3 ∨ (all a m).2.2 = 4 := (all_facts m _ a (Nat.le_refl _)).2.1
theorem all_few (a : List UInt8) (m : Nat) : (all a m).1.length ≤ a.length := (all_facts m _ a (Nat.le_refl _)).2.2

/-- What is told of bytes, and of more behind them. -/
theorem all_app (m : Nat) (c : List UInt8) : ∀ (k : Nat) (a : List UInt8), a.length ≤ k →
    ((all a m).2.2 = 0 ∨ (all a m).2.2 = 3 → all (a ++ c) m = ((all a m).1 ++ (all (a.drop (all a m).2.1 ++ c) m).1, (all a m).2.1 + (all (a.drop (all a m).2.1 ++ c) m).2.1, (all (a.drop (all a m).2.1 ++ c) m).2.2)) ∧
    (¬ ((all a m).2.2 = 0 ∨ (all a m).2.2 = 3) → all (a ++ c) m = all a m)
  | 0, a, h => by
    obtain rfl : a = [] := List.length_eq_zero_iff.1 (by omega)
    rw [all_nil]; simp
  | k + 1, a, h => by
    by_cases hn : a = []
    · subst hn; rw [all_nil]; simp
    · have hn2 : a ++ c ≠ [] := by simp [hn]
      by_cases he : (next a m).2.2 = 0
      · have hc := next_cases a m
        have hl : (a.drop (next a m).2.1).length = a.length - (next a m).2.1 := by simp
        obtain ⟨i1, i2⟩ := all_app m c k (a.drop (next a m).2.1) (by omega)
        have hx := next_app (a := a) (m := m) c (by omega)
        have hd : (a ++ c).drop (next a m).2.1 = a.drop (next a m).2.1 ++ c := by rw [List.drop_append_of_le_length (by omega)]
        rw [all_step hn he, all_step hn2 (by rw [hx]; exact he), hx, hd]
        generalize hq : next a m = q at *
        obtain ⟨X, j, e⟩ := q
        generalize hr : all (a.drop j) m = r at *
        obtain ⟨L, n, f⟩ := r
        simp only at *
        refine ⟨fun h0 => ?_, fun h0 => ?_⟩
        · rw [i1 h0, List.drop_drop]
          simp
          omega
        · rw [i2 h0]
      · rw [all_wrong hn he]
        refine ⟨fun h0 => by simp, fun h0 => ?_⟩
        simp only at h0
        have hx := next_app (a := a) (m := m) c (by omega)
        rw [all_wrong hn2 (by rw [hx]; exact he), hx]

/-- What Feed tells of a piece: the payloads, the error, what waits behind it, and whether it is off. -/
def feed (m : Nat) (ws : List UInt8) (off : Bool) (b : List UInt8) : List (List UInt8) × Nat × List UInt8 × Bool :=
  if off = true then ([], 7, ws, true)
  else if (all (ws ++ b) m).2.2 = 0 ∨ (all (ws ++ b) m).2.2 = 3 then ((all (ws ++ b) m).1, 0, (ws ++ b).drop (all (ws ++ b) m).2.1, false)
  else ((all (ws ++ b) m).1, (all (ws ++ b) m).2.2, [], true)
theorem feed_off (m : Nat) (ws b : List UInt8) : feed m ws true b = ([], 7, ws, true) := rfl
theorem feed_go {m : Nat} {ws b : List UInt8} (h : (all (ws ++ b) m).2.2 = 0 ∨ (all (ws ++ b) m).2.2 = 3) : feed m ws false b = ((all (ws ++ b) m).1, 0, (ws ++ b).drop (all (ws ++ b) m).2.1, false) := by
  rw [feed, if_neg (by simp), if_pos h]
theorem feed_bad {m : Nat} {ws b : List UInt8} (h : ¬ ((all (ws ++ b) m).2.2 = 0 ∨ (all (ws ++ b) m).2.2 = 3)) : feed m ws false b = ((all (ws ++ b) m).1, (all (ws ++ b) m).2.2, [], true) := by
  rw [feed, if_neg (by simp), if_neg h]
theorem feed_len (m : Nat) (ws : List UInt8) (off : Bool) (b : List UInt8) : (feed m ws off b).2.2.1.length ≤ ws.length + b.length ∧ (feed m ws off b).1.length ≤ ws.length + b.length := by
  cases off with
  | true => rw [feed_off]; simp
  | false =>
    have := all_few (ws ++ b) m
    rw [List.length_append] at this
    by_cases h : (all (ws ++ b) m).2.2 = 0 ∨ (all (ws ++ b) m).2.2 = 3
    · rw [feed_go h]; simp; omega
    · rw [feed_bad h]; simp; omega
/-- Which errors there are, and when it is off. -/
theorem feed_e (m : Nat) (ws b : List UInt8) : ((feed m ws false b).2.1 = 0 ∧ (feed m ws false b).2.2.2 = false) ∨ (((feed m ws false b).2.1 = 2 ∨ (feed m ws false b).2.1 = 4) ∧ (feed m ws false b).2.2.2 = true ∧ (feed m ws false b).2.2.1 = []) := by
  by_cases h : (all (ws ++ b) m).2.2 = 0 ∨ (all (ws ++ b) m).2.2 = 3
  · rw [feed_go h]; simp
  · have := all_e (ws ++ b) m
    rw [feed_bad h]; simp
    omega

/-- What has been told of the first k bytes, in whatever pieces. -/
structure Told (b : List UInt8) (m k : Nat) (L : List (List UInt8)) (bad : Nat) (ws : List UInt8) (off : Bool) : Prop where
  le : k ≤ b.length
  one : L = (all (b.take k) m).1
  on : (all (b.take k) m).2.2 = 0 ∨ (all (b.take k) m).2.2 = 3 → off = false ∧ bad = 0 ∧ ws = (b.take k).drop (all (b.take k) m).2.1
  off_ : ¬ ((all (b.take k) m).2.2 = 0 ∨ (all (b.take k) m).2.2 = 3) → off = true ∧ bad = (all (b.take k) m).2.2 ∧ ws = []
theorem Told.start (b : List UInt8) (m : Nat) : Told b m 0 [] 0 [] false := by
  refine ⟨by omega, ?_, ?_, ?_⟩ <;> rw [List.take_zero, all_nil] <;> simp
theorem Told.few {b : List UInt8} {m k : Nat} {L : List (List UInt8)} {bad : Nat} {ws : List UInt8} {off : Bool} (h : Told b m k L bad ws off) : L.length ≤ b.length ∧ ws.length ≤ b.length := by
  have h1 := all_few (b.take k) m
  have h2 := h.le
  rw [List.length_take] at h1
  refine ⟨by rw [h.one]; omega, ?_⟩
  by_cases h0 : (all (b.take k) m).2.2 = 0 ∨ (all (b.take k) m).2.2 = 3
  · rw [(h.on h0).2.2, List.length_drop, List.length_take]; omega
  · rw [(h.off_ h0).2.2]; simp
theorem Told.step {b : List UInt8} {m k : Nat} {L : List (List UInt8)} {bad : Nat} {ws : List UInt8} {off : Bool} (h : Told b m k L bad ws off) {n : Nat} (hn : k + n ≤ b.length) :
    Told b m (k + n) (L ++ (feed m ws off ((b.take (k + n)).drop k)).1) (if bad = 0 then (feed m ws off ((b.take (k + n)).drop k)).2.1 else bad) (feed m ws off ((b.take (k + n)).drop k)).2.2.1 (feed m ws off ((b.take (k + n)).drop k)).2.2.2 := by
  have hk := h.le
  have hsplit : b.take (k + n) = b.take k ++ (b.take (k + n)).drop k := by
    conv => lhs; rw [← List.take_append_drop k (b.take (k + n))]
    rw [List.take_take, Nat.min_eq_left (by omega)]
  generalize hp : (b.take (k + n)).drop k = p at *
  generalize hA : b.take k = A at *
  obtain ⟨h1, h2⟩ := all_app m p _ A (Nat.le_refl _)
  have hnA := all_n A m
  have one := h.one; have on := h.on; have of := h.off_
  rw [hA] at one on of
  by_cases h0 : (all A m).2.2 = 0 ∨ (all A m).2.2 = 3
  · obtain ⟨rfl, rfl, rfl⟩ := on h0
    have e := h1 h0
    by_cases h3 : (all (A.drop (all A m).2.1 ++ p) m).2.2 = 0 ∨ (all (A.drop (all A m).2.1 ++ p) m).2.2 = 3
    · rw [feed_go h3]
      refine ⟨hn, ?_, ?_, ?_⟩
      · rw [hsplit, e, one]
      · intro _
        rw [hsplit, e]
        refine ⟨rfl, rfl, ?_⟩
        show _ = (A ++ p).drop ((all A m).2.1 + _)
        rw [← List.drop_drop, List.drop_append_of_le_length hnA]
      · intro h4
        rw [hsplit, e] at h4
        exact absurd h3 h4
    · rw [feed_bad h3]
      refine ⟨hn, ?_, ?_, ?_⟩
      · rw [hsplit, e, one]
      · intro h4
        rw [hsplit, e] at h4
        exact absurd h4 h3
      · intro _
        rw [hsplit, e]
        exact ⟨rfl, rfl, rfl⟩
  · obtain ⟨rfl, rfl, rfl⟩ := of h0
    have e := h2 h0
    rw [feed_off]
    refine ⟨hn, ?_, ?_, ?_⟩
    · rw [hsplit, e, one]; simp
    · intro h4
      rw [hsplit, e] at h4
      exact absurd h4 h0
    · intro _
      rw [hsplit, e]
      exact ⟨rfl, by rw [if_neg (by omega)], rfl⟩
/-- The error of bytes, however cut. -/
def wrong (b : List UInt8) (m : Nat) : Nat := if (all b m).2.2 = 0 ∨ (all b m).2.2 = 3 then 0 else (all b m).2.2
theorem Told.end {b : List UInt8} {m k : Nat} {L : List (List UInt8)} {bad : Nat} {ws : List UInt8} {off : Bool} (h : Told b m k L bad ws off) (hk : ¬ k < b.length) : L = (all b m).1 ∧ bad = wrong b m := by
  have hle := h.le
  have one := h.one; have on := h.on; have of := h.off_
  rw [List.take_of_length_le (by omega)] at one on of
  refine ⟨one, ?_⟩
  unfold wrong
  split
  · rename_i h0; exact (on h0).2.1
  · rename_i h0; exact (of h0).2.1
end F
end Go.Proofs.Ytaajdodicepbdaa
