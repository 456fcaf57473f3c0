/- Frames, as plain functions: what is put, what Next and All tell, what is told of frames that were put, and of such that were cut off. -/
import Derived.Test.YtaajdodicepbdaaVarMath
namespace Go.Proofs.Ytaajdodicepbdaa
namespace V
theorem get_app : ∀ (a b : List UInt8) (i v : Nat), (get a i v).2.2 ≠ 3 → get (a ++ b) i v = get a i v
  | [], _, _, _, h => absurd rfl h
  | x :: r, b, i, v, h => by
    show get (x :: (r ++ b)) i v = get (x :: r) i v
    unfold get at h ⊢
    split
    · rfl
    · rename_i h1
      rw [if_neg h1] at h
      split
      · rename_i h2
        rw [if_pos h2] at h
        exact get_app r b _ _ h
      · rfl
theorem gn_pos {bs : List UInt8} (h : ge bs = 0) : 1 ≤ gn bs := by
  rcases only bs with ⟨h1, _⟩ | ⟨v, tail, _, _, _, _, h2, _⟩
  · omega
  · rw [h2]; exact len_pos v
theorem gn_le {bs : List UInt8} : gn bs ≤ bs.length := by
  rcases only bs with ⟨_, _, h1⟩ | ⟨v, tail, h, _, _, _, h2, _⟩
  · omega
  · rw [h2]
    have := congrArg List.length h
    rw [List.length_append] at this
    have e : len v = (put v).length := rfl
    omega
theorem gn_10 {bs : List UInt8} : gn bs ≤ 10 := by
  rcases only bs with ⟨_, _, h1⟩ | ⟨v, tail, h, h3, _, _, h2, _⟩
  · omega
  · omega
theorem gv_64 {bs : List UInt8} : gv bs < 18446744073709551616 := by
  rcases only bs with ⟨_, h1, _⟩ | ⟨v, tail, h, h3, h4, h5, h2, _⟩
  · omega
  · omega
theorem ge_123 {bs : List UInt8} : ge bs = 0 ∨ ge bs = 2 ∨ ge bs = 3 := by
  rcases only bs with ⟨h, _⟩ | ⟨v, tail, h, h3, h4, h5, h2, h6⟩
  · omega
  · omega
/-- A number's bytes that are cut off want more. -/
theorem get_cut {v : Nat} (hv : v < 18446744073709551616) {j : Nat} (hj : j < len v) : get ((put v).take j) 0 0 = (0, 0, 3) := by
  have hall := got hv []
  rw [List.append_nil] at hall
  have hsplit : (put v).take j ++ (put v).drop j = put v := List.take_append_drop j (put v)
  by_cases h3 : (get ((put v).take j) 0 0).2.2 = 3
  · rcases only ((put v).take j) with ⟨_, h1, h2⟩ | ⟨u, tail, _, _, _, _, _, h6⟩
    · unfold gv at h1; unfold gn at h2
      exact Prod.ext h1 (Prod.ext h2 h3)
    · unfold ge at h6; omega
  · exfalso
    have := get_app _ ((put v).drop j) 0 0 h3
    rw [hsplit, hall] at this
    have hn : gn ((put v).take j) = len v := by unfold gn; rw [← this]
    have hle := gn_le (bs := (put v).take j)
    rw [hn, List.length_take] at hle
    omega
end V

namespace F
def most (m : Int) : Nat := (min (max m 0) 65536).toNat
theorem most_le (m : Int) : most m ≤ 65536 := by unfold most; omega

/-- What Next tells: the payload, how many bytes, the error (0 none, 2 ErrBytes, 3 ErrMore, 4 ErrBig). -/
def next (bs : List UInt8) (m : Nat) : List UInt8 × Nat × Nat :=
  if V.ge bs ≠ 0 then ([], 0, V.ge bs) else if m < V.gv bs then ([], 0, 4) else if bs.length < V.gn bs + V.gv bs then ([], 0, 3)
  else ((bs.take (V.gn bs + V.gv bs)).drop (V.gn bs), V.gn bs + V.gv bs, 0)

theorem next_wrong {bs : List UInt8} {m : Nat} (h : V.ge bs ≠ 0) : next bs m = ([], 0, V.ge bs) := by rw [next, if_pos h]
theorem next_big {bs : List UInt8} {m : Nat} (h : V.ge bs = 0) (h2 : m < V.gv bs) : next bs m = ([], 0, 4) := by rw [next, if_neg (by omega), if_pos h2]
theorem next_more {bs : List UInt8} {m : Nat} (h : V.ge bs = 0) (h2 : ¬ m < V.gv bs) (h3 : bs.length < V.gn bs + V.gv bs) : next bs m = ([], 0, 3) := by rw [next, if_neg (by omega), if_neg h2, if_pos h3]
theorem next_ok {bs : List UInt8} {m : Nat} (h : V.ge bs = 0) (h2 : ¬ m < V.gv bs) (h3 : ¬ bs.length < V.gn bs + V.gv bs) : next bs m = ((bs.take (V.gn bs + V.gv bs)).drop (V.gn bs), V.gn bs + V.gv bs, 0) := by
  rw [next, if_neg (by omega), if_neg h2, if_neg h3]
theorem next_cases (bs : List UInt8) (m : Nat) : ((next bs m).2.2 ≠ 0 ∧ (next bs m).1 = [] ∧ (next bs m).2.1 = 0) ∨ ((next bs m).2.2 = 0 ∧ 1 ≤ (next bs m).2.1 ∧ (next bs m).2.1 ≤ bs.length ∧ (next bs m).1.length ≤ m ∧ (next bs m).1.length ≤ bs.length) := by
  by_cases h : V.ge bs = 0
  · by_cases h2 : m < V.gv bs
    · left; rw [next_big h h2]; exact ⟨by simp, rfl, rfl⟩
    · by_cases h3 : bs.length < V.gn bs + V.gv bs
      · left; rw [next_more h h2 h3]; exact ⟨by simp, rfl, rfl⟩
      · right; rw [next_ok h h2 h3]
        have := V.gn_pos h
        refine ⟨rfl, ?_, ?_, ?_, ?_⟩
        · show 1 ≤ V.gn bs + V.gv bs; omega
        · show V.gn bs + V.gv bs ≤ bs.length; omega
        · simp; omega
        · simp; omega
  · left; rw [next_wrong h]; exact ⟨h, rfl, rfl⟩
theorem next_e (bs : List UInt8) (m : Nat) : (next bs m).2.2 ≤ 4 := by
  by_cases h : V.ge bs = 0
  · by_cases h2 : m < V.gv bs
    · rw [next_big h h2]; decide
    · by_cases h3 : bs.length < V.gn bs + V.gv bs
      · rw [next_more h h2 h3]; decide
      · rw [next_ok h h2 h3]; show 0 ≤ 4; omega
  · rw [next_wrong h]
    have := V.ge_123 (bs := bs)
    show V.ge bs ≤ 4
    omega

/-- What All tells: the payloads, where they end, the error. -/
def all (bs : List UInt8) (m : Nat) : List (List UInt8) × Nat × Nat :=
  if _hb : bs = [] then ([], 0, 0)
  else if _h : (next bs m).2.2 = 0 then
    ((next bs m).1 :: (all (bs.drop (next bs m).2.1) m).1, (next bs m).2.1 + (all (bs.drop (next bs m).2.1) m).2.1, (all (bs.drop (next bs m).2.1) m).2.2)
  else ([], 0, (next bs m).2.2)
termination_by bs.length
decreasing_by
  all_goals
    have := next_cases bs m
    have : bs.length ≠ 0 := fun e => _hb (List.length_eq_zero_iff.1 e)
    simp only [List.length_drop]
    omega
theorem all_nil (m : Nat) : all [] m = ([], 0, 0) := by rw [all, dif_pos rfl]
theorem all_wrong {bs : List UInt8} {m : Nat} (h : bs ≠ []) (h2 : (next bs m).2.2 ≠ 0) : all bs m = ([], 0, (next bs m).2.2) := by rw [all, dif_neg h, dif_neg h2]
theorem all_step {bs : List UInt8} {m : Nat} (h : bs ≠ []) (h2 : (next bs m).2.2 = 0) : all bs m = ((next bs m).1 :: (all (bs.drop (next bs m).2.1) m).1, (next bs m).2.1 + (all (bs.drop (next bs m).2.1) m).2.1, (all (bs.drop (next bs m).2.1) m).2.2) := by
  rw [all, dif_neg h, dif_pos h2]

/-- All, from place n on, with the payloads L before. -/
structure Rest (bs : List UInt8) (m n : Nat) (L : List (List UInt8)) : Prop where
  le : n ≤ bs.length
  few : L.length ≤ n
  one : (all bs m).1 = L ++ (all (bs.drop n) m).1
  two : (all bs m).2.1 = n + (all (bs.drop n) m).2.1
  three : (all bs m).2.2 = (all (bs.drop n) m).2.2
theorem Rest.start (bs : List UInt8) (m : Nat) : Rest bs m 0 [] := ⟨by omega, by simp, by simp, by simp, by simp⟩
theorem Rest.stop {bs : List UInt8} {m n : Nat} {L : List (List UInt8)} (h : Rest bs m n L) (hn : ¬ n < bs.length) : (all bs m).1 = L ∧ (all bs m).2.1 = n ∧ (all bs m).2.2 = 0 := by
  have e : bs.drop n = [] := List.drop_eq_nil_of_le (by omega)
  have h1 := h.one; have h2 := h.two; have h3 := h.three
  rw [e, all_nil] at h1 h2 h3
  exact ⟨by simpa using h1, by simpa using h2, h3⟩
theorem drop_ne {bs : List UInt8} {n : Nat} (h : n < bs.length) : bs.drop n ≠ [] := by
  intro e
  have := congrArg List.length e
  simp at this
  omega
theorem Rest.wrong {bs : List UInt8} {m n : Nat} {L : List (List UInt8)} (h : Rest bs m n L) (hn : n < bs.length) (he : (next (bs.drop n) m).2.2 ≠ 0) : (all bs m).1 = L ∧ (all bs m).2.1 = n ∧ (all bs m).2.2 = (next (bs.drop n) m).2.2 := by
  have h1 := h.one; have h2 := h.two; have h3 := h.three
  rw [all_wrong (drop_ne hn) he] at h1 h2 h3
  exact ⟨by simpa using h1, by simpa using h2, h3⟩
theorem Rest.go {bs : List UInt8} {m n : Nat} {L : List (List UInt8)} (h : Rest bs m n L) (hn : n < bs.length) (he : (next (bs.drop n) m).2.2 = 0) : Rest bs m (n + (next (bs.drop n) m).2.1) (L ++ [(next (bs.drop n) m).1]) ∧ 1 ≤ (next (bs.drop n) m).2.1 := by
  have h1 := h.one; have h2 := h.two; have h3 := h.three
  have hc := next_cases (bs.drop n) m
  have hl : (bs.drop n).length = bs.length - n := by simp
  rw [all_step (drop_ne hn) he] at h1 h2 h3
  rw [List.drop_drop] at h1 h2 h3
  have := h.few
  refine ⟨⟨by omega, by simp; omega, by rw [h1]; simp, ?_, h3⟩, by omega⟩
  rw [h2]
  show n + ((next (bs.drop n) m).2.1 + _) = _
  omega

def put (x : List UInt8) : List UInt8 := V.put x.length ++ x
def frames (l : List (List UInt8)) : List UInt8 := (l.map put).flatten
theorem put_len (x : List UInt8) : (put x).length = V.len x.length + x.length := by unfold put V.len; rw [List.length_append]
theorem put_pos (x : List UInt8) : 1 ≤ (put x).length := by rw [put_len]; have := V.len_pos x.length; omega
theorem put_le {x : List UInt8} (h : x.length < 18446744073709551616) : (put x).length ≤ 10 + x.length := by rw [put_len]; have := V.len_le10 h; omega
theorem frames_nil : frames [] = [] := rfl
theorem frames_cons (x : List UInt8) (l : List (List UInt8)) : frames (x :: l) = put x ++ frames l := rfl
theorem frames_app (a b : List (List UInt8)) : frames (a ++ b) = frames a ++ frames b := by unfold frames; rw [List.map_append, List.flatten_append]
theorem frames_snoc (a : List (List UInt8)) (x : List UInt8) : frames (a ++ [x]) = frames a ++ V.put x.length ++ x := by rw [frames_app, frames_cons, frames_nil, List.append_nil, put, List.append_assoc]

theorem next_put {x : List UInt8} {m : Nat} (h : x.length ≤ m) (h64 : x.length < 18446744073709551616) (tail : List UInt8) : next (put x ++ tail) m = (x, (put x).length, 0) := by
  have hg := V.got h64 (x ++ tail)
  have hb : put x ++ tail = V.put x.length ++ (x ++ tail) := by unfold put; rw [List.append_assoc]
  have e1 : V.gv (put x ++ tail) = x.length := by rw [hb]; unfold V.gv; rw [hg]
  have e2 : V.gn (put x ++ tail) = V.len x.length := by rw [hb]; unfold V.gn; rw [hg]
  have e3 : V.ge (put x ++ tail) = 0 := by rw [hb]; unfold V.ge; rw [hg]
  rw [next_ok e3 (by omega) (by rw [e1, e2, List.length_append, put_len]; omega), e1, e2, put_len]
  congr 1
  have e4 : V.len x.length + x.length = (put x).length := (put_len x).symm
  rw [e4, List.take_left, put]
  have e5 : V.len x.length = (V.put x.length).length := rfl
  rw [e5, List.drop_left]

theorem all_put {x : List UInt8} {m : Nat} (h : x.length ≤ m) (h64 : x.length < 18446744073709551616) (tail : List UInt8) : all (put x ++ tail) m = (x :: (all tail m).1, (put x).length + (all tail m).2.1, (all tail m).2.2) := by
  have hp := put_pos x
  have hne : put x ++ tail ≠ [] := by
    intro e
    have := congrArg List.length e
    rw [List.length_append, List.length_nil] at this
    omega
  have hn := next_put h h64 tail
  rw [all_step hne (by rw [hn]), hn]
  show (x :: (all (List.drop (put x).length (put x ++ tail)) m).1, _, _) = _
  rw [List.drop_left]

theorem all_frames {m : Nat} (tail : List UInt8) : ∀ (l : List (List UInt8)), (∀ x ∈ l, x.length ≤ m) → m < 18446744073709551616 → all (frames l ++ tail) m = (l ++ (all tail m).1, (frames l).length + (all tail m).2.1, (all tail m).2.2)
  | [], _, _ => by rw [frames_nil]; simp
  | x :: l, h, hm => by
    have hx := h x List.mem_cons_self
    rw [frames_cons, List.append_assoc, all_put hx (by omega), all_frames tail l (fun y hy => h y (List.mem_cons_of_mem _ hy)) hm]
    simp
    omega

theorem all_back {m : Nat} (l : List (List UInt8)) (h : ∀ x ∈ l, x.length ≤ m) (hm : m < 18446744073709551616) : all (frames l) m = (l, (frames l).length, 0) := by
  have := all_frames [] l h hm
  rw [List.append_nil, all_nil] at this
  simpa using this

/-- A frame that is cut off wants more bytes. -/
theorem next_cut {x : List UInt8} {m j : Nat} (h : x.length ≤ m) (h64 : x.length < 18446744073709551616) (hj : j < (put x).length) : (next ((put x).take j) m).2.2 = 3 := by
  rw [put_len] at hj
  by_cases h1 : j < V.len x.length
  · have e : (put x).take j = (V.put x.length).take j := by
      unfold put
      rw [List.take_append_of_le_length (by show j ≤ (V.put x.length).length; unfold V.len at h1; omega)]
    have hc := V.get_cut h64 h1
    have e3 : V.ge ((V.put x.length).take j) = 3 := by unfold V.ge; rw [hc]
    rw [e, next_wrong (by rw [e3]; decide)]
    exact e3
  · have e : (put x).take j = V.put x.length ++ x.take (j - V.len x.length) := by
      unfold put
      rw [List.take_append, List.take_of_length_le (by show (V.put x.length).length ≤ j; unfold V.len at h1; omega)]
      rfl
    have hg := V.got h64 (x.take (j - V.len x.length))
    have e1 : V.gv (V.put x.length ++ x.take (j - V.len x.length)) = x.length := by unfold V.gv; rw [hg]
    have e2 : V.gn (V.put x.length ++ x.take (j - V.len x.length)) = V.len x.length := by unfold V.gn; rw [hg]
    have e3 : V.ge (V.put x.length ++ x.take (j - V.len x.length)) = 0 := by unfold V.ge; rw [hg]
    rw [e, next_more e3 (by omega) ?_]
    rw [e1, e2, List.length_append, List.length_take]
    have e5 : V.len x.length = (V.put x.length).length := rfl
    omega
theorem all_cut {x : List UInt8} {m j : Nat} (h : x.length ≤ m) (h64 : x.length < 18446744073709551616) (hj : j < (put x).length) (h0 : 0 < j) : all ((put x).take j) m = ([], 0, 3) := by
  have hn := next_cut h h64 hj
  have hne : (put x).take j ≠ [] := by
    intro e
    have := congrArg List.length e
    rw [List.length_take, List.length_nil] at this
    omega
  rw [all_wrong hne (by rw [hn]; decide), hn]

theorem frames_mono {l : List (List UInt8)} {i j : Nat} (h : i ≤ j) : (frames (l.take i)).length ≤ (frames (l.take j)).length := by
  have e : l.take i = (l.take j).take i := by rw [List.take_take, Nat.min_eq_left h]
  have := List.take_append_drop i (l.take j)
  rw [← this, frames_app, List.length_append, ← e]
  omega

/-- Where frames are cut off at k: 'W' of them are whole, and end at E. -/
structure Cut (l : List (List UInt8)) (n : Nat) (at_ : Int) (W E : Nat) : Prop where
  le : W ≤ n
  ends : E = (frames (l.take W)).length
  got : (E : Int) ≤ at_ ∨ W = 0
  next : W < n → at_ < ((frames (l.take (W + 1))).length : Int)
theorem Cut.start (l : List (List UInt8)) (at_ : Int) : Cut l 0 at_ 0 0 := ⟨by omega, by simp [frames_nil], .inr rfl, by omega⟩
theorem Cut.go {l : List (List UInt8)} {n W E : Nat} {at_ : Int} (_ : Cut l n at_ W E) (hat : ((frames (l.take (n + 1))).length : Int) ≤ at_) : Cut l (n + 1) at_ (n + 1) (frames (l.take (n + 1))).length :=
  ⟨by omega, rfl, .inl hat, by omega⟩
theorem Cut.stay {l : List (List UInt8)} {n W E : Nat} {at_ : Int} (h : Cut l n at_ W E) (hat : at_ < ((frames (l.take (n + 1))).length : Int)) : Cut l (n + 1) at_ W E := by
  refine ⟨by have := h.le; omega, h.ends, h.got, fun _ => ?_⟩
  by_cases hw : W < n
  · exact h.next hw
  · obtain rfl : W = n := by have := h.le; omega
    exact hat
theorem Cut.told {l : List (List UInt8)} {W E m : Nat} {at_ : Int} (h : Cut l l.length at_ W E) (hm : ∀ x ∈ l, x.length ≤ m) (hm64 : m < 18446744073709551616) {k : Nat} (hk : (k : Int) = max (min at_ ((frames l).length : Int)) 0) :
    E ≤ k ∧ (all ((frames l).take k) m).1 = l.take W ∧ (all ((frames l).take k) m).2.1 = E ∧ ((k = E ∧ (all ((frames l).take k) m).2.2 = 0) ∨ (k ≠ E ∧ (all ((frames l).take k) m).2.2 = 3)) := by
  have hE := h.ends
  have hg := h.got
  have hle := frames_mono (l := l) (i := W) (j := l.length) h.le
  rw [List.take_length] at hle
  have hW0 : W = 0 → E = 0 := by intro h0; rw [hE, h0]; simp [frames_nil]
  have hEk : E ≤ k := by omega
  refine ⟨hEk, ?_⟩
  have hsplit : frames l = frames (l.take W) ++ frames (l.drop W) := by rw [← frames_app, List.take_append_drop]
  have hpart : (frames l).take k = frames (l.take W) ++ (frames (l.drop W)).take (k - E) := by
    rw [hsplit, List.take_append, ← hE, List.take_of_length_le (by omega)]
  have hmt : ∀ x ∈ l.take W, x.length ≤ m := fun x hx => hm x (List.mem_of_mem_take hx)
  by_cases hke : k = E
  · have e : k - E = 0 := by omega
    rw [e, List.take_zero, List.append_nil] at hpart
    rw [hpart, all_back _ hmt hm64]
    exact ⟨rfl, hE.symm, .inl ⟨hke, rfl⟩⟩
  · have hWl : W < l.length := by
      by_cases hw : W < l.length
      · exact hw
      · exfalso
        have hWe : W = l.length := by have := h.le; omega
        rw [hWe, List.take_length] at hE
        omega
    have hnx := h.next hWl
    have hd : l.drop W = l[W] :: l.drop (W + 1) := List.drop_eq_getElem_cons hWl
    have ht : l.take (W + 1) = l.take W ++ [l[W]] := by rw [List.take_succ_eq_append_getElem hWl]
    rw [ht, frames_app, List.length_append, frames_cons, frames_nil, List.append_nil, ← hE] at hnx
    have hj : k - E < (put l[W]).length := by omega
    rw [hd, frames_cons, List.take_append_of_le_length (by omega)] at hpart
    have hx : l[W].length ≤ m := hm _ (List.getElem_mem hWl)
    rw [hpart, all_frames _ _ hmt hm64, all_cut hx (by omega) hj (by omega)]
    refine ⟨by simp, by simp [hE], .inr ⟨hke, rfl⟩⟩

/-- How much there is, as the weighing counts it. -/
def weigh (l : List (List UInt8)) (i : Nat) : Nat := l.length + ((l.take i).map fun x => min x.length 20001).sum
theorem weigh_zero (l : List (List UInt8)) : weigh l 0 = l.length := by simp [weigh]
theorem weigh_succ {l : List (List UInt8)} {i : Nat} (h : i < l.length) : weigh l (i + 1) = weigh l i + min l[i].length 20001 := by
  unfold weigh
  rw [List.take_succ_eq_append_getElem h, List.map_append, List.sum_append]
  simp
  omega
theorem sum_frames : ∀ (l : List (List UInt8)) (B : Nat), (l.map fun x => min x.length 20001).sum ≤ B → B ≤ 20000 → (∀ x ∈ l, x.length ≤ B) ∧ (frames l).length ≤ 10 * l.length + B
  | [], B, _, _ => by simp [frames_nil]
  | x :: l, B, h, hB => by
    simp only [List.map_cons, List.sum_cons] at h
    have hx : x.length ≤ B := by omega
    obtain ⟨h1, h2⟩ := sum_frames l (B - x.length) (by omega) (by omega)
    have := put_le (x := x) (by omega)
    refine ⟨?_, ?_⟩
    · intro y hy
      rcases List.mem_cons.1 hy with rfl | hy
      · exact hx
      · have := h1 y hy; omega
    · rw [frames_cons, List.length_append, List.length_cons]
      omega
theorem weigh_all {l : List (List UInt8)} {B : Nat} (h : weigh l l.length ≤ B) (hB : B ≤ 20000) : l.length ≤ B ∧ (∀ x ∈ l, x.length ≤ B) ∧ (frames l).length ≤ 220000 := by
  unfold weigh at h
  rw [List.take_length] at h
  obtain ⟨h1, h2⟩ := sum_frames l B (by omega) hB
  exact ⟨by omega, h1, by omega⟩
end F
end Go.Proofs.Ytaajdodicepbdaa
