/- Descriptors over lists: signs, escapes, names, texts, and how a text is read. No program is named here. -/
import Derived.Lib.IndexBytes
import Derived.Lib.Split
import Derived.Lib.Join
namespace Go.Proofs.YtepnjhhpnabpnaaDoor
namespace D

def pl (c : UInt8) : Bool := decide (97 ≤ c.toNat ∧ c.toNat ≤ 122) || decide (65 ≤ c.toNat ∧ c.toNat ≤ 90) || decide (45 ≤ c.toNat ∧ c.toNat ≤ 58) || decide (c.toNat = 95)
def hxL : List UInt8 := [48, 49, 50, 51, 52, 53, 54, 55, 56, 57, 65, 66, 67, 68, 69, 70]
def hx (n : Nat) : UInt8 := hxL.getD n 0
def esc (c : UInt8) : List UInt8 := if pl c then [c] else [37, hx (c.toNat / 16), hx (c.toNat % 16)]
def escL (l : List UInt8) : List UInt8 := l.flatMap esc
/-- A great digit of sixteen; -1: it is none. -/
def hexv (c : UInt8) : Int := if 48 ≤ c.toNat ∧ c.toNat ≤ 57 then (c.toNat : Int) - 48 else if 65 ≤ c.toNat ∧ c.toNat ≤ 70 then (c.toNat : Int) - 55 else -1

theorem all256 {p : UInt8 → Prop} [DecidablePred p] (h : ∀ i : Fin 256, p (UInt8.ofNat i.val)) (c : UInt8) : p c := by
  have := h ⟨c.toNat, c.toNat_lt⟩
  simpa using this

theorem index_hex (c : UInt8) : Lib.indexByte hxL c = hexv c :=
  all256 (p := fun c => Lib.indexByte hxL c = hexv c) (by decide +kernel) c
theorem hexv_lo (c : UInt8) : -1 ≤ hexv c ∧ hexv c ≤ 15 := by
  unfold hexv
  split
  · omega
  · split <;> omega
theorem hexv_hx (n : Nat) (h : n < 16) : hexv (hx n) = (n : Int) := by
  have : ∀ n : Fin 16, hexv (hx n.val) = (n.val : Int) := by decide +kernel
  exact this ⟨n, h⟩
theorem hx_sign (n : Nat) (h : n < 16) : 48 ≤ (hx n).toNat ∧ (hx n).toNat ≤ 70 ∧ pl (hx n) = true := by
  have : ∀ n : Fin 16, 48 ≤ (hx n.val).toNat ∧ (hx n.val).toNat ≤ 70 ∧ pl (hx n.val) = true := by decide +kernel
  exact this ⟨n, h⟩

/-- What was escaped; none: nothing was. -/
def une : List UInt8 → Option (List UInt8)
  | [] => some []
  | c :: l =>
    if c = 37 then
      match l with
      | a :: b :: r => if 0 ≤ hexv a ∧ 0 ≤ hexv b then (une r).map (UInt8.ofNat (16 * hexv a + hexv b).toNat :: ·) else none
      | _ => none
    else (une l).map (c :: ·)

theorem une_nil : une [] = some [] := by unfold une; rfl
theorem une_other {c : UInt8} (h : c ≠ 37) (l : List UInt8) : une (c :: l) = (une l).map (c :: ·) := by
  rw [une.eq_def]; simp [h]
theorem une_esc (a b : UInt8) (r : List UInt8) : une (37 :: a :: b :: r) = if 0 ≤ hexv a ∧ 0 ≤ hexv b then (une r).map (UInt8.ofNat (16 * hexv a + hexv b).toNat :: ·) else none := by
  rw [une.eq_def]; simp
theorem une_short (l : List UInt8) (h : l.length < 2) : une (37 :: l) = none := by
  match l, h with
  | [], _ => rw [une.eq_def]; simp
  | [x], _ => rw [une.eq_def]; simp

theorem une_escape (c : UInt8) (r : List UInt8) : une (esc c ++ r) = (une r).map (c :: ·) := by
  unfold esc
  cases hp : pl c
  · have e : ([37, hx (c.toNat / 16), hx (c.toNat % 16)] : List UInt8) ++ r = 37 :: hx (c.toNat / 16) :: hx (c.toNat % 16) :: r := rfl
    have hc := c.toNat_lt
    rw [if_neg (by simp), e, une_esc, hexv_hx _ (by omega), hexv_hx _ (by omega), if_pos (by omega)]
    have : (16 * ((c.toNat / 16 : Nat) : Int) + ((c.toNat % 16 : Nat) : Int)).toNat = c.toNat := by omega
    rw [this]; simp
  · have h37 : c ≠ 37 := by intro h; rw [h] at hp; exact absurd hp (by decide)
    rw [if_pos rfl]
    exact une_other h37 r
theorem une_escL : ∀ l : List UInt8, une (escL l) = some l
  | [] => une_nil
  | c :: l => by
    have : escL (c :: l) = esc c ++ escL l := by simp [escL]
    rw [this, une_escape, une_escL l]; rfl
theorem escL_inj {a b : List UInt8} (h : escL a = escL b) : a = b := by
  have := congrArg une h
  rw [une_escL, une_escL] at this
  exact Option.some.inj this
theorem une_len : ∀ (l k : List UInt8), une l = some k → k.length ≤ l.length
  | [], k, h => by rw [une_nil] at h; cases h; simp
  | c :: l, k, h => by
    by_cases hc : c = 37
    · subst hc
      match l, h with
      | [], h => rw [une_short _ (by simp)] at h; cases h
      | [x], h => rw [une_short _ (by simp)] at h; cases h
      | a :: b :: r, h =>
        rw [une_esc] at h
        split at h
        · obtain ⟨k', hk, rfl⟩ := Option.map_eq_some_iff.1 h
          have := une_len r k' hk
          simp; omega
        · cases h
    · rw [une_other hc] at h
      obtain ⟨k', hk, rfl⟩ := Option.map_eq_some_iff.1 h
      have := une_len l k' hk
      simp; omega

/-- The signs of an escaped text. -/
def sgn (c : UInt8) : Prop := 32 < c.toNat ∧ c.toNat ≤ 126 ∧ c.toNat ≠ 44 ∧ c.toNat ≠ 61 ∧ c.toNat ≠ 124
theorem pl_sgn (c : UInt8) (h : pl c = true) : sgn c := by
  unfold pl at h
  simp only [Bool.or_eq_true, decide_eq_true_eq] at h
  unfold sgn
  omega
theorem esc_sgn (c d : UInt8) (h : d ∈ esc c) : sgn d := by
  unfold esc at h
  have hc := c.toNat_lt
  cases hp : pl c
  · rw [hp] at h
    simp only [Bool.false_eq_true, if_false, List.mem_cons, List.not_mem_nil, or_false] at h
    rcases h with rfl | rfl | rfl
    · unfold sgn; decide
    · exact pl_sgn _ (hx_sign _ (by omega)).2.2
    · exact pl_sgn _ (hx_sign _ (by omega)).2.2
  · rw [hp] at h
    simp at h
    subst h
    exact pl_sgn _ hp
theorem escL_sgn {l : List UInt8} {d : UInt8} (h : d ∈ escL l) : sgn d := by
  obtain ⟨c, _, h2⟩ := List.mem_flatMap.1 h
  exact esc_sgn c d h2
theorem esc_len (c : UInt8) : (esc c).length ≤ 3 := by unfold esc; split <;> simp
theorem escL_len (l : List UInt8) : (escL l).length ≤ 3 * l.length := by
  induction l with
  | nil => simp [escL]
  | cons c l ih =>
    have : escL (c :: l) = esc c ++ escL l := by simp [escL]
    have := esc_len c
    rw [‹escL (c :: l) = _›]; simp; omega
theorem escL_take {l : List UInt8} {k : Nat} {c : UInt8} (h : l[k]? = some c) : escL (l.take (k + 1)) = escL (l.take k) ++ esc c := by
  rw [List.take_add_one, h]; simp [escL]

/-- 1 to 64 bytes, all to be seen. -/
def vis (c : UInt8) : Bool := decide (33 ≤ c.toNat ∧ c.toNat ≤ 126)
def nm (l : List UInt8) : Bool := decide (1 ≤ l.length) && decide (l.length ≤ 64) && l.all vis

abbrev E := List UInt8 × List UInt8
def okE (e : E) : Bool := nm e.1 && decide (e.2.length ≤ 128)
def chk (es : List E) : Bool := decide (1 ≤ es.length) && decide (es.length ≤ 8) && es.all okE
def ent (e : E) : List UInt8 := escL e.1 ++ 61 :: escL e.2
def jn : List (List UInt8) → List UInt8
  | [] => []
  | [x] => x
  | x :: y :: r => x ++ 44 :: jn (y :: r)
def txt (es : List E) : List UInt8 := if chk es then jn (es.map ent) else []

theorem jn_cons (x : List UInt8) {r : List (List UInt8)} (h : r ≠ []) : jn (x :: r) = x ++ 44 :: jn r := by
  cases r with
  | nil => exact absurd rfl h
  | cons y r => rfl
theorem jn_snoc (x : List UInt8) : ∀ {l : List (List UInt8)}, l ≠ [] → jn (l ++ [x]) = jn l ++ 44 :: x
  | [], h => absurd rfl h
  | [y], _ => rfl
  | y :: z :: r, _ => by
    have := jn_snoc x (l := z :: r) (by simp)
    show y ++ 44 :: jn ((z :: r) ++ [x]) = (y ++ 44 :: jn (z :: r)) ++ 44 :: x
    rw [this]; simp
theorem lib_join : ∀ l : List (List UInt8), Lib.join l [44] = jn l
  | [] => rfl
  | [x] => Lib.join_one x [44]
  | x :: y :: r => by
    have h := lib_join (y :: r)
    show Lib.join (x :: y :: r) [44] = x ++ 44 :: jn (y :: r)
    rw [← h]
    simp [Lib.join, List.intercalate]

theorem ent_no {e : E} {d : UInt8} (h : d ∈ ent e) : d.toNat ≠ 44 := by
  unfold ent at h
  rcases List.mem_append.1 h with h | h
  · exact (escL_sgn h).2.2.1
  · rcases List.mem_cons.1 h with rfl | h
    · decide
    · exact (escL_sgn h).2.2.1
theorem ent_no44 (e : E) : (44 : UInt8) ∉ ent e := fun h => ent_no h rfl
theorem esc_no61 (l : List UInt8) : (61 : UInt8) ∉ escL l := fun h => (escL_sgn h).2.2.2.1 rfl

/-- A text cut at a byte's first place. -/
theorem cut_at (c : UInt8) : ∀ l : List UInt8, c ∉ l ∨ ∃ a b, l = a ++ c :: b ∧ c ∉ a
  | [] => .inl (by simp)
  | d :: l => by
    by_cases h : d = c
    · subst h
      exact .inr ⟨[], l, rfl, by simp⟩
    · rcases cut_at c l with h1 | ⟨a, b, h1, h2⟩
      · exact .inl (by simp [Ne.symm h, h1])
      · exact .inr ⟨d :: a, b, by rw [h1]; rfl, by simp [Ne.symm h, h2]⟩
theorem cut_uniq {c : UInt8} : ∀ {a a' b b' : List UInt8}, c ∉ a → c ∉ a' → a ++ c :: b = a' ++ c :: b' → a = a' ∧ b = b'
  | [], [], _, _, _, _, h => ⟨rfl, by simpa using h⟩
  | [], d :: a', _, _, _, h2, h => by
    simp at h
    exact absurd h.1 (fun e => h2 (e ▸ List.mem_cons_self ..))
  | d :: a, [], _, _, h1, _, h => by
    simp at h
    exact absurd h.1.symm (fun e => h1 (e ▸ List.mem_cons_self ..))
  | d :: a, d' :: a', _, _, h1, h2, h => by
    simp only [List.cons_append, List.cons.injEq] at h
    obtain ⟨rfl, h⟩ := h
    obtain ⟨rfl, rfl⟩ := cut_uniq (fun hm => h1 (List.mem_cons_of_mem _ hm)) (fun hm => h2 (List.mem_cons_of_mem _ hm)) h
    exact ⟨rfl, rfl⟩

/-- What a part is read as. -/
def Rd (p : List UInt8) (e : E) : Prop := ∃ a b, p = a ++ 61 :: b ∧ (61 : UInt8) ∉ a ∧ une a = some e.1 ∧ une b = some e.2
theorem rd_ent (e : E) : Rd (ent e) e := ⟨escL e.1, escL e.2, rfl, esc_no61 _, une_escL _, une_escL _⟩
theorem Rd.uniq {p : List UInt8} {e e' : E} (h : Rd p e) (h' : Rd p e') : e = e' := by
  obtain ⟨a, b, rfl, h1, h2, h3⟩ := h
  obtain ⟨a', b', he, h1', h2', h3'⟩ := h'
  obtain ⟨rfl, rfl⟩ := cut_uniq h1 h1' he
  rw [h2] at h2'; rw [h3] at h3'
  exact Prod.ext (Option.some.inj h2') (Option.some.inj h3')
theorem Rd.len {p : List UInt8} {e : E} (h : Rd p e) : e.1.length ≤ p.length ∧ e.2.length ≤ p.length := by
  obtain ⟨a, b, rfl, _, h2, h3⟩ := h
  have := une_len _ _ h2; have := une_len _ _ h3
  simp; omega
theorem no_rd {p : List UInt8} (h : (61 : UInt8) ∉ p) (e : E) : ¬ Rd p e := by
  rintro ⟨a, b, rfl, _⟩
  exact h (by simp)
theorem no_rd1 {a b : List UInt8} (h : (61 : UInt8) ∉ a) (h1 : une a = none) (e : E) : ¬ Rd (a ++ 61 :: b) e := by
  rintro ⟨a', b', he, h', h2, _⟩
  obtain ⟨rfl, rfl⟩ := cut_uniq h h' he
  rw [h1] at h2; cases h2
theorem no_rd2 {a b : List UInt8} (h : (61 : UInt8) ∉ a) (h1 : une b = none) (e : E) : ¬ Rd (a ++ 61 :: b) e := by
  rintro ⟨a', b', he, h', _, h2⟩
  obtain ⟨rfl, rfl⟩ := cut_uniq h h' he
  rw [h1] at h2; cases h2

/-- A text is that of these entries, which may be. -/
def Is (s : List UInt8) (es : List E) : Prop := chk es = true ∧ txt es = s
theorem chk_ne {es : List E} (h : chk es = true) : es ≠ [] := by
  rintro rfl; revert h; decide
theorem chk_len {es : List E} (h : chk es = true) : 1 ≤ es.length ∧ es.length ≤ 8 := by
  unfold chk at h
  simp only [Bool.and_eq_true, decide_eq_true_eq] at h
  exact h.1
theorem Is.eq {s : List UInt8} {es : List E} (h : Is s es) : s = jn (es.map ent) := by
  obtain ⟨h1, rfl⟩ := h
  unfold txt; rw [if_pos h1]
theorem is_ne {s : List UInt8} {es : List E} (h : Is s es) : s ≠ [] := by
  rw [h.eq]
  have hn := chk_ne h.1
  cases es with
  | nil => exact absurd rfl hn
  | cons e r =>
    have : ∃ x, (61 : UInt8) ∈ jn ((e :: r).map ent) ∧ x = 1 := by
      refine ⟨1, ?_, rfl⟩
      have he : (61 : UInt8) ∈ ent e := by unfold ent; simp
      cases r with
      | nil => exact he
      | cons y r => exact List.mem_append_left _ he
    obtain ⟨_, hm, _⟩ := this
    intro hc
    rw [hc] at hm; cases hm

theorem jn_first {ps qs : List (List UInt8)} (hp : ∀ p ∈ ps, (44 : UInt8) ∉ p) (hq : ∀ p ∈ qs, (44 : UInt8) ∉ p) (h1 : ps ≠ []) (h2 : qs ≠ []) (h : jn ps = jn qs) : ps = qs := by
  induction ps generalizing qs with
  | nil => exact absurd rfl h1
  | cons p ps ih =>
    cases qs with
    | nil => exact absurd rfl h2
    | cons q qs =>
      have hp1 := hp p List.mem_cons_self
      have hq1 := hq q List.mem_cons_self
      by_cases hps : ps = []
      · subst hps
        by_cases hqs : qs = []
        · subst hqs
          exact congrArg (fun x => [x]) h
        · rw [jn_cons q hqs] at h
          have h' : p = q ++ 44 :: jn qs := h
          exact absurd (h' ▸ (by simp : (44 : UInt8) ∈ q ++ 44 :: jn qs)) hp1
      · by_cases hqs : qs = []
        · subst hqs
          rw [jn_cons p hps] at h
          have h' : p ++ 44 :: jn ps = q := h
          exact absurd (h' ▸ (by simp : (44 : UInt8) ∈ p ++ 44 :: jn ps)) hq1
        · rw [jn_cons p hps, jn_cons q hqs] at h
          obtain ⟨rfl, h'⟩ := cut_uniq hp1 hq1 h
          rw [ih (fun x hx => hp x (List.mem_cons_of_mem _ hx)) (fun x hx => hq x (List.mem_cons_of_mem _ hx)) hps hqs h']
theorem ents_no (es : List E) : ∀ p ∈ es.map ent, (44 : UInt8) ∉ p := by
  intro p hp
  obtain ⟨e, _, rfl⟩ := List.mem_map.1 hp
  exact ent_no44 e
theorem ent_inj {e e' : E} (h : ent e = ent e') : e = e' := by
  have h1 := rd_ent e
  rw [h] at h1
  exact h1.uniq (rd_ent e')
theorem ents_inj : ∀ {es es' : List E}, es.map ent = es'.map ent → es = es'
  | [], [], _ => rfl
  | [], _ :: _, h => by cases h
  | _ :: _, [], h => by cases h
  | e :: es, e' :: es', h => by
    simp only [List.map_cons, List.cons.injEq] at h
    rw [ent_inj h.1, ents_inj h.2]
theorem Is.uniq {s : List UInt8} {es es' : List E} (h : Is s es) (h' : Is s es') : es = es' := by
  have e : jn (es.map ent) = jn (es'.map ent) := h.eq.symm.trans h'.eq
  exact ents_inj (jn_first (ents_no _) (ents_no _) (by simpa using chk_ne h.1) (by simpa using chk_ne h'.1) e)
theorem txt_inj {es es' : List E} (h : chk es = true) (h' : chk es' = true) : txt es = txt es' ↔ es = es' :=
  ⟨fun e => (show Is (txt es') es from ⟨h, e⟩).uniq ⟨h', rfl⟩, fun e => by rw [e]⟩

theorem index_in (a b : List UInt8) (c : UInt8) (h : c ∉ a) : Lib.indexByte (a ++ c :: b) c = (a.length : Int) := by
  induction a with
  | nil => simp [Lib.indexByte]
  | cons d a ih =>
    have hd : d ≠ c := fun e => h (e ▸ List.mem_cons_self ..)
    have hb : (d == c) = false := by simpa using hd
    rw [List.cons_append, Lib.indexByte, hb]
    simp only [Bool.false_eq_true, if_false]
    rw [ih (fun hm => h (List.mem_cons_of_mem _ hm))]
    have : ((a.length : Int) == -1) = false := by simp
    rw [this]; simp
theorem index_out (a : List UInt8) (c : UInt8) (h : c ∉ a) : Lib.indexByte a c = -1 := by
  induction a with
  | nil => rfl
  | cons d a ih =>
    have hd : d ≠ c := fun e => h (e ▸ List.mem_cons_self ..)
    have hb : (d == c) = false := by simpa using hd
    rw [Lib.indexByte, hb]
    simp only [Bool.false_eq_true, if_false]
    rw [ih (fun hm => h (List.mem_cons_of_mem _ hm))]; rfl
theorem cut_in (a b : List UInt8) (c : UInt8) (h : c ∉ a) : Lib.cut (a ++ c :: b) [c] = (a, b, true) := by
  have e : Lib.index (a ++ c :: b) [c] = (a.length : Int) := by rw [Lib.index_one, index_in a b c h]
  unfold Lib.cut
  rw [e, if_pos (by omega)]
  have : a ++ c :: b = (a ++ [c]) ++ b := by simp
  simp only [Int.toNat_natCast, List.take_left, List.length_cons, List.length_nil]
  rw [this, List.drop_left' (by simp)]
theorem cut_out (a : List UInt8) (c : UInt8) (h : c ∉ a) : Lib.cut a [c] = (a, [], false) := by
  have e : Lib.index a [c] = -1 := by rw [Lib.index_one, index_out a c h]
  unfold Lib.cut
  rw [e, if_neg (by omega)]
/-- Parts laid together are parted again. -/
theorem split_jn : ∀ (ps : List (List UInt8)) (k : Nat), (∀ p ∈ ps, (44 : UInt8) ∉ p) → ps ≠ [] → ps.length ≤ k + 1 → Lib.splitK [44] 0 k (jn ps) = ps
  | [], _, _, h, _ => absurd rfl h
  | [x], k, hp, _, _ => by
    have e : Lib.index x [44] = -1 := by rw [Lib.index_one, index_out x 44 (hp x List.mem_cons_self)]
    cases k with
    | zero => rfl
    | succ k =>
      show (if Lib.index x [44] == -1 then [x] else _) = [x]
      rw [e]; rfl
  | x :: y :: r, 0, _, _, h => by simp at h
  | x :: y :: r, k + 1, hp, _, h => by
    have hx := hp x List.mem_cons_self
    have e : Lib.index (x ++ 44 :: jn (y :: r)) [44] = (x.length : Int) := by rw [Lib.index_one, index_in _ _ _ hx]
    have ih := split_jn (y :: r) k (fun p hm => hp p (List.mem_cons_of_mem _ hm)) (by simp) (by simp at h ⊢; omega)
    have ej : jn (x :: y :: r) = x ++ 44 :: jn (y :: r) := rfl
    rw [ej, Lib.splitK, e]
    have hb : ((x.length : Int) == -1) = false := by simp
    rw [hb]
    have e1 : (x ++ 44 :: jn (y :: r)).take ((x.length : Int).toNat + 0) = x := by simp
    have e2 : (x ++ 44 :: jn (y :: r)).drop ((x.length : Int).toNat + [(44 : UInt8)].length) = jn (y :: r) := by
      have : x ++ 44 :: jn (y :: r) = (x ++ [44]) ++ jn (y :: r) := by simp
      rw [this, List.drop_left' (by simp)]
    simp only [Bool.false_eq_true, if_false]
    rw [e1, e2, ih]
theorem jn_len : ∀ ps : List (List UInt8), ps.length ≤ (jn ps).length + 1
  | [] => by simp
  | [x] => by simp
  | x :: y :: r => by
    have := jn_len (y :: r)
    show _ ≤ (x ++ 44 :: jn (y :: r)).length + 1
    simp at this ⊢; omega
theorem split_is {s : List UInt8} {es : List E} (h : Is s es) : Lib.splitK [44] 0 (min 9 (s.length + 1) - 1) s = es.map ent := by
  have hl := chk_len h.1
  have he := h.eq
  have := jn_len (es.map ent)
  rw [← he, List.length_map] at this
  conv => lhs; rw [he]
  refine split_jn _ _ (ents_no _) (by simpa using chk_ne h.1) ?_
  rw [List.length_map, ← he]
  omega
/-- Every part of a text is no longer than it. -/
theorem split_len : ∀ (k : Nat) (s : List UInt8) (p : List UInt8), p ∈ Lib.splitK [44] 0 k s → p.length ≤ s.length
  | 0, s, p, h => by simp [Lib.splitK] at h; rw [h]; exact Nat.le_refl _
  | k + 1, s, p, h => by
    unfold Lib.splitK at h
    split at h
    · simp at h; rw [h]; exact Nat.le_refl _
    · rcases List.mem_cons.1 h with rfl | h
      · rw [List.length_take]; omega
      · have := split_len k _ p h
        rw [List.length_drop] at this; omega
theorem split_count : ∀ (k : Nat) (s : List UInt8), (Lib.splitK [44] 0 k s).length ≤ k + 1 ∧ 1 ≤ (Lib.splitK [44] 0 k s).length
  | 0, s => by simp [Lib.splitK]
  | k + 1, s => by
    unfold Lib.splitK
    split
    · simp
    · have := split_count k (s.drop ((Lib.index s [44]).toNat + [(44 : UInt8)].length))
      rw [List.length_cons]; omega
/-- What is read of every part, if it has the text, is what the text is of. -/
theorem read_good {s : List UInt8} {es : List E} (hs : s ≠ []) (h : txt es = s) : Is s es := by
  refine ⟨?_, h⟩
  cases hc : chk es with
  | true => rfl
  | false =>
    unfold txt at h
    rw [hc] at h
    exact absurd h.symm hs
theorem read_bad {s : List UInt8} {es es' : List E} (hl : es.length = (Lib.splitK [44] 0 (min 9 (s.length + 1) - 1) s).length)
    (hr : ∀ (j : Nat) p e, (Lib.splitK [44] 0 (min 9 (s.length + 1) - 1) s)[j]? = some p → es[j]? = some e → Rd p e) (h : Is s es') : es = es' := by
  rw [split_is h] at hl hr
  rw [List.length_map] at hl
  apply List.ext_getElem hl
  intro j h1 h2
  have := hr j (ent es'[j]) es[j] (by simp [h2]) (by simp [h1])
  exact this.uniq (rd_ent _)
theorem read_fails {s p : List UInt8} {j : Nat} (hp : (Lib.splitK [44] 0 (min 9 (s.length + 1) - 1) s)[j]? = some p) (hn : ∀ e, ¬ Rd p e) (es' : List E) : ¬ Is s es' := by
  intro h
  rw [split_is h] at hp
  rw [List.getElem?_map] at hp
  obtain ⟨e, _, rfl⟩ := Option.map_eq_some_iff.1 hp
  exact hn e (rd_ent e)

/-- Where the twin stands: these entries are read, this is left. -/
def J (s : List UInt8) (es : List E) (left : List UInt8) (more : Bool) : Prop :=
  ∀ es', Is s es' → ∃ rest, es' = es ++ rest ∧ (more = true → rest ≠ [] ∧ left = jn (rest.map ent)) ∧ (more = false → rest = [])
theorem J.start (s : List UInt8) : J s [] s true := fun es' h => ⟨es', rfl, fun _ => ⟨chk_ne h.1, h.eq⟩, by simp⟩
theorem J.last {s left : List UInt8} {es : List E} (h : J s es left true) (hn : (44 : UInt8) ∉ left) {e : E} (he : Rd left e) : J s (es ++ [e]) [] false := by
  intro es' hi
  obtain ⟨rest, h1, h2, _⟩ := h es' hi
  obtain ⟨hr, hl⟩ := h2 rfl
  cases rest with
  | nil => exact absurd rfl hr
  | cons x r =>
    cases r with
    | nil =>
      have hl' : left = ent x := hl
      rw [hl'] at he
      have := he.uniq (rd_ent x)
      subst this
      exact ⟨[], by simp [h1], by simp, fun _ => rfl⟩
    | cons y r =>
      have hl' : left = ent x ++ 44 :: jn ((y :: r).map ent) := hl
      exact absurd (hl' ▸ (by simp : (44 : UInt8) ∈ ent x ++ 44 :: jn ((y :: r).map ent))) hn
theorem J.last_bad {s left : List UInt8} {es : List E} (h : J s es left true) (hn : (44 : UInt8) ∉ left) (he : ∀ e, ¬ Rd left e) (es' : List E) : ¬ Is s es' := by
  intro hi
  obtain ⟨rest, h1, h2, _⟩ := h es' hi
  obtain ⟨hr, hl⟩ := h2 rfl
  cases rest with
  | nil => exact hr rfl
  | cons x r =>
    cases r with
    | nil =>
      have hl' : left = ent x := hl
      exact he x (hl' ▸ rd_ent x)
    | cons y r =>
      have hl' : left = ent x ++ 44 :: jn ((y :: r).map ent) := hl
      exact hn (hl' ▸ (by simp : (44 : UInt8) ∈ ent x ++ 44 :: jn ((y :: r).map ent)))
theorem J.more {s a b : List UInt8} {es : List E} (h : J s es (a ++ 44 :: b) true) (hn : (44 : UInt8) ∉ a) {e : E} (he : Rd a e) : J s (es ++ [e]) b true := by
  intro es' hi
  obtain ⟨rest, h1, h2, _⟩ := h es' hi
  obtain ⟨hr, hl⟩ := h2 rfl
  cases rest with
  | nil => exact absurd rfl hr
  | cons x r =>
    cases r with
    | nil =>
      have hl' : a ++ 44 :: b = ent x := hl
      exact absurd (hl' ▸ (by simp : (44 : UInt8) ∈ a ++ 44 :: b)) (ent_no44 x)
    | cons y r =>
      have hl' : a ++ 44 :: b = ent x ++ 44 :: jn ((y :: r).map ent) := hl
      obtain ⟨rfl, rfl⟩ := cut_uniq hn (ent_no44 x) hl'
      have := he.uniq (rd_ent x)
      subst this
      exact ⟨y :: r, by simp [h1], fun _ => ⟨by simp, rfl⟩, by simp⟩
theorem J.more_bad {s a b : List UInt8} {es : List E} (h : J s es (a ++ 44 :: b) true) (hn : (44 : UInt8) ∉ a) (he : ∀ e, ¬ Rd a e) (es' : List E) : ¬ Is s es' := by
  intro hi
  obtain ⟨rest, h1, h2, _⟩ := h es' hi
  obtain ⟨hr, hl⟩ := h2 rfl
  cases rest with
  | nil => exact hr rfl
  | cons x r =>
    cases r with
    | nil =>
      have hl' : a ++ 44 :: b = ent x := hl
      exact ent_no44 x (hl' ▸ (by simp : (44 : UInt8) ∈ a ++ 44 :: b))
    | cons y r =>
      have hl' : a ++ 44 :: b = ent x ++ 44 :: jn ((y :: r).map ent) := hl
      obtain ⟨rfl, rfl⟩ := cut_uniq hn (ent_no44 x) hl'
      exact he x (rd_ent x)
theorem J.many {s left : List UInt8} {es : List E} {m : Bool} (h : J s es left m) (hl : 8 < es.length) (es' : List E) : ¬ Is s es' := by
  intro hi
  obtain ⟨rest, h1, _⟩ := h es' hi
  have := chk_len hi.1
  rw [h1] at this
  simp at this
  omega
theorem J.done {s left : List UInt8} {es : List E} (h : J s es left false) (hne : txt es ≠ s) (es' : List E) : ¬ Is s es' := by
  intro hi
  obtain ⟨rest, h1, _, h3⟩ := h es' hi
  rw [h3 rfl, List.append_nil] at h1
  exact hne (h1 ▸ hi.2)
end D
end Go.Proofs.YtepnjhhpnabpnaaDoor
