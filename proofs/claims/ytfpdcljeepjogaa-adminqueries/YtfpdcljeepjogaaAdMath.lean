/- Queries, reports and oopses as bytes, over lists: what may be, its bytes, how bytes are read. No program is named here. -/
import Derived.Test.YtfpdcljeepjogaaAkMath
namespace Go.Proofs.Ytfpdcljeepjogaa
namespace AD

/-- ID, Kind, Text: a query or a report. -/
abbrev N := Int × Int × List UInt8
/-- ID, Code, Kind, Line. -/
abbrev O := Int × Int × Int × Int
def inn (n least most : Int) : Bool := decide (least ≤ n) && decide (n ≤ most)
theorem inn_iff {n least most : Int} : inn n least most = true ↔ least ≤ n ∧ n ≤ most := by unfold inn; simp
def okN (most : Nat) (n : N) : Bool := inn n.1 0 2147483647 && inn n.2.1 1 6 && decide (n.2.2.length ≤ most)
def okO (o : O) : Bool := inn o.1 0 2147483647 && inn o.2.1 1 8 && inn o.2.2.1 0 17 && inn o.2.2.2 0 4294967295
theorem okN_iff {most : Nat} {n : N} : okN most n = true ↔ (0 ≤ n.1 ∧ n.1 ≤ 2147483647) ∧ (1 ≤ n.2.1 ∧ n.2.1 ≤ 6) ∧ n.2.2.length ≤ most := by
  unfold okN
  simp only [Bool.and_eq_true, inn_iff, decide_eq_true_eq, and_assoc]
theorem okO_iff {o : O} : okO o = true ↔ (0 ≤ o.1 ∧ o.1 ≤ 2147483647) ∧ (1 ≤ o.2.1 ∧ o.2.1 ≤ 8) ∧ (0 ≤ o.2.2.1 ∧ o.2.2.1 ≤ 17) ∧ (0 ≤ o.2.2.2 ∧ o.2.2.2 ≤ 4294967295) := by
  unfold okO
  simp only [Bool.and_eq_true, inn_iff, and_assoc]
def encN (kd : UInt8) (n : N) : List UInt8 := [kd] ++ V.put n.1.toNat ++ V.put n.2.1.toNat ++ K.tx n.2.2
def encO (o : O) : List UInt8 := [5] ++ V.put o.1.toNat ++ V.put o.2.1.toNat ++ V.put o.2.2.1.toNat ++ V.put o.2.2.2.toNat
def parN (kd : UInt8) (most : Nat) (bs : List UInt8) : Option (N × List UInt8) :=
  (K.firstOf kd bs).bind fun b0 => (K.num 2147483647 b0).bind fun p => (K.num 6 p.2).bind fun q => (K.text most q.2).bind fun r => if okN most ((p.1 : Int), (q.1 : Int), r.1) = true then some (((p.1 : Int), (q.1 : Int), r.1), r.2) else none
def parO (bs : List UInt8) : Option (O × List UInt8) :=
  (K.firstOf 5 bs).bind fun b0 => (K.num 2147483647 b0).bind fun p => (K.num 8 p.2).bind fun q => (K.num 17 q.2).bind fun r => (K.num 4294967295 r.2).bind fun s => if okO ((p.1 : Int), (q.1 : Int), (r.1 : Int), (s.1 : Int)) = true then some (((p.1 : Int), (q.1 : Int), (r.1 : Int), (s.1 : Int)), s.2) else none
/-- All of it was read. -/
def whole {α : Type} (o : Option (α × List UInt8)) : Option α := o.bind fun p => if p.2 = [] then some p.1 else none
def decN (kd : UInt8) (most : Nat) (bs : List UInt8) : Option N := whole (parN kd most bs)
def decO (bs : List UInt8) : Option O := whole (parO bs)
theorem whole_none {α : Type} : whole (none : Option (α × List UInt8)) = none := rfl
theorem whole_nil {α : Type} (x : α) : whole (some (x, [])) = some x := rfl
theorem whole_more {α : Type} (x : α) {r : List UInt8} (h : r ≠ []) : whole (some (x, r)) = none := by
  unfold whole
  simp [h]

theorem parN_enc {kd : UInt8} {most : Nat} {n : N} (hm : most ≤ 1000000) (h : okN most n = true) (t : List UInt8) : parN kd most (encN kd n ++ t) = some (n, t) := by
  have h' := h
  obtain ⟨h1, h2, h3⟩ := okN_iff.1 h
  obtain ⟨id, kind, s⟩ := n
  simp only at h1 h2 h3
  have e : encN kd (id, kind, s) ++ t = kd :: (V.put id.toNat ++ (V.put kind.toNat ++ (K.tx s ++ t))) := by simp [encN]
  rw [e]
  unfold parN
  simp only [K.firstOf, if_true, Option.bind_some]
  rw [K.num_put (by omega) (by omega)]
  simp only [Option.bind_some]
  rw [K.num_put (by omega) (by omega)]
  simp only [Option.bind_some]
  rw [K.text_tx h3 (by omega)]
  simp only [Option.bind_some]
  rw [show ((id.toNat : Nat) : Int) = id by omega, show ((kind.toNat : Nat) : Int) = kind by omega, if_pos h']
theorem parN_some {kd : UInt8} {most : Nat} {bs r : List UInt8} {n : N} (h : parN kd most bs = some (n, r)) : bs = encN kd n ++ r ∧ okN most n = true := by
  unfold parN at h
  obtain ⟨b0, h0, h⟩ := Option.bind_eq_some_iff.1 h
  obtain ⟨⟨id, b1⟩, h1, h⟩ := Option.bind_eq_some_iff.1 h
  obtain ⟨⟨kind, b2⟩, h2, h⟩ := Option.bind_eq_some_iff.1 h
  obtain ⟨⟨s, b3⟩, h3, h⟩ := Option.bind_eq_some_iff.1 h
  simp only at h
  split at h
  · rename_i hok
    obtain ⟨rfl, rfl⟩ := Prod.mk.inj (Option.some.inj h)
    obtain rfl := K.firstOf_some h0
    obtain ⟨rfl, _⟩ := K.num_some h1
    obtain ⟨rfl, _⟩ := K.num_some h2
    obtain ⟨rfl, _⟩ := K.text_some h3
    exact ⟨by simp [encN], hok⟩
  · cases h
theorem parO_enc {o : O} (h : okO o = true) (t : List UInt8) : parO (encO o ++ t) = some (o, t) := by
  have h' := h
  obtain ⟨h1, h2, h3, h4⟩ := okO_iff.1 h
  obtain ⟨a, b, c, d⟩ := o
  simp only at h1 h2 h3 h4
  have e : encO (a, b, c, d) ++ t = 5 :: (V.put a.toNat ++ (V.put b.toNat ++ (V.put c.toNat ++ (V.put d.toNat ++ t)))) := by simp [encO]
  rw [e]
  unfold parO
  simp only [K.firstOf, if_true, Option.bind_some]
  rw [K.num_put (by omega) (by omega)]
  simp only [Option.bind_some]
  rw [K.num_put (by omega) (by omega)]
  simp only [Option.bind_some]
  rw [K.num_put (by omega) (by omega)]
  simp only [Option.bind_some]
  rw [K.num_put (by omega) (by omega)]
  simp only [Option.bind_some]
  rw [show ((a.toNat : Nat) : Int) = a by omega, show ((b.toNat : Nat) : Int) = b by omega, show ((c.toNat : Nat) : Int) = c by omega, show ((d.toNat : Nat) : Int) = d by omega, if_pos h']
theorem parO_some {bs r : List UInt8} {o : O} (h : parO bs = some (o, r)) : bs = encO o ++ r ∧ okO o = true := by
  unfold parO at h
  obtain ⟨b0, h0, h⟩ := Option.bind_eq_some_iff.1 h
  obtain ⟨⟨a, b1⟩, h1, h⟩ := Option.bind_eq_some_iff.1 h
  obtain ⟨⟨b, b2⟩, h2, h⟩ := Option.bind_eq_some_iff.1 h
  obtain ⟨⟨c, b3⟩, h3, h⟩ := Option.bind_eq_some_iff.1 h
  obtain ⟨⟨d, b4⟩, h4, h⟩ := Option.bind_eq_some_iff.1 h
  simp only at h
  split at h
  · rename_i hok
    obtain ⟨rfl, rfl⟩ := Prod.mk.inj (Option.some.inj h)
    obtain rfl := K.firstOf_some h0
    obtain ⟨rfl, _⟩ := K.num_some h1
    obtain ⟨rfl, _⟩ := K.num_some h2
    obtain ⟨rfl, _⟩ := K.num_some h3
    obtain ⟨rfl, _⟩ := K.num_some h4
    exact ⟨by simp [encO], hok⟩
  · cases h
theorem whole_some {α : Type} {o : Option (α × List UInt8)} {x : α} (h : whole o = some x) : o = some (x, []) := by
  unfold whole at h
  obtain ⟨⟨y, r⟩, h1, h⟩ := Option.bind_eq_some_iff.1 h
  simp only at h
  split at h
  · rename_i hr
    obtain rfl := Option.some.inj h
    rw [h1, hr]
  · cases h
theorem decN_enc {kd : UInt8} {most : Nat} {n : N} (hm : most ≤ 1000000) (h : okN most n = true) : decN kd most (encN kd n) = some n := by
  have := parN_enc (kd := kd) hm h []
  rw [List.append_nil] at this
  unfold decN
  rw [this]; rfl
theorem decN_some {kd : UInt8} {most : Nat} {bs : List UInt8} {n : N} (h : decN kd most bs = some n) : bs = encN kd n ∧ okN most n = true := by
  have := parN_some (whole_some h)
  rwa [List.append_nil] at this
theorem decO_enc {o : O} (h : okO o = true) : decO (encO o) = some o := by
  have := parO_enc h []
  rw [List.append_nil] at this
  unfold decO
  rw [this]; rfl
theorem decO_some {bs : List UInt8} {o : O} (h : decO bs = some o) : bs = encO o ∧ okO o = true := by
  have := parO_some (whole_some h)
  rwa [List.append_nil] at this
/-- What is one of these begins with its byte. -/
theorem decN_first {kd : UInt8} {most : Nat} {bs : List UInt8} {n : N} (h : decN kd most bs = some n) : ∃ r, bs = kd :: r := ⟨_, (decN_some h).1.trans (by simp [encN]; rfl)⟩
theorem decO_first {bs : List UInt8} {o : O} (h : decO bs = some o) : ∃ r, bs = 5 :: r := ⟨_, (decO_some h).1.trans (by simp [encO]; rfl)⟩
/-- At most one. -/
theorem one_of {bs : List UInt8} {m m' : Nat} : (decN 3 m bs = none ∧ decN 4 m' bs = none) ∨ (decN 3 m bs = none ∧ decO bs = none) ∨ (decN 4 m' bs = none ∧ decO bs = none) := by
  cases h1 : decN 3 m bs with
  | none =>
    cases h2 : decN 4 m' bs with
    | none => exact .inl ⟨rfl, rfl⟩
    | some y =>
      cases h3 : decO bs with
      | none => exact .inr (.inl ⟨rfl, rfl⟩)
      | some z =>
        obtain ⟨r, rfl⟩ := decN_first h2
        obtain ⟨r', h⟩ := decO_first h3
        exact absurd (List.cons.inj h).1 (by decide)
  | some x =>
    obtain ⟨r, rfl⟩ := decN_first h1
    refine .inr (.inr ⟨?_, ?_⟩)
    · cases h2 : decN 4 m' (3 :: r) with
      | none => rfl
      | some y =>
        obtain ⟨r', h⟩ := decN_first h2
        exact absurd (List.cons.inj h).1 (by decide)
    · cases h2 : decO (3 :: r) with
      | none => rfl
      | some y =>
        obtain ⟨r', h⟩ := decO_first h2
        exact absurd (List.cons.inj h).1 (by decide)

/-- How long the bytes get. -/
theorem headN_le {kd : UInt8} {most : Nat} {n : N} (h : okN most n = true) : ([kd] ++ V.put n.1.toNat).length ≤ 11 ∧ ([kd] ++ V.put n.1.toNat ++ V.put n.2.1.toNat).length ≤ 21 := by
  obtain ⟨h1, h2, h3⟩ := okN_iff.1 h
  have k1 := K.put_le (v := n.1.toNat) (by omega)
  have k2 := K.put_le (v := n.2.1.toNat) (by omega)
  simp only [List.length_append, List.length_cons, List.length_nil]
  omega
theorem headO_le {o : O} (h : okO o = true) : ([5] ++ V.put o.1.toNat).length ≤ 11 ∧ ([5] ++ V.put o.1.toNat ++ V.put o.2.1.toNat).length ≤ 21 ∧ ([5] ++ V.put o.1.toNat ++ V.put o.2.1.toNat ++ V.put o.2.2.1.toNat).length ≤ 31 := by
  obtain ⟨h1, h2, h3, h4⟩ := okO_iff.1 h
  have k1 := K.put_le (v := o.1.toNat) (by omega)
  have k2 := K.put_le (v := o.2.1.toNat) (by omega)
  have k3 := K.put_le (v := o.2.2.1.toNat) (by omega)
  simp only [List.length_append, List.length_cons, List.length_nil]
  omega

theorem parN_bad0 {kd : UInt8} {most : Nat} {bs : List UInt8} (h : K.firstOf kd bs = none) : parN kd most bs = none := by unfold parN; rw [h]; rfl
theorem parN_bad1 {kd : UInt8} {most : Nat} {bs b0 : List UInt8} (h : K.firstOf kd bs = some b0) (h1 : K.num 2147483647 b0 = none) : parN kd most bs = none := by unfold parN; rw [h]; simp only [Option.bind_some]; rw [h1]; rfl
theorem parN_bad2 {kd : UInt8} {most : Nat} {bs b0 b1 : List UInt8} {id : Nat} (h : K.firstOf kd bs = some b0) (h1 : K.num 2147483647 b0 = some (id, b1)) (h2 : K.num 6 b1 = none) : parN kd most bs = none := by
  unfold parN; rw [h]; simp only [Option.bind_some]; rw [h1]; simp only [Option.bind_some]; rw [h2]; rfl
theorem parN_bad3 {kd : UInt8} {most : Nat} {bs b0 b1 b2 : List UInt8} {id kind : Nat} (h : K.firstOf kd bs = some b0) (h1 : K.num 2147483647 b0 = some (id, b1)) (h2 : K.num 6 b1 = some (kind, b2)) (h3 : K.text most b2 = none) : parN kd most bs = none := by
  unfold parN; rw [h]; simp only [Option.bind_some]; rw [h1]; simp only [Option.bind_some]; rw [h2]; simp only [Option.bind_some]; rw [h3]; rfl
theorem parN_go {kd : UInt8} {most : Nat} {bs b0 b1 b2 b3 s : List UInt8} {id kind : Nat} (h : K.firstOf kd bs = some b0) (h1 : K.num 2147483647 b0 = some (id, b1)) (h2 : K.num 6 b1 = some (kind, b2)) (h3 : K.text most b2 = some (s, b3)) : parN kd most bs = if okN most ((id : Int), (kind : Int), s) = true then some (((id : Int), (kind : Int), s), b3) else none := by
  unfold parN; rw [h]; simp only [Option.bind_some]; rw [h1]; simp only [Option.bind_some]; rw [h2]; simp only [Option.bind_some]; rw [h3]; rfl
theorem parO_bad0 {bs : List UInt8} (h : K.firstOf 5 bs = none) : parO bs = none := by unfold parO; rw [h]; rfl
theorem parO_bad1 {bs b0 : List UInt8} (h : K.firstOf 5 bs = some b0) (h1 : K.num 2147483647 b0 = none) : parO bs = none := by unfold parO; rw [h]; simp only [Option.bind_some]; rw [h1]; rfl
theorem parO_bad2 {bs b0 b1 : List UInt8} {a : Nat} (h : K.firstOf 5 bs = some b0) (h1 : K.num 2147483647 b0 = some (a, b1)) (h2 : K.num 8 b1 = none) : parO bs = none := by
  unfold parO; rw [h]; simp only [Option.bind_some]; rw [h1]; simp only [Option.bind_some]; rw [h2]; rfl
theorem parO_bad3 {bs b0 b1 b2 : List UInt8} {a b : Nat} (h : K.firstOf 5 bs = some b0) (h1 : K.num 2147483647 b0 = some (a, b1)) (h2 : K.num 8 b1 = some (b, b2)) (h3 : K.num 17 b2 = none) : parO bs = none := by
  unfold parO; rw [h]; simp only [Option.bind_some]; rw [h1]; simp only [Option.bind_some]; rw [h2]; simp only [Option.bind_some]; rw [h3]; rfl
theorem parO_bad4 {bs b0 b1 b2 b3 : List UInt8} {a b c : Nat} (h : K.firstOf 5 bs = some b0) (h1 : K.num 2147483647 b0 = some (a, b1)) (h2 : K.num 8 b1 = some (b, b2)) (h3 : K.num 17 b2 = some (c, b3)) (h4 : K.num 4294967295 b3 = none) : parO bs = none := by
  unfold parO; rw [h]; simp only [Option.bind_some]; rw [h1]; simp only [Option.bind_some]; rw [h2]; simp only [Option.bind_some]; rw [h3]; simp only [Option.bind_some]; rw [h4]; rfl
theorem parO_go {bs b0 b1 b2 b3 b4 : List UInt8} {a b c d : Nat} (h : K.firstOf 5 bs = some b0) (h1 : K.num 2147483647 b0 = some (a, b1)) (h2 : K.num 8 b1 = some (b, b2)) (h3 : K.num 17 b2 = some (c, b3)) (h4 : K.num 4294967295 b3 = some (d, b4)) : parO bs = if okO ((a : Int), (b : Int), (c : Int), (d : Int)) = true then some (((a : Int), (b : Int), (c : Int), (d : Int)), b4) else none := by
  unfold parO; rw [h]; simp only [Option.bind_some]; rw [h1]; simp only [Option.bind_some]; rw [h2]; simp only [Option.bind_some]; rw [h3]; simp only [Option.bind_some]; rw [h4]; rfl
/-- A payload's kind. -/
def kindOf (bs : List UInt8) : Int :=
  match bs with
  | [] => 0
  | c :: _ => if 1 ≤ c.toNat ∧ c.toNat ≤ 5 then (c.toNat : Int) else 0
end AD
end Go.Proofs.Ytfpdcljeepjogaa
