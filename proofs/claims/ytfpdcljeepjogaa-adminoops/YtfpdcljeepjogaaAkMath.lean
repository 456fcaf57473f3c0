/- Requests as bytes, over lists: what may be, its bytes, how bytes are read. No program is named here. -/
import Derived.Test.YtfpdcljeepjogaaDsD
import Derived.Test.YtfpdcljeepjogaaVarMath
namespace Go.Proofs.Ytfpdcljeepjogaa
namespace K

/-- ID, Domain, Hits, Descs. -/
abbrev A := Int × List UInt8 × Int × List (List D.E)
def chk (a : A) : Bool := decide (0 ≤ a.1 ∧ a.1 ≤ 2147483647) && D.nm a.2.1 && decide (0 ≤ a.2.2.1 ∧ a.2.2.1 ≤ 4294967295) && decide (1 ≤ a.2.2.2.length ∧ a.2.2.2.length ≤ 16) && a.2.2.2.all D.chk
/-- All alike. -/
def same (a b : A) : Bool := decide (a.1 = b.1) && decide (a.2.1 = b.2.1) && decide (a.2.2.1 = b.2.2.1) && decide (a.2.2.2 = b.2.2.2)
theorem same_iff {a b : A} : same a b = true ↔ a = b := by
  unfold same
  simp only [Bool.and_eq_true, decide_eq_true_eq]
  constructor
  · rintro ⟨⟨⟨h1, h2⟩, h3⟩, h4⟩
    exact Prod.ext h1 (Prod.ext h2 (Prod.ext h3 h4))
  · rintro rfl
    exact ⟨⟨⟨rfl, rfl⟩, rfl⟩, rfl⟩
def hits (a : A) : Int := max 1 (min a.2.2.1 4294967295)

def tx (s : List UInt8) : List UInt8 := V.put s.length ++ s
def enE (e : D.E) : List UInt8 := tx e.1 ++ tx e.2
def enEs (es : List D.E) : List UInt8 := es.flatMap enE
def enD (es : List D.E) : List UInt8 := V.put es.length ++ enEs es
def enDs (ds : List (List D.E)) : List UInt8 := ds.flatMap enD
def head (a : A) : List UInt8 := [1] ++ V.put a.1.toNat ++ tx a.2.1 ++ V.put a.2.2.1.toNat ++ V.put a.2.2.2.length
def enc (a : A) : List UInt8 := head a ++ enDs a.2.2.2

def num (most : Nat) (bs : List UInt8) : Option (Nat × List UInt8) := if V.ge bs = 0 ∧ V.gv bs ≤ most then some (V.gv bs, bs.drop (V.gn bs)) else none
def text (most : Nat) (bs : List UInt8) : Option (List UInt8 × List UInt8) :=
  (num most bs).bind fun p => if p.1 ≤ p.2.length then some (p.2.take p.1, p.2.drop p.1) else none
def ents : Nat → List UInt8 → Option (List D.E × List UInt8)
  | 0, bs => some ([], bs)
  | k + 1, bs => (text 64 bs).bind fun p => (text 128 p.2).bind fun q => (ents k q.2).map fun r => ((p.1, q.1) :: r.1, r.2)
def desc (bs : List UInt8) : Option (List D.E × List UInt8) := (num 8 bs).bind fun p => ents p.1 p.2
def descs : Nat → List UInt8 → Option (List (List D.E) × List UInt8)
  | 0, bs => some ([], bs)
  | k + 1, bs => (desc bs).bind fun p => (descs k p.2).map fun r => (p.1 :: r.1, r.2)
/-- What stands behind a payload's first byte, if that is k. -/
def firstOf (k : UInt8) (bs : List UInt8) : Option (List UInt8) :=
  match bs with
  | [] => none
  | c :: r => if c = k then some r else none
def first (bs : List UInt8) : Option (List UInt8) := firstOf 1 bs
theorem firstOf_some {k : UInt8} {bs b0 : List UInt8} (h0 : firstOf k bs = some b0) : bs = k :: b0 := by
  unfold firstOf at h0
  split at h0
  · cases h0
  · split at h0
    · rename_i hc
      rw [hc, Option.some.inj h0]
    · cases h0
def par (bs : List UInt8) : Option (A × List UInt8) :=
  (first bs).bind fun b0 => (num 2147483647 b0).bind fun p => (text 64 p.2).bind fun q => (num 4294967295 q.2).bind fun r => (num 16 r.2).bind fun s => (descs s.1 s.2).map fun t => (((p.1 : Int), q.1, (r.1 : Int), t.1), t.2)
def dec (bs : List UInt8) : Option A := (par bs).bind fun p => if p.2 = [] ∧ chk p.1 = true then some p.1 else none

theorem num_put {most v : Nat} (h : v ≤ most) (h64 : v < 18446744073709551616) (t : List UInt8) : num most (V.put v ++ t) = some (v, t) := by
  have g := V.got h64 t
  have e1 : V.gv (V.put v ++ t) = v := by unfold V.gv; rw [g]
  have e2 : V.gn (V.put v ++ t) = V.len v := by unfold V.gn; rw [g]
  have e3 : V.ge (V.put v ++ t) = 0 := by unfold V.ge; rw [g]
  unfold num
  rw [e1, e2, e3, if_pos ⟨rfl, h⟩]
  simp [V.len]
theorem num_some {most v : Nat} {bs r : List UInt8} (h : num most bs = some (v, r)) : bs = V.put v ++ r ∧ v ≤ most ∧ r.length < bs.length := by
  unfold num at h
  split at h
  · rename_i hc
    simp only [Option.some.injEq, Prod.mk.injEq] at h
    rcases V.only bs with ⟨h1, _⟩ | ⟨v', tail, hb, _, _, h1, h2, h3⟩
    · omega
    · obtain ⟨rfl, rfl⟩ := h
      have hl := V.len_pos v'
      rw [h1] at hc
      rw [h1, h2, hb]
      have e : (V.put v' ++ tail).drop (V.len v') = tail := by simp [V.len]
      rw [e]
      refine ⟨rfl, hc.2, ?_⟩
      have : (V.put v').length = V.len v' := rfl
      simp
      omega
  · cases h
theorem text_tx {most : Nat} {s : List UInt8} (h : s.length ≤ most) (h64 : s.length < 18446744073709551616) (t : List UInt8) : text most (tx s ++ t) = some (s, t) := by
  unfold text tx
  rw [List.append_assoc, num_put h h64]
  simp
theorem text_some {most : Nat} {bs s r : List UInt8} (h : text most bs = some (s, r)) : bs = tx s ++ r ∧ s.length ≤ most ∧ r.length < bs.length := by
  unfold text at h
  obtain ⟨⟨n, q⟩, h1, h2⟩ := Option.bind_eq_some_iff.1 h
  obtain ⟨rfl, h3, h4⟩ := num_some h1
  simp only at h2
  split at h2
  · rename_i hn
    simp only [Option.some.injEq, Prod.mk.injEq] at h2
    obtain ⟨rfl, rfl⟩ := h2
    have hl : (q.take n).length = n := by simp; omega
    refine ⟨?_, by omega, ?_⟩
    · unfold tx
      rw [hl, List.append_assoc, List.take_append_drop]
    · have : (q.drop n).length ≤ q.length := by simp
      omega
  · cases h2
def okL (e : D.E) : Prop := e.1.length ≤ 64 ∧ e.2.length ≤ 128
theorem ents_en : ∀ (es : List D.E) (t : List UInt8), (∀ e ∈ es, okL e) → ents es.length (enEs es ++ t) = some (es, t)
  | [], t, _ => rfl
  | e :: es, t, h => by
    have h1 := h e (by simp)
    have h2 := ents_en es t (fun x hx => h x (by simp [hx]))
    have e1 : enEs (e :: es) ++ t = tx e.1 ++ (tx e.2 ++ (enEs es ++ t)) := by simp [enEs, enE]
    unfold okL at h1
    rw [e1, List.length_cons, ents, text_tx h1.1 (by omega)]
    simp only [Option.bind_some]
    rw [text_tx h1.2 (by omega)]
    simp only [Option.bind_some]
    rw [h2]; rfl
theorem ents_some : ∀ {n : Nat} {bs : List UInt8} {es : List D.E} {r : List UInt8}, ents n bs = some (es, r) → bs = enEs es ++ r ∧ es.length = n ∧ ∀ e ∈ es, okL e
  | 0, bs, es, r, h => by
    simp only [ents, Option.some.injEq, Prod.mk.injEq] at h
    obtain ⟨rfl, rfl⟩ := h
    exact ⟨rfl, rfl, by simp⟩
  | n + 1, bs, es, r, h => by
    simp only [ents] at h
    obtain ⟨⟨k, b1⟩, h1, h⟩ := Option.bind_eq_some_iff.1 h
    obtain ⟨⟨v, b2⟩, h2, h⟩ := Option.bind_eq_some_iff.1 h
    obtain ⟨⟨es', r'⟩, h3, h⟩ := Option.map_eq_some_iff.1 h
    simp only [Prod.mk.injEq] at h
    obtain ⟨rfl, rfl⟩ := h
    obtain ⟨rfl, k1, _⟩ := text_some h1
    obtain ⟨rfl, k2, _⟩ := text_some h2
    obtain ⟨rfl, k3, k4⟩ := ents_some h3
    refine ⟨by simp [enEs, enE], by simp [k3], fun e he => ?_⟩
    rcases List.mem_cons.1 he with rfl | he
    · exact ⟨k1, k2⟩
    · exact k4 e he
def okD (es : List D.E) : Prop := es.length ≤ 8 ∧ ∀ e ∈ es, okL e
theorem desc_en {es : List D.E} (h : okD es) (t : List UInt8) : desc (enD es ++ t) = some (es, t) := by
  unfold desc enD
  rw [List.append_assoc, num_put h.1 (by have := h.1; omega)]
  exact ents_en es t h.2
theorem desc_some {bs : List UInt8} {es : List D.E} {r : List UInt8} (h : desc bs = some (es, r)) : bs = enD es ++ r ∧ okD es := by
  unfold desc at h
  obtain ⟨⟨n, b1⟩, h1, h2⟩ := Option.bind_eq_some_iff.1 h
  clear h
  obtain ⟨rfl, k1, _⟩ := num_some h1
  obtain ⟨rfl, k2, k3⟩ := ents_some h2
  exact ⟨by unfold enD; rw [k2, List.append_assoc], by omega, k3⟩
theorem descs_en : ∀ (ds : List (List D.E)) (t : List UInt8), (∀ d ∈ ds, okD d) → descs ds.length (enDs ds ++ t) = some (ds, t)
  | [], t, _ => rfl
  | d :: ds, t, h => by
    have h2 := descs_en ds t (fun x hx => h x (by simp [hx]))
    have e1 : enDs (d :: ds) ++ t = enD d ++ (enDs ds ++ t) := by simp [enDs]
    rw [e1, List.length_cons, descs, desc_en (h d (by simp))]
    simp only [Option.bind_some]
    rw [h2]; rfl
theorem descs_some : ∀ {n : Nat} {bs : List UInt8} {ds : List (List D.E)} {r : List UInt8}, descs n bs = some (ds, r) → bs = enDs ds ++ r ∧ ds.length = n ∧ ∀ d ∈ ds, okD d
  | 0, bs, ds, r, h => by
    simp only [descs, Option.some.injEq, Prod.mk.injEq] at h
    obtain ⟨rfl, rfl⟩ := h
    exact ⟨rfl, rfl, by simp⟩
  | n + 1, bs, ds, r, h => by
    simp only [descs] at h
    obtain ⟨⟨d, b1⟩, h1, h⟩ := Option.bind_eq_some_iff.1 h
    obtain ⟨⟨ds', r'⟩, h3, h⟩ := Option.map_eq_some_iff.1 h
    simp only [Prod.mk.injEq] at h
    obtain ⟨rfl, rfl⟩ := h
    obtain ⟨rfl, k1⟩ := desc_some h1
    obtain ⟨rfl, k3, k4⟩ := descs_some h3
    refine ⟨by simp [enDs], by simp [k3], fun e he => ?_⟩
    rcases List.mem_cons.1 he with rfl | he
    · exact k1
    · exact k4 e he

theorem chk_ok {a : A} (h : chk a = true) : (0 ≤ a.1 ∧ a.1 ≤ 2147483647) ∧ D.nm a.2.1 = true ∧ (0 ≤ a.2.2.1 ∧ a.2.2.1 ≤ 4294967295) ∧ (1 ≤ a.2.2.2.length ∧ a.2.2.2.length ≤ 16) ∧ ∀ d ∈ a.2.2.2, D.chk d = true := by
  unfold chk at h
  simp only [Bool.and_eq_true, decide_eq_true_eq, List.all_eq_true] at h
  exact ⟨h.1.1.1.1, h.1.1.1.2, h.1.1.2, h.1.2, h.2⟩
theorem nm_len {l : List UInt8} (h : D.nm l = true) : l.length ≤ 64 := by
  unfold D.nm at h
  simp only [Bool.and_eq_true, decide_eq_true_eq] at h
  exact h.1.2
theorem chk_okD {es : List D.E} (h : D.chk es = true) : okD es := by
  refine ⟨(D.chk_len h).2, fun e he => ?_⟩
  unfold D.chk at h
  simp only [Bool.and_eq_true, List.all_eq_true] at h
  have := h.2 e he
  unfold D.okE at this
  simp only [Bool.and_eq_true, decide_eq_true_eq] at this
  exact ⟨nm_len this.1, this.2⟩
theorem par_enc {a : A} (h : chk a = true) (t : List UInt8) : par (enc a ++ t) = some (a, t) := by
  obtain ⟨h1, h2, h3, h4, h5⟩ := chk_ok h
  obtain ⟨id, dom, hs, ds⟩ := a
  simp only at h1 h2 h3 h4 h5
  have e : enc (id, dom, hs, ds) ++ t = 1 :: (V.put id.toNat ++ (tx dom ++ (V.put hs.toNat ++ (V.put ds.length ++ (enDs ds ++ t))))) := by simp [enc, head]
  have hl := nm_len h2
  rw [e]
  unfold par
  simp only [first, firstOf, if_true, Option.bind_some]
  rw [num_put (by omega) (by omega)]
  simp only [Option.bind_some]
  rw [text_tx hl (by omega)]
  simp only [Option.bind_some]
  rw [num_put (by omega) (by omega)]
  simp only [Option.bind_some]
  rw [num_put h4.2 (by omega)]
  simp only [Option.bind_some]
  rw [descs_en ds t (fun d hd => chk_okD (h5 d hd))]
  simp only [Option.map_some]
  have e1 : ((id.toNat : Nat) : Int) = id := by omega
  have e2 : ((hs.toNat : Nat) : Int) = hs := by omega
  rw [e1, e2]
theorem par_some {bs : List UInt8} {a : A} {r : List UInt8} (h : par bs = some (a, r)) : bs = enc a ++ r := by
  unfold par at h
  obtain ⟨b0, h0, h⟩ := Option.bind_eq_some_iff.1 h
  obtain ⟨⟨id, b1⟩, h1, h⟩ := Option.bind_eq_some_iff.1 h
  obtain ⟨⟨dom, b2⟩, h2, h⟩ := Option.bind_eq_some_iff.1 h
  obtain ⟨⟨hs, b3⟩, h3, h⟩ := Option.bind_eq_some_iff.1 h
  obtain ⟨⟨n, b4⟩, h4, h⟩ := Option.bind_eq_some_iff.1 h
  obtain ⟨⟨ds, b5⟩, h5, h⟩ := Option.map_eq_some_iff.1 h
  simp only [Prod.mk.injEq] at h
  obtain ⟨rfl, rfl⟩ := h
  have e0 : bs = 1 :: b0 := firstOf_some h0
  obtain ⟨rfl, _⟩ := num_some h1
  obtain ⟨rfl, _⟩ := text_some h2
  obtain ⟨rfl, _⟩ := num_some h3
  obtain ⟨rfl, _⟩ := num_some h4
  obtain ⟨rfl, k, _⟩ := descs_some h5
  rw [e0]
  simp [enc, head, k]
theorem dec_enc {a : A} (h : chk a = true) : dec (enc a) = some a := by
  have := par_enc h []
  rw [List.append_nil] at this
  unfold dec
  rw [this]
  simp [h]
theorem dec_some {bs : List UInt8} {a : A} (h : dec bs = some a) : bs = enc a ∧ chk a = true := by
  unfold dec at h
  obtain ⟨⟨a', r⟩, h1, h⟩ := Option.bind_eq_some_iff.1 h
  simp only at h
  split at h
  · rename_i hc
    obtain ⟨rfl, hc⟩ := hc
    obtain rfl := Option.some.inj h
    have := par_some h1
    rw [List.append_nil] at this
    exact ⟨this, hc⟩
  · cases h
theorem dec_tail {a : A} (h : chk a = true) {t : List UInt8} (ht : t ≠ []) : dec (enc a ++ t) = none := by
  unfold dec
  rw [par_enc h t]
  simp [ht]
theorem dec_cut {a : A} (h : chk a = true) {k : Nat} (hk : k < (enc a).length) : dec ((enc a).take k) = none := by
  cases hd : dec ((enc a).take k) with
  | none => rfl
  | some a' =>
    obtain ⟨h1, h2⟩ := dec_some hd
    have h3 := par_enc h []
    rw [List.append_nil, ← List.take_append_drop k (enc a), h1, par_enc h2] at h3
    have h4 : (enc a).drop k = [] := by
      have := Option.some.inj h3
      exact (Prod.mk.inj this).2
    have := congrArg List.length h4
    simp at this
    omega
theorem enc_inj {a b : A} (h : chk a = true) (h' : chk b = true) : enc a = enc b ↔ a = b := by
  refine ⟨fun e => ?_, fun e => by rw [e]⟩
  have h1 := dec_enc h
  rw [e, dec_enc h'] at h1
  exact (Option.some.inj h1).symm

/-- How long the bytes get. -/
theorem put_le {v : Nat} (h : v < 18446744073709551616) : (V.put v).length ≤ 10 := V.len_le10 h
theorem tx_le {s : List UInt8} {n : Nat} (h : s.length ≤ n) (hn : n ≤ 1000) : (tx s).length ≤ 10 + n := by
  have := put_le (v := s.length) (by omega)
  unfold tx
  rw [List.length_append]
  omega
theorem enEs_le : ∀ (es : List D.E), (∀ e ∈ es, okL e) → (enEs es).length ≤ es.length * 212
  | [], _ => by simp [enEs]
  | e :: es, h => by
    have h1 := h e (by simp)
    have h2 := enEs_le es (fun x hx => h x (by simp [hx]))
    have h3 := tx_le h1.1 (by omega)
    have h4 := tx_le h1.2 (by omega)
    have e1 : enEs (e :: es) = tx e.1 ++ tx e.2 ++ enEs es := by simp [enEs, enE]
    rw [e1]
    simp only [List.length_append, List.length_cons]
    omega
theorem enD_le {es : List D.E} (h : okD es) : (enD es).length ≤ 1706 := by
  have h1 := enEs_le es h.2
  have h2 := put_le (v := es.length) (by have := h.1; omega)
  have := h.1
  unfold enD
  rw [List.length_append]
  omega
theorem enDs_le : ∀ (ds : List (List D.E)), (∀ d ∈ ds, okD d) → (enDs ds).length ≤ ds.length * 1706
  | [], _ => by simp [enDs]
  | d :: ds, h => by
    have h1 := enD_le (h d (by simp))
    have h2 := enDs_le ds (fun x hx => h x (by simp [hx]))
    have e1 : enDs (d :: ds) = enD d ++ enDs ds := by simp [enDs]
    rw [e1]
    simp only [List.length_append, List.length_cons]
    omega
theorem head_le {a : A} (h : chk a = true) : (head a).length ≤ 105 := by
  obtain ⟨h1, h2, h3, h4, h5⟩ := chk_ok h
  have k1 := put_le (v := a.1.toNat) (by omega)
  have k2 := tx_le (nm_len h2) (by omega)
  have k3 := put_le (v := a.2.2.1.toNat) (by omega)
  have k4 := put_le (v := a.2.2.2.length) (by omega)
  unfold head
  simp only [List.length_append, List.length_cons, List.length_nil]
  omega
theorem enDs_take_le {a : A} (h : chk a = true) (k : Nat) : (enDs (a.2.2.2.take k)).length ≤ 27296 := by
  obtain ⟨h1, h2, h3, h4, h5⟩ := chk_ok h
  have := enDs_le (a.2.2.2.take k) (fun d hd => chk_okD (h5 d (List.mem_of_mem_take hd)))
  rw [List.length_take] at this
  omega
theorem enc_le {a : A} (h : chk a = true) : (enc a).length ≤ 27401 := by
  have h1 := head_le h
  have h2 := enDs_take_le h a.2.2.2.length
  rw [List.take_length] at h2
  unfold enc
  rw [List.length_append]
  omega
theorem enEs_take {es : List D.E} {k : Nat} {e : D.E} (h : es[k]? = some e) : enEs (es.take (k + 1)) = enEs (es.take k) ++ (tx e.1 ++ tx e.2) := by
  rw [List.take_add_one, h]
  simp [enEs, enE]
theorem enDs_take {ds : List (List D.E)} {k : Nat} {d : List D.E} (h : ds[k]? = some d) : enDs (ds.take (k + 1)) = enDs (ds.take k) ++ enD d := by
  rw [List.take_add_one, h]
  simp [enDs]
/-- Where a reader of entries stands: es are read, k are left. -/
def At (o : Option (List D.E × List UInt8)) (es : List D.E) (k : Nat) (rest : List UInt8) : Prop := o = (ents k rest).map fun r => (es ++ r.1, r.2)
theorem At.start {bs r : List UInt8} {n : Nat} (h : num 8 bs = some (n, r)) : At (desc bs) [] n r := by
  unfold At desc
  rw [h]
  simp
theorem At.over {o : Option (List D.E × List UInt8)} {es : List D.E} {rest : List UInt8} (h : At o es 0 rest) : o = some (es, rest) := by
  unfold At at h
  rw [h]
  simp [ents]
theorem At.bad1 {o : Option (List D.E × List UInt8)} {es : List D.E} {k : Nat} {rest : List UInt8} (h : At o es (k + 1) rest) (h1 : text 64 rest = none) : o = none := by
  unfold At at h
  rw [h, ents, h1]; rfl
theorem At.bad2 {o : Option (List D.E × List UInt8)} {es : List D.E} {k : Nat} {rest key r1 : List UInt8} (h : At o es (k + 1) rest) (h1 : text 64 rest = some (key, r1)) (h2 : text 128 r1 = none) : o = none := by
  unfold At at h
  rw [h, ents, h1]
  simp only [Option.bind_some]
  rw [h2]; rfl
theorem At.more {o : Option (List D.E × List UInt8)} {es : List D.E} {k : Nat} {rest key r1 v r2 : List UInt8} (h : At o es (k + 1) rest) (h1 : text 64 rest = some (key, r1)) (h2 : text 128 r1 = some (v, r2)) : At o (es ++ [(key, v)]) k r2 := by
  unfold At at h ⊢
  rw [h, ents, h1]
  simp only [Option.bind_some]
  rw [h2]
  simp only [Option.bind_some, Option.map_map]
  congr 1
  funext r
  simp
theorem desc_bad {bs : List UInt8} (h : num 8 bs = none) : desc bs = none := by
  unfold desc
  rw [h]; rfl
/-- The same of descriptors. -/
def Ats (o : Option (List (List D.E) × List UInt8)) (ds : List (List D.E)) (k : Nat) (rest : List UInt8) : Prop := o = (descs k rest).map fun r => (ds ++ r.1, r.2)
theorem Ats.start (n : Nat) (r : List UInt8) : Ats (descs n r) [] n r := by
  unfold Ats
  simp
theorem Ats.over {o : Option (List (List D.E) × List UInt8)} {ds : List (List D.E)} {rest : List UInt8} (h : Ats o ds 0 rest) : o = some (ds, rest) := by
  unfold Ats at h
  rw [h]
  simp [descs]
theorem Ats.bad {o : Option (List (List D.E) × List UInt8)} {ds : List (List D.E)} {k : Nat} {rest : List UInt8} (h : Ats o ds (k + 1) rest) (h1 : desc rest = none) : o = none := by
  unfold Ats at h
  rw [h, descs, h1]; rfl
theorem Ats.more {o : Option (List (List D.E) × List UInt8)} {ds : List (List D.E)} {k : Nat} {rest r1 : List UInt8} {d : List D.E} (h : Ats o ds (k + 1) rest) (h1 : desc rest = some (d, r1)) : Ats o (ds ++ [d]) k r1 := by
  unfold Ats at h ⊢
  rw [h, descs, h1]
  simp only [Option.bind_some, Option.map_map]
  congr 1
  funext r
  simp
theorem par_bad0 {bs : List UInt8} (h : first bs = none) : par bs = none := by unfold par; rw [h]; rfl
theorem par_bad1 {bs b0 : List UInt8} (h : first bs = some b0) (h1 : num 2147483647 b0 = none) : par bs = none := by unfold par; rw [h]; simp only [Option.bind_some]; rw [h1]; rfl
theorem par_bad2 {bs b0 b1 : List UInt8} {id : Nat} (h : first bs = some b0) (h1 : num 2147483647 b0 = some (id, b1)) (h2 : text 64 b1 = none) : par bs = none := by
  unfold par; rw [h]; simp only [Option.bind_some]; rw [h1]; simp only [Option.bind_some]; rw [h2]; rfl
theorem par_bad3 {bs b0 b1 b2 dom : List UInt8} {id : Nat} (h : first bs = some b0) (h1 : num 2147483647 b0 = some (id, b1)) (h2 : text 64 b1 = some (dom, b2)) (h3 : num 4294967295 b2 = none) : par bs = none := by
  unfold par; rw [h]; simp only [Option.bind_some]; rw [h1]; simp only [Option.bind_some]; rw [h2]; simp only [Option.bind_some]; rw [h3]; rfl
theorem par_bad4 {bs b0 b1 b2 b3 dom : List UInt8} {id hs : Nat} (h : first bs = some b0) (h1 : num 2147483647 b0 = some (id, b1)) (h2 : text 64 b1 = some (dom, b2)) (h3 : num 4294967295 b2 = some (hs, b3)) (h4 : num 16 b3 = none) : par bs = none := by
  unfold par; rw [h]; simp only [Option.bind_some]; rw [h1]; simp only [Option.bind_some]; rw [h2]; simp only [Option.bind_some]; rw [h3]; simp only [Option.bind_some]; rw [h4]; rfl
theorem par_go {bs b0 b1 b2 b3 b4 dom : List UInt8} {id hs n : Nat} (h : first bs = some b0) (h1 : num 2147483647 b0 = some (id, b1)) (h2 : text 64 b1 = some (dom, b2)) (h3 : num 4294967295 b2 = some (hs, b3)) (h4 : num 16 b3 = some (n, b4)) :
    par bs = (descs n b4).map fun t => (((id : Int), dom, (hs : Int), t.1), t.2) := by
  unfold par; rw [h]; simp only [Option.bind_some]; rw [h1]; simp only [Option.bind_some]; rw [h2]; simp only [Option.bind_some]; rw [h3]; simp only [Option.bind_some]; rw [h4]; rfl
end K
end Go.Proofs.Ytfpdcljeepjogaa
