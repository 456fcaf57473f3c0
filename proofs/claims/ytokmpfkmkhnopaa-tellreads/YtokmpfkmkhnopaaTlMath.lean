/- Replies as bytes, over lists: what may be, its bytes, how bytes are read. No program is named here. -/
import Derived.Test.YtokmpfkmkhnopaaAkMath
namespace Go.Proofs.Ytokmpfkmkhnopaa
namespace TL

/-- So many, one behind the other. -/
def many {α : Type} (f : List UInt8 → Option (α × List UInt8)) : Nat → List UInt8 → Option (List α × List UInt8)
  | 0, bs => some ([], bs)
  | k + 1, bs => (f bs).bind fun p => (many f k p.2).map fun r => (p.1 :: r.1, r.2)
theorem many_en {α : Type} {f : List UInt8 → Option (α × List UInt8)} {en : α → List UInt8} : ∀ (xs : List α) (t : List UInt8), (∀ x ∈ xs, ∀ t, f (en x ++ t) = some (x, t)) → many f xs.length (xs.flatMap en ++ t) = some (xs, t)
  | [], t, _ => rfl
  | x :: xs, t, h => by
    have h1 := h x (by simp)
    have h2 := many_en xs t (fun y hy => h y (by simp [hy]))
    rw [List.flatMap_cons, List.append_assoc, List.length_cons, many, h1]
    simp only [Option.bind_some]
    rw [h2]; rfl
theorem many_some {α : Type} {f : List UInt8 → Option (α × List UInt8)} {en : α → List UInt8} {Q : α → Prop} (hf : ∀ bs x r, f bs = some (x, r) → bs = en x ++ r ∧ Q x) :
    ∀ {n : Nat} {bs : List UInt8} {xs : List α} {r : List UInt8}, many f n bs = some (xs, r) → bs = xs.flatMap en ++ r ∧ xs.length = n ∧ ∀ x ∈ xs, Q x
  | 0, bs, xs, r, h => by
    simp only [many, Option.some.injEq, Prod.mk.injEq] at h
    obtain ⟨rfl, rfl⟩ := h
    exact ⟨rfl, rfl, by simp⟩
  | n + 1, bs, xs, r, h => by
    simp only [many] at h
    obtain ⟨⟨x, b1⟩, h1, h⟩ := Option.bind_eq_some_iff.1 h
    obtain ⟨⟨ys, r'⟩, h3, h⟩ := Option.map_eq_some_iff.1 h
    simp only [Prod.mk.injEq] at h
    obtain ⟨rfl, rfl⟩ := h
    obtain ⟨rfl, k1⟩ := hf _ _ _ h1
    obtain ⟨rfl, k3, k4⟩ := many_some hf h3
    refine ⟨by simp, by simp [k3], fun y hy => ?_⟩
    rcases List.mem_cons.1 hy with rfl | hy
    · exact k1
    · exact k4 y hy
/-- Where a reader of so many stands: xs are read, k are left. -/
def Am {α : Type} (f : List UInt8 → Option (α × List UInt8)) (o : Option (List α × List UInt8)) (xs : List α) (k : Nat) (rest : List UInt8) : Prop := o = (many f k rest).map fun r => (xs ++ r.1, r.2)
theorem Am.start {α : Type} (f : List UInt8 → Option (α × List UInt8)) (n : Nat) (r : List UInt8) : Am f (many f n r) [] n r := by
  unfold Am
  simp
theorem Am.over {α : Type} {f : List UInt8 → Option (α × List UInt8)} {o : Option (List α × List UInt8)} {xs : List α} {rest : List UInt8} (h : Am f o xs 0 rest) : o = some (xs, rest) := by
  unfold Am at h
  rw [h]
  simp [many]
theorem Am.bad {α : Type} {f : List UInt8 → Option (α × List UInt8)} {o : Option (List α × List UInt8)} {xs : List α} {k : Nat} {rest : List UInt8} (h : Am f o xs (k + 1) rest) (h1 : f rest = none) : o = none := by
  unfold Am at h
  rw [h, many, h1]; rfl
theorem Am.more {α : Type} {f : List UInt8 → Option (α × List UInt8)} {o : Option (List α × List UInt8)} {xs : List α} {k : Nat} {rest r1 : List UInt8} {x : α} (h : Am f o xs (k + 1) rest) (h1 : f rest = some (x, r1)) : Am f o (xs ++ [x]) k r1 := by
  unfold Am at h ⊢
  rw [h, many, h1]
  simp only [Option.bind_some, Option.map_map]
  congr 1
  funext r
  simp

/-- Code, Limit, Unit, Left, Reset. -/
abbrev S := Int × Int × Int × Int × Int
/-- ID, Code, Full, Statuses, Heads. -/
abbrev T := Int × Int × Bool × List S × List D.E
def cd (n : Int) : Bool := decide (n = 1) || decide (n = 2)
def win (n most : Int) : Bool := decide (0 ≤ n) && decide (n ≤ most)
def okS (s : S) : Bool := cd s.1 && win s.2.1 4294967295 && win s.2.2.1 4 && win s.2.2.2.1 4294967295 && win s.2.2.2.2 86400
def prn (c : UInt8) : Bool := decide (32 ≤ c.toNat ∧ c.toNat ≤ 126)
def val (l : List UInt8) : Bool := decide (l.length ≤ 400) && l.all prn
def okH (e : D.E) : Bool := D.nm e.1 && val e.2
def chk (t : T) : Bool := win t.1 2147483647 && cd t.2.1 && decide (t.2.2.2.1.length ≤ 16) && decide (t.2.2.2.2.length ≤ 4) && t.2.2.2.1.all okS && t.2.2.2.2.all okH
/-- All alike. -/
def same (a b : T) : Bool := decide (a.1 = b.1) && decide (a.2.1 = b.2.1) && decide (a.2.2.1 = b.2.2.1) && decide (a.2.2.2.1 = b.2.2.2.1) && decide (a.2.2.2.2 = b.2.2.2.2)
theorem same_iff {a b : T} : same a b = true ↔ a = b := by
  unfold same
  simp only [Bool.and_eq_true, decide_eq_true_eq]
  constructor
  · rintro ⟨⟨⟨⟨h1, h2⟩, h3⟩, h4⟩, h5⟩
    exact Prod.ext h1 (Prod.ext h2 (Prod.ext h3 (Prod.ext h4 h5)))
  · rintro rfl
    exact ⟨⟨⟨⟨rfl, rfl⟩, rfl⟩, rfl⟩, rfl⟩
theorem same_self (a : T) : same a a = true := same_iff.2 rfl

def fz (b : Bool) : Nat := if b then 1 else 0
def enS (s : S) : List UInt8 := V.put s.1.toNat ++ V.put s.2.1.toNat ++ V.put s.2.2.1.toNat ++ V.put s.2.2.2.1.toNat ++ V.put s.2.2.2.2.toNat
def enSs (ss : List S) : List UInt8 := ss.flatMap enS
def head (t : T) : List UInt8 := [2] ++ V.put t.1.toNat ++ V.put t.2.1.toNat ++ V.put (fz t.2.2.1) ++ V.put t.2.2.2.1.length
def mid (t : T) : List UInt8 := head t ++ enSs t.2.2.2.1 ++ V.put t.2.2.2.2.length
def enc (t : T) : List UInt8 := mid t ++ K.enEs t.2.2.2.2

def stat (bs : List UInt8) : Option (S × List UInt8) :=
  (K.num 2 bs).bind fun a => (K.num 4294967295 a.2).bind fun b => (K.num 4 b.2).bind fun c => (K.num 4294967295 c.2).bind fun d => (K.num 86400 d.2).map fun e => (((a.1 : Int), (b.1 : Int), (c.1 : Int), (d.1 : Int), (e.1 : Int)), e.2)
def hd (bs : List UInt8) : Option (D.E × List UInt8) := (K.text 64 bs).bind fun p => (K.text 400 p.2).map fun q => ((p.1, q.1), q.2)
/-- What stands behind the statuses. -/
def tail (id code : Int) (full : Bool) (p : List S × List UInt8) : Option (T × List UInt8) := (K.num 4 p.2).bind fun m => (many hd m.1 m.2).map fun h => ((id, code, full, p.1, h.1), h.2)
def par (bs : List UInt8) : Option (T × List UInt8) :=
  (K.firstOf 2 bs).bind fun b0 => (K.num 2147483647 b0).bind fun p => (K.num 2 p.2).bind fun q => (K.num 1 q.2).bind fun f => (K.num 16 f.2).bind fun n => (many stat n.1 n.2).bind (tail (p.1 : Int) (q.1 : Int) (decide (f.1 = 1)))
def dec (bs : List UInt8) : Option T := (par bs).bind fun p => if p.2 = [] ∧ chk p.1 = true then some p.1 else none

theorem cd_iff {n : Int} : cd n = true ↔ n = 1 ∨ n = 2 := by unfold cd; simp
theorem win_iff {n most : Int} : win n most = true ↔ 0 ≤ n ∧ n ≤ most := by unfold win; simp
theorem okS_iff {s : S} : okS s = true ↔ (s.1 = 1 ∨ s.1 = 2) ∧ (0 ≤ s.2.1 ∧ s.2.1 ≤ 4294967295) ∧ (0 ≤ s.2.2.1 ∧ s.2.2.1 ≤ 4) ∧ (0 ≤ s.2.2.2.1 ∧ s.2.2.2.1 ≤ 4294967295) ∧ (0 ≤ s.2.2.2.2 ∧ s.2.2.2.2 ≤ 86400) := by
  unfold okS
  simp only [Bool.and_eq_true, cd_iff, win_iff, and_assoc]
theorem val_len {l : List UInt8} (h : val l = true) : l.length ≤ 400 := by
  unfold val at h
  simp only [Bool.and_eq_true, decide_eq_true_eq] at h
  exact h.1
def okL (e : D.E) : Prop := e.1.length ≤ 64 ∧ e.2.length ≤ 400
theorem okH_okL {e : D.E} (h : okH e = true) : okL e := by
  unfold okH at h
  simp only [Bool.and_eq_true] at h
  exact ⟨K.nm_len h.1, val_len h.2⟩
theorem chk_ok {t : T} (h : chk t = true) : (0 ≤ t.1 ∧ t.1 ≤ 2147483647) ∧ (t.2.1 = 1 ∨ t.2.1 = 2) ∧ t.2.2.2.1.length ≤ 16 ∧ t.2.2.2.2.length ≤ 4 ∧ (∀ s ∈ t.2.2.2.1, okS s = true) ∧ ∀ e ∈ t.2.2.2.2, okH e = true := by
  unfold chk at h
  simp only [Bool.and_eq_true, decide_eq_true_eq, List.all_eq_true, cd_iff, win_iff] at h
  exact ⟨h.1.1.1.1.1, h.1.1.1.1.2, h.1.1.1.2, h.1.1.2, h.1.2, h.2⟩

theorem stat_en {s : S} (h : okS s = true) (t : List UInt8) : stat (enS s ++ t) = some (s, t) := by
  obtain ⟨h1, h2, h3, h4, h5⟩ := okS_iff.1 h
  obtain ⟨a, b, c, d, e⟩ := s
  simp only at h1 h2 h3 h4 h5
  have e1 : enS (a, b, c, d, e) ++ t = V.put a.toNat ++ (V.put b.toNat ++ (V.put c.toNat ++ (V.put d.toNat ++ (V.put e.toNat ++ t)))) := by simp [enS]
  rw [e1]
  unfold stat
  rw [K.num_put (by omega) (by omega)]
  simp only [Option.bind_some]
  rw [K.num_put (by omega) (by omega)]
  simp only [Option.bind_some]
  rw [K.num_put (by omega) (by omega)]
  simp only [Option.bind_some]
  rw [K.num_put (by omega) (by omega)]
  simp only [Option.bind_some]
  rw [K.num_put (by omega) (by omega)]
  simp only [Option.map_some]
  rw [show ((a.toNat : Nat) : Int) = a by omega, show ((b.toNat : Nat) : Int) = b by omega, show ((c.toNat : Nat) : Int) = c by omega, show ((d.toNat : Nat) : Int) = d by omega, show ((e.toNat : Nat) : Int) = e by omega]
/-- What a status that was read is. -/
def inS (s : S) : Prop := (0 ≤ s.1 ∧ s.1 ≤ 2) ∧ (0 ≤ s.2.1 ∧ s.2.1 ≤ 4294967295) ∧ (0 ≤ s.2.2.1 ∧ s.2.2.1 ≤ 4) ∧ (0 ≤ s.2.2.2.1 ∧ s.2.2.2.1 ≤ 4294967295) ∧ (0 ≤ s.2.2.2.2 ∧ s.2.2.2.2 ≤ 86400)
theorem stat_some (bs : List UInt8) (s : S) (r : List UInt8) (h : stat bs = some (s, r)) : bs = enS s ++ r ∧ inS s := by
  unfold stat at h
  obtain ⟨⟨a, b1⟩, h1, h⟩ := Option.bind_eq_some_iff.1 h
  obtain ⟨⟨b, b2⟩, h2, h⟩ := Option.bind_eq_some_iff.1 h
  obtain ⟨⟨c, b3⟩, h3, h⟩ := Option.bind_eq_some_iff.1 h
  obtain ⟨⟨d, b4⟩, h4, h⟩ := Option.bind_eq_some_iff.1 h
  obtain ⟨⟨e, b5⟩, h5, h⟩ := Option.map_eq_some_iff.1 h
  simp only [Prod.mk.injEq] at h
  obtain ⟨rfl, rfl⟩ := h
  obtain ⟨rfl, k1, _⟩ := K.num_some h1
  obtain ⟨rfl, k2, _⟩ := K.num_some h2
  obtain ⟨rfl, k3, _⟩ := K.num_some h3
  obtain ⟨rfl, k4, _⟩ := K.num_some h4
  obtain ⟨rfl, k5, _⟩ := K.num_some h5
  refine ⟨by simp [enS], ?_⟩
  unfold inS
  simp only
  omega
theorem hd_en {e : D.E} (h : okL e) (t : List UInt8) : hd (K.enE e ++ t) = some (e, t) := by
  have e1 : K.enE e ++ t = K.tx e.1 ++ (K.tx e.2 ++ t) := by simp [K.enE]
  unfold okL at h
  rw [e1]
  unfold hd
  rw [K.text_tx h.1 (by omega)]
  simp only [Option.bind_some]
  rw [K.text_tx h.2 (by omega)]
  rfl
theorem hd_some (bs : List UInt8) (e : D.E) (r : List UInt8) (h : hd bs = some (e, r)) : bs = K.enE e ++ r ∧ okL e := by
  unfold hd at h
  obtain ⟨⟨k, b1⟩, h1, h⟩ := Option.bind_eq_some_iff.1 h
  obtain ⟨⟨v, b2⟩, h2, h⟩ := Option.map_eq_some_iff.1 h
  simp only [Prod.mk.injEq] at h
  obtain ⟨rfl, rfl⟩ := h
  obtain ⟨rfl, k1, _⟩ := K.text_some h1
  obtain ⟨rfl, k2, _⟩ := K.text_some h2
  exact ⟨by simp [K.enE], k1, k2⟩
theorem fz_le (b : Bool) : fz b ≤ 1 := by cases b <;> decide
theorem fz_one (b : Bool) : decide (fz b = 1) = b := by cases b <;> rfl
theorem fz_of {n : Nat} (h : n ≤ 1) : fz (decide (n = 1)) = n := by
  have : n = 0 ∨ n = 1 := by omega
  rcases this with rfl | rfl <;> rfl

theorem par_enc {t : T} (h : chk t = true) (r : List UInt8) : par (enc t ++ r) = some (t, r) := by
  obtain ⟨h1, h2, h3, h4, h5, h6⟩ := chk_ok h
  obtain ⟨id, code, full, ss, hs⟩ := t
  simp only at h1 h2 h3 h4 h5 h6
  have e : enc (id, code, full, ss, hs) ++ r = 2 :: (V.put id.toNat ++ (V.put code.toNat ++ (V.put (fz full) ++ (V.put ss.length ++ (ss.flatMap enS ++ (V.put hs.length ++ (hs.flatMap K.enE ++ r))))))) := by simp [enc, mid, head, enSs, K.enEs]
  have hf := fz_le full
  rw [e]
  unfold par
  simp only [K.firstOf, if_true, Option.bind_some]
  rw [K.num_put (by omega) (by omega)]
  simp only [Option.bind_some]
  rw [K.num_put (by omega) (by omega)]
  simp only [Option.bind_some]
  rw [K.num_put hf (by omega)]
  simp only [Option.bind_some]
  rw [K.num_put h3 (by omega)]
  simp only [Option.bind_some]
  rw [many_en ss _ (fun s hs t => stat_en (h5 s hs) t)]
  simp only [Option.bind_some, tail]
  rw [K.num_put h4 (by omega)]
  simp only [Option.bind_some]
  rw [many_en hs _ (fun e he t => hd_en (okH_okL (h6 e he)) t)]
  simp only [Option.map_some]
  rw [show ((id.toNat : Nat) : Int) = id by omega, show ((code.toNat : Nat) : Int) = code by omega, fz_one]
/-- What is read, whatever it is. -/
def inT (t : T) : Prop := (∀ s ∈ t.2.2.2.1, inS s) ∧ ∀ e ∈ t.2.2.2.2, okL e
theorem par_some {bs : List UInt8} {t : T} {r : List UInt8} (h : par bs = some (t, r)) : bs = enc t ++ r ∧ inT t := by
  unfold par at h
  obtain ⟨b0, h0, h⟩ := Option.bind_eq_some_iff.1 h
  obtain ⟨⟨id, b1⟩, h1, h⟩ := Option.bind_eq_some_iff.1 h
  obtain ⟨⟨code, b2⟩, h2, h⟩ := Option.bind_eq_some_iff.1 h
  obtain ⟨⟨f, b3⟩, h3, h⟩ := Option.bind_eq_some_iff.1 h
  obtain ⟨⟨n, b4⟩, h4, h⟩ := Option.bind_eq_some_iff.1 h
  obtain ⟨⟨ss, b5⟩, h5, h⟩ := Option.bind_eq_some_iff.1 h
  simp only [tail] at h
  obtain ⟨⟨m, b6⟩, h6, h⟩ := Option.bind_eq_some_iff.1 h
  obtain ⟨⟨hs, b7⟩, h7, h⟩ := Option.map_eq_some_iff.1 h
  simp only [Prod.mk.injEq] at h
  obtain ⟨rfl, rfl⟩ := h
  obtain rfl := K.firstOf_some h0
  obtain ⟨rfl, _⟩ := K.num_some h1
  obtain ⟨rfl, _⟩ := K.num_some h2
  obtain ⟨rfl, kf, _⟩ := K.num_some h3
  obtain ⟨rfl, _⟩ := K.num_some h4
  obtain ⟨rfl, kn, ks⟩ := many_some stat_some h5
  obtain ⟨rfl, _⟩ := K.num_some h6
  obtain ⟨rfl, km, kh⟩ := many_some hd_some h7
  refine ⟨?_, ks, kh⟩
  simp [enc, mid, head, enSs, K.enEs, kn, km, fz_of kf]
theorem dec_enc {t : T} (h : chk t = true) : dec (enc t) = some t := by
  have := par_enc h []
  rw [List.append_nil] at this
  unfold dec
  rw [this]
  simp [h]
theorem dec_some {bs : List UInt8} {t : T} (h : dec bs = some t) : bs = enc t ∧ chk t = true ∧ inT t := by
  unfold dec at h
  obtain ⟨⟨t', r⟩, h1, h⟩ := Option.bind_eq_some_iff.1 h
  simp only at h
  split at h
  · rename_i hc
    obtain ⟨rfl, hc⟩ := hc
    obtain rfl := Option.some.inj h
    have := par_some h1
    rw [List.append_nil] at this
    exact ⟨this.1, hc, this.2⟩
  · cases h
theorem dec_of_par {bs : List UInt8} (h : par bs = none) : dec bs = none := by unfold dec; rw [h]; rfl
theorem dec_of_par2 {bs r : List UInt8} {t : T} (h : par bs = some (t, r)) : dec bs = if r = [] ∧ chk t = true then some t else none := by unfold dec; rw [h]; rfl

/-- How long the bytes get. -/
theorem enS_le {s : S} (h : okS s = true) : (enS s).length ≤ 50 := by
  obtain ⟨h1, h2, h3, h4, h5⟩ := okS_iff.1 h
  have k1 := K.put_le (v := s.1.toNat) (by omega)
  have k2 := K.put_le (v := s.2.1.toNat) (by omega)
  have k3 := K.put_le (v := s.2.2.1.toNat) (by omega)
  have k4 := K.put_le (v := s.2.2.2.1.toNat) (by omega)
  have k5 := K.put_le (v := s.2.2.2.2.toNat) (by omega)
  unfold enS
  simp only [List.length_append]
  omega
theorem flat_le {α : Type} {en : α → List UInt8} {m : Nat} : ∀ (xs : List α), (∀ x ∈ xs, (en x).length ≤ m) → (xs.flatMap en).length ≤ xs.length * m
  | [], _ => by simp
  | x :: xs, h => by
    have h1 := h x (by simp)
    have h2 := flat_le xs (fun y hy => h y (by simp [hy]))
    rw [List.flatMap_cons, List.length_append, List.length_cons, Nat.succ_mul]
    omega
theorem enE_le {e : D.E} (h : okL e) : (K.enE e).length ≤ 484 := by
  have h3 := K.tx_le h.1 (by omega)
  have h4 := K.tx_le h.2 (by omega)
  unfold K.enE
  rw [List.length_append]
  omega
theorem head_le {t : T} (h : chk t = true) : (head t).length ≤ 41 := by
  obtain ⟨h1, h2, h3, h4, h5, h6⟩ := chk_ok h
  have hf := fz_le t.2.2.1
  have k1 := K.put_le (v := t.1.toNat) (by omega)
  have k2 := K.put_le (v := t.2.1.toNat) (by omega)
  have k3 := K.put_le (v := fz t.2.2.1) (by omega)
  have k4 := K.put_le (v := t.2.2.2.1.length) (by omega)
  unfold head
  simp only [List.length_append, List.length_cons, List.length_nil]
  omega
theorem enSs_take_le {t : T} (h : chk t = true) (k : Nat) : (enSs (t.2.2.2.1.take k)).length ≤ 800 := by
  obtain ⟨h1, h2, h3, h4, h5, h6⟩ := chk_ok h
  have := flat_le (en := enS) (m := 50) (t.2.2.2.1.take k) (fun s hs => enS_le (h5 s (List.mem_of_mem_take hs)))
  rw [List.length_take] at this
  unfold enSs
  omega
theorem enEs_take_le {t : T} (h : chk t = true) (k : Nat) : (K.enEs (t.2.2.2.2.take k)).length ≤ 1936 := by
  obtain ⟨h1, h2, h3, h4, h5, h6⟩ := chk_ok h
  have := flat_le (en := K.enE) (m := 484) (t.2.2.2.2.take k) (fun e he => enE_le (okH_okL (h6 e (List.mem_of_mem_take he))))
  rw [List.length_take] at this
  unfold K.enEs
  omega
theorem mid_le {t : T} (h : chk t = true) : (mid t).length ≤ 851 := by
  have h1 := head_le h
  have h2 := enSs_take_le h t.2.2.2.1.length
  rw [List.take_length] at h2
  have h4 := (chk_ok h).2.2.2.1
  have k4 := K.put_le (v := t.2.2.2.2.length) (by omega)
  unfold mid
  simp only [List.length_append]
  omega
theorem enSs_take {ss : List S} {k : Nat} {s : S} (h : ss[k]? = some s) : enSs (ss.take (k + 1)) = enSs (ss.take k) ++ enS s := by
  rw [List.take_add_one, h]
  simp [enSs]

theorem par_bad0 {bs : List UInt8} (h : K.firstOf 2 bs = none) : par bs = none := by unfold par; rw [h]; rfl
theorem par_bad1 {bs b0 : List UInt8} (h : K.firstOf 2 bs = some b0) (h1 : K.num 2147483647 b0 = none) : par bs = none := by unfold par; rw [h]; simp only [Option.bind_some]; rw [h1]; rfl
theorem par_bad2 {bs b0 b1 : List UInt8} {id : Nat} (h : K.firstOf 2 bs = some b0) (h1 : K.num 2147483647 b0 = some (id, b1)) (h2 : K.num 2 b1 = none) : par bs = none := by
  unfold par; rw [h]; simp only [Option.bind_some]; rw [h1]; simp only [Option.bind_some]; rw [h2]; rfl
theorem par_bad3 {bs b0 b1 b2 : List UInt8} {id code : Nat} (h : K.firstOf 2 bs = some b0) (h1 : K.num 2147483647 b0 = some (id, b1)) (h2 : K.num 2 b1 = some (code, b2)) (h3 : K.num 1 b2 = none) : par bs = none := by
  unfold par; rw [h]; simp only [Option.bind_some]; rw [h1]; simp only [Option.bind_some]; rw [h2]; simp only [Option.bind_some]; rw [h3]; rfl
theorem par_bad4 {bs b0 b1 b2 b3 : List UInt8} {id code f : Nat} (h : K.firstOf 2 bs = some b0) (h1 : K.num 2147483647 b0 = some (id, b1)) (h2 : K.num 2 b1 = some (code, b2)) (h3 : K.num 1 b2 = some (f, b3)) (h4 : K.num 16 b3 = none) : par bs = none := by
  unfold par; rw [h]; simp only [Option.bind_some]; rw [h1]; simp only [Option.bind_some]; rw [h2]; simp only [Option.bind_some]; rw [h3]; simp only [Option.bind_some]; rw [h4]; rfl
theorem par_go {bs b0 b1 b2 b3 b4 : List UInt8} {id code f n : Nat} (h : K.firstOf 2 bs = some b0) (h1 : K.num 2147483647 b0 = some (id, b1)) (h2 : K.num 2 b1 = some (code, b2)) (h3 : K.num 1 b2 = some (f, b3)) (h4 : K.num 16 b3 = some (n, b4)) :
    par bs = (many stat n b4).bind (tail (id : Int) (code : Int) (decide (f = 1))) := by
  unfold par; rw [h]; simp only [Option.bind_some]; rw [h1]; simp only [Option.bind_some]; rw [h2]; simp only [Option.bind_some]; rw [h3]; simp only [Option.bind_some]; rw [h4]; rfl
theorem stat_bad1 {bs : List UInt8} (h1 : K.num 2 bs = none) : stat bs = none := by unfold stat; rw [h1]; rfl
theorem stat_bad2 {bs b1 : List UInt8} {a : Nat} (h1 : K.num 2 bs = some (a, b1)) (h2 : K.num 4294967295 b1 = none) : stat bs = none := by unfold stat; rw [h1]; simp only [Option.bind_some]; rw [h2]; rfl
theorem stat_bad3 {bs b1 b2 : List UInt8} {a b : Nat} (h1 : K.num 2 bs = some (a, b1)) (h2 : K.num 4294967295 b1 = some (b, b2)) (h3 : K.num 4 b2 = none) : stat bs = none := by
  unfold stat; rw [h1]; simp only [Option.bind_some]; rw [h2]; simp only [Option.bind_some]; rw [h3]; rfl
theorem stat_bad4 {bs b1 b2 b3 : List UInt8} {a b c : Nat} (h1 : K.num 2 bs = some (a, b1)) (h2 : K.num 4294967295 b1 = some (b, b2)) (h3 : K.num 4 b2 = some (c, b3)) (h4 : K.num 4294967295 b3 = none) : stat bs = none := by
  unfold stat; rw [h1]; simp only [Option.bind_some]; rw [h2]; simp only [Option.bind_some]; rw [h3]; simp only [Option.bind_some]; rw [h4]; rfl
theorem stat_bad5 {bs b1 b2 b3 b4 : List UInt8} {a b c d : Nat} (h1 : K.num 2 bs = some (a, b1)) (h2 : K.num 4294967295 b1 = some (b, b2)) (h3 : K.num 4 b2 = some (c, b3)) (h4 : K.num 4294967295 b3 = some (d, b4)) (h5 : K.num 86400 b4 = none) : stat bs = none := by
  unfold stat; rw [h1]; simp only [Option.bind_some]; rw [h2]; simp only [Option.bind_some]; rw [h3]; simp only [Option.bind_some]; rw [h4]; simp only [Option.bind_some]; rw [h5]; rfl
theorem stat_go {bs b1 b2 b3 b4 b5 : List UInt8} {a b c d e : Nat} (h1 : K.num 2 bs = some (a, b1)) (h2 : K.num 4294967295 b1 = some (b, b2)) (h3 : K.num 4 b2 = some (c, b3)) (h4 : K.num 4294967295 b3 = some (d, b4)) (h5 : K.num 86400 b4 = some (e, b5)) : stat bs = some (((a : Int), (b : Int), (c : Int), (d : Int), (e : Int)), b5) := by
  unfold stat; rw [h1]; simp only [Option.bind_some]; rw [h2]; simp only [Option.bind_some]; rw [h3]; simp only [Option.bind_some]; rw [h4]; simp only [Option.bind_some]; rw [h5]; rfl
theorem hd_bad1 {bs : List UInt8} (h1 : K.text 64 bs = none) : hd bs = none := by unfold hd; rw [h1]; rfl
theorem hd_bad2 {bs b1 k : List UInt8} (h1 : K.text 64 bs = some (k, b1)) (h2 : K.text 400 b1 = none) : hd bs = none := by unfold hd; rw [h1]; simp only [Option.bind_some]; rw [h2]; rfl
theorem hd_go {bs b1 b2 k v : List UInt8} (h1 : K.text 64 bs = some (k, b1)) (h2 : K.text 400 b1 = some (v, b2)) : hd bs = some ((k, v), b2) := by unfold hd; rw [h1]; simp only [Option.bind_some]; rw [h2]; rfl
theorem tail_bad {id code : Int} {full : Bool} {ss : List S} {rest : List UInt8} (h : K.num 4 rest = none) : tail id code full (ss, rest) = none := by unfold tail; simp only; rw [h]; rfl
theorem tail_go {id code : Int} {full : Bool} {ss : List S} {rest r : List UInt8} {m : Nat} (h : K.num 4 rest = some (m, r)) : tail id code full (ss, rest) = (many hd m r).map fun h => ((id, code, full, ss, h.1), h.2) := by unfold tail; simp only; rw [h]; rfl
end TL
end Go.Proofs.Ytokmpfkmkhnopaa
