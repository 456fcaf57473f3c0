/- Several texts in one. -/
import Derived.Test.YtmgalfdiiegjjaaDoorShText
namespace Go.Proofs.YtmgalfdiiegjjaaDoor
namespace SH
open LX (B Pc Lz)
open DC (Nd bl)

def wr (t : B) (q : Bool) : B := if q then LX.quo t else t
mutual
/-- The rows of a tree, whose first row stands I in and has m dashes ahead. -/
def rowsT : Tr → Nat → Nat → List Rw
  | .text t q, I, m => [⟨I, m, .leaf (wr t q) t q⟩]
  | .list k, I, m => rowsL k I m (I + 2 * m)
  | .map k, I, m => rowsM k I m (I + 2 * m)
def rowsL : Fo → Nat → Nat → Nat → List Rw
  | .nil, _, _, _ => []
  | .cons _ t r, I, m, c => rowsT t I (m + 1) ++ rowsL r c 0 c
def rowsM : Fo → Nat → Nat → Nat → List Rw
  | .nil, _, _, _ => []
  | .cons key (.text s q) r, I, m, c => ⟨I, m, .kleaf key (wr s q) s q⟩ :: rowsM r c 0 c
  | .cons key (.list k) r, I, m, c => ⟨I, m, .key key⟩ :: (rowsL k (c + 2) 0 (c + 2) ++ rowsM r c 0 c)
  | .cons key (.map k) r, I, m, c => ⟨I, m, .key key⟩ :: (rowsM k (c + 2) 0 (c + 2) ++ rowsM r c 0 c)
end
mutual
/-- A tree as it is written, at a column, without what stands ahead of its first line. -/
def showT : Tr → Nat → B
  | .text t q, _ => wr t q ++ [10]
  | .list k, c => showL k c true
  | .map k, c => showM k c true
def showL : Fo → Nat → Bool → B
  | .nil, _, _ => []
  | .cons _ t r, c, f => (if f then [] else bl c) ++ (45 :: 32 :: showT t (c + 2)) ++ showL r c false
def showM : Fo → Nat → Bool → B
  | .nil, _, _ => []
  | .cons key (.text s q) r, c, f => (if f then [] else bl c) ++ (key ++ 58 :: 32 :: (wr s q ++ [10])) ++ showM r c false
  | .cons key (.list k) r, c, f => (if f then [] else bl c) ++ (key ++ 58 :: 10 :: (bl (c + 2) ++ showL k (c + 2) true)) ++ showM r c false
  | .cons key (.map k) r, c, f => (if f then [] else bl c) ++ (key ++ 58 :: 10 :: (bl (c + 2) ++ showM k (c + 2) true)) ++ showM r c false
end
def cat (rs : List Rw) : B := rs.flatMap fun r => r.bs ++ [10]
theorem cat_app (a b : List Rw) : cat (a ++ b) = cat a ++ cat b := by simp [cat]
theorem cat_cons (r : Rw) (rs : List Rw) : cat (r :: rs) = r.bs ++ [10] ++ cat rs := rfl
theorem dashes_succ : ∀ m, dashes (m + 1) = dashes m ++ [45, 32]
  | 0 => rfl
  | m + 1 => by
    show 45 :: 32 :: dashes (m + 1) = (45 :: 32 :: dashes m) ++ [45, 32]
    rw [dashes_succ m]; rfl
mutual
/-- Lists and maps have kids, lists no keys. -/
def fulT : Tr → Prop
  | .text _ _ => True
  | .list k => k ≠ .nil ∧ fulF k
  | .map k => k ≠ .nil ∧ fulF k
def fulF : Fo → Prop
  | .nil => True
  | .cons _ t r => fulT t ∧ fulF r
end
mutual
theorem okT_ful : ∀ t : Tr, okT t → fulT t
  | .text _ _, _ => by rw [fulT]; trivial
  | .list k, h => by rw [okT] at h; rw [fulT]; exact ⟨h.1, okF_ful k h.2.2⟩
  | .map k, h => by rw [okT] at h; rw [fulT]; exact ⟨h.1, okF_ful k h.2.2⟩
theorem okF_ful : ∀ k : Fo, okF k → fulF k
  | .nil, _ => by rw [fulF]; trivial
  | .cons _ t r, h => by rw [okF] at h; rw [fulF]; exact ⟨okT_ful t h.1, okF_ful r h.2⟩
end
mutual
theorem cat_T : ∀ (t : Tr) (I m : Nat), fulT t → bl I ++ dashes m ++ showT t (I + 2 * m) = cat (rowsT t I m)
  | .text t q, I, m, _ => by
    rw [showT, rowsT, cat_cons]
    simp [Rw.bs, Rw.c, Rt.b, cat]
  | .list k, I, m, h => by
    rw [fulT] at h
    rw [showT, rowsT]
    exact cat_L k I m h.1 h.2
  | .map k, I, m, h => by
    rw [fulT] at h
    rw [showT, rowsT]
    exact cat_M k I m h.1 h.2
theorem cat_L : ∀ (k : Fo) (I m : Nat), k ≠ .nil → fulF k → bl I ++ dashes m ++ showL k (I + 2 * m) true = cat (rowsL k I m (I + 2 * m))
  | .nil, _, _, h, _ => absurd rfl h
  | .cons _ t r, I, m, _, h => by
    rw [fulF] at h
    have h1 := cat_T t I (m + 1) h.1
    have h2 := cat_Lf r (I + 2 * m) h.2
    rw [showL, rowsL, cat_app, ← h1, ← h2, dashes_succ, show I + 2 * (m + 1) = I + 2 * m + 2 by omega]
    simp
theorem cat_Lf : ∀ (k : Fo) (c : Nat), fulF k → showL k c false = cat (rowsL k c 0 c)
  | .nil, _, _ => by rw [showL, rowsL]; rfl
  | .cons _ t r, c, h => by
    rw [fulF] at h
    have h1 := cat_T t c 1 h.1
    have h2 := cat_Lf r c h.2
    rw [showL, rowsL, cat_app, ← h2]
    rw [show 0 + 1 = 1 from rfl, ← h1]
    simp [dashes]
theorem cat_M : ∀ (k : Fo) (I m : Nat), k ≠ .nil → fulF k → bl I ++ dashes m ++ showM k (I + 2 * m) true = cat (rowsM k I m (I + 2 * m))
  | .nil, _, _, h, _ => absurd rfl h
  | .cons key (.text s q) r, I, m, _, h => by
    rw [fulF] at h
    have h2 := cat_Mf r (I + 2 * m) h.2
    rw [showM, rowsM, cat_cons, ← h2]
    simp [Rw.bs, Rw.c, Rt.b]
  | .cons key (.list k) r, I, m, _, h => by
    rw [fulF, fulT] at h
    have h1 := cat_L k (I + 2 * m + 2) 0 h.1.1 h.1.2
    have h2 := cat_Mf r (I + 2 * m) h.2
    rw [Nat.mul_zero, Nat.add_zero] at h1
    rw [showM, rowsM, cat_cons, cat_app, ← h2, ← h1]
    simp [Rw.bs, Rw.c, Rt.b, dashes]
  | .cons key (.map k) r, I, m, _, h => by
    rw [fulF, fulT] at h
    have h1 := cat_M k (I + 2 * m + 2) 0 h.1.1 h.1.2
    have h2 := cat_Mf r (I + 2 * m) h.2
    rw [Nat.mul_zero, Nat.add_zero] at h1
    rw [showM, rowsM, cat_cons, cat_app, ← h2, ← h1]
    simp [Rw.bs, Rw.c, Rt.b, dashes]
theorem cat_Mf : ∀ (k : Fo) (c : Nat), fulF k → showM k c false = cat (rowsM k c 0 c)
  | .nil, _, _ => by rw [showM, rowsM]; rfl
  | .cons key (.text s q) r, c, h => by
    rw [fulF] at h
    have h2 := cat_Mf r c h.2
    rw [showM, rowsM, cat_cons, ← h2]
    simp [Rw.bs, Rw.c, Rt.b, dashes]
  | .cons key (.list k) r, c, h => by
    rw [fulF, fulT] at h
    have h1 := cat_L k (c + 2) 0 h.1.1 h.1.2
    have h2 := cat_Mf r c h.2
    rw [Nat.mul_zero, Nat.add_zero] at h1
    rw [showM, rowsM, cat_cons, cat_app, ← h2, ← h1]
    simp [Rw.bs, Rw.c, Rt.b, dashes]
  | .cons key (.map k) r, c, h => by
    rw [fulF, fulT] at h
    have h1 := cat_M k (c + 2) 0 h.1.1 h.1.2
    have h2 := cat_Mf r c h.2
    rw [Nat.mul_zero, Nat.add_zero] at h1
    rw [showM, rowsM, cat_cons, cat_app, ← h2, ← h1]
    simp [Rw.bs, Rw.c, Rt.b, dashes]
end

/-! ### Its pieces -/
def psR : Int → List Rw → List Pc
  | _, [] => []
  | n, r :: rs => r.ps n ++ psR (n + 1) rs
theorem psR_app : ∀ (n : Int) (a b : List Rw), psR n (a ++ b) = psR n a ++ psR (n + a.length) b
  | n, [], b => by simp [psR]
  | n, r :: a, b => by
    rw [List.cons_append, psR, psR, psR_app (n + 1) a b, List.append_assoc]
    congr 3
    rw [List.length_cons]
    push_cast
    omega
mutual
theorem ps_T : ∀ (t : Tr) (I m : Nat) (n : Int), okT t → ∃ L, psR n (rowsT t I m) = dashP n I m ++ L ∧ ShT t ((I : Int) + 2 * m) L
  | .text t q, I, m, n, _ => by
    refine ⟨[(3, n, (I : Int) + 2 * m, t, q)], ?_, ?_⟩
    · rw [rowsT, psR, psR]; simp [Rw.ps, Rt.ps]
    · rw [ShT]; exact ⟨n, rfl⟩
  | .list k, I, m, n, h => by
    rw [okT] at h
    obtain ⟨L, h1, h2⟩ := ps_L k I m n h.1 h.2.1 h.2.2
    exact ⟨L, by rw [rowsT]; exact h1, by rw [ShT]; exact h2⟩
  | .map k, I, m, n, h => by
    rw [okT] at h
    obtain ⟨L, h1, h2⟩ := ps_M k I m n h.1 h.2.2
    exact ⟨L, by rw [rowsT]; exact h1, by rw [ShT]; exact h2⟩
theorem ps_L : ∀ (k : Fo) (I m : Nat) (n : Int), k ≠ .nil → (∀ x ∈ keysF k, x = []) → okF k → ∃ L, psR n (rowsL k I m (I + 2 * m)) = dashP n I m ++ L ∧ ShF k 1 ((I : Int) + 2 * m) L
  | .nil, _, _, _, h, _, _ => absurd rfl h
  | .cons key t r, I, m, n, _, hk, h => by
    rw [okF] at h
    obtain ⟨L1, h1, h2⟩ := ps_T t I (m + 1) n h.1
    obtain ⟨L2, h3, h4⟩ := ps_Lf r (I + 2 * m) (n + (rowsT t I (m + 1)).length) (fun x hx => hk x (by rw [keysF]; exact List.mem_cons_of_mem _ hx)) h.2
    have hkey : key = [] := hk key (by rw [keysF]; simp)
    refine ⟨(1, n, (I : Int) + 2 * m, key, false) :: (L1 ++ L2), ?_, ?_⟩
    · rw [rowsL, psR_app, h1, h3, dashP_succ, hkey]; simp
    · rw [ShF]
      refine ⟨n, (I : Int) + 2 * ((m + 1 : Nat) : Int), L1, L2, by push_cast; omega, rfl, h2, ?_⟩
      have e : ((I + 2 * m : Nat) : Int) = (I : Int) + 2 * m := by push_cast; rfl
      rw [← e]; exact h4
theorem ps_Lf : ∀ (k : Fo) (c : Nat) (n : Int), (∀ x ∈ keysF k, x = []) → okF k → ∃ L, psR n (rowsL k c 0 c) = L ∧ ShF k 1 (c : Int) L
  | .nil, c, n, _, _ => ⟨[], by rw [rowsL]; rfl, by rw [ShF]⟩
  | .cons key t r, c, n, hk, h => by
    rw [okF] at h
    obtain ⟨L1, h1, h2⟩ := ps_T t c 1 n h.1
    obtain ⟨L2, h3, h4⟩ := ps_Lf r c (n + (rowsT t c 1).length) (fun x hx => hk x (by rw [keysF]; exact List.mem_cons_of_mem _ hx)) h.2
    have hkey : key = [] := hk key (by rw [keysF]; simp)
    refine ⟨(1, n, (c : Int), key, false) :: (L1 ++ L2), ?_, ?_⟩
    · rw [rowsL, psR_app, show 0 + 1 = 1 from rfl, h1, h3, hkey]; simp [dashP]
    · rw [ShF]
      exact ⟨n, (c : Int) + 2 * ((1 : Nat) : Int), L1, L2, by push_cast; omega, rfl, h2, h4⟩
theorem ps_M : ∀ (k : Fo) (I m : Nat) (n : Int), k ≠ .nil → okF k → ∃ L, psR n (rowsM k I m (I + 2 * m)) = dashP n I m ++ L ∧ ShF k 2 ((I : Int) + 2 * m) L
  | .nil, _, _, _, h, _ => absurd rfl h
  | .cons key (.text s q) r, I, m, n, _, h => by
    rw [okF] at h
    obtain ⟨L2, h3, h4⟩ := ps_Mf r (I + 2 * m) (n + 1) h.2
    have e : ((I + 2 * m : Nat) : Int) = (I : Int) + 2 * m := by push_cast; rfl
    refine ⟨(2, n, (I : Int) + 2 * m, key, false) :: ([(3, n, (I : Int) + 2 * m + key.length + 2, s, q)] ++ L2), ?_, ?_⟩
    · rw [rowsM, psR, h3]; simp [Rw.ps, Rt.ps]
    · rw [ShF]
      refine ⟨n, (I : Int) + 2 * m + key.length + 2, _, L2, by omega, rfl, ?_, ?_⟩
      · rw [ShT]; exact ⟨n, rfl⟩
      · rw [← e]; exact h4
  | .cons key (.list k) r, I, m, n, _, h => by
    rw [okF, okT] at h
    obtain ⟨L1, h1, h2⟩ := ps_L k (I + 2 * m + 2) 0 (n + 1) h.1.1 h.1.2.1 h.1.2.2
    obtain ⟨L2, h3, h4⟩ := ps_Mf r (I + 2 * m) (n + 1 + (rowsL k (I + 2 * m + 2) 0 (I + 2 * m + 2)).length) h.2
    have e : ((I + 2 * m : Nat) : Int) = (I : Int) + 2 * m := by push_cast; rfl
    rw [Nat.mul_zero, Nat.add_zero] at h1
    refine ⟨(2, n, (I : Int) + 2 * m, key, false) :: (L1 ++ L2), ?_, ?_⟩
    · rw [rowsM, psR, psR_app, h1, h3]; simp [Rw.ps, Rt.ps, dashP]
    · rw [ShF]
      refine ⟨n, ((I + 2 * m + 2 : Nat) : Int) + 2 * ((0 : Nat) : Int), L1, L2, by push_cast; omega, rfl, ?_, ?_⟩
      · rw [ShT]; exact h2
      · rw [← e]; exact h4
  | .cons key (.map k) r, I, m, n, _, h => by
    rw [okF, okT] at h
    obtain ⟨L1, h1, h2⟩ := ps_M k (I + 2 * m + 2) 0 (n + 1) h.1.1 h.1.2.2
    obtain ⟨L2, h3, h4⟩ := ps_Mf r (I + 2 * m) (n + 1 + (rowsM k (I + 2 * m + 2) 0 (I + 2 * m + 2)).length) h.2
    have e : ((I + 2 * m : Nat) : Int) = (I : Int) + 2 * m := by push_cast; rfl
    rw [Nat.mul_zero, Nat.add_zero] at h1
    refine ⟨(2, n, (I : Int) + 2 * m, key, false) :: (L1 ++ L2), ?_, ?_⟩
    · rw [rowsM, psR, psR_app, h1, h3]; simp [Rw.ps, Rt.ps, dashP]
    · rw [ShF]
      refine ⟨n, ((I + 2 * m + 2 : Nat) : Int) + 2 * ((0 : Nat) : Int), L1, L2, by push_cast; omega, rfl, ?_, ?_⟩
      · rw [ShT]; exact h2
      · rw [← e]; exact h4
theorem ps_Mf : ∀ (k : Fo) (c : Nat) (n : Int), okF k → ∃ L, psR n (rowsM k c 0 c) = L ∧ ShF k 2 (c : Int) L
  | .nil, c, n, _ => ⟨[], by rw [rowsM]; rfl, by rw [ShF]⟩
  | .cons key t r, c, n, h => by
    obtain ⟨L, h1, h2⟩ := ps_M (.cons key t r) c 0 n (by simp) h
    rw [Nat.mul_zero, Nat.add_zero] at h1
    refine ⟨L, by rw [h1]; rfl, ?_⟩
    have e : (c : Int) + 2 * ((0 : Nat) : Int) = c := by simp
    rw [e] at h2
    exact h2
end
end SH
end Go.Proofs.YtmgalfdiiegjjaaDoor

/- A tree of a document, written out, is parsed as its nodes. No program is named here. -/
namespace Go.Proofs.YtmgalfdiiegjjaaDoor
namespace SH
open LX (B Pc Lz)
open DC (Nd bl)

mutual
/-- Its texts and keys may be. -/
def godT : Tr → Prop
  | .text t q => Leaf (wr t q) t q
  | .list k => godF k
  | .map k => (∀ x ∈ keysF k, Key x) ∧ godF k
def godF : Fo → Prop
  | .nil => True
  | .cons _ t r => godT t ∧ godF r
end
mutual
theorem rows_T : ∀ (t : Tr) (I m : Nat), godT t → ∀ r ∈ rowsT t I m, r.t.ok
  | .text t q, I, m, h => by
    rw [godT] at h
    intro r hr
    rw [rowsT, List.mem_singleton] at hr
    subst hr
    exact h
  | .list k, I, m, h => by
    rw [godT] at h
    rw [rowsT]
    exact rows_L k I m _ h
  | .map k, I, m, h => by
    rw [godT] at h
    rw [rowsT]
    exact rows_M k I m _ h.1 h.2
theorem rows_L : ∀ (k : Fo) (I m c : Nat), godF k → ∀ r ∈ rowsL k I m c, r.t.ok
  | .nil, _, _, _, _ => by rw [rowsL]; simp
  | .cons _ t r, I, m, c, h => by
    rw [godF] at h
    intro x hx
    rw [rowsL, List.mem_append] at hx
    exact hx.elim (rows_T t I (m + 1) h.1 x) (rows_L r c 0 c h.2 x)
theorem rows_M : ∀ (k : Fo) (I m c : Nat), (∀ x ∈ keysF k, Key x) → godF k → ∀ r ∈ rowsM k I m c, r.t.ok
  | .nil, _, _, _, _, _ => by rw [rowsM]; simp
  | .cons key (.text s q) r, I, m, c, hk, h => by
    rw [godF, godT] at h
    intro x hx
    rw [rowsM, List.mem_cons] at hx
    rcases hx with rfl | hx
    · exact ⟨hk key (by rw [keysF]; simp), h.1⟩
    · exact rows_M r c 0 c (fun x hx => hk x (by rw [keysF]; exact List.mem_cons_of_mem _ hx)) h.2 x hx
  | .cons key (.list k) r, I, m, c, hk, h => by
    rw [godF, godT] at h
    intro x hx
    rw [rowsM, List.mem_cons, List.mem_append] at hx
    rcases hx with rfl | hx | hx
    · exact hk key (by rw [keysF]; simp)
    · exact rows_L k _ 0 _ h.1 x hx
    · exact rows_M r c 0 c (fun x hx => hk x (by rw [keysF]; exact List.mem_cons_of_mem _ hx)) h.2 x hx
  | .cons key (.map k) r, I, m, c, hk, h => by
    rw [godF, godT] at h
    intro x hx
    rw [rowsM, List.mem_cons, List.mem_append] at hx
    rcases hx with rfl | hx | hx
    · exact hk key (by rw [keysF]; simp)
    · exact rows_M k _ 0 _ h.1.1 h.1.2 x hx
    · exact rows_M r c 0 c (fun x hx => hk x (by rw [keysF]; exact List.mem_cons_of_mem _ hx)) h.2 x hx
end
/-- The rows of many rows, each with its end. -/
theorem rows_cat : ∀ rs : List Rw, (∀ r ∈ rs, r.t.ok) → LN.rows (cat rs) = rs.map Rw.bs ++ [[]]
  | [], _ => rfl
  | r :: rs, h => by
    have h1 : 10 ∉ r.bs := no10 (Rw.bad (h r (by simp)))
    rw [cat_cons, List.append_assoc, List.singleton_append, LN.rows_app, LN.rows_one h1, rows_cat rs (fun x hx => h x (by simp [hx]))]
    rfl
theorem flt_cat : ∀ (n : Nat) (rs : List Rw), (∀ r ∈ rs, r.t.ok) → LN.flt n (rs.map Rw.bs ++ [[]]) = (0, 0)
  | n, [], _ => rfl
  | n, r :: rs, h => by
    rw [List.map_cons, List.cons_append, LN.flt, if_pos (Rw.kind (h r (by simp)))]
    exact flt_cat (n + 1) rs fun x hx => h x (by simp [hx])
def lz : Int → List Rw → List Lz
  | _, [] => []
  | n, r :: rs => (n, r.ind, r.c) :: lz (n + 1) rs
theorem lns_cat : ∀ (n : Nat) (rs : List Rw), (∀ r ∈ rs, r.t.ok) → (LN.lns n (rs.map Rw.bs ++ [[]])).map DC.zl = lz n rs
  | n, [], _ => rfl
  | n, r :: rs, h => by
    have hr := h r (by simp)
    obtain ⟨c, s, e, _⟩ := Rw.fst hr
    rw [List.map_cons, List.cons_append, LN.lns, if_neg (by rw [Rw.said hr, e]; simp), List.map_cons, lns_cat (n + 1) rs (fun x hx => h x (by simp [hx])), Rw.said hr, Rw.indE hr, lz]
    rfl
theorem all_cat : ∀ (n : Int) (rs : List Rw), (∀ r ∈ rs, r.t.ok) → (∀ r ∈ rs, r.ind ≤ 16384) → LX.all (lz n rs) = ((0, psR n rs), 0)
  | n, [], _, _ => rfl
  | n, r :: rs, h, hi => by
    have ih := all_cat (n + 1) rs (fun x hx => h x (by simp [hx])) (fun x hx => hi x (by simp [hx]))
    have hr := Rw.row (h r (by simp)) n (hi r (by simp))
    rw [lz, LX.all, hr, ih]
    simp [psR]
theorem ind_cat : ∀ {rs : List Rw} {r : Rw}, r ∈ rs → r.ind ≤ (cat rs).length
  | [], _, h => by simp at h
  | x :: rs, r, h => by
    rw [cat_cons]
    simp only [List.length_append]
    rcases List.mem_cons.1 h with rfl | h
    · have : r.ind ≤ r.bs.length := by simp [Rw.bs, bl]
      omega
    · have := ind_cat h
      omega
theorem parse_cat (rs : List Rw) (h : ∀ r ∈ rs, r.t.ok) (hl : (cat rs).length ≤ 16384) : DC.parse (cat rs) = DC.doc (psR 1 rs) := by
  have h1 : LN.outF (cat rs) = (0, 0) := by
    unfold LN.outF
    rw [if_neg (by omega), rows_cat rs h, flt_cat 1 rs h]
  have h2 : (LN.outL (cat rs)).map DC.zl = lz 1 rs := by
    unfold LN.outL
    rw [if_pos h1, rows_cat rs h]
    exact lns_cat 1 rs h
  have h3 := all_cat 1 rs h (fun r hr => Nat.le_trans (ind_cat hr) hl)
  unfold DC.parse
  rw [if_neg (by rw [h1]; simp), h2, h3, if_neg (by simp)]
/-- A document's tree, written out, is parsed as its nodes, but for their lines. -/
theorem parse_tree (t : Tr) (hg : godT t) (ho : okT t) (hd : depT t 1) (hN : sizeT t ≤ 2000) (hl : (showT t 0).length ≤ 16384) : ∃ ms, DC.parse (showT t 0) = .ok ms ∧ ms.map z = flatT t 0 := by
  have hc := cat_T t 0 0 (okT_ful t ho)
  have e : bl 0 ++ dashes 0 ++ showT t (0 + 2 * 0) = showT t 0 := rfl
  rw [e] at hc
  rw [hc] at hl ⊢
  rw [parse_cat _ (rows_T t 0 0 hg) hl]
  obtain ⟨L, h1, h2⟩ := ps_T t 0 0 1 ho
  rw [h1]
  exact doc_flat t (by simpa [dashP] using h2) ho hd hN
end SH
end Go.Proofs.YtmgalfdiiegjjaaDoor
