/- A part of the proof. -/
import Derived.Test.YtgfhabofhefaaaaGreatDoorSB01
namespace Go.Proofs.YtgfhabofhefaaaaGreatDoor
namespace SH
open LX (B Pc Lz)
open DC (Nd bl)
def wr (t : B) (q : Bool) : B := if q then LX.quo t else t
mutual
def rowsT : Tr → Nat → Nat → List Rw
  | .text t q, I, m => [⟨I, m, .leaf (wr t q) t q⟩]
  | .list k, I, m => rowsL k I m (I + 2 * m)
  | .map k, I, m => rowsM k I m (I + 2 * m)
def rowsL : Fo → Nat → Nat → Nat → List Rw
  | .nil, _, _, _ => []
  | .cons _ t r, I, m, c => rowsT t I (m + 1) ++ rowsL r c 0 c
def rowsM : Fo → Nat → Nat → Nat → List Rw
  | .nil, _, _, _ => []
  | .cons key (.text s q) r, I, m, c => ⟨I, m, .kleaf key (wr s q) s q⟩ :: rowsM r c 0 c
  | .cons key (.list k) r, I, m, c => ⟨I, m, .key key⟩ :: (rowsL k (c + 2) 0 (c + 2) ++ rowsM r c 0 c)
  | .cons key (.map k) r, I, m, c => ⟨I, m, .key key⟩ :: (rowsM k (c + 2) 0 (c + 2) ++ rowsM r c 0 c)
end
mutual
def showT : Tr → Nat → B
  | .text t q, _ => wr t q ++ [10]
  | .list k, c => showL k c true
  | .map k, c => showM k c true
def showL : Fo → Nat → Bool → B
  | .nil, _, _ => []
  | .cons _ t r, c, f => (if f then [] else bl c) ++ (45 :: 32 :: showT t (c + 2)) ++ showL r c false
def showM : Fo → Nat → Bool → B
  | .nil, _, _ => []
  | .cons key (.text s q) r, c, f => (if f then [] else bl c) ++ (key ++ 58 :: 32 :: (wr s q ++ [10])) ++ showM r c false
  | .cons key (.list k) r, c, f => (if f then [] else bl c) ++ (key ++ 58 :: 10 :: (bl (c + 2) ++ showL k (c + 2) true)) ++ showM r c false
  | .cons key (.map k) r, c, f => (if f then [] else bl c) ++ (key ++ 58 :: 10 :: (bl (c + 2) ++ showM k (c + 2) true)) ++ showM r c false
end
def cat (rs : List Rw) : B := rs.flatMap fun r => r.bs ++ [10]
theorem cat_app (a b : List Rw) : cat (a ++ b) = cat a ++ cat b := by simp [cat]
theorem cat_cons (r : Rw) (rs : List Rw) : cat (r :: rs) = r.bs ++ [10] ++ cat rs := rfl
theorem dashes_succ : ∀ m, dashes (m + 1) = dashes m ++ [45, 32]
  | 0 => rfl
  | m + 1 => by
    show 45 :: 32 :: dashes (m + 1) = (45 :: 32 :: dashes m) ++ [45, 32]
    rw [dashes_succ m]; rfl
mutual
def fulT : Tr → Prop
  | .text _ _ => True
  | .list k => k ≠ .nil ∧ fulF k
  | .map k => k ≠ .nil ∧ fulF k
def fulF : Fo → Prop
  | .nil => True
  | .cons _ t r => fulT t ∧ fulF r
end
mutual
theorem okT_ful : ∀ t : Tr, okT t → fulT t
  | .text _ _, _ => by rw [fulT]; trivial
  | .list k, h => by rw [okT] at h; rw [fulT]; exact ⟨h.1, okF_ful k h.2.2⟩
  | .map k, h => by rw [okT] at h; rw [fulT]; exact ⟨h.1, okF_ful k h.2.2⟩
theorem okF_ful : ∀ k : Fo, okF k → fulF k
  | .nil, _ => by rw [fulF]; trivial
  | .cons _ t r, h => by rw [okF] at h; rw [fulF]; exact ⟨okT_ful t h.1, okF_ful r h.2⟩
end
mutual
theorem cat_T : ∀ (t : Tr) (I m : Nat), fulT t → bl I ++ dashes m ++ showT t (I + 2 * m) = cat (rowsT t I m)
  | .text t q, I, m, _ => by
    rw [showT, rowsT, cat_cons]
    simp [Rw.bs, Rw.c, Rt.b, cat]
  | .list k, I, m, h => by
    rw [fulT] at h
    rw [showT, rowsT]
    exact cat_L k I m h.1 h.2
  | .map k, I, m, h => by
    rw [fulT] at h
    rw [showT, rowsT]
    exact cat_M k I m h.1 h.2
theorem cat_L : ∀ (k : Fo) (I m : Nat), k ≠ .nil → fulF k → bl I ++ dashes m ++ showL k (I + 2 * m) true = cat (rowsL k I m (I + 2 * m))
  | .nil, _, _, h, _ => absurd rfl h
  | .cons _ t r, I, m, _, h => by
    rw [fulF] at h
    have h1 := cat_T t I (m + 1) h.1
    have h2 := cat_Lf r (I + 2 * m) h.2
    rw [showL, rowsL, cat_app, ← h1, ← h2, dashes_succ, show I + 2 * (m + 1) = I + 2 * m + 2 by omega]
    simp
theorem cat_Lf : ∀ (k : Fo) (c : Nat), fulF k → showL k c false = cat (rowsL k c 0 c)
  | .nil, _, _ => by rw [showL, rowsL]; rfl
  | .cons _ t r, c, h => by
    rw [fulF] at h
    have h1 := cat_T t c 1 h.1
    have h2 := cat_Lf r c h.2
    rw [showL, rowsL, cat_app, ← h2]
    rw [show 0 + 1 = 1 from rfl, ← h1]
    simp [dashes]
theorem cat_M : ∀ (k : Fo) (I m : Nat), k ≠ .nil → fulF k → bl I ++ dashes m ++ showM k (I + 2 * m) true = cat (rowsM k I m (I + 2 * m))
  | .nil, _, _, h, _ => absurd rfl h
  | .cons key (.text s q) r, I, m, _, h => by
    rw [fulF] at h
    have h2 := cat_Mf r (I + 2 * m) h.2
    rw [showM, rowsM, cat_cons, ← h2]
    simp [Rw.bs, Rw.c, Rt.b]
  | .cons key (.list k) r, I, m, _, h => by
    rw [fulF, fulT] at h
    have h1 := cat_L k (I + 2 * m + 2) 0 h.1.1 h.1.2
    have h2 := cat_Mf r (I + 2 * m) h.2
    rw [Nat.mul_zero, Nat.add_zero] at h1
    rw [showM, rowsM, cat_cons, cat_app, ← h2, ← h1]
    simp [Rw.bs, Rw.c, Rt.b, dashes]
  | .cons key (.map k) r, I, m, _, h => by
    rw [fulF, fulT] at h
    have h1 := cat_M k (I + 2 * m + 2) 0 h.1.1 h.1.2
    have h2 := cat_Mf r (I + 2 * m) h.2
    rw [Nat.mul_zero, Nat.add_zero] at h1
    rw [showM, rowsM, cat_cons, cat_app, ← h2, ← h1]
    simp [Rw.bs, Rw.c, Rt.b, dashes]
theorem cat_Mf : ∀ (k : Fo) (c : Nat), fulF k → showM k c false = cat (rowsM k c 0 c)
  | .nil, _, _ => by rw [showM, rowsM]; rfl
  | .cons key (.text s q) r, c, h => by
    rw [fulF] at h
    have h2 := cat_Mf r c h.2
    rw [showM, rowsM, cat_cons, ← h2]
    simp [Rw.bs, Rw.c, Rt.b, dashes]
  | .cons key (.list k) r, c, h => by
    rw [fulF, fulT] at h
    have h1 := cat_L k (c + 2) 0 h.1.1 h.1.2
    have h2 := cat_Mf r c h.2
    rw [Nat.mul_zero, Nat.add_zero] at h1
    rw [showM, rowsM, cat_cons, cat_app, ← h2, ← h1]
    simp [Rw.bs, Rw.c, Rt.b, dashes]
  | .cons key (.map k) r, c, h => by
    rw [fulF, fulT] at h
    have h1 := cat_M k (c + 2) 0 h.1.1 h.1.2
    have h2 := cat_Mf r c h.2
    rw [Nat.mul_zero, Nat.add_zero] at h1
    rw [showM, rowsM, cat_cons, cat_app, ← h2, ← h1]
    simp [Rw.bs, Rw.c, Rt.b, dashes]
end
def psR : Int → List Rw → List Pc
  | _, [] => []
  | n, r :: rs => r.ps n ++ psR (n + 1) rs
theorem psR_app : ∀ (n : Int) (a b : List Rw), psR n (a ++ b) = psR n a ++ psR (n + a.length) b
  | n, [], b => by simp [psR]
  | n, r :: a, b => by
    rw [List.cons_append, psR, psR, psR_app (n + 1) a b, List.append_assoc]
    congr 3
    rw [List.length_cons]
    push_cast
    omega
mutual
theorem ps_T : ∀ (t : Tr) (I m : Nat) (n : Int), okT t → ∃ L, psR n (rowsT t I m) = dashP n I m ++ L ∧ ShT t ((I : Int) + 2 * m) L
  | .text t q, I, m, n, _ => by
    refine ⟨[(3, n, (I : Int) + 2 * m, t, q)], ?_, ?_⟩
    · rw [rowsT, psR, psR]; simp [Rw.ps, Rt.ps]
    · rw [ShT]; exact ⟨n, rfl⟩
  | .list k, I, m, n, h => by
    rw [okT] at h
    obtain ⟨L, h1, h2⟩ := ps_L k I m n h.1 h.2.1 h.2.2
    exact ⟨L, by rw [rowsT]; exact h1, by rw [ShT]; exact h2⟩
  | .map k, I, m, n, h => by
    rw [okT] at h
    obtain ⟨L, h1, h2⟩ := ps_M k I m n h.1 h.2.2
    exact ⟨L, by rw [rowsT]; exact h1, by rw [ShT]; exact h2⟩
theorem ps_L : ∀ (k : Fo) (I m : Nat) (n : Int), k ≠ .nil → (∀ x ∈ keysF k, x = []) → okF k → ∃ L, psR n (rowsL k I m (I + 2 * m)) = dashP n I m ++ L ∧ ShF k 1 ((I : Int) + 2 * m) L
  | .nil, _, _, _, h, _, _ => absurd rfl h
  | .cons key t r, I, m, n, _, hk, h => by
    rw [okF] at h
    obtain ⟨L1, h1, h2⟩ := ps_T t I (m + 1) n h.1
    obtain ⟨L2, h3, h4⟩ := ps_Lf r (I + 2 * m) (n + (rowsT t I (m + 1)).length) (fun x hx => hk x (by rw [keysF]; exact List.mem_cons_of_mem _ hx)) h.2
    have hkey : key = [] := hk key (by rw [keysF]; simp)
    refine ⟨(1, n, (I : Int) + 2 * m, key, false) :: (L1 ++ L2), ?_, ?_⟩
    · rw [rowsL, psR_app, h1, h3, dashP_succ, hkey]; simp
    · rw [ShF]
      refine ⟨n, (I : Int) + 2 * ((m + 1 : Nat) : Int), L1, L2, by push_cast; omega, rfl, h2, ?_⟩
      have e : ((I + 2 * m : Nat) : Int) = (I : Int) + 2 * m := by push_cast; rfl
      rw [← e]; exact h4
theorem ps_Lf : ∀ (k : Fo) (c : Nat) (n : Int), (∀ x ∈ keysF k, x = []) → okF k → ∃ L, psR n (rowsL k c 0 c) = L ∧ ShF k 1 (c : Int) L
  | .nil, c, n, _, _ => ⟨[], by rw [rowsL]; rfl, by rw [ShF]⟩
  | .cons key t r, c, n, hk, h => by
    rw [okF] at h
    obtain ⟨L1, h1, h2⟩ := ps_T t c 1 n h.1
    obtain ⟨L2, h3, h4⟩ := ps_Lf r c (n + (rowsT t c 1).length) (fun x hx => hk x (by rw [keysF]; exact List.mem_cons_of_mem _ hx)) h.2
    have hkey : key = [] := hk key (by rw [keysF]; simp)
    refine ⟨(1, n, (c : Int), key, false) :: (L1 ++ L2), ?_, ?_⟩
    · rw [rowsL, psR_app, show 0 + 1 = 1 from rfl, h1, h3, hkey]; simp [dashP]
    · rw [ShF]
      exact ⟨n, (c : Int) + 2 * ((1 : Nat) : Int), L1, L2, by push_cast; omega, rfl, h2, h4⟩
theorem ps_M : ∀ (k : Fo) (I m : Nat) (n : Int), k ≠ .nil → okF k → ∃ L, psR n (rowsM k I m (I + 2 * m)) = dashP n I m ++ L ∧ ShF k 2 ((I : Int) + 2 * m) L
  | .nil, _, _, _, h, _ => absurd rfl h
  | .cons key (.text s q) r, I, m, n, _, h => by
    rw [okF] at h
    obtain ⟨L2, h3, h4⟩ := ps_Mf r (I + 2 * m) (n + 1) h.2
    have e : ((I + 2 * m : Nat) : Int) = (I : Int) + 2 * m := by push_cast; rfl
    refine ⟨(2, n, (I : Int) + 2 * m, key, false) :: ([(3, n, (I : Int) + 2 * m + key.length + 2, s, q)] ++ L2), ?_, ?_⟩
    · rw [rowsM, psR, h3]; simp [Rw.ps, Rt.ps]
    · rw [ShF]
      refine ⟨n, (I : Int) + 2 * m + key.length + 2, _, L2, by omega, rfl, ?_, ?_⟩
      · rw [ShT]; exact ⟨n, rfl⟩
      · rw [← e]; exact h4
  | .cons key (.list k) r, I, m, n, _, h => by
    rw [okF, okT] at h
    obtain ⟨L1, h1, h2⟩ := ps_L k (I + 2 * m + 2) 0 (n + 1) h.1.1 h.1.2.1 h.1.2.2
    obtain ⟨L2, h3, h4⟩ := ps_Mf r (I + 2 * m) (n + 1 + (rowsL k (I + 2 * m + 2) 0 (I + 2 * m + 2)).length) h.2
    have e : ((I + 2 * m : Nat) : Int) = (I : Int) + 2 * m := by push_cast; rfl
    rw [Nat.mul_zero, Nat.add_zero] at h1
    refine ⟨(2, n, (I : Int) + 2 * m, key, false) :: (L1 ++ L2), ?_, ?_⟩
    · rw [rowsM, psR, psR_app, h1, h3]; simp [Rw.ps, Rt.ps, dashP]
    · rw [ShF]
      refine ⟨n, ((I + 2 * m + 2 : Nat) : Int) + 2 * ((0 : Nat) : Int), L1, L2, by push_cast; omega, rfl, ?_, ?_⟩
      · rw [ShT]; exact h2
      · rw [← e]; exact h4
  | .cons key (.map k) r, I, m, n, _, h => by
    rw [okF, okT] at h
    obtain ⟨L1, h1, h2⟩ := ps_M k (I + 2 * m + 2) 0 (n + 1) h.1.1 h.1.2.2
    obtain ⟨L2, h3, h4⟩ := ps_Mf r (I + 2 * m) (n + 1 + (rowsM k (I + 2 * m + 2) 0 (I + 2 * m + 2)).length) h.2
    have e : ((I + 2 * m : Nat) : Int) = (I : Int) + 2 * m := by push_cast; rfl
    rw [Nat.mul_zero, Nat.add_zero] at h1
    refine ⟨(2, n, (I : Int) + 2 * m, key, false) :: (L1 ++ L2), ?_, ?_⟩
    · rw [rowsM, psR, psR_app, h1, h3]; simp [Rw.ps, Rt.ps, dashP]
    · rw [ShF]
      refine ⟨n, ((I + 2 * m + 2 : Nat) : Int) + 2 * ((0 : Nat) : Int), L1, L2, by push_cast; omega, rfl, ?_, ?_⟩
      · rw [ShT]; exact h2
      · rw [← e]; exact h4
theorem ps_Mf : ∀ (k : Fo) (c : Nat) (n : Int), okF k → ∃ L, psR n (rowsM k c 0 c) = L ∧ ShF k 2 (c : Int) L
  | .nil, c, n, _ => ⟨[], by rw [rowsM]; rfl, by rw [ShF]⟩
  | .cons key t r, c, n, h => by
    obtain ⟨L, h1, h2⟩ := ps_M (.cons key t r) c 0 n (by simp) h
    rw [Nat.mul_zero, Nat.add_zero] at h1
    refine ⟨L, by rw [h1]; rfl, ?_⟩
    have e : (c : Int) + 2 * ((0 : Nat) : Int) = c := by simp
    rw [e] at h2
    exact h2
end
end SH
end Go.Proofs.YtgfhabofhefaaaaGreatDoor
namespace Go.Proofs.YtgfhabofhefaaaaGreatDoor
namespace SH
open LX (B Pc Lz)
open DC (Nd bl)
mutual
def godT : Tr → Prop
  | .text t q => Leaf (wr t q) t q
  | .list k => godF k
  | .map k => (∀ x ∈ keysF k, Key x) ∧ godF k
def godF : Fo → Prop
  | .nil => True
  | .cons _ t r => godT t ∧ godF r
end
mutual
theorem rows_T : ∀ (t : Tr) (I m : Nat), godT t → ∀ r ∈ rowsT t I m, r.t.ok
  | .text t q, I, m, h => by
    rw [godT] at h
    intro r hr
    rw [rowsT, List.mem_singleton] at hr
    subst hr
    exact h
  | .list k, I, m, h => by
    rw [godT] at h
    rw [rowsT]
    exact rows_L k I m _ h
  | .map k, I, m, h => by
    rw [godT] at h
    rw [rowsT]
    exact rows_M k I m _ h.1 h.2
theorem rows_L : ∀ (k : Fo) (I m c : Nat), godF k → ∀ r ∈ rowsL k I m c, r.t.ok
  | .nil, _, _, _, _ => by rw [rowsL]; simp
  | .cons _ t r, I, m, c, h => by
    rw [godF] at h
    intro x hx
    rw [rowsL, List.mem_append] at hx
    exact hx.elim (rows_T t I (m + 1) h.1 x) (rows_L r c 0 c h.2 x)
theorem rows_M : ∀ (k : Fo) (I m c : Nat), (∀ x ∈ keysF k, Key x) → godF k → ∀ r ∈ rowsM k I m c, r.t.ok
  | .nil, _, _, _, _, _ => by rw [rowsM]; simp
  | .cons key (.text s q) r, I, m, c, hk, h => by
    rw [godF, godT] at h
    intro x hx
    rw [rowsM, List.mem_cons] at hx
    rcases hx with rfl | hx
    · exact ⟨hk key (by rw [keysF]; simp), h.1⟩
    · exact rows_M r c 0 c (fun x hx => hk x (by rw [keysF]; exact List.mem_cons_of_mem _ hx)) h.2 x hx
  | .cons key (.list k) r, I, m, c, hk, h => by
    rw [godF, godT] at h
    intro x hx
    rw [rowsM, List.mem_cons, List.mem_append] at hx
    rcases hx with rfl | hx | hx
    · exact hk key (by rw [keysF]; simp)
    · exact rows_L k _ 0 _ h.1 x hx
    · exact rows_M r c 0 c (fun x hx => hk x (by rw [keysF]; exact List.mem_cons_of_mem _ hx)) h.2 x hx
  | .cons key (.map k) r, I, m, c, hk, h => by
    rw [godF, godT] at h
    intro x hx
    rw [rowsM, List.mem_cons, List.mem_append] at hx
    rcases hx with rfl | hx | hx
    · exact hk key (by rw [keysF]; simp)
    · exact rows_M k _ 0 _ h.1.1 h.1.2 x hx
    · exact rows_M r c 0 c (fun x hx => hk x (by rw [keysF]; exact List.mem_cons_of_mem _ hx)) h.2 x hx
end
theorem rows_cat : ∀ rs : List Rw, (∀ r ∈ rs, r.t.ok) → LN.rows (cat rs) = rs.map Rw.bs ++ [[]]
  | [], _ => rfl
  | r :: rs, h => by
    have h1 : 10 ∉ r.bs := no10 (Rw.bad (h r (by simp)))
    rw [cat_cons, List.append_assoc, List.singleton_append, LN.rows_app, LN.rows_one h1, rows_cat rs (fun x hx => h x (by simp [hx]))]
    rfl
theorem flt_cat : ∀ (n : Nat) (rs : List Rw), (∀ r ∈ rs, r.t.ok) → LN.flt n (rs.map Rw.bs ++ [[]]) = (0, 0)
  | n, [], _ => rfl
  | n, r :: rs, h => by
    rw [List.map_cons, List.cons_append, LN.flt, if_pos (Rw.kind (h r (by simp)))]
    exact flt_cat (n + 1) rs fun x hx => h x (by simp [hx])
def lz : Int → List Rw → List Lz
  | _, [] => []
  | n, r :: rs => (n, r.ind, r.c) :: lz (n + 1) rs
theorem lns_cat : ∀ (n : Nat) (rs : List Rw), (∀ r ∈ rs, r.t.ok) → (LN.lns n (rs.map Rw.bs ++ [[]])).map DC.zl = lz n rs
  | n, [], _ => rfl
  | n, r :: rs, h => by
    have hr := h r (by simp)
    obtain ⟨c, s, e, _⟩ := Rw.fst hr
    rw [List.map_cons, List.cons_append, LN.lns, if_neg (by rw [Rw.said hr, e]; simp), List.map_cons, lns_cat (n + 1) rs (fun x hx => h x (by simp [hx])), Rw.said hr, Rw.indE hr, lz]
    rfl
theorem all_cat : ∀ (n : Int) (rs : List Rw), (∀ r ∈ rs, r.t.ok) → (∀ r ∈ rs, r.ind ≤ 16384) → LX.all (lz n rs) = ((0, psR n rs), 0)
  | n, [], _, _ => rfl
  | n, r :: rs, h, hi => by
    have ih := all_cat (n + 1) rs (fun x hx => h x (by simp [hx])) (fun x hx => hi x (by simp [hx]))
    have hr := Rw.row (h r (by simp)) n (hi r (by simp))
    rw [lz, LX.all, hr, ih]
    simp [psR]
theorem ind_cat : ∀ {rs : List Rw} {r : Rw}, r ∈ rs → r.ind ≤ (cat rs).length
  | [], _, h => by simp at h
  | x :: rs, r, h => by
    rw [cat_cons]
    simp only [List.length_append]
    rcases List.mem_cons.1 h with rfl | h
    · have : r.ind ≤ r.bs.length := by simp [Rw.bs, bl]
      omega
    · have := ind_cat h
      omega
theorem parse_cat (rs : List Rw) (h : ∀ r ∈ rs, r.t.ok) (hl : (cat rs).length ≤ 16384) : DC.parse (cat rs) = DC.doc (psR 1 rs) := by
  have h1 : LN.outF (cat rs) = (0, 0) := by
    unfold LN.outF
    rw [if_neg (by omega), rows_cat rs h, flt_cat 1 rs h]
  have h2 : (LN.outL (cat rs)).map DC.zl = lz 1 rs := by
    unfold LN.outL
    rw [if_pos h1, rows_cat rs h]
    exact lns_cat 1 rs h
  have h3 := all_cat 1 rs h (fun r hr => Nat.le_trans (ind_cat hr) hl)
  unfold DC.parse
  rw [if_neg (by rw [h1]; simp), h2, h3, if_neg (by simp)]
theorem parse_tree (t : Tr) (hg : godT t) (ho : okT t) (hd : depT t 1) (hN : sizeT t ≤ 2000) (hl : (showT t 0).length ≤ 16384) : ∃ ms, DC.parse (showT t 0) = .ok ms ∧ ms.map z = flatT t 0 := by
  have hc := cat_T t 0 0 (okT_ful t ho)
  have e : bl 0 ++ dashes 0 ++ showT t (0 + 2 * 0) = showT t 0 := rfl
  rw [e] at hc
  rw [hc] at hl ⊢
  rw [parse_cat _ (rows_T t 0 0 hg) hl]
  obtain ⟨L, h1, h2⟩ := ps_T t 0 0 1 ho
  rw [h1]
  exact doc_flat t (by simpa [dashP] using h2) ho hd hN
end SH
end Go.Proofs.YtgfhabofhefaaaaGreatDoor
namespace Go.Proofs.YtgfhabofhefaaaaGreatDoor
namespace SH
open LX (B Pc Lz)
open DC (Nd bl)
structure Ni where
  kind : Int
  line : Int
  text : B
  quoted : Bool
  keys : List B
  kids : List Int
  deriving DecidableEq
def up (x : Nd) : Ni := ⟨x.kind, x.line, x.text, x.quoted, x.keys, x.kids.map fun n : Nat => (n : Int)⟩
def zi (x : Ni) : Ni := { x with line := 0 }
def plainb (s : B) : Bool := decide (s ≠ [] ∧ s.length ≤ 200) && !LN.bad s && decide (LN.strip s = some s) && (decide ((LX.row (0, 0, s)).1 = 0) && decide ((LX.row (0, 0, s)).2 = [(3, 0, 0, s, false)]))
def keyb (k : B) : Bool := decide (k ≠ [] ∧ k.length ≤ 64) && k.all LX.sgn
def fits (x : Ni) : Bool :=
  if x.kind = 1 then decide (x.keys = [] ∧ x.kids = [] ∧ x.text.length ≤ 200) && (x.quoted || plainb x.text)
  else if x.kind = 2 then decide (x.keys = [] ∧ x.kids ≠ [] ∧ x.text = [] ∧ x.quoted = false)
  else if x.kind = 3 then decide (x.keys.length = x.kids.length ∧ x.kids ≠ [] ∧ x.text = [] ∧ x.quoted = false ∧ x.keys.Nodup) && x.keys.all keyb
  else false
def wk (ns : List Ni) : Nat → Nat → Nat → Option Nat
  | 0, _, _ => none
  | f + 1, n, d => match ns[n]? with
    | none => none
    | some x => if d ≤ 24 ∧ fits x = true then x.kids.foldlM (fun (m : Nat) (k : Int) => if k = (m : Int) then wk ns f m (d + 1) else none) (n + 1) else none
def At (ns : List Ni) (n : Nat) (l : List Nd) : Prop := ∀ i x, l[i]? = some x → (ns[n + i]?).map zi = some (up x)
theorem At.app {ns : List Ni} {n : Nat} {a b : List Nd} (h : At ns n a) (k : At ns (n + a.length) b) : At ns n (a ++ b) := by
  intro i x hx
  by_cases hi : i < a.length
  · rw [List.getElem?_append_left hi] at hx
    exact h i x hx
  · rw [List.getElem?_append_right (by omega)] at hx
    have := k _ _ hx
    rwa [show n + a.length + (i - a.length) = n + i by omega] at this
theorem At.left {ns : List Ni} {n : Nat} {a b : List Nd} (h : At ns n (a ++ b)) : At ns n a := fun i x hx => h i x (by
  rw [List.getElem?_append_left (List.getElem?_eq_some_iff.1 hx).1]; exact hx)
theorem At.right {ns : List Ni} {n : Nat} {a b : List Nd} (h : At ns n (a ++ b)) : At ns (n + a.length) b := fun i x hx => by
  have := h (a.length + i) x (by rw [List.getElem?_append_right (by omega), Nat.add_sub_cancel_left]; exact hx)
  rwa [← Nat.add_assoc] at this
theorem At.head {ns : List Ni} {n : Nat} {x : Nd} {l : List Nd} (h : At ns n (x :: l)) : ∃ y, ns[n]? = some y ∧ zi y = up x := by
  have := h 0 x rfl
  rw [Nat.add_zero] at this
  exact Option.map_eq_some_iff.1 this
theorem At.tail {ns : List Ni} {n : Nat} {x : Nd} {l : List Nd} (h : At ns n (x :: l)) : At ns (n + 1) l := fun i y hy => by
  have := h (i + 1) y (by simpa using hy)
  rwa [show n + (i + 1) = n + 1 + i by omega] at this
theorem At.cons {ns : List Ni} {n : Nat} {y : Ni} {x : Nd} {l : List Nd} (hy : ns[n]? = some y) (he : zi y = up x) (h : At ns (n + 1) l) : At ns n (x :: l) := by
  intro i u hu
  cases i with
  | zero =>
    have : x = u := by simpa using hu
    rw [Nat.add_zero, hy, ← this, ← he]; rfl
  | succ i =>
    have := h i u (by simpa using hu)
    rwa [show n + 1 + i = n + (i + 1) by omega] at this
theorem q1_all : ∀ n : Fin 256, LN.bad (LX.q1 (UInt8.ofNat n.val)) = false := by decide +kernel
theorem q1_bad (c : UInt8) : LN.bad (LX.q1 c) = false := by
  have h := q1_all ⟨c.toNat, c.toNat_lt⟩
  simpa using h
theorem hexd_not : ∀ n : Fin 16, LX.hexd n.val ≠ 92 ∧ LX.hexd n.val ≠ 34 := by decide +kernel
theorem two_pass {c y : UInt8} {r : B} (h1 : c ≠ 92) (h2 : c ≠ 34) : LN.go .two (c :: y :: r) = (LN.go .two (y :: r)).map (· + 1) := by
  rw [LN.go, if_neg h1, if_neg h2]
theorem two_esc {y : UInt8} {r : B} : LN.go .two (92 :: y :: r) = (LN.go .two r).map (· + 2) := by
  rw [LN.go, if_pos rfl]
theorem go_q1 (c : UInt8) {r : B} (hr : r ≠ []) : LN.go .two (LX.q1 c ++ r) = (LN.go .two r).map (· + (LX.q1 c).length) := by
  obtain ⟨y, s, rfl⟩ : ∃ y s, r = y :: s := by
    cases r with
    | nil => exact absurd rfl hr
    | cons y s => exact ⟨y, s, rfl⟩
  unfold LX.q1
  split
  · exact two_esc
  split
  · exact two_esc
  split
  · exact two_esc
  split
  · have n1 := hexd_not ⟨c.toNat / 16, by have := c.toNat_lt; omega⟩
    have n2 := hexd_not ⟨c.toNat % 16, by omega⟩
    simp only [List.cons_append, List.nil_append]
    rw [two_esc, two_pass n1.1 n1.2, two_pass n2.1 n2.2, LN.map_add, LN.map_add]
    rfl
  · rename_i h1 _ _ _
    simp only [List.cons_append, List.nil_append]
    exact two_pass (fun e => h1 (.inl e)) (fun e => h1 (.inr e))
theorem go_quo : ∀ s : B, LN.go .two (s.flatMap LX.q1 ++ [34]) = some ((s.flatMap LX.q1).length + 1)
  | [] => rfl
  | c :: s => by
    rw [List.flatMap_cons, List.append_assoc, go_q1 c (by simp), go_quo s, List.length_append]
    simp only [Option.map_some]
    congr 1
    omega
theorem bad_quo : ∀ s : B, LN.bad (s.flatMap LX.q1) = false
  | [] => rfl
  | c :: s => by rw [List.flatMap_cons, bad_app, q1_bad, bad_quo s]; rfl
theorem leaf_quo {s : B} (h : s.length ≤ 200) : Leaf (LX.quo s) s true := by
  refine ⟨⟨34, _, rfl, by decide⟩, ?_, ?_, ?_, ?_, ?_, ?_⟩
  · intro c hc
    have e : LX.quo s = (34 :: s.flatMap LX.q1) ++ [34] := rfl
    rw [e, last_app (by simp)] at hc
    have : c = 34 := by simpa using hc.symm
    rw [this]; decide
  · have e : LX.quo s = [34] ++ (s.flatMap LX.q1 ++ [34]) := rfl
    rw [e, bad_app, bad_app, bad_quo]; rfl
  · show LN.go _ (34 :: (s.flatMap LX.q1 ++ [34])) = some (34 :: (s.flatMap LX.q1 ++ [34])).length
    rw [LN.go, if_neg (by decide), if_neg (by decide), if_pos ⟨rfl, rfl⟩, go_quo]
    simp
  · show LX.txt (34 :: (s.flatMap LX.q1 ++ [34])) = _
    rw [LX.txt_dq (LX.dq_quo s), LX.lng, if_neg (by omega)]
  · show LX.dash (34 :: (s.flatMap LX.q1 ++ [34])) = false
    cases s.flatMap LX.q1 ++ [34] <;> rfl
  · show LX.key (34 :: (s.flatMap LX.q1 ++ [34])) = 0
    have : LX.run (34 :: (s.flatMap LX.q1 ++ [34])) = 0 := rfl
    unfold LX.key
    rw [this, List.drop_zero]
    cases s.flatMap LX.q1 ++ [34] <;> rfl
theorem fin_pre {no col : Int} {acc : List Pc} {l : B} (h : (LX.fin no col acc l).1 = 0) : ∃ L, (LX.fin no col acc l).2 = acc ++ L := by
  unfold LX.fin at h ⊢
  split
  · exact ⟨[], by simp⟩
  · rename_i h1
    rw [if_neg h1] at h
    split
    · exact ⟨_, rfl⟩
    · rename_i h2
      rw [if_neg h2] at h
      exact absurd h h2
theorem mid_pre {no col : Int} {acc : List Pc} {l : B} (h : (LX.mid no col acc l).1 = 0) : ∃ L, (LX.mid no col acc l).2 = acc ++ L := by
  unfold LX.mid at h ⊢
  split
  · rename_i h1
    rw [if_pos h1] at h
    exact fin_pre h
  · rename_i h1
    rw [if_neg h1] at h
    split
    · rename_i h2
      rw [if_pos h2] at h
      cases h
    · rename_i h2
      rw [if_neg h2] at h
      obtain ⟨L, hL⟩ := fin_pre h
      exact ⟨_ :: L, by rw [hL, List.append_assoc]; rfl⟩
theorem go_pre {no col : Int} : ∀ {n : Nat} {acc : List Pc} {l : B}, (LX.go no col n acc l).1 = 0 → ∃ L, (LX.go no col n acc l).2 = acc ++ L
  | 0, acc, l, h => mid_pre h
  | n + 1, acc, l, h => by
    rw [LX.go] at h ⊢
    split
    · rename_i h1
      rw [if_pos h1] at h
      obtain ⟨L, hL⟩ := go_pre h
      exact ⟨_ :: L, by rw [hL, List.append_assoc]; rfl⟩
    · rename_i h1
      rw [if_neg h1] at h
      exact mid_pre h
theorem txt_plain {l s : B} (h : LX.txt l = (0, s, false)) : s = l := by
  cases l with
  | nil => simp [LX.txt] at h
  | cons c t =>
    rw [LX.txt.eq_def] at h
    simp only at h
    split at h
    · split at h
      · simp at h
      · unfold LX.lng at h; split at h <;> simp at h
    split at h
    · split at h
      · simp at h
      · unfold LX.lng at h; split at h <;> simp at h
    split at h
    · simp at h
    · unfold LX.lng at h
      split at h
      · simp at h
      · simp only [Prod.mk.injEq] at h
        exact h.2.1.symm
theorem go_le : ∀ {q : LN.Q} {l : B} {e : Nat}, LN.go q l = some e → e ≤ l.length := by
  intro q l
  fun_induction LN.go q l <;> intro e h
  all_goals first
    | (cases h; done)
    | (obtain rfl := Option.some.inj h; simp; done)
    | (obtain ⟨e', h1, rfl⟩ := Option.map_eq_some_iff.1 h
       rename_i ih
       have := ih h1
       simp only [List.length_cons] at this ⊢
       omega)
theorem leaf_plain {s : B} (h : plainb s = true) : Leaf s s false := by
  unfold plainb at h
  simp only [Bool.and_eq_true, decide_eq_true_eq, Bool.not_eq_true'] at h
  obtain ⟨⟨⟨⟨h0, _⟩, hb⟩, hs⟩, hr1, hr2⟩ := h
  have hr : LX.row (0, 0, s) = (0, [(3, 0, 0, s, false)]) := Prod.ext hr1 hr2
  clear hr1 hr2
  have hr2 := hr
  unfold LX.row at hr2
  simp only at hr2
  rw [if_neg (by omega)] at hr2
  have hd : LX.dash (LX.tl s) = false := by
    cases hd : LX.dash (LX.tl s) with
    | false => rfl
    | true =>
      have hl := LX.dash_len hd
      obtain ⟨n, hn⟩ : ∃ n, (LX.tl s).length = n + 1 := ⟨(LX.tl s).length - 1, by omega⟩
      rw [hn, LX.go_dash hd] at hr2
      obtain ⟨L, hL⟩ := go_pre (by rw [hr2])
      rw [hr2] at hL
      simp at hL
  rw [LX.go_mid hd] at hr2
  have hk : LX.key (LX.tl s) = 0 := by
    by_cases hk : LX.key (LX.tl s) = 0
    · exact hk
    · unfold LX.mid at hr2
      rw [if_neg hk] at hr2
      split at hr2
      · simp at hr2
      · obtain ⟨L, hL⟩ := fin_pre (by rw [hr2])
        rw [hr2] at hL
        simp at hL
  unfold LX.mid at hr2
  rw [if_pos hk] at hr2
  unfold LX.fin at hr2
  have hne : LX.tl s ≠ [] := by
    intro e
    rw [if_pos e] at hr2
    simp at hr2
  rw [if_neg hne] at hr2
  have htx : LX.txt (LX.tl s) = (0, s, false) := by
    split at hr2
    · rename_i h1
      simp only [List.nil_append, Prod.mk.injEq, List.cons.injEq, true_and, and_true] at hr2
      exact Prod.ext h1 (Prod.ext hr2.2.1 hr2.2.2)
    · simp at hr2
  have ht : LX.tl s = s := (txt_plain htx).symm
  rw [ht] at hd hk htx hne
  obtain ⟨c, t, hc⟩ : ∃ c t, s = c :: t := by
    cases s with
    | nil => exact absurd rfl hne
    | cons c t => exact ⟨c, t, rfl⟩
  have hc32 : c ≠ 32 := by
    intro e
    rw [hc, e, ltl_bl] at ht
    have := LX.tl_len t
    rw [ht] at this
    simp at this
    omega
  have hst := hs
  unfold LN.strip at hst
  obtain ⟨e, he, het⟩ := Option.map_eq_some_iff.1 hst
  unfold LN.fin at he
  rw [List.drop_zero] at he
  obtain ⟨e', he', rfl⟩ := Option.map_eq_some_iff.1 he
  rw [Nat.add_zero] at het
  obtain ⟨k, hk1, hk2, hk3, hk4⟩ := LN.tr_take (s.take e')
  rw [hk2] at het
  have hlen := congrArg List.length het
  simp only [List.length_take] at hlen hk1
  have hke : k = s.length := by omega
  have hes : s.length ≤ e' := by omega
  have hgo : LN.go (.out true) s = some s.length := by
    have := LN.go_take (.out true) s e' s.length he' hes (fun j h1 h2 => by
      by_cases hj : j < s.length
      · omega
      · exact absurd h2 (by
          have := go_le he'
          omega))
    rwa [List.take_length] at this
  refine ⟨⟨c, t, hc, hc32⟩, ?_, hb, hgo, htx, hd, hk⟩
  intro d hd2 e32
  have hpos : 0 < s.length := by rw [hc]; simp
  have h5 := hk4 (by omega)
  rw [List.take_of_length_le hes, hke] at h5
  exact h5 (by rw [hd2, e32])
end SH
end Go.Proofs.YtgfhabofhefaaaaGreatDoor
