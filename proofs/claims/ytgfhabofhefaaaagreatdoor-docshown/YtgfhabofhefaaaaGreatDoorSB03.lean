/- A part of the proof. -/
import Derived.Test.YtgfhabofhefaaaaGreatDoorSB02
import Derived.Test.YtgfhabofhefaaaaGreatDoorSB01
namespace Go.Proofs.YtgfhabofhefaaaaGreatDoor
namespace SH
open LX (B Pc Lz)
open DC (Nd bl)
theorem keyb_key {k : B} (h : keyb k = true) : Key k := by
  unfold keyb at h
  simp only [Bool.and_eq_true, decide_eq_true_eq, List.all_eq_true] at h
  exact ⟨h.1.1, h.1.2, h.2⟩
abbrev step (ns : List Ni) (f d : Nat) (m : Nat) (k : Int) : Option Nat := if k = (m : Int) then wk ns f m (d + 1) else none
def WkT (ns : List Ni) (f : Nat) : Prop := ∀ n d m, wk ns f n d = some m → ∃ t, okT t ∧ godT t ∧ depT t d ∧ m = n + sizeT t ∧ At ns n (flatT t n)
theorem wk_forest {ns : List Ni} {f : Nat} (ih : WkT ns f) : ∀ (kids : List Int) (keys : List B) (n d m : Nat), keys.length = kids.length → kids.foldlM (step ns f d) n = some m →
    ∃ k, keysF k = keys ∧ (kidsF k n).map (fun n : Nat => (n : Int)) = kids ∧ okF k ∧ godF k ∧ depF k (d + 1) ∧ m = n + sizeF k ∧ At ns n (flatF k n)
  | [], keys, n, d, m, hk, h => by
    have : keys = [] := List.length_eq_zero_iff.1 hk
    subst this
    have : n = m := by simpa using h
    subst this
    refine ⟨.nil, rfl, rfl, ?_, ?_, ?_, ?_, ?_⟩
    · rw [okF]; trivial
    · rw [godF]; trivial
    · rw [depF]; trivial
    · rw [sizeF]; rfl
    · rw [flatF]; intro i x hx; simp at hx
  | k :: kids, keys, n, d, m, hk, h => by
    obtain ⟨key, keys, rfl⟩ : ∃ a b, keys = a :: b := by
      cases keys with
      | nil => simp at hk
      | cons a b => exact ⟨a, b, rfl⟩
    rw [List.foldlM_cons] at h
    obtain ⟨n2, h1, h2⟩ := Option.bind_eq_some_iff.1 h
    unfold step at h1
    split at h1
    · rename_i e
      subst e
      obtain ⟨t, t1, t2, t3, t4, t5⟩ := ih _ _ _ h1
      subst t4
      obtain ⟨r, r1, r2, r3, r4, r5, r6, r7⟩ := wk_forest ih kids keys _ d m (by simpa using hk) h2
      refine ⟨.cons key t r, ?_, ?_, ?_, ?_, ?_, ?_, ?_⟩
      · rw [keysF, r1]
      · rw [kidsF, List.map_cons, r2]
      · rw [okF]; exact ⟨t1, r3⟩
      · rw [godF]; exact ⟨t2, r4⟩
      · rw [depF]; exact ⟨t3, r5⟩
      · rw [sizeF, r6]; omega
      · rw [flatF]
        exact t5.app (by rw [flatT_len]; exact r7)
    · cases h1
theorem kids_ne {k : Fo} {n : Nat} (h : (kidsF k n).map (fun n : Nat => (n : Int)) ≠ []) : k ≠ .nil := by
  rintro rfl
  exact h rfl
theorem rep_all {n : Nat} : ∀ x ∈ List.replicate n ([] : B), x = [] := fun _ hx => (List.mem_replicate.1 hx).2
theorem wk_tree (ns : List Ni) : ∀ f, WkT ns f
  | 0 => by intro n d m h; cases h
  | f + 1 => by
    intro n d m h
    rw [wk] at h
    split at h
    · cases h
    rename_i x hx
    split at h
    · rename_i hd
      obtain ⟨hd, hf⟩ := hd
      obtain ⟨kd, ln, tx, q, ks, is⟩ := x
      unfold fits at hf
      simp only at hf h
      split at hf
      · rename_i h1
        simp only [Bool.and_eq_true, decide_eq_true_eq, Bool.or_eq_true] at hf
        obtain ⟨⟨rfl, rfl, hl⟩, hp⟩ := hf
        subst h1
        have : n + 1 = m := by simpa using h
        refine ⟨.text tx q, ?_, ?_, ?_, ?_, ?_⟩
        · rw [okT]; trivial
        · rw [godT]
          cases q with
          | true => exact leaf_quo hl
          | false =>
            have hp' : plainb tx = true := by simpa using hp
            exact leaf_plain hp'
        · rw [depT]; exact hd
        · rw [sizeT]; omega
        · rw [flatT]
          exact At.cons hx rfl (by intro i y hy; simp at hy)
      split at hf
      · rename_i _ h2
        simp only [decide_eq_true_eq] at hf
        obtain ⟨rfl, hk, rfl, rfl⟩ := hf
        subst h2
        obtain ⟨k, k1, k2, k3, k4, k5, k6, k7⟩ := wk_forest (wk_tree ns f) is (List.replicate is.length []) (n + 1) d m (by simp) h
        refine ⟨.list k, ?_, ?_, ?_, ?_, ?_⟩
        · rw [okT]; exact ⟨kids_ne (by rw [k2]; exact hk), by rw [k1]; exact rep_all, k3⟩
        · rw [godT]; exact k4
        · rw [depT]; exact ⟨hd, k5⟩
        · rw [sizeT, k6]; omega
        · rw [flatT]
          exact At.cons hx (by unfold zi up; rw [k2]) k7
      split at hf
      · rename_i _ _ h3
        simp only [Bool.and_eq_true, decide_eq_true_eq, List.all_eq_true] at hf
        obtain ⟨⟨hkl, hk, rfl, rfl, hnd⟩, hka⟩ := hf
        subst h3
        obtain ⟨k, k1, k2, k3, k4, k5, k6, k7⟩ := wk_forest (wk_tree ns f) is ks (n + 1) d m hkl h
        refine ⟨.map k, ?_, ?_, ?_, ?_, ?_⟩
        · rw [okT]; exact ⟨kids_ne (by rw [k2]; exact hk), by rw [k1]; exact hnd, k3⟩
        · rw [godT]; exact ⟨by rw [k1]; exact fun x hx => keyb_key (hka x hx), k4⟩
        · rw [depT]; exact ⟨hd, k5⟩
        · rw [sizeT, k6]; omega
        · rw [flatT, k1]
          exact At.cons hx (by unfold zi up; rw [k2]) k7
      · cases hf
    · cases h
def chk (ns : List Ni) : Prop := 1 ≤ ns.length ∧ ns.length ≤ 2000 ∧ wk ns 25 0 1 = some ns.length
theorem chk_tree {ns : List Ni} (h : chk ns) : ∃ t, okT t ∧ godT t ∧ depT t 1 ∧ sizeT t ≤ 2000 ∧ (flatT t 0).map up = ns.map zi := by
  obtain ⟨_, h2, h3⟩ := h
  obtain ⟨t, t1, t2, t3, t4, t5⟩ := wk_tree ns 25 _ _ _ h3
  rw [Nat.zero_add] at t4
  refine ⟨t, t1, t2, t3, by omega, ?_⟩
  apply List.ext_getElem?
  intro i
  by_cases hi : i < ns.length
  · have h1 : i < (flatT t 0).length := by rw [flatT_len]; omega
    have := t5 i _ (List.getElem?_eq_getElem h1)
    rw [Nat.zero_add] at this
    rw [List.getElem?_map, List.getElem?_map, this, List.getElem?_eq_getElem h1]; rfl
  · rw [List.getElem?_eq_none (by rw [List.length_map, flatT_len]; omega), List.getElem?_eq_none (by rw [List.length_map]; omega)]
theorem parse_shown {ns : List Ni} {t : Tr} (ht : okT t ∧ godT t ∧ depT t 1 ∧ sizeT t ≤ 2000 ∧ (flatT t 0).map up = ns.map zi) (hl : (showT t 0).length ≤ 16384) : ∃ ms, DC.parse (showT t 0) = .ok ms ∧ (ms.map up).map zi = ns.map zi := by
  obtain ⟨t1, t2, t3, t4, t5⟩ := ht
  obtain ⟨ms, h1, h2⟩ := parse_tree t t2 t1 t3 t4 hl
  refine ⟨ms, h1, ?_⟩
  rw [← t5, ← h2, List.map_map, List.map_map]
  rfl
end SH
end Go.Proofs.YtgfhabofhefaaaaGreatDoor
namespace Go.Proofs.YtgfhabofhefaaaaGreatDoor
namespace SH
open LX (B Pc Lz)
open DC (Nd bl blk itm)
structure Pg (x : Pc) : Prop where
  txt : x.1 = 3 → x.2.2.2.1.length ≤ 200 ∧ (x.2.2.2.2 = true ∨ plainb x.2.2.2.1 = true)
  key : x.1 = 2 → keyb x.2.2.2.1 = true
def AtE (ns : List Ni) (n : Nat) (l : List Nd) : Prop := ∀ i x, l[i]? = some x → ns[n + i]? = some (up x)
theorem AtE.left {ns : List Ni} {n : Nat} {a b : List Nd} (h : AtE ns n (a ++ b)) : AtE ns n a := fun i x hx => h i x (by
  rw [List.getElem?_append_left (List.getElem?_eq_some_iff.1 hx).1]; exact hx)
theorem AtE.right {ns : List Ni} {n : Nat} {a b : List Nd} (h : AtE ns n (a ++ b)) : AtE ns (n + a.length) b := fun i x hx => by
  have := h (a.length + i) x (by rw [List.getElem?_append_right (by omega), Nat.add_sub_cancel_left]; exact hx)
  rwa [← Nat.add_assoc] at this
theorem AtE.tail {ns : List Ni} {n : Nat} {x : Nd} {l : List Nd} (h : AtE ns n (x :: l)) : AtE ns (n + 1) l := fun i y hy => by
  have := h (i + 1) y (by simpa using hy)
  rwa [show n + (i + 1) = n + 1 + i by omega] at this
end SH
end Go.Proofs.YtgfhabofhefaaaaGreatDoor
namespace Go.Proofs.YtgfhabofhefaaaaGreatDoor
namespace LX
theorem lng_len {x : B} {q : Bool} {k : Int} {t : B} {r : Bool} (h : lng x q = (k, t, r)) : t.length ≤ 200 := by
  unfold lng at h
  split at h
  · simp only [Prod.mk.injEq] at h; rw [← h.2.1]; simp
  · simp only [Prod.mk.injEq] at h; rw [← h.2.1]; omega
theorem txt_len (l : B) : (txt l).2.1.length ≤ 200 := by
  cases l with
  | nil => simp [txt]
  | cons c t =>
    have key : ∀ x q, (lng x q).2.1.length ≤ 200 := fun x q => lng_len (k := (lng x q).1) (t := (lng x q).2.1) (r := (lng x q).2.2) rfl
    rw [txt]
    split
    · split
      · simp
      · exact key _ _
    split
    · split
      · simp
      · exact key _ _
    split
    · simp
    · exact key _ _
def Short (ls : List Pc) : Prop := ∀ x ∈ ls, x.2.2.2.1.length ≤ 200
theorem Short.app {a b : List Pc} (h : Short a) (k : Short b) : Short (a ++ b) := fun x hx => (List.mem_append.1 hx).elim (h x) (k x)
theorem Short.one {x : Pc} (h : x.2.2.2.1.length ≤ 200) : Short [x] := fun y hy => by rw [List.mem_singleton.1 hy]; exact h
theorem Short.nil : Short [] := by intro x h; cases h
theorem fin_short {no col : Int} {acc : List Pc} {l : B} (h : Short acc) : Short (fin no col acc l).2 := by
  unfold fin
  split
  · exact h
  split
  · exact h.app (Short.one (txt_len l))
  · exact Short.nil
theorem mid_short {no col : Int} {acc : List Pc} {l : B} (h : Short acc) : Short (mid no col acc l).2 := by
  unfold mid
  split
  · exact fin_short h
  split
  · exact Short.nil
  · exact fin_short (h.app (Short.one (by simp only [List.length_take]; omega)))
theorem go_short {no col : Int} : ∀ {n : Nat} {acc : List Pc} {l : B}, Short acc → Short (go no col n acc l).2
  | 0, _, _, h => mid_short h
  | n + 1, acc, l, h => by
    rw [go]
    split
    · exact go_short (h.app (Short.one (by simp)))
    · exact mid_short h
theorem row_short (l : Lz) : Short (row l).2 := by
  unfold row
  split
  · exact Short.nil
  · exact go_short Short.nil
theorem all_short : ∀ ls : List Lz, Short (all ls).1.2
  | [] => Short.nil
  | l :: ls => by
    rw [all]
    split
    · simp only
      split
      · exact (row_short l).app (all_short ls)
      · exact Short.nil
    · exact Short.nil
end LX
namespace DC
def told (o : Out (List Nd)) : List Nd := match o with
  | .ok a => a
  | .bad _ _ => []
def wrong (o : Out (List Nd)) : Int × Int := match o with
  | .ok _ => (0, 0)
  | .bad k n => (k, n)
end DC
namespace DC
theorem rows_sum (l : LX.B) : ((LN.rows l).map List.length).sum ≤ l.length := by
  induction l with
  | nil => simp [LN.rows]
  | cons c l ih =>
    rw [LN.rows]
    split
    · simp only [List.map_cons, List.sum_cons, List.length_nil, List.length_cons]; omega
    · obtain ⟨h, t, e⟩ := LN.rows_ne l
      rw [e] at ih ⊢
      simp only [List.map_cons, List.sum_cons, List.length_cons] at ih ⊢
      omega
theorem lns_wt : ∀ (n : Nat) (rs : List LX.B), LX.wt ((LN.lns n rs).map zl) ≤ (rs.map List.length).sum
  | _, [] => Nat.le_refl 0
  | n, r :: rs => by
    have ih := lns_wt (n + 1) rs
    rw [LN.lns]
    split
    · simp only [List.map_cons, List.sum_cons]; omega
    · rw [List.map_cons, LX.wt_cons]
      simp only [List.map_cons, List.sum_cons]
      have h1 : (LN.said r).length ≤ r.length := by
        unfold LN.said
        cases hs : LN.strip (LN.tl r) with
        | none => simp
        | some s =>
          have h2 := (LN.strip_again hs).2.1
          have h3 := tl_le r
          simp only [Option.getD_some]
          omega
      show (LN.said r).length + _ ≤ _
      omega
theorem outL_wt (l : LX.B) : LX.wt ((LN.outL l).map zl) ≤ l.length := by
  unfold LN.outL
  split
  · exact Nat.le_trans (lns_wt _ _) (rows_sum l)
  · exact Nat.zero_le _
theorem outF_small {l : LX.B} (h : (LN.outF l).1 = 0) : l.length ≤ 16384 := by
  unfold LN.outF at h
  split at h
  · cases h
  · omega
theorem outL_text {l : LX.B} (h : (LN.outF l).1 = 0) : ∀ x ∈ (LN.outL l).map zl, x.2.2.length ≤ 17000 := by
  intro x hx
  obtain ⟨y, hy, rfl⟩ := List.mem_map.1 hx
  have h1 := outF_small h
  have := (outL_le hy h1).2
  show y.2.2.length ≤ 17000
  omega
end DC
end Go.Proofs.YtgfhabofhefaaaaGreatDoor
namespace Go.Proofs.YtgfhabofhefaaaaGreatDoor
namespace SH
open LX (B Pc Lz)
open DC (Nd bl blk itm)
structure Sd (c : B) : Prop where
  go : LN.go (.out true) c = some c.length
  lst : ∀ x, c[c.length - 1]? = some x → x ≠ 32
  bad : LN.bad c = false
end SH
end Go.Proofs.YtgfhabofhefaaaaGreatDoor
namespace Go.Proofs.YtgfhabofhefaaaaGreatDoor
namespace SH
open LX (B Pc Lz)
open DC (Nd bl)
def sameb (a b : List Ni) : Bool := decide (a.map zi = b.map zi)
instance (ns : List Ni) : Decidable (chk ns) := by unfold chk; exact inferInstance
def chkb (ns : List Ni) : Bool := decide (chk ns)
end SH
end Go.Proofs.YtgfhabofhefaaaaGreatDoor
namespace Go.Proofs.YtgfhabofhefaaaaGreatDoor
namespace SH
open LX (B Pc Lz)
open DC (Nd bl)
theorem Leaf.len {w x : B} {q : Bool} (h : Leaf w x q) : x.length ≤ 200 := by
  have := LX.txt_len w
  rw [h.txt] at this
  exact this
theorem wr_len {t : B} {q : Bool} (h : Leaf (wr t q) t q) : (wr t q).length ≤ 802 := by
  have h1 := h.len
  unfold wr
  split
  · have := LX.quo_len t
    omega
  · omega
theorem bl_len (c : Nat) : (bl c).length = c := by simp [bl]
mutual
theorem show_T : ∀ (t : Tr) (c M : Nat), godT t → c + 2 * sizeT t ≤ M → (showT t c).length + (2 * M + 70) ≤ sizeT t * (1000 + 4 * M)
  | .text t q, c, M, h, hM => by
    rw [godT] at h
    rw [sizeT] at hM ⊢
    rw [showT, List.length_append]
    have := wr_len h
    simp only [List.length_cons, List.length_nil]
    omega
  | .list k, c, M, h, hM => by
    rw [godT] at h
    rw [sizeT] at hM ⊢
    rw [showT, Nat.add_mul]
    have := show_L k c M true h (by omega)
    omega
  | .map k, c, M, h, hM => by
    rw [godT] at h
    rw [sizeT] at hM ⊢
    rw [showT, Nat.add_mul]
    have := show_M k c M true h.1 h.2 (by omega)
    omega
theorem show_L : ∀ (k : Fo) (c M : Nat) (f : Bool), godF k → c + 2 + 2 * sizeF k ≤ M → (showL k c f).length ≤ sizeF k * (1000 + 4 * M)
  | .nil, _, _, _, _, _ => by rw [showL]; simp
  | .cons key t r, c, M, f, h, hM => by
    rw [godF] at h
    rw [sizeF] at hM ⊢
    have h1 := show_T t (c + 2) M h.1 (by omega)
    have h2 := show_L r c M false h.2 (by omega)
    rw [showL, Nat.add_mul]
    simp only [List.length_append, List.length_cons]
    cases f <;> simp only [Bool.false_eq_true, if_true, if_false, bl_len, List.length_nil] <;> omega
theorem show_M : ∀ (k : Fo) (c M : Nat) (f : Bool), (∀ x ∈ keysF k, Key x) → godF k → c + 2 + 2 * sizeF k ≤ M → (showM k c f).length ≤ sizeF k * (1000 + 4 * M)
  | .nil, _, _, _, _, _, _ => by rw [showM]; simp
  | .cons key (.text s q) r, c, M, f, hk, h, hM => by
    rw [godF] at h
    rw [sizeF] at hM ⊢
    have hk1 := (hk key (by rw [keysF]; simp)).len
    have h1 := show_T (.text s q) (c + 2) M h.1 (by omega)
    have h2 := show_M r c M false (fun x hx => hk x (by rw [keysF]; exact List.mem_cons_of_mem _ hx)) h.2 (by omega)
    rw [showM, Nat.add_mul]
    rw [showT] at h1
    simp only [List.length_append, List.length_cons, List.length_nil] at h1 ⊢
    cases f <;> simp only [Bool.false_eq_true, if_true, if_false, bl_len, List.length_nil] <;> omega
  | .cons key (.list k) r, c, M, f, hk, h, hM => by
    rw [godF] at h
    rw [sizeF] at hM ⊢
    have hk1 := (hk key (by rw [keysF]; simp)).len
    have h1 := show_T (.list k) (c + 2) M h.1 (by omega)
    have h2 := show_M r c M false (fun x hx => hk x (by rw [keysF]; exact List.mem_cons_of_mem _ hx)) h.2 (by omega)
    rw [showM, Nat.add_mul]
    rw [showT] at h1
    simp only [List.length_append, List.length_cons, bl_len] at h1 ⊢
    cases f <;> simp only [Bool.false_eq_true, if_true, if_false, bl_len, List.length_nil] <;> omega
  | .cons key (.map k) r, c, M, f, hk, h, hM => by
    rw [godF] at h
    rw [sizeF] at hM ⊢
    have hk1 := (hk key (by rw [keysF]; simp)).len
    have h1 := show_T (.map k) (c + 2) M h.1 (by omega)
    have h2 := show_M r c M false (fun x hx => hk x (by rw [keysF]; exact List.mem_cons_of_mem _ hx)) h.2 (by omega)
    rw [showM, Nat.add_mul]
    rw [showT] at h1
    simp only [List.length_append, List.length_cons, bl_len] at h1 ⊢
    cases f <;> simp only [Bool.false_eq_true, if_true, if_false, bl_len, List.length_nil] <;> omega
end
theorem keysF_len : ∀ k : Fo, (keysF k).length ≤ sizeF k
  | .nil => Nat.le_refl _
  | .cons _ t r => by
    have := keysF_len r
    have h : 1 ≤ sizeT t := by cases t <;> simp [sizeT]
    rw [keysF, sizeF, List.length_cons]
    omega
mutual
theorem nodes_T : ∀ (t : Tr) (N : Nat), godT t → ∀ x ∈ flatT t N, x.text.length ≤ 200 ∧ (∀ k ∈ x.keys, k.length ≤ 64) ∧ x.keys.length ≤ sizeT t
  | .text t q, N, h, x, hx => by
    rw [flatT, List.mem_singleton] at hx
    subst hx
    rw [godT] at h
    exact ⟨h.len, by simp, by simp⟩
  | .list k, N, h, x, hx => by
    rw [godT] at h
    rw [flatT, List.mem_cons] at hx
    rcases hx with rfl | hx
    · exact ⟨by simp, by simp, by simp⟩
    · have := nodes_F k (N + 1) h x hx
      rw [sizeT]
      exact ⟨this.1, this.2.1, by omega⟩
  | .map k, N, h, x, hx => by
    rw [godT] at h
    rw [flatT, List.mem_cons] at hx
    rcases hx with rfl | hx
    · rw [sizeT]
      exact ⟨by simp, fun y hy => (h.1 y hy).len, by have := keysF_len k; simp only; omega⟩
    · have := nodes_F k (N + 1) h.2 x hx
      rw [sizeT]
      exact ⟨this.1, this.2.1, by omega⟩
theorem nodes_F : ∀ (k : Fo) (N : Nat), godF k → ∀ x ∈ flatF k N, x.text.length ≤ 200 ∧ (∀ k ∈ x.keys, k.length ≤ 64) ∧ x.keys.length ≤ sizeF k
  | .nil, _, _, x, hx => by rw [flatF] at hx; cases hx
  | .cons _ t r, N, h, x, hx => by
    rw [godF] at h
    rw [flatF, List.mem_append] at hx
    rw [sizeF]
    rcases hx with hx | hx
    · have := nodes_T t N h.1 x hx
      exact ⟨this.1, this.2.1, by omega⟩
    · have := nodes_F r _ h.2 x hx
      exact ⟨this.1, this.2.1, by omega⟩
end
structure Of (t : Tr) (ns : List Ni) : Prop where
  ok : okT t
  god : godT t
  dep : depT t 1
  size : sizeT t ≤ 2000
  eq : (flatT t 0).map up = ns.map zi
theorem chk_of {ns : List Ni} (h : chk ns) : ∃ t, Of t ns := by
  obtain ⟨t, h1, h2, h3, h4, h5⟩ := chk_tree h
  exact ⟨t, h1, h2, h3, h4, h5⟩
theorem Of.at {t : Tr} {ns : List Ni} (h : Of t ns) : At ns 0 (flatT t 0) := by
  intro i x hx
  have := congrArg (fun l => l[i]?) h.eq
  simp only [List.getElem?_map, hx] at this
  rw [Nat.zero_add]
  exact this.symm
theorem Of.lens {t : Tr} {ns : List Ni} (h : Of t ns) : ∀ y ∈ ns, y.text.length ≤ 200 ∧ (∀ k ∈ y.keys, k.length ≤ 64) ∧ y.keys.length ≤ 2000 := by
  intro y hy
  have h1 : zi y ∈ (flatT t 0).map up := by rw [h.eq]; exact List.mem_map_of_mem hy
  obtain ⟨x, hx, e⟩ := List.mem_map.1 h1
  have h2 := nodes_T t 0 h.god x hx
  have e1 : y.text = x.text := by have := congrArg Ni.text e; exact this.symm
  have e2 : y.keys = x.keys := by have := congrArg Ni.keys e; exact this.symm
  rw [e1, e2]
  exact ⟨h2.1, h2.2.1, by have := h.size; omega⟩
theorem Of.len {t : Tr} {ns : List Ni} (h : Of t ns) : (showT t 0).length ≤ 40000000 := by
  have h1 := show_T t 0 4000 h.god (by have := h.size; omega)
  have h2 : sizeT t * (1000 + 4 * 4000) ≤ 2000 * 17000 := Nat.mul_le_mul h.size (by decide)
  omega
def Tx (ns : List Ni) (code : Int) (T : B) : Prop := (chkb ns = false ∧ code = 1 ∧ T = []) ∨ (chkb ns = true ∧ ∃ t, Of t ns ∧ ((60000 < (showT t 0).length ∧ code = 4 ∧ T = []) ∨ ((showT t 0).length ≤ 60000 ∧ code = 0 ∧ T = showT t 0)))
theorem tx_some (ns : List Ni) : ∃ code T, Tx ns code T := by
  cases h : chkb ns with
  | false => exact ⟨1, [], .inl ⟨h, rfl, rfl⟩⟩
  | true =>
    obtain ⟨t, ht⟩ := chk_of (of_decide_eq_true h)
    by_cases hl : 60000 < (showT t 0).length
    · exact ⟨4, [], .inr ⟨h, t, ht, .inl ⟨hl, rfl, rfl⟩⟩⟩
    · exact ⟨0, _, .inr ⟨h, t, ht, .inr ⟨by omega, rfl, rfl⟩⟩⟩
theorem Tx.len {ns : List Ni} {code : Int} {T : B} (h : Tx ns code T) : T.length ≤ 60000 := by
  rcases h with ⟨_, _, rfl⟩ | ⟨_, t, _, ⟨_, _, rfl⟩ | ⟨h, _, rfl⟩⟩
  · simp
  · simp
  · exact h
end SH
end Go.Proofs.YtgfhabofhefaaaaGreatDoor
