/- A part of the proof. -/
import Derived.Test.YtgfhabofhefaaaaGreatDoorSB07
import Derived.Test.YtgfhabofhefaaaaGreatDoorSB24
namespace Go.Proofs.YtgfhabofhefaaaaGreatDoor
namespace SH
open LX (B Pc Lz)
open DC (Nd bl)
mutual
def smT : Tr → Prop
  | .text t q => (wr t q).length ≤ 34
  | .list k => smF k
  | .map k => (∀ x ∈ keysF k, x.length ≤ 17) ∧ smF k
def smF : Fo → Prop
  | .nil => True
  | .cons _ t r => smT t ∧ smF r
end
mutual
theorem sm_T : ∀ (t : Tr) (c d : Nat), smT t → depT t d → c + 2 ≤ 2 * d → (showT t c).length + 80 ≤ 115 * sizeT t
  | .text t q, c, d, h, hd, hc => by
    rw [smT] at h
    rw [showT, sizeT, List.length_append]
    simp only [List.length_cons, List.length_nil]
    omega
  | .list k, c, d, h, hd, hc => by
    rw [smT] at h
    rw [depT] at hd
    rw [showT, sizeT]
    have := sm_L k c (d + 1) true h hd.2 (by omega) (by omega)
    omega
  | .map k, c, d, h, hd, hc => by
    rw [smT] at h
    rw [depT] at hd
    rw [showT, sizeT]
    have := sm_M k c (d + 1) true h.1 h.2 hd.2 (by omega) (by omega)
    omega
theorem sm_L : ∀ (k : Fo) (c d : Nat) (f : Bool), smF k → depF k d → c + 4 ≤ 2 * d → c ≤ 46 → (showL k c f).length ≤ 115 * sizeF k
  | .nil, _, _, _, _, _, _, _ => by rw [showL]; simp
  | .cons key t r, c, d, f, h, hd, hc, hc2 => by
    rw [smF] at h
    rw [depF] at hd
    rw [sizeF]
    have h1 := sm_T t (c + 2) d h.1 hd.1 (by omega)
    have h2 := sm_L r c d false h.2 hd.2 hc hc2
    rw [showL]
    simp only [List.length_append, List.length_cons]
    cases f <;> simp only [Bool.false_eq_true, if_true, if_false, bl_len, List.length_nil] <;> omega
theorem sm_M : ∀ (k : Fo) (c d : Nat) (f : Bool), (∀ x ∈ keysF k, x.length ≤ 17) → smF k → depF k d → c + 4 ≤ 2 * d → c ≤ 46 → (showM k c f).length ≤ 115 * sizeF k
  | .nil, _, _, _, _, _, _, _, _ => by rw [showM]; simp
  | .cons key (.text s q) r, c, d, f, hk, h, hd, hc, hc2 => by
    rw [smF] at h
    rw [depF] at hd
    rw [sizeF, sizeT]
    have hk1 := hk key (by rw [keysF]; simp)
    have h1 := h.1
    rw [smT] at h1
    have h2 := sm_M r c d false (fun x hx => hk x (by rw [keysF]; exact List.mem_cons_of_mem _ hx)) h.2 hd.2 hc hc2
    rw [showM]
    simp only [List.length_append, List.length_cons, List.length_nil]
    cases f <;> simp only [Bool.false_eq_true, if_true, if_false, bl_len, List.length_nil] <;> omega
  | .cons key (.list k) r, c, d, f, hk, h, hd, hc, hc2 => by
    rw [smF] at h
    rw [depF] at hd
    rw [sizeF, sizeT]
    have hk1 := hk key (by rw [keysF]; simp)
    have h1 := h.1
    rw [smT] at h1
    have hd1 := hd.1
    rw [depT] at hd1
    have h3 := sm_L k (c + 2) (d + 1) true h1 hd1.2 (by omega) (by omega)
    have h2 := sm_M r c d false (fun x hx => hk x (by rw [keysF]; exact List.mem_cons_of_mem _ hx)) h.2 hd.2 hc hc2
    rw [showM]
    simp only [List.length_append, List.length_cons, bl_len]
    cases f <;> simp only [Bool.false_eq_true, if_true, if_false, bl_len, List.length_nil] <;> omega
  | .cons key (.map k) r, c, d, f, hk, h, hd, hc, hc2 => by
    rw [smF] at h
    rw [depF] at hd
    rw [sizeF, sizeT]
    have hk1 := hk key (by rw [keysF]; simp)
    have h1 := h.1
    rw [smT] at h1
    have hd1 := hd.1
    rw [depT] at hd1
    have h3 := sm_M k (c + 2) (d + 1) true h1.1 h1.2 hd1.2 (by omega) (by omega)
    have h2 := sm_M r c d false (fun x hx => hk x (by rw [keysF]; exact List.mem_cons_of_mem _ hx)) h.2 hd.2 hc hc2
    rw [showM]
    simp only [List.length_append, List.length_cons, bl_len]
    cases f <;> simp only [Bool.false_eq_true, if_true, if_false, bl_len, List.length_nil] <;> omega
end
def Sm (x : Ni) : Prop := (wr x.text x.quoted).length ≤ 34 ∧ ∀ k ∈ x.keys, k.length ≤ 17
mutual
theorem smT_of : ∀ (t : Tr) (N : Nat), (∀ x ∈ flatT t N, Sm (up x)) → smT t
  | .text t q, N, h => by
    rw [smT]
    exact (h _ (by rw [flatT]; exact List.mem_singleton.2 rfl)).1
  | .list k, N, h => by
    rw [smT]
    exact smF_of k (N + 1) fun x hx => h x (by rw [flatT]; exact List.mem_cons_of_mem _ hx)
  | .map k, N, h => by
    rw [smT]
    exact ⟨fun y hy => (h ⟨3, 0, [], false, keysF k, kidsF k (N + 1)⟩ (by rw [flatT]; exact List.mem_cons_self ..)).2 y hy, smF_of k (N + 1) fun x hx => h x (by rw [flatT]; exact List.mem_cons_of_mem _ hx)⟩
theorem smF_of : ∀ (k : Fo) (N : Nat), (∀ x ∈ flatF k N, Sm (up x)) → smF k
  | .nil, _, _ => by rw [smF]; trivial
  | .cons _ t r, N, h => by
    rw [smF]
    exact ⟨smT_of t N fun x hx => h x (by rw [flatF]; exact List.mem_append_left _ hx), smF_of r _ fun x hx => h x (by rw [flatF]; exact List.mem_append_right _ hx)⟩
end
theorem small_len {t : Tr} {ns : List Ni} (h : Of t ns) (hs : ∀ x ∈ ns, Sm x) (hn : ns.length ≤ 500) : (showT t 0).length ≤ 60000 := by
  have hl : sizeT t = ns.length := by
    have := congrArg List.length h.eq
    simp only [List.length_map, flatT_len] at this
    exact this
  have hsm : smT t := smT_of t 0 fun x hx => by
    have h1 : up x ∈ ns.map zi := by rw [← h.eq]; exact List.mem_map_of_mem hx
    obtain ⟨y, hy, e⟩ := List.mem_map.1 h1
    rw [← e]
    exact hs y hy
  have := sm_T t 0 1 hsm h.dep (by omega)
  omega
end SH
namespace CF
open SH (Ni Sm)
theorem q1_len : ∀ n : Fin 256, (LX.q1 (UInt8.ofNat n.val)).length ≤ 4 := by decide +kernel
theorem quo_le (s : B) : (LX.quo s).length ≤ 4 * s.length + 2 := by
  have h1 : ∀ c : UInt8, (LX.q1 c).length ≤ 4 := fun c => by
    have := q1_len ⟨c.toNat, c.toNat_lt⟩
    simpa using this
  have h2 : (s.flatMap LX.q1).length ≤ 4 * s.length := by
    induction s with
    | nil => simp
    | cons c r ih =>
      have := h1 c
      simp only [List.flatMap_cons, List.length_append, List.length_cons]
      omega
  unfold LX.quo
  simp only [List.length_append, List.length_cons, List.length_nil]
  omega
theorem wrS_len (x : Nat) : (wrS x).length ≤ 20 := by
  unfold wrS wr
  split
  · unfold nam TX.mns
    split
    · simp
    · split
      · simp only [Option.getD_some]
        split <;> simp
      · simp
  · split
    · simp
    · cases h : (List.range 7).findSome? (wk x) with
      | none => simp
      | some s =>
        obtain ⟨k, hk, hw⟩ := List.exists_of_findSome?_eq_some h
        unfold wk at hw
        split at hw
        · rename_i hc
          cases hw
          have hk7 : k < 7 := List.mem_range.1 hk
          simp only [Option.getD_some]
          have h9 : (Lib.decDigits (TX.allOf (FM.rg x) k / 10 ^ k)).length ≤ 9 := by
            rw [Lib.decDigits_length]; exact TX.nDigits_lt (by omega) (by decide)
          have hm : (TX.mns x).length ≤ 1 := by unfold TX.mns; split <;> simp
          rw [List.length_append]
          unfold TX.pnt
          split
          · omega
          · rename_i hk0
            have hpd := TX.pad_length (TX.nDigits_lt (Nat.mod_lt (TX.allOf (FM.rg x) k) (Nat.pow_pos (by decide : 0 < 10))) hk0)
            rw [List.length_append, List.length_cons, hpd]
            omega
        · cases hw
structure Small (c : Cf) : Prop where
  key : ∀ b ∈ c.brs, b.key.length ≤ 8 ∧ b.val.length ≤ 8 ∧ b.rule.name.length ≤ 8
  nm : ∀ d ∈ c.doms, d.name.length ≤ 8
def tx (s : B) : Ni := ⟨1, 0, s, true, [], []⟩
structure Cl (S : Ni → Prop) : Prop where
  addK : ∀ (x : Ni) (key : B) (k : Int), S x → key.length ≤ 17 → S { x with keys := x.keys ++ [key], kids := x.kids ++ [k] }
  addI : ∀ (x : Ni) (k : Int), S x → S { x with kids := x.kids ++ [k] }
  opn : ∀ k, S ⟨k, 0, [], false, [], []⟩
  pl : ∀ s : B, s.length ≤ 20 → S ⟨1, 0, s, false, [], []⟩
def Hb (S : Ni → Prop) (c : Cf) : Prop := ∀ b ∈ c.brs, (∃ dom up, fits b dom up = true) → S (tx b.key) ∧ S (tx b.val) ∧ (b.has = true → S (tx b.rule.name))
theorem cl_true : Cl fun _ => True := ⟨fun _ _ _ _ _ => trivial, fun _ _ _ => trivial, fun _ => trivial, fun _ _ => trivial⟩
theorem hb_true (c : Cf) : Hb (fun _ => True) c := fun _ _ _ => ⟨trivial, trivial, fun _ => trivial⟩
def Gr (S : Ni → Prop) (n : Nat) (a b : List Ni) : Prop := b.length ≤ a.length + n ∧ ((∀ x ∈ a, S x) → ∀ x ∈ b, S x)
theorem mem_modify {n : Nat} {f : Ni → Ni} : ∀ {a : List Ni} {y : Ni}, y ∈ a.modify n f → y ∈ a ∨ ∃ x ∈ a, y = f x := fun {a y} hy => by
  obtain ⟨i, hi, rfl⟩ := List.getElem_of_mem hy
  rw [List.length_modify] at hi
  rw [List.getElem_modify]
  split
  · exact .inr ⟨_, List.getElem_mem hi, rfl⟩
  · exact .inl (List.getElem_mem hi)
theorem unitS_len (u : Int) : (unitS u).length ≤ 6 := by
  unfold unitS
  split
  · simp
  · split
    · simp
    · split
      · simp
      · split <;> simp
theorem limS_len (r : Ru) : (limS r).length ≤ 20 := by
  unfold limS
  rw [Lib.decDigits_length]
  refine Lib.nDigits_le20 _ ?_
  have := M.hold_hi r.limit
  omega
section
variable {S : Ni → Prop}
theorem Gr.trans {n m : Nat} {a b c : List Ni} (h : Gr S n a b) (k : Gr S m b c) : Gr S (n + m) a c := ⟨by have := h.1; have := k.1; omega, fun ha => k.2 (h.2 ha)⟩
theorem Gr.mono {n m : Nat} {a b : List Ni} (h : Gr S n a b) (hm : n ≤ m) : Gr S m a b := ⟨by have := h.1; omega, h.2⟩
theorem Gr.refl (a : List Ni) : Gr S 0 a a := ⟨by omega, id⟩
theorem gr_push {a : List Ni} {x : Ni} (h : S x) : Gr S 1 a (a ++ [x]) := ⟨by simp, fun ha y hy => by
  rcases List.mem_append.1 hy with hy | hy
  · exact ha y hy
  · obtain rfl := List.mem_singleton.1 hy
    exact h⟩
theorem gr_opn (hS : Cl S) (k : Int) (a : List Ni) : Gr S 1 a (opn k a) := gr_push (hS.opn k)
theorem gr_txt {s : B} {q : Bool} (h : S ⟨1, 0, s, q, [], []⟩) (a : List Ni) : Gr S 1 a (txt s q a) := gr_push h
theorem gr_addK (hS : Cl S) (n : Nat) {key : B} (k : Nat) (h : key.length ≤ 17) (a : List Ni) : Gr S 0 a (addK n key k a) := ⟨by simp [addK], fun ha y hy => by
  rcases mem_modify hy with hy | ⟨x, hx, rfl⟩
  · exact ha y hy
  · exact hS.addK x key k (ha x hx) h⟩
theorem gr_addI (hS : Cl S) (n k : Nat) (a : List Ni) : Gr S 0 a (addI n k a) := ⟨by simp [addI], fun ha y hy => by
  rcases mem_modify hy with hy | ⟨x, hx, rfl⟩
  · exact ha y hy
  · exact hS.addI x k (ha x hx)⟩
theorem gr_put (hS : Cl S) (n : Nat) {key s : B} {q : Bool} (h : key.length ≤ 17) (hs : S ⟨1, 0, s, q, [], []⟩) (a : List Ni) : Gr S 1 a (put n key s q a) := (gr_txt hs a).trans (gr_addK hS n _ h _)
theorem gr_inRule (hS : Cl S) (r : Ru) (m : Nat) (a : List Ni) : Gr S 3 a (inRule r m a) := by
  unfold inRule
  split
  · exact (gr_put hS m (by decide) (hS.pl _ (by decide)) a).mono (by omega)
  · have h1 := unitS_len r.unit
    have h2 := limS_len r
    have h3 := wrS_len r.near
    exact ((gr_put hS m (by decide) (hS.pl _ (by omega)) a).trans (gr_put hS m (by decide) (hS.pl _ (by omega)) _)).trans (gr_put hS m (by decide) (hS.pl _ (by omega)) _)
theorem gr_named (hS : Cl S) {r : Ru} (h : S (tx r.name)) (m : Nat) (a : List Ni) : Gr S 1 a (named r m a) := by
  unfold named
  split
  · exact (Gr.refl a).mono (by omega)
  · exact gr_put hS m (by decide) h a
theorem gr_shaded (hS : Cl S) (r : Ru) (m : Nat) (a : List Ni) : Gr S 1 a (shaded r m a) := by
  unfold shaded
  split
  · exact gr_put hS m (by decide) (hS.pl _ (by decide)) a
  · exact (Gr.refl a).mono (by omega)
theorem gr_ruled (hS : Cl S) {r : Ru} (h : S (tx r.name)) (n : Nat) (a : List Ni) : Gr S 6 a (ruled r n a) :=
  ((((gr_opn hS 3 a).trans (gr_addK hS n _ (by decide) _)).trans (gr_inRule hS r _ _)).trans (gr_named hS h _ _)).trans (gr_shaded hS r n _)
theorem gr_front (hS : Cl S) {b : Br} (h : S (tx b.key) ∧ S (tx b.val) ∧ (b.has = true → S (tx b.rule.name))) (l : Nat) (a : List Ni) : Gr S 9 a (front l b a) := by
  have h1 := ((gr_opn hS 3 a).trans (gr_addI hS l a.length _)).trans (gr_put hS a.length (key := kKey) (s := b.key) (q := true) (by decide) h.1 _)
  have h2 : ∀ z, Gr S 1 z (valued b a.length z) := fun z => by
    unfold valued
    split
    · exact (Gr.refl z).mono (by omega)
    · exact gr_put hS _ (by decide) h.2.1 z
  have h3 : ∀ z, Gr S 6 z (hasR b a.length z) := fun z => by
    unfold hasR
    split
    · rename_i hh
      exact gr_ruled hS (h.2.2 hh) _ z
    · exact (Gr.refl z).mono (by omega)
  exact ((h1.trans (h2 _)).trans (h3 _)).mono (by omega)
theorem gr_brl (hS : Cl S) {c : Cf} (H : Hb S c) {g : List Int → Nat → Int → Int → Option Nat} {h : List Int → List Ni → List Ni} (hg : ∀ kids next dom up m a, g kids next dom up = some m → next ≤ m ∧ (kids ≠ [] → Gr S (1 + 10 * (m - next)) a (h kids a)) ∧ (kids = [] → m = next)) {dom up : Int} (l : Nat) :
    ∀ (rest : List Int) (seen : List Br) (next m : Nat) (a : List Ni), lp g c dom up seen rest next = some m → next ≤ m ∧ Gr S (10 * (m - next)) a (brl h c l rest a) ∧ (rest = [] → m = next)
  | [], _, next, m, a, e => by
    rw [lp] at e
    cases e
    rw [brl]
    exact ⟨Nat.le_refl _, (Gr.refl a).mono (by omega), fun _ => rfl⟩
  | k0 :: r, seen, next, m, a, e => by
    rw [lp] at e
    split at e
    · cases e
    rename_i h0
    have h0 : k0 = (next : Int) := Classical.byContradiction h0
    split at e
    · cases e
    rename_i b hb
    split at e
    · cases e
    rename_i hf
    have hf : fits b dom up = true := by cases h9 : fits b dom up with
      | true => rfl
      | false => exact absurd (.inl h9) hf
    split at e
    · cases e
    rename_i m1 hm
    have hk : k0.toNat = next := by omega
    rw [brl, hk, hb]
    simp only
    obtain ⟨g1, g2, g3⟩ := hg _ _ _ _ _ (front l b a) hm
    have hfr := gr_front hS (H b (List.mem_of_getElem? hb) ⟨_, _, hf⟩) l a
    have hun : Gr S (1 + 10 * (m1 - (next + 1))) (front l b a) (under h b.kids a.length (front l b a)) := by
      unfold under
      split
      · exact (Gr.refl _).mono (by omega)
      · rename_i hne
        exact (g2 hne).trans (gr_addK hS _ _ (by decide) _)
    obtain ⟨i1, i2, _⟩ := gr_brl hS H hg l r _ _ _ (under h b.kids a.length (front l b a)) e
    refine ⟨by omega, ((hfr.trans hun).trans i2).mono (by omega), fun e => by cases e⟩
theorem gr_brw (hS : Cl S) {c : Cf} (H : Hb S c) : ∀ (f : Nat) (kids : List Int) (next : Nat) (dom up : Int) (m : Nat) (a : List Ni), kf c f kids next dom up = some m → next ≤ m ∧ (kids ≠ [] → Gr S (1 + 10 * (m - next)) a (brw c f kids a)) ∧ (kids = [] → m = next)
  | 0, kids, next, dom, up, m, a, e => by
    rw [kf] at e
    split at e
    · cases e
      rename_i hk
      exact ⟨Nat.le_refl _, fun h => absurd hk h, fun _ => rfl⟩
    · cases e
  | f + 1, kids, next, dom, up, m, a, e => by
    rw [kf] at e
    obtain ⟨h1, h2, h3⟩ := gr_brl hS H (fun kids next dom up m a => gr_brw hS H f kids next dom up m a) a.length kids [] next m (opn 2 a) e
    refine ⟨h1, fun _ => ?_, h3⟩
    rw [brw]
    exact ((gr_opn hS 2 a).trans h2).mono (by omega)
theorem gr_dms (hS : Cl S) {c : Cf} (H : Hb S c) : ∀ (rest seen : List Do) (next m : Nat) (a : List Ni), (∀ d ∈ rest, D.nm d.name = true → S (tx d.name)) → dl c seen rest next = some m → next ≤ m ∧ Gr S (3 * rest.length + 10 * (m - next)) a (dms c rest a)
  | [], _, next, m, a, _, e => by
    rw [dl] at e
    cases e
    rw [dms]
    exact ⟨Nat.le_refl _, (Gr.refl a).mono (by omega)⟩
  | d0 :: r, seen, next, m, a, hn, e => by
    rw [dl] at e
    split at e
    · cases e
    rename_i hf
    have hf : D.nm d0.name = true := by cases h9 : D.nm d0.name with
      | true => rfl
      | false => exact absurd (.inl h9) hf
    split at e
    · cases e
    rename_i m1 hm
    have h1 := ((gr_opn hS 3 a).trans (gr_addI hS 1 a.length _)).trans (gr_put hS a.length (key := kDomain) (s := d0.name) (q := true) (by decide) (hn d0 (List.mem_cons_self ..) hf) _)
    have hb := gr_brw hS H 8 d0.kids next seen.length (-1) m1
    have hun : ∀ z, Gr S (1 + 10 * (m1 - next)) z (under (brw c 8) d0.kids a.length z) := fun z => by
      unfold under
      split
      · exact (Gr.refl _).mono (by omega)
      · rename_i hne
        exact ((hb z hm).2.1 hne).trans (gr_addK hS _ _ (by decide) _)
    have hle := (hb a hm).1
    obtain ⟨i1, i2⟩ := gr_dms hS H r _ m1 m (under (brw c 8) d0.kids a.length (put a.length kDomain d0.name true (addI 1 a.length (opn 3 a)))) (fun d hd => hn d (List.mem_cons_of_mem _ hd)) e
    rw [dms, List.length_cons]
    exact ⟨by omega, ((h1.trans (hun _)).trans i2).mono (by omega)⟩
theorem doc_gr (hS : Cl S) {c : Cf} (H : Hb S c) (hd : ∀ d ∈ c.doms, D.nm d.name = true → S (tx d.name)) (h : chk c = true) : Gr S (2 + 3 * c.doms.length + 10 * c.brs.length) [] (doc c) := by
  obtain ⟨h1, h2⟩ := gr_dms hS H c.doms [] 0 c.brs.length (addK 0 kDomains 1 (opn 2 (opn 3 []))) hd (of_decide_eq_true h).2.2.2
  exact ((((gr_opn hS 3 []).trans (gr_opn hS 2 _)).trans (gr_addK hS 0 (key := kDomains) 1 (by decide) _)).trans h2).mono (by omega)
end
theorem wr_q {s : B} (h : s.length ≤ 8) : (SH.wr s true).length ≤ 34 := by
  have := quo_le s
  show (LX.quo s).length ≤ 34
  omega
theorem cl_sm : Cl Sm := ⟨fun x key k h hk => ⟨h.1, fun z hz => by
  rcases List.mem_append.1 hz with hz | hz
  · exact h.2 z hz
  · obtain rfl := List.mem_singleton.1 hz
    exact hk⟩, fun _ _ h => h, fun _ => ⟨by simp [SH.wr], by simp⟩, fun s hs => ⟨by show s.length ≤ 34; omega, by simp⟩⟩
theorem sm_tx {s : B} (h : s.length ≤ 8) : Sm (tx s) := ⟨wr_q h, by simp [tx]⟩
theorem doc_small {c : Cf} (hc : Small c) (h : chk c = true) (hb : c.brs.length ≤ 40) (hd : c.doms.length ≤ 3) : (doc c).length ≤ 500 ∧ ∀ x ∈ doc c, Sm x := by
  have h3 := doc_gr cl_sm (c := c) (fun b hb _ => ⟨sm_tx (hc.key b hb).1, sm_tx (hc.key b hb).2.1, fun _ => sm_tx (hc.key b hb).2.2⟩) (fun d hd _ => sm_tx (hc.nm d hd)) h
  have h4 := h3.1
  simp only [List.length_nil] at h4
  exact ⟨by omega, h3.2 (by simp)⟩
def Lt (x : Ni) : Prop := x.text.length ≤ 200 ∧ ∀ k ∈ x.keys, k.length ≤ 17
theorem cl_lt : Cl Lt := ⟨fun x key k h hk => ⟨h.1, fun z hz => by
  rcases List.mem_append.1 hz with hz | hz
  · exact h.2 z hz
  · obtain rfl := List.mem_singleton.1 hz
    exact hk⟩, fun _ _ h => h, fun _ => ⟨by simp, by simp⟩, fun s hs => ⟨by show s.length ≤ 200; omega, by simp⟩⟩
theorem nm_len {s : B} (h : D.nm s = true) : s.length ≤ 64 := by
  unfold D.nm at h
  simp at h
  omega
theorem lt_tx {s : B} (h : s.length ≤ 200) : Lt (tx s) := ⟨h, by simp [tx]⟩
theorem fits_lt {b : Br} {dom up : Int} (h : fits b dom up = true) : Lt (tx b.key) ∧ Lt (tx b.val) ∧ (b.has = true → Lt (tx b.rule.name)) := by
  unfold fits at h
  split at h
  · cases h
  rename_i hn
  have h1 : D.nm b.key = true := by cases h9 : D.nm b.key with
    | true => rfl
    | false => exact absurd (.inr (.inr (.inl h9))) hn
  have h2 : b.val.length ≤ 128 := Nat.le_of_not_lt fun h9 => hn (.inr (.inr (.inr (.inl h9))))
  refine ⟨lt_tx (by have := nm_len h1; omega), lt_tx (by omega), fun hh => lt_tx ?_⟩
  rw [if_pos hh] at h
  unfold chkRule at h
  split at h
  · cases h
  rename_i hr
  by_cases h0 : b.rule.name = []
  · rw [h0]; simp
  · have h3 : D.nm b.rule.name = true := by cases h9 : D.nm b.rule.name with
      | true => rfl
      | false => exact absurd ⟨h0, h9⟩ hr
    have := nm_len h3
    omega
theorem doc_lt {c : Cf} (h : chk c = true) : (doc c).length ≤ 6000 ∧ ∀ x ∈ doc c, Lt x := by
  have h3 := doc_gr cl_lt (c := c) (fun b _ ⟨_, _, hf⟩ => fits_lt hf) (fun d _ hn => lt_tx (by have := nm_len hn; omega)) h
  have h4 := h3.1
  have h5 := of_decide_eq_true h
  simp only [List.length_nil] at h4
  exact ⟨by omega, h3.2 (by simp)⟩
end CF
end Go.Proofs.YtgfhabofhefaaaaGreatDoor
namespace Go.Proofs.YtgfhabofhefaaaaGreatDoor
namespace CF
def mNears : List B := [[48, 46, 56], [48, 46, 53], [48], [49], [48, 46, 51, 51, 51, 51, 51, 51], [48, 46, 48, 48, 48, 48, 48, 49]]
def mLimits : List Int := [3, 10, 1, 5, 0, 100, 4294967295]
def mNames : List B := [[111, 110, 101], [97, 124, 98], [120]]
def mKeys : List B := [[117, 115, 101, 114], [105, 112], [112, 97, 116, 104], [97, 32, 98], [107, 44, 61, 124, 37]]
def mValues : List B := [[97, 108], [98, 111, 98], [], [120, 32, 121], [49, 48, 46, 48, 46, 48, 46, 49], [0, 255], [97, 34, 98, 39, 35]]
def mDoms : List B := [[115, 104, 111, 112], [112, 97, 121], [97, 124, 98]]
theorem near_ok : ∀ s ∈ mNears, ¬ (ordI (parF s) 0 < 0 ∨ 0 < ordI (parF s) 4607182418800017408) ∧ wrOk (parF s) = true ∧ parF s < 18446744073709551616 := by decide +kernel
theorem nears_len : ∀ s ∈ mNears, s.length ≤ 8 := by decide +kernel
theorem name_ok : ∀ s ∈ mNames, D.nm s = true ∧ s.length ≤ 8 := by decide +kernel
theorem key_ok : ∀ k, k < 3 → ∃ s, mKeys[k]? = some s ∧ D.nm s = true ∧ s.length ≤ 8 := by
  intro k hk
  have : k = 0 ∨ k = 1 ∨ k = 2 := by omega
  rcases this with rfl | rfl | rfl
  · exact ⟨_, rfl, by decide +kernel⟩
  · exact ⟨_, rfl, by decide +kernel⟩
  · exact ⟨_, rfl, by decide +kernel⟩
theorem value_ok : ∀ s ∈ mValues, s.length ≤ 8 := by decide +kernel
theorem limit_ok : ∀ z ∈ mLimits, 0 ≤ z ∧ z ≤ 4294967295 := by decide +kernel
structure RuM (r : Ru) : Prop where
  chk : chkRule r = true
  nl : r.name.length ≤ 8
  nr : r.near < 18446744073709551616
theorem rum_unl {s : B} {sh : Bool} (h : s = [] ∨ s ∈ mNames) : RuM ⟨s, 0, 0, 0, sh, true⟩ := by
  have h1 : ¬ (s ≠ [] ∧ D.nm s = false) := fun ⟨h2, h3⟩ => by
    rcases h with h | h
    · exact h2 h
    · rw [(name_ok s h).1] at h3; cases h3
  refine ⟨?_, ?_, by show (0 : Nat) < _; omega⟩
  · unfold chkRule
    rw [if_neg h1]
    simp only [if_true]
    decide +kernel
  · rcases h with h | h
    · rw [h]; simp
    · exact (name_ok s h).2
theorem rum_lim {s n : B} {z : Int} {u : Nat} {sh : Bool} (h : s = [] ∨ s ∈ mNames) (hu : u < 4) (hz : z ∈ mLimits) (hn : n ∈ mNears) : RuM ⟨s, 1 + (u : Int), z, parF n, sh, false⟩ := by
  have h1 : ¬ (s ≠ [] ∧ D.nm s = false) := fun ⟨h2, h3⟩ => by
    rcases h with h | h
    · exact h2 h
    · rw [(name_ok s h).1] at h3; cases h3
  obtain ⟨n1, n2, n3⟩ := near_ok n hn
  have hs : secs (1 + (u : Int)) ≠ 0 := by
    have : u = 0 ∨ u = 1 ∨ u = 2 ∨ u = 3 := by omega
    rcases this with rfl | rfl | rfl | rfl <;> decide
  have hl := limit_ok z hz
  refine ⟨?_, ?_, n3⟩
  · unfold chkRule
    rw [if_neg h1]
    simp only [Bool.false_eq_true, if_false]
    rw [if_neg (by rintro (h | h | h)
                   · exact hs h
                   · omega
                   · omega), if_neg n1]
    exact n2
  · rcases h with h | h
    · rw [h]; simp
    · exact (name_ok s h).2
end CF
end Go.Proofs.YtgfhabofhefaaaaGreatDoor
namespace Go.Proofs.YtgfhabofhefaaaaGreatDoor
open Go.RowKit
theorem mwrap_in {z : Int} (h0 : -9223372036854775808 ≤ z) (h1 : z ≤ 9223372036854775807) : IntKind.i64.wrap z = z := by
  unfold IntKind.wrap
  simp [IntKind.signed, IntKind.bits]
  omega
def mrnd (v n : Int) : Int := if v.tmod n < 0 then v.tmod n + n else v.tmod n
theorem mrnd_lt (v : Int) {n : Nat} (hn : 0 < n) : ∃ r : Nat, r < n ∧ mrnd v n = r := by
  have h1 : v.tmod (n : Int) < n := Int.tmod_lt_of_pos v (by omega)
  have h2 : -(n : Int) < v.tmod n := Int.lt_tmod_of_pos v (b := (n : Int)) (by omega)
  unfold mrnd
  split
  · exact ⟨(v.tmod n + n).toNat, by omega, by omega⟩
  · exact ⟨(v.tmod n).toNat, by omega, by omega⟩
set_option maxHeartbeats 2000000 in
theorem tround_any (v : Int) (n : Nat) (hn : 0 < n) (hn2 : n ≤ 1000) (w : World) :
    Calls Tryz.prog 47 #[.int .i64 v, .int .i64 (n : Int)] w fun e w' => e = .returned (.int .i64 (mrnd v n)) ∧ w' = w := by
  unfold mrnd
  obtain ⟨Z, hZ⟩ : ∃ Z, v.tmod (n : Int) = Z := ⟨_, rfl⟩
  rw [hZ]
  have h1 : Z < (n : Int) := by rw [← hZ]; exact Int.tmod_lt_of_pos v (by omega)
  have h2 : -(n : Int) < Z := by rw [← hZ]; exact Int.lt_tmod_of_pos v (b := (n : Int)) (by omega)
  have hni : ¬ (n : Int) = 0 := by omega
  have hnb : ((n : Int) == 0) = false := by simpa using hni
  have hwr : IntKind.i64.wrap Z = Z := mwrap_in (by omega) (by omega)
  by_cases hz : Z < 0
  · have hzb : decide (Z < 0) = true := decide_eq_true hz
    rw [if_pos hz]
    go_enter Tryz.func47, Tryz.ntmps47
    go_wp2
    go_ret
    exact ⟨rfl, rfl⟩
  · have hzb : decide (Z < 0) = false := decide_eq_false hz
    rw [if_neg hz]
    go_enter Tryz.func47, Tryz.ntmps47
    go_wp2
    go_ret
    exact ⟨rfl, rfl⟩
structure Tp (w0 w : World) (t : Nat) (lv : Value) (zs : List Int) : Prop where
  bl : Below w0.heap.size w0 w
  hp : w0.heap.size ≤ t
  st : ∃ k : Nat, k ≤ zs.length ∧ Str w t 63 #[lv, .int .i64 (k : Int)]
  rd : Rdv w0 lv (ints zs)
theorem Tp.calm {w0 w w' : World} {t : Nat} {lv : Value} {zs : List Int} (h : Tp w0 w t lv zs) (hb : Below w.heap.size w w') : Tp w0 w' t lv zs := by
  obtain ⟨h1, h2, ⟨k, h3, h4⟩, h5⟩ := h
  exact ⟨h1.trans (hb.mono h1.size), h2, ⟨k, h3, h4.below hb⟩, h5⟩
theorem Tp.kb {w0 w w' : World} {t : Nat} {lv : Value} {zs : List Int} {p q : Option Nat} (h : Tp w0 w t lv zs) (hk : Kb w w' p q) (h1 : some t ≠ p) (h2 : some t ≠ q) (p1 : ∀ g, p = some g → w0.heap.size ≤ g) (q1 : ∀ g, q = some g → w0.heap.size ≤ g) : Tp w0 w' t lv zs := by
  obtain ⟨g1, g2, ⟨k, g3, g4⟩, g5⟩ := h
  exact ⟨g1.trans (hk.below g1.size p1 q1), g2, ⟨k, g3, g4.kb hk h1 h2⟩, g5⟩
def NxE (w0 w : World) (t : Nat) (lv : Value) (zs : List Int) (n : Nat) (e : Ending) (w' : World) : Prop := (∃ r : Nat, r < n ∧ e = .returned (.int .i64 (r : Int))) ∧ Tp w0 w' t lv zs ∧ Kb w w' (some t) none
set_option maxRecDepth 4000 in
set_option maxHeartbeats 8000000 in
theorem mnext_any {w0 w : World} {t : Nat} {lv : Value} {zs : List Int} (h : Tp w0 w t lv zs) (n : Nat) (hn : 0 < n) (hn2 : n ≤ 1000) :
    Calls Tryz.prog 25 #[.pointer (some ⟨t, 0, none⟩), .int .i64 (n : Int)] w (NxE w0 w t lv zs n) := by
  have HT := Lib.hid h
  obtain ⟨hbl, hp, ⟨k, hk, hst⟩, hrd⟩ := h
  obtain ⟨la, lc, rfl⟩ := hrd.slice
  have hml := hrd.len_le
  rw [ints_len] at hrd hst hml
  unfold maxLen at hml
  have c0 : w.cell? ⟨t, 0, none⟩ = some (.slice la zs.length lc) := hst.cell 0
  have c1 : w.cell? ⟨t, 1, none⟩ = some (.int .i64 (k : Int)) := hst.cell 1
  have hni : (n : Int) ≤ 1000 := by omega
  by_cases hkl : k < zs.length
  · have HST := Lib.hid hst
    have HBL := Lib.hid hbl
    have HP := Lib.hid hp
    obtain ⟨z, hz⟩ : ∃ z, zs[k]? = some z := ⟨zs[k], List.getElem?_eq_getElem hkl⟩
    have hzi : (ints zs)[k]? = some (.int .i64 z) := by simp [ints, hz]
    have hrd' : Rdv w (.slice la zs.length lc) (ints zs) := hrd.below hbl
    obtain ⟨b3, o3, c3, e3, u3⟩ := hrd'.atv hzi
    simp only [Value.slice.injEq] at e3
    obtain ⟨rfl, -, -⟩ := e3
    have HRD := Lib.hid hrd
    obtain ⟨K, hK⟩ : ∃ K, zs.length = K := ⟨_, rfl⟩
    have HK := Lib.hid hK
    rw [ints_len, hK]
    rw [hK] at c0 hkl hml HST HRD
    have h1 : ¬ (K : Int) ≤ (k : Int) := by omega
    have h1b : (k : Int) < (K : Int) := by omega
    have h2 : (0 : Int) ≤ (k : Int) := by omega
    have h3 : (K : Int) ≤ 9223372036854775807 := by omega
    have HRN := Lib.hid (fun u => tround_any z n hn hn2 u)
    obtain ⟨r, hr, hrz⟩ := mrnd_lt z hn
    have HR := Lib.hid hr
    rw [hrz] at HRN
    have HZI := Lib.hid hzi
    clear hbl hp hk hst hrd hrd' hz hzi hK hn hn2 hr hrz u3 hml HT
    go_enter Tryz.func25, Tryz.ntmps25
    go_wp2
    go_quiet (fail)
    generalize hw3 : w.drewN nq = w3
    have b3' : Below w.heap.size w w3 := by rw [← hw3]; exact below_drewN _ _
    have HB3 := Lib.hid b3'
    have HS3 := Lib.hid (HST.out.below b3')
    clear b3' hw3 c0 c1
    have c1 : w3.cell? ⟨t, 1, none⟩ = some (.int .i64 (k : Int)) := HS3.out.cell 1
    have f1 := HS3.out.frozen 1
    go_upto_region 4 with fail
    have kb := Kb.set w3 t 1 (.int .i64 ((k : Int) + 1)) none
    have HK4 := Lib.hid ((Kb.of_below HB3.out (some t) none).trans kb)
    have s4 := HS3.out.set 1 (.int .i64 ((k : Int) + 1))
    simp only [List.setIfInBounds_toArray, List.set_cons_zero, List.set_cons_succ] at s4
    have HS4 := Lib.hid s4
    generalize w3.setCell ⟨t, 1, none⟩ (.int .i64 ((k : Int) + 1)) = w4 at *
    clear kb s4 c1 f1
    have c0 : w4.cell? ⟨t, 0, none⟩ = some (.slice (some ⟨b3, o3, none⟩) K lc) := HS4.out.cell 0
    have c1 : w4.cell? ⟨t, 1, none⟩ = some (.int .i64 ((k : Int) + 1)) := HS4.out.cell 1
    have bl4 : Below w0.heap.size w0 w4 := HBL.out.trans (HK4.out.below HBL.out.size (fun g hg => by have := Option.some.inj hg; have := HP.out; omega) (by simp))
    have HT4 : Hid (Tp w0 w4 t (.slice (some ⟨b3, o3, none⟩) K lc) zs) := Lib.hid ⟨bl4, HP.out, ⟨k + 1, by rw [HK.out]; omega, HS4.out⟩, HRD.out⟩
    obtain ⟨b9, o9, c9, e9, u3⟩ := (HRD.out.below bl4).atv HZI.out
    simp only [Value.slice.injEq, Option.some.injEq, Addr.mk.injEq, and_true] at e9
    obtain ⟨⟨rfl, rfl⟩, -, -⟩ := e9
    clear bl4
    go_quiet (first | (with_reducible refine Calls.quiet_of_same (HRN.out _)))
    go_wp2
    go_ret
    exact ⟨⟨r, HR.out, rfl⟩, HT4.out.calm (below_drewN _ _), HK4.out.trans (Kb.of_below (below_drewN _ _) _ _)⟩
  · have h1 : (zs.length : Int) ≤ (k : Int) := by omega
    have HN := Lib.hid hn
    obtain ⟨K, hK⟩ : ∃ K, zs.length = K := ⟨_, rfl⟩
    rw [ints_len, hK] at HT ⊢
    rw [hK] at c0 h1
    clear hbl hp hk hst hrd hml hn hn2 hkl hK
    go_enter Tryz.func25, Tryz.ntmps25
    go_wp2
    go_quiet (fail)
    go_wp2
    go_ret
    exact ⟨⟨0, HN.out, rfl⟩, HT.out.calm (below_drewN _ _), Kb.of_below (below_drewN _ _) _ _⟩
set_option maxRecDepth 4000 in
set_option maxHeartbeats 8000000 in
theorem mof_any {w0 w : World} {t : Nat} {lv : Value} {zs : List Int} (h : Tp w0 w t lv zs) {base : Nat} {sl : Value} {ss : List LX.B} (ho : Own w base 9 sl (sv ss)) (h1 : 0 < ss.length) (h2 : ss.length ≤ 100) :
    Calls Tryz.prog 49 #[.pointer (some ⟨t, 0, none⟩), sl] w fun e w' => (∃ s, s ∈ ss ∧ e = .returned (.string ⟨s.toArray⟩)) ∧ Tp w0 w' t lv zs ∧ Kb w w' (some t) none := by
  have HN := Lib.hid (mnext_any h ss.length h1 (by omega))
  obtain ⟨ao, cp, hv⟩ := ho.slice
  rw [sv_len] at hv
  have HO := Lib.hid ho
  obtain ⟨k, _, hst⟩ := h.st
  have hne := ho.ne_str hst (by decide)
  have HNE := Lib.hid hne
  obtain ⟨L, hL⟩ : ∃ L, ss.length = L := ⟨_, rfl⟩
  have HL := Lib.hid hL
  rw [hL] at HN hv
  subst hv
  clear h ho h1 hst hne hL
  go_enter Tryz.func49, Tryz.ntmps49
  go_wp2_with (go_at_call 25; refine HN.out.mono ?_; rintro e w2 ⟨⟨r, hr, rfl⟩, ht, hk⟩; have HT := Lib.hid ht; have HK := Lib.hid hk; have HR := Lib.hid hr; obtain ⟨s, hs⟩ : ∃ s, ss[r]? = some s := ⟨ss[r]'(by rw [HL.out]; exact hr), List.getElem?_eq_getElem _⟩; obtain ⟨b3, o3, c3, e3, u3⟩ := (HO.out.kb hk HNE.out no_or).rd.atv (j := r) (u := .string ⟨s.toArray⟩) (by simp [sv, hs]); simp only [Value.slice.injEq] at e3; obtain ⟨rfl, -, -⟩ := e3; have HS := Lib.hid (List.mem_of_getElem? hs); have hri : (r : Int) < (L : Int) := (by omega); have hr0 : (0 : Int) ≤ (r : Int) := (by omega); clear ht hk hr hs)
  go_ret
  exact ⟨⟨s, HS.out, rfl⟩, HT.out, HK.out⟩
def LsE (w : World) (ss : List LX.B) (e : Ending) (w' : World) : Prop := ∃ v, e = .returned v ∧ Own w' w.heap.size 9 v (sv ss) ∧ Below w.heap.size w w'
theorem lit_sv {w : World} (ss : List LX.B) (hm : ss.length ≤ maxLen) : Own (w.alloc (.cells (sv ss).toArray 9)) w.heap.size 9 (.slice (some ⟨w.heap.size, 0, none⟩) ss.length ss.length) (sv ss) := by
  have := Own.lit (base := w.heap.size) (e := 9) w (sv ss) (Nat.le_refl _) (by rw [sv_len]; exact hm)
  rwa [sv_len] at this
theorem mkeys_any (w : World) : Calls Tryz.prog 48 #[] w (LsE w CF.mKeys) := by
  have H := Lib.hid (lit_sv (w := w) CF.mKeys (by decide))
  have HB := Lib.hid (below_alloc w (.cells (sv CF.mKeys).toArray 9))
  go_enter Tryz.func48, Tryz.ntmps48
  go_wp2
  go_ret
  exact ⟨_, rfl, H.out, HB.out⟩
theorem mvalues_any (w : World) : Calls Tryz.prog 50 #[] w (LsE w CF.mValues) := by
  have H := Lib.hid (lit_sv (w := w) CF.mValues (by decide))
  have HB := Lib.hid (below_alloc w (.cells (sv CF.mValues).toArray 9))
  go_enter Tryz.func50, Tryz.ntmps50
  go_wp2
  go_ret
  exact ⟨_, rfl, H.out, HB.out⟩
theorem mdoms_any (w : World) : Calls Tryz.prog 26 #[] w (LsE w CF.mDoms) := by
  have H := Lib.hid (lit_sv (w := w) CF.mDoms (by decide))
  have HB := Lib.hid (below_alloc w (.cells (sv CF.mDoms).toArray 9))
  go_enter Tryz.func26, Tryz.ntmps26
  go_wp2
  go_ret
  exact ⟨_, rfl, H.out, HB.out⟩
end Go.Proofs.YtgfhabofhefaaaaGreatDoor
