/- Several texts in one. -/
import Derived.Test.YtmgalfdiiegjjaaGreatDoorShC11
import Derived.Test.YtmgalfdiiegjjaaGreatDoorSeg28
import Derived.Test.YtmgalfdiiegjjaaGreatDoorSeg24
import Derived.Test.YtmgalfdiiegjjaaGreatDoorSeg13
import Derived.Test.YtmgalfdiiegjjaaGreatDoorShW4
import Derived.BigQuiet
import Derived.Deep.LoopGhost
namespace Go.Proofs.YtmgalfdiiegjjaaGreatDoor
open Go.RowKit

theorem size_pos (t : SH.Tr) : 1 ≤ SH.sizeT t := by cases t <;> simp [SH.sizeT]
set_option maxRecDepth 10000 in
set_option maxHeartbeats 16000000 in
theorem blw_all : ∀ s, BlW s := by
  intro s
  induction s with
  | zero =>
    intro t ns n c p w0 wa w v ov bs hs
    have := size_pos t
    omega
  | succ s ih =>
    intro t ns n c p w0 wa w v ov bs hs hr ha h hln hl hc
    obtain ⟨x, fl, hx, hxk⟩ := SH.flat_ne t n
    obtain ⟨y, hy, hyx⟩ := (hx ▸ ha).head
    obtain ⟨b5, o5, cap5, ka, kc, ia, ic, hv5, c6, r1, r2⟩ := hr.at hy
    have hNl : n < ns.length := (List.getElem?_eq_some_iff.1 hy).1
    have hnm : ns.length ≤ maxLen := by obtain ⟨_, _, _, h9⟩ := hr.slice; exact h9
    obtain ⟨NL, hNL⟩ : ∃ NL, ns.length = NL := ⟨_, rfl⟩
    rw [hNL] at hv5 hNl hnm
    unfold maxLen at hnm
    have hN0 : (0 : Int) ≤ (n : Int) := by omega
    have hN1 : (n : Int) < (NL : Int) := by omega
    subst hv5
    have hlny := hln y (List.mem_of_getElem? hy)
    obtain ⟨kd, ln, tx, q, ks, is⟩ := y
    obtain ⟨e1, e2, e3, e4, e5⟩ : kd = x.kind ∧ tx = x.text ∧ q = x.quoted ∧ ks = x.keys ∧ is = icast x.kids := by
      unfold SH.zi SH.up at hyx
      simp only [SH.Ni.mk.injEq] at hyx
      exact ⟨hyx.1, hyx.2.2.1, hyx.2.2.2.1, hyx.2.2.2.2.1, hyx.2.2.2.2.2⟩
    simp only at c6 r1 r2 hlny
    rw [hxk] at e1
    subst e1
    have n0 := h.st.cell 0
    simp only [List.getElem?_toArray, List.getElem?_cons_zero] at n0
    obtain ⟨d0, d1, d2, d3, d4, d5⟩ := c6.below h.bl
    simp only at d0 d1 d2 d3 d4 d5
    have H := Lib.hid (h.calm (below_alloc w (.cells #[.int .i64 (SH.knd t), .int .i64 ln, .string ⟨tx.toArray⟩, .bool q, .slice ka ks.length kc, .slice ia is.length ic] 50)))
    have HLS := Lib.hid hlny
    cases t with
    | text S Q =>
      simp only [SH.flatT, List.cons.injEq] at hx
      obtain ⟨rfl, -⟩ := hx
      simp only at e2 e3
      subst e2 e3
      rw [SH.showT] at hl ⊢
      have HP := Lib.hid (wtext_any 1 ln tx q (.slice ka ks.length kc) (.slice ia is.length ic) H.out HLS.out.1 (by omega) ⟨_, _, _, rfl⟩ ⟨_, _, _, rfl⟩)
      rw [show SH.knd (.text tx q) = 1 from rfl] at d0 H
      clear hr ha h hln hl hc hy r1 r2 hNl hnm hNL hlny e4 e5 hyx c6 hxk
      obtain ⟨kn, hkn⟩ : ∃ kn, ks.length = kn := ⟨_, rfl⟩
      obtain ⟨im, him⟩ : ∃ im, is.length = im := ⟨_, rfl⟩
      rw [hkn] at d4 HP H
      rw [him] at d5 HP H
      clear hkn him
      go_enter Tryz.func34, Tryz.ntmps34
      go_wp2_with (go_at_call 60; refine HP.out.mono ?_; rintro e w2 ⟨rfl, ov2, s2⟩; have S2 := Lib.hid s2; clear s2)
      go_end0
      exact ⟨rfl, _, S2.out⟩
    | list k =>
      simp only [SH.flatT, List.cons.injEq] at hx
      obtain ⟨rfl, rfl⟩ := hx
      simp only at e5
      subst e5
      rw [SH.showT] at hl ⊢
      rw [SH.sizeT] at hs hc
      have HP := Lib.hid (shitems_any ih k ns (n + 1) c p w0 wa _ _ ov bs 2 ln tx q (.slice ka ks.length kc) (.slice ia (icast (SH.kidsF k (n + 1))).length ic) (by omega) hr (by rw [SH.flatT] at ha; exact ha.tail) H.out hln hl (by omega) ⟨_, _, _, rfl⟩ r2)
      rw [show SH.knd (.list k) = 2 from rfl] at d0 H
      clear hr ha h hln hl hc hy r1 r2 hNl hnm hNL hlny e4 hyx c6 hxk e2 e3
      obtain ⟨kn, hkn⟩ : ∃ kn, ks.length = kn := ⟨_, rfl⟩
      obtain ⟨im, him⟩ : ∃ im, (icast (SH.kidsF k (n + 1))).length = im := ⟨_, rfl⟩
      rw [hkn] at d4 HP H
      rw [him] at d5 HP H
      clear hkn him
      go_enter Tryz.func34, Tryz.ntmps34
      go_wp2_with (go_at_call 61; refine HP.out.mono ?_; rintro e w2 ⟨rfl, ov2, s2⟩; have S2 := Lib.hid s2; clear s2)
      go_end0
      exact ⟨rfl, _, S2.out⟩
    | map k =>
      simp only [SH.flatT, List.cons.injEq] at hx
      obtain ⟨rfl, rfl⟩ := hx
      simp only at e4 e5
      subst e4 e5
      rw [SH.showT] at hl ⊢
      rw [SH.sizeT] at hs hc
      have HP := Lib.hid (shentries_any ih k ns (n + 1) c p w0 wa _ _ ov bs 3 ln tx q (.slice ka (SH.keysF k).length kc) (.slice ia (icast (SH.kidsF k (n + 1))).length ic) (by omega) hr (by rw [SH.flatT] at ha; exact ha.tail) H.out hln hlny.2 hl (by omega) r1 r2)
      rw [show SH.knd (.map k) = 3 from rfl] at d0 H
      clear hr ha h hln hl hc hy r1 r2 hNl hnm hNL hlny hyx c6 hxk e2 e3
      obtain ⟨kn, hkn⟩ : ∃ kn, (SH.keysF k).length = kn := ⟨_, rfl⟩
      obtain ⟨im, him⟩ : ∃ im, (icast (SH.kidsF k (n + 1))).length = im := ⟨_, rfl⟩
      rw [hkn] at d4 HP H
      rw [him] at d5 HP H
      clear hkn him
      go_enter Tryz.func34, Tryz.ntmps34
      go_wp2_with (go_at_call 62; refine HP.out.mono ?_; rintro e w2 ⟨rfl, ov2, s2⟩; have S2 := Lib.hid s2; clear s2)
      go_end0
      exact ⟨rfl, _, S2.out⟩
end Go.Proofs.YtmgalfdiiegjjaaGreatDoor

/- The walk of show.Check. -/
namespace Go.Proofs.YtmgalfdiiegjjaaGreatDoor
open Go.RowKit

theorem chk_yes {ns : List SH.Ni} (h2 : ns.length ≤ 2000) (h : SH.wk ns 25 0 1 = some ns.length) : SH.chkb ns = true := by
  refine decide_eq_true ⟨?_, h2, h⟩
  cases ns with
  | nil => simp [SH.wk] at h
  | cons a l => simp
theorem chk_no {ns : List SH.Ni} (h : ns.length ≤ 2000 → SH.wk ns 25 0 1 ≠ some ns.length) : SH.chkb ns = false :=
  decide_eq_false fun k => h k.2.1 k.2.2
def okI (b : Bool) : Int := if b then 0 else 1
set_option maxRecDepth 10000 in
set_option maxHeartbeats 16000000 in
theorem check_any (v : Value) (ns : List SH.Ni) (w : World) (hr : Rdi w v ns) (hl : Lens2 ns) (hm : MaxIs w) :
    Calls Tryz.prog 18 #[.agg #[v]] w fun e w' => e = .returned (.int .i64 (okI (SH.chkb ns))) ∧ Below w.heap.size w w' := by
  obtain ⟨ao, cap, rfl, hlm⟩ := hr.slice
  unfold maxLen at hlm
  obtain ⟨K, HK⟩ : ∃ K, Hid (K = okI (SH.chkb ns)) := ⟨_, Lib.hid rfl⟩
  rw [← HK.out]
  have B0 := below_alloc w (.cells #[.slice ao ns.length cap] 26)
  have HB0 := Lib.hid B0
  have HS0 := Lib.hid (Str.new w 26 #[.slice ao ns.length cap])
  have HW : Hid (Wst (w.alloc (.cells #[.slice ao ns.length cap] 26)) ((w.alloc (.cells #[.slice ao ns.length cap] 26)).alloc (.cells #[.slice ao ns.length cap, .int .i64 0] 79)) (w.heap.size + 1) (.slice ao ns.length cap) 0) := by
    have s := Str.new (w.alloc (.cells #[.slice ao ns.length cap] 26)) 79 #[.slice ao ns.length cap, .int .i64 0]
    rw [bx_size] at s
    exact ⟨below_alloc _ _, s, by rw [bx_size]; exact Nat.le_refl _⟩
  have HBK := Lib.hid (shblock_all 25 _ ns 0 1 (w.heap.size + 1) 0 _ _ (hr.below B0) hl (hm.below B0) HW.out rfl (Nat.zero_le _))
  obtain ⟨L, hL⟩ : ∃ L, ns.length = L := ⟨_, rfl⟩
  have HL := Lib.hid hL
  rw [hL] at hlm HBK HW HS0 HB0 ⊢
  have e0 := HS0.out.cell 0
  simp only [List.getElem?_toArray, List.getElem?_cons_zero] at e0
  have e1 := ((below_alloc (w.alloc (.cells #[.slice ao L cap] 26)) (.cells #[.slice ao L cap, .int .i64 0] 79)).cell (cell_lt e0)).trans e0
  clear hr hl hm hL B0
  by_cases h2 : 2000 < L
  · have h2i : (2000 : Int) < (L : Int) := by omega
    have E : K = 1 := by
      rw [HK.out, chk_no (fun h => absurd h (by have := HL.out; omega))]; rfl
    subst E
    go_enter Tryz.func18, Tryz.ntmps18
    go_wp2
    go_ret
    exact ⟨rfl, below_trans HB0.out HW.out.bl⟩
  · have h2i : ¬ (2000 : Int) < (L : Int) := by omega
    obtain ⟨O, hO⟩ : ∃ O, bkr ns 25 0 1 0 = O := ⟨_, rfl⟩
    have HO : Hid (SH.wk ns 25 0 1 = O) := by
      show _ = _
      rw [← hO]; unfold bkr; exact (if_pos rfl).symm
    rw [hO] at HBK
    clear hO
    have hw0 : ((0 : Nat) : Int) = 0 := rfl
    have hw1 : ((1 : Nat) : Int) = 1 := rfl
    rw [hw1] at HBK
    clear hw0 hw1
    cases O with
    | none =>
      have E : K = 1 := by
        rw [HK.out, chk_no (fun _ h => by rw [HO.out] at h; cases h)]; rfl
      subst E
      go_enter Tryz.func18, Tryz.ntmps18
      go_wp2_with (go_at_call 39; refine HBK.out.mono ?_; rintro e w2 ⟨m9, rfl, s2, -⟩; have S2 := Lib.hid s2; clear s2)
      go_ret
      exact ⟨rfl, below_trans HB0.out S2.out.bl⟩
    | some m =>
      by_cases hmL : m = L
      · subst hmL
        have E : K = 0 := by
          rw [HK.out, chk_yes (by have := HL.out; omega) (by rw [HL.out]; exact HO.out)]; rfl
        subst E
        go_enter Tryz.func18, Tryz.ntmps18
        go_wp2_with (go_at_call 39; refine HBK.out.mono ?_; rintro e w2 ⟨m9, rfl, s2, h9⟩; have h9' := h9 m rfl; subst h9'; have S2 := Lib.hid s2; have f1 : w2.cell? ⟨w.heap.size + 1, 1, none⟩ = some (.int .i64 (m : Int)) := s2.st.cell 1; have f0 : w2.cell? ⟨w.heap.size, 0, none⟩ = some (.slice ao m cap) := (HS0.out.below s2.bl).cell 0; clear s2 h9)
        go_ret
        exact ⟨rfl, below_trans HB0.out S2.out.bl⟩
      · have hb : ((m : Int) != (L : Int)) = true := by simp; omega
        have hb2 : (m != L) = true := by simpa using hmL
        have E : K = 1 := by
          rw [HK.out, chk_no (fun _ h => by rw [HO.out, HL.out] at h; exact hmL (Option.some.inj h))]; rfl
        subst E
        go_enter Tryz.func18, Tryz.ntmps18
        go_wp2_with (go_at_call 39; refine HBK.out.mono ?_; rintro e w2 ⟨m9, rfl, s2, h9⟩; have h9' := h9 m rfl; subst h9'; have S2 := Lib.hid s2; have f1 : w2.cell? ⟨w.heap.size + 1, 1, none⟩ = some (.int .i64 (m : Int)) := s2.st.cell 1; have f0 : w2.cell? ⟨w.heap.size, 0, none⟩ = some (.slice ao L cap) := (HS0.out.below s2.bl).cell 0; clear s2 h9)
        go_ret
        exact ⟨rfl, below_trans HB0.out S2.out.bl⟩
end Go.Proofs.YtmgalfdiiegjjaaGreatDoor

/- How long a tree's text, and what stands in its nodes, may be; what Text tells. No program is named here. -/
namespace Go.Proofs.YtmgalfdiiegjjaaGreatDoor
namespace SH
open LX (B Pc Lz)
open DC (Nd bl)

theorem Leaf.len {w x : B} {q : Bool} (h : Leaf w x q) : x.length ≤ 200 := by
  have := LX.txt_len w
  rw [h.txt] at this
  exact this
theorem wr_len {t : B} {q : Bool} (h : Leaf (wr t q) t q) : (wr t q).length ≤ 802 := by
  have h1 := h.len
  unfold wr
  split
  · have := LX.quo_len t
    omega
  · omega
theorem bl_len (c : Nat) : (bl c).length = c := by simp [bl]
mutual
theorem show_T : ∀ (t : Tr) (c M : Nat), godT t → c + 2 * sizeT t ≤ M → (showT t c).length + (2 * M + 70) ≤ sizeT t * (1000 + 4 * M)
  | .text t q, c, M, h, hM => by
    rw [godT] at h
    rw [sizeT] at hM ⊢
    rw [showT, List.length_append]
    have := wr_len h
    simp only [List.length_cons, List.length_nil]
    omega
  | .list k, c, M, h, hM => by
    rw [godT] at h
    rw [sizeT] at hM ⊢
    rw [showT, Nat.add_mul]
    have := show_L k c M true h (by omega)
    omega
  | .map k, c, M, h, hM => by
    rw [godT] at h
    rw [sizeT] at hM ⊢
    rw [showT, Nat.add_mul]
    have := show_M k c M true h.1 h.2 (by omega)
    omega
theorem show_L : ∀ (k : Fo) (c M : Nat) (f : Bool), godF k → c + 2 + 2 * sizeF k ≤ M → (showL k c f).length ≤ sizeF k * (1000 + 4 * M)
  | .nil, _, _, _, _, _ => by rw [showL]; simp
  | .cons key t r, c, M, f, h, hM => by
    rw [godF] at h
    rw [sizeF] at hM ⊢
    have h1 := show_T t (c + 2) M h.1 (by omega)
    have h2 := show_L r c M false h.2 (by omega)
    rw [showL, Nat.add_mul]
    simp only [List.length_append, List.length_cons]
    cases f <;> simp only [Bool.false_eq_true, if_true, if_false, bl_len, List.length_nil] <;> omega
theorem show_M : ∀ (k : Fo) (c M : Nat) (f : Bool), (∀ x ∈ keysF k, Key x) → godF k → c + 2 + 2 * sizeF k ≤ M → (showM k c f).length ≤ sizeF k * (1000 + 4 * M)
  | .nil, _, _, _, _, _, _ => by rw [showM]; simp
  | .cons key (.text s q) r, c, M, f, hk, h, hM => by
    rw [godF] at h
    rw [sizeF] at hM ⊢
    have hk1 := (hk key (by rw [keysF]; simp)).len
    have h1 := show_T (.text s q) (c + 2) M h.1 (by omega)
    have h2 := show_M r c M false (fun x hx => hk x (by rw [keysF]; exact List.mem_cons_of_mem _ hx)) h.2 (by omega)
    rw [showM, Nat.add_mul]
    rw [showT] at h1
    simp only [List.length_append, List.length_cons, List.length_nil] at h1 ⊢
    cases f <;> simp only [Bool.false_eq_true, if_true, if_false, bl_len, List.length_nil] <;> omega
  | .cons key (.list k) r, c, M, f, hk, h, hM => by
    rw [godF] at h
    rw [sizeF] at hM ⊢
    have hk1 := (hk key (by rw [keysF]; simp)).len
    have h1 := show_T (.list k) (c + 2) M h.1 (by omega)
    have h2 := show_M r c M false (fun x hx => hk x (by rw [keysF]; exact List.mem_cons_of_mem _ hx)) h.2 (by omega)
    rw [showM, Nat.add_mul]
    rw [showT] at h1
    simp only [List.length_append, List.length_cons, bl_len] at h1 ⊢
    cases f <;> simp only [Bool.false_eq_true, if_true, if_false, bl_len, List.length_nil] <;> omega
  | .cons key (.map k) r, c, M, f, hk, h, hM => by
    rw [godF] at h
    rw [sizeF] at hM ⊢
    have hk1 := (hk key (by rw [keysF]; simp)).len
    have h1 := show_T (.map k) (c + 2) M h.1 (by omega)
    have h2 := show_M r c M false (fun x hx => hk x (by rw [keysF]; exact List.mem_cons_of_mem _ hx)) h.2 (by omega)
    rw [showM, Nat.add_mul]
    rw [showT] at h1
    simp only [List.length_append, List.length_cons, bl_len] at h1 ⊢
    cases f <;> simp only [Bool.false_eq_true, if_true, if_false, bl_len, List.length_nil] <;> omega
end
theorem keysF_len : ∀ k : Fo, (keysF k).length ≤ sizeF k
  | .nil => Nat.le_refl _
  | .cons _ t r => by
    have := keysF_len r
    have h : 1 ≤ sizeT t := by cases t <;> simp [sizeT]
    rw [keysF, sizeF, List.length_cons]
    omega
mutual
theorem nodes_T : ∀ (t : Tr) (N : Nat), godT t → ∀ x ∈ flatT t N, x.text.length ≤ 200 ∧ (∀ k ∈ x.keys, k.length ≤ 64) ∧ x.keys.length ≤ sizeT t
  | .text t q, N, h, x, hx => by
    rw [flatT, List.mem_singleton] at hx
    subst hx
    rw [godT] at h
    exact ⟨h.len, by simp, by simp⟩
  | .list k, N, h, x, hx => by
    rw [godT] at h
    rw [flatT, List.mem_cons] at hx
    rcases hx with rfl | hx
    · exact ⟨by simp, by simp, by simp⟩
    · have := nodes_F k (N + 1) h x hx
      rw [sizeT]
      exact ⟨this.1, this.2.1, by omega⟩
  | .map k, N, h, x, hx => by
    rw [godT] at h
    rw [flatT, List.mem_cons] at hx
    rcases hx with rfl | hx
    · rw [sizeT]
      exact ⟨by simp, fun y hy => (h.1 y hy).len, by have := keysF_len k; simp only; omega⟩
    · have := nodes_F k (N + 1) h.2 x hx
      rw [sizeT]
      exact ⟨this.1, this.2.1, by omega⟩
theorem nodes_F : ∀ (k : Fo) (N : Nat), godF k → ∀ x ∈ flatF k N, x.text.length ≤ 200 ∧ (∀ k ∈ x.keys, k.length ≤ 64) ∧ x.keys.length ≤ sizeF k
  | .nil, _, _, x, hx => by rw [flatF] at hx; cases hx
  | .cons _ t r, N, h, x, hx => by
    rw [godF] at h
    rw [flatF, List.mem_append] at hx
    rw [sizeF]
    rcases hx with hx | hx
    · have := nodes_T t N h.1 x hx
      exact ⟨this.1, this.2.1, by omega⟩
    · have := nodes_F r _ h.2 x hx
      exact ⟨this.1, this.2.1, by omega⟩
end
/-- That tree is what those nodes stand for. -/
structure Of (t : Tr) (ns : List Ni) : Prop where
  ok : okT t
  god : godT t
  dep : depT t 1
  size : sizeT t ≤ 2000
  eq : (flatT t 0).map up = ns.map zi
theorem chk_of {ns : List Ni} (h : chk ns) : ∃ t, Of t ns := by
  obtain ⟨t, h1, h2, h3, h4, h5⟩ := chk_tree h
  exact ⟨t, h1, h2, h3, h4, h5⟩
theorem Of.at {t : Tr} {ns : List Ni} (h : Of t ns) : At ns 0 (flatT t 0) := by
  intro i x hx
  have := congrArg (fun l => l[i]?) h.eq
  simp only [List.getElem?_map, hx] at this
  rw [Nat.zero_add]
  exact this.symm
theorem Of.lens {t : Tr} {ns : List Ni} (h : Of t ns) : ∀ y ∈ ns, y.text.length ≤ 200 ∧ (∀ k ∈ y.keys, k.length ≤ 64) ∧ y.keys.length ≤ 2000 := by
  intro y hy
  have h1 : zi y ∈ (flatT t 0).map up := by rw [h.eq]; exact List.mem_map_of_mem hy
  obtain ⟨x, hx, e⟩ := List.mem_map.1 h1
  have h2 := nodes_T t 0 h.god x hx
  have e1 : y.text = x.text := by have := congrArg Ni.text e; exact this.symm
  have e2 : y.keys = x.keys := by have := congrArg Ni.keys e; exact this.symm
  rw [e1, e2]
  exact ⟨h2.1, h2.2.1, by have := h.size; omega⟩
theorem Of.len {t : Tr} {ns : List Ni} (h : Of t ns) : (showT t 0).length ≤ 40000000 := by
  have h1 := show_T t 0 4000 h.god (by have := h.size; omega)
  have h2 : sizeT t * (1000 + 4 * 4000) ≤ 2000 * 17000 := Nat.mul_le_mul h.size (by decide)
  omega
/-- What Text tells: a code, and bytes. -/
def Tx (ns : List Ni) (code : Int) (T : B) : Prop := (chkb ns = false ∧ code = 1 ∧ T = []) ∨ (chkb ns = true ∧ ∃ t, Of t ns ∧ ((60000 < (showT t 0).length ∧ code = 4 ∧ T = []) ∨ ((showT t 0).length ≤ 60000 ∧ code = 0 ∧ T = showT t 0)))
theorem tx_some (ns : List Ni) : ∃ code T, Tx ns code T := by
  cases h : chkb ns with
  | false => exact ⟨1, [], .inl ⟨h, rfl, rfl⟩⟩
  | true =>
    obtain ⟨t, ht⟩ := chk_of (of_decide_eq_true h)
    by_cases hl : 60000 < (showT t 0).length
    · exact ⟨4, [], .inr ⟨h, t, ht, .inl ⟨hl, rfl, rfl⟩⟩⟩
    · exact ⟨0, _, .inr ⟨h, t, ht, .inr ⟨by omega, rfl, rfl⟩⟩⟩
theorem Tx.len {ns : List Ni} {code : Int} {T : B} (h : Tx ns code T) : T.length ≤ 60000 := by
  rcases h with ⟨_, _, rfl⟩ | ⟨_, t, _, ⟨_, _, rfl⟩ | ⟨h, _, rfl⟩⟩
  · simp
  · simp
  · exact h
end SH
end Go.Proofs.YtmgalfdiiegjjaaGreatDoor

/- The walk of show.Text. -/
namespace Go.Proofs.YtmgalfdiiegjjaaGreatDoor
open Go.RowKit

/-- What Text answers, at its end. -/
def ShE (w : World) (code : Int) (T : List UInt8) (e : Ending) (w' : World) : Prop := ∃ v, e = .returned (.tuple #[v, .int .i64 code]) ∧ Rdv w' v (bv T) ∧ Below w.heap.size w w'
theorem wrs_start (w1 : World) (v : Value) : Wrs w1 (w1.alloc (.cells #[v, .slice none 0 0] 76)) (w1.alloc (.cells #[v, .slice none 0 0] 76)) w1.heap.size v (.slice none 0 0) [] :=
  ⟨below_alloc _ _, Nat.le_refl _, Kt.refl _ _, Str.new _ _ _, Own.nil _ _ _⟩
set_option maxRecDepth 10000 in
set_option maxHeartbeats 16000000 in
theorem shtext_any (v : Value) (ns : List SH.Ni) (code : Int) (T : List UInt8) (w : World) (hr : Rdi w v ns) (hl : Lens2 ns) (hm : MaxIs w) (ht : SH.Tx ns code T) :
    Calls Tryz.prog 15 #[.agg #[v]] w (ShE w code T) := by
  obtain ⟨ao, cap, rfl, hlm⟩ := hr.slice
  unfold maxLen at hlm
  have B0 := below_alloc w (.cells #[.slice ao ns.length cap] 26)
  have HB0 := Lib.hid B0
  have HS0 := Lib.hid (Str.new w 26 #[.slice ao ns.length cap])
  have HC := Lib.hid (check_any _ ns _ (hr.below B0) hl (hm.below B0))
  have HR := Lib.hid hr
  have e0 := HS0.out.cell 0
  simp only [List.getElem?_toArray, List.getElem?_cons_zero] at e0
  rcases ht with ⟨hk, rfl, rfl⟩ | ⟨hk, t, ho, ht⟩
  · rw [hk] at HC
    rw [show okI false = 1 from rfl] at HC
    clear hr hl hm hk hlm B0
    obtain ⟨L, hL⟩ : ∃ L, ns.length = L := ⟨_, rfl⟩
    rw [hL] at HC HS0 HB0 HR e0 ⊢
    clear hL
    go_enter Tryz.func15, Tryz.ntmps15
    go_wp2_with (go_at_call 18; refine HC.out.mono ?_; rintro e w2 ⟨rfl, b2⟩; have B2 := Lib.hid (below_trans HB0.out b2); clear b2)
    go_ret2
    exact ⟨_, rfl, Rdv.nil _, B2.out⟩
  · rw [hk] at HC
    rw [show okI true = 0 from rfl] at HC
    have HO := Lib.hid ho
    have HT := Lib.hid ht
    clear hr hl hm hk hlm B0 ho ht
    have HBW := Lib.hid (fun (w1 : World) (h1 : Rdi w1 (.slice ao ns.length cap) ns) => blw_all (SH.sizeT t) t ns 0 0 w1.heap.size w1 _ _ (.slice ao ns.length cap) (.slice none 0 0) [] (Nat.le_refl _) h1 HO.out.at (wrs_start w1 _) (fun x hx => ⟨by have := (HO.out.lens x hx).1; omega, fun k hk => by have := (HO.out.lens x hx).2.1 k hk; omega⟩) (by have := HO.out.len; simp only [List.length_nil]; omega) (by have := HO.out.size; omega))
    rw [List.nil_append] at HBW
    obtain ⟨L, hL⟩ : ∃ L, ns.length = L := ⟨_, rfl⟩
    rw [hL] at HC HS0 HB0 HR HBW e0 ⊢
    clear hL
    obtain ⟨R, hR⟩ : ∃ R, SH.showT t 0 = R := ⟨_, rfl⟩
    rw [hR] at HBW HT
    rw [show ((0 : Nat) : Int) = 0 from rfl] at HBW
    have hRl : R.length ≤ 40000000 := by rw [← hR]; exact HO.out.len
    clear hR
    go_enter Tryz.func15, Tryz.ntmps15
    go_upto_region 4 with (go_at_call 18; refine HC.out.mono ?_; rintro e w2 ⟨rfl, b2⟩)
    have B2 := Lib.hid (below_trans HB0.out b2)
    have HX := Lib.hid (HBW.out w2 (HR.out.below B2.out))
    have f0 : w2.cell? ⟨w.heap.size, 0, none⟩ = some (.slice ao L cap) := (HS0.out.below b2).cell 0
    clear b2 e0
    rcases HT.out with ⟨h6, rfl, rfl⟩ | ⟨h6, rfl, rfl⟩
    · obtain ⟨m, hm⟩ : ∃ m, R.length = m := ⟨_, rfl⟩
      rw [hm] at h6 hRl
      have h6i : (60000 : Int) < (m : Int) := by omega
      have HM := Lib.hid hm
      clear hm
      go_wp2_with (go_at_call 34; refine HX.out.mono ?_; rintro e w3 ⟨rfl, ov3, s3⟩; obtain ⟨ao3, cp3, hv3, -⟩ := s3.own.rd; rw [bv_len, HM.out] at hv3; subst hv3; have g1 : w3.cell? ⟨w2.heap.size, 1, none⟩ = some (.slice ao3 m cp3) := s3.st.cell 1; have S3 := Lib.hid s3; clear s3)
      go_ret2
      exact ⟨_, rfl, Rdv.nil _, below_trans B2.out S3.out.bl⟩
    · obtain ⟨m, hm⟩ : ∃ m, T.length = m := ⟨_, rfl⟩
      rw [hm] at h6 hRl
      have h6i : ¬ (60000 : Int) < (m : Int) := by omega
      have HM := Lib.hid hm
      clear hm
      go_wp2_with (go_at_call 34; refine HX.out.mono ?_; rintro e w3 ⟨rfl, ov3, s3⟩; obtain ⟨ao3, cp3, hv3, -⟩ := s3.own.rd; rw [bv_len, HM.out] at hv3; subst hv3; have g1 : w3.cell? ⟨w2.heap.size, 1, none⟩ = some (.slice ao3 m cp3) := s3.st.cell 1; have S3 := Lib.hid s3; clear s3)
      go_ret2
      exact ⟨_, rfl, S3.out.own.rd, below_trans B2.out S3.out.bl⟩
end Go.Proofs.YtmgalfdiiegjjaaGreatDoor

/- Walks of slices.Equal at texts and at numbers. -/
namespace Go.Proofs.YtmgalfdiiegjjaaGreatDoor
open Go.RowKit

set_option maxRecDepth 10000 in
set_option maxHeartbeats 8000000 in
theorem eqs_any (va vb : Value) (xs ys : List LX.B) (w : World) (ha : Rdv w va (sv xs)) (hb : Rdv w vb (sv ys)) :
    Calls Tryz.prog 69 #[va, vb] w fun e w' => e = .returned (.bool (decide (xs = ys))) ∧ Below w.heap.size w w' := by
  have hla := ha.len_le
  have hlb := hb.len_le
  obtain ⟨ao, cap, rfl⟩ := ha.slice
  obtain ⟨bo, cap', rfl⟩ := hb.slice
  unfold maxLen at hla hlb
  rw [show (sv xs).length = xs.length from by simp [sv]] at ha hla ⊢
  rw [show (sv ys).length = ys.length from by simp [sv]] at hb hlb ⊢
  obtain ⟨L, hL⟩ : ∃ L, xs.length = L := ⟨_, rfl⟩
  obtain ⟨M, hM⟩ : ∃ M, ys.length = M := ⟨_, rfl⟩
  have HL := Lib.hid hL
  have HM := Lib.hid hM
  rw [hL] at ha hla
  rw [hM] at hb hlb
  rw [hL, hM]
  have HA := Lib.hid ha
  have HB := Lib.hid hb
  obtain ⟨K, HK⟩ : ∃ K, Hid (K = decide (xs = ys)) := ⟨_, Lib.hid rfl⟩
  rw [← HK.out]
  have hLi : (L : Int) ≤ 9223372036854775807 := by omega
  have hMi : (M : Int) ≤ 9223372036854775807 := by omega
  clear ha hb hla hlb
  by_cases hne : L = M
  · subst hne
    clear hL hM hMi
    have HW0 : Hid (Below w.heap.size w w) := Lib.hid (Below.refl _ _)
    go_enter Tryz.func69, Tryz.ntmps69
    go_wp2
    go_loopg [13] L (fun g s13 wx => ∃ k : Nat, k + g = L ∧ s13 = .int .i64 (k : Int) ∧ Hid (Below w.heap.size w wx) ∧ Hid (xs.take k = ys.take k))
    case atStart => exact ⟨0, by omega, rfl, HW0, Lib.hid (by simp)⟩
    case round =>
      clear HW0
      obtain ⟨k, hk, rfl, HW, HI⟩ := hrel
      cases gk with
      | zero =>
        obtain rfl : k = L := by omega
        have E : K = true := by
          rw [HK.out, decide_eq_true_eq]
          have h1 := HI.out; have h2 := HL.out; have h3 := HM.out
          rwa [List.take_of_length_le (by omega), List.take_of_length_le (by omega)] at h1
        subst E
        go_wp2
        go_ret
        exact ⟨rfl, HW.out⟩
      | succ g =>
        have g0 : (k : Int) < (L : Int) := by omega
        have g1 : (0 : Int) ≤ (k : Int) := by omega
        obtain ⟨x, hx⟩ : ∃ x, xs[k]? = some x := ⟨xs[k]'(by have := HL.out; omega), List.getElem?_eq_getElem _⟩
        obtain ⟨y, hy⟩ : ∃ y, ys[k]? = some y := ⟨ys[k]'(by have := HM.out; omega), List.getElem?_eq_getElem _⟩
        obtain ⟨b1, o1, c1, e1, u1⟩ := (HA.out.below HW.out).atv (j := k) (u := .string ⟨x.toArray⟩) (by simp [sv, hx])
        obtain ⟨b2, o2, c2, e2, u2⟩ := (HB.out.below HW.out).atv (j := k) (u := .string ⟨y.toArray⟩) (by simp [sv, hy])
        simp only [Value.slice.injEq] at e1 e2
        obtain ⟨rfl, -, -⟩ := e1
        obtain ⟨rfl, -, -⟩ := e2
        have HX := Lib.hid hx
        have HY := Lib.hid hy
        clear hx hy
        by_cases hxy : x = y
        · subst hxy
          have HI2 : Hid (xs.take (k + 1) = ys.take (k + 1)) := by
            show _ = _
            rw [List.take_add_one, List.take_add_one, HX.out, HY.out, HI.out]
          go_wp2
          go_quiet (fail)
          go_wp2
          go_roundg g
          case rel => exact ⟨k + 1, by omega, by first | rfl | (simp; done), Lib.hid (below_trans HW.out (below_drewN _ _)), HI2⟩
          case measure => omega
        · have E : K = false := by
            rw [HK.out, decide_eq_false_iff_not]
            intro he
            have h1 := HX.out; have h2 := HY.out
            rw [he] at h1
            exact hxy (Option.some.inj (h1.symm.trans h2))
          have hxb : (x == y) = false := by simpa using hxy
          subst E
          go_wp2
          go_quiet (fail)
          go_wp2
          go_ret
          exact ⟨rfl, below_trans HW.out (below_drewN _ _)⟩
  · have E : K = false := by
      rw [HK.out, decide_eq_false_iff_not]
      intro he
      rw [he] at hL
      exact hne (hL.symm.trans hM)
    have b0 : ((L : Int) == (M : Int)) = false := by simp; omega
    have b2 : (L == M) = false := by simpa using hne
    have b1 : ¬ (L : Int) = (M : Int) := by omega
    subst E
    clear hL hM hne
    go_enter Tryz.func69, Tryz.ntmps69
    go_wp2
    go_ret
    exact ⟨rfl, Below.refl _ _⟩
set_option maxRecDepth 10000 in
set_option maxHeartbeats 8000000 in
theorem eqi_any (va vb : Value) (xs ys : List Int) (w : World) (ha : Rdv w va (ints xs)) (hb : Rdv w vb (ints ys)) :
    Calls Tryz.prog 70 #[va, vb] w fun e w' => e = .returned (.bool (decide (xs = ys))) ∧ Below w.heap.size w w' := by
  have hla := ha.len_le
  have hlb := hb.len_le
  obtain ⟨ao, cap, rfl⟩ := ha.slice
  obtain ⟨bo, cap', rfl⟩ := hb.slice
  unfold maxLen at hla hlb
  rw [show (ints xs).length = xs.length from by simp [ints]] at ha hla ⊢
  rw [show (ints ys).length = ys.length from by simp [ints]] at hb hlb ⊢
  obtain ⟨L, hL⟩ : ∃ L, xs.length = L := ⟨_, rfl⟩
  obtain ⟨M, hM⟩ : ∃ M, ys.length = M := ⟨_, rfl⟩
  have HL := Lib.hid hL
  have HM := Lib.hid hM
  rw [hL] at ha hla
  rw [hM] at hb hlb
  rw [hL, hM]
  have HA := Lib.hid ha
  have HB := Lib.hid hb
  obtain ⟨K, HK⟩ : ∃ K, Hid (K = decide (xs = ys)) := ⟨_, Lib.hid rfl⟩
  rw [← HK.out]
  have hLi : (L : Int) ≤ 9223372036854775807 := by omega
  have hMi : (M : Int) ≤ 9223372036854775807 := by omega
  clear ha hb hla hlb
  by_cases hne : L = M
  · subst hne
    clear hL hM hMi
    have HW0 : Hid (Below w.heap.size w w) := Lib.hid (Below.refl _ _)
    go_enter Tryz.func70, Tryz.ntmps70
    go_wp2
    go_loopg [13] L (fun g s13 wx => ∃ k : Nat, k + g = L ∧ s13 = .int .i64 (k : Int) ∧ Hid (Below w.heap.size w wx) ∧ Hid (xs.take k = ys.take k))
    case atStart => exact ⟨0, by omega, rfl, HW0, Lib.hid (by simp)⟩
    case round =>
      clear HW0
      obtain ⟨k, hk, rfl, HW, HI⟩ := hrel
      cases gk with
      | zero =>
        obtain rfl : k = L := by omega
        have E : K = true := by
          rw [HK.out, decide_eq_true_eq]
          have h1 := HI.out; have h2 := HL.out; have h3 := HM.out
          rwa [List.take_of_length_le (by omega), List.take_of_length_le (by omega)] at h1
        subst E
        go_wp2
        go_ret
        exact ⟨rfl, HW.out⟩
      | succ g =>
        have g0 : (k : Int) < (L : Int) := by omega
        have g1 : (0 : Int) ≤ (k : Int) := by omega
        obtain ⟨x, hx⟩ : ∃ x, xs[k]? = some x := ⟨xs[k]'(by have := HL.out; omega), List.getElem?_eq_getElem _⟩
        obtain ⟨y, hy⟩ : ∃ y, ys[k]? = some y := ⟨ys[k]'(by have := HM.out; omega), List.getElem?_eq_getElem _⟩
        obtain ⟨b1, o1, c1, e1, u1⟩ := (HA.out.below HW.out).atv (j := k) (u := .int .i64 x) (by simp [ints, hx])
        obtain ⟨b2, o2, c2, e2, u2⟩ := (HB.out.below HW.out).atv (j := k) (u := .int .i64 y) (by simp [ints, hy])
        simp only [Value.slice.injEq] at e1 e2
        obtain ⟨rfl, -, -⟩ := e1
        obtain ⟨rfl, -, -⟩ := e2
        have HX := Lib.hid hx
        have HY := Lib.hid hy
        clear hx hy
        by_cases hxy : x = y
        · subst hxy
          have HI2 : Hid (xs.take (k + 1) = ys.take (k + 1)) := by
            show _ = _
            rw [List.take_add_one, List.take_add_one, HX.out, HY.out, HI.out]
          go_wp2
          go_quiet (fail)
          go_wp2
          go_roundg g
          case rel => exact ⟨k + 1, by omega, by first | rfl | (simp; done), Lib.hid (below_trans HW.out (below_drewN _ _)), HI2⟩
          case measure => omega
        · have E : K = false := by
            rw [HK.out, decide_eq_false_iff_not]
            intro he
            have h1 := HX.out; have h2 := HY.out
            rw [he] at h1
            exact hxy (Option.some.inj (h1.symm.trans h2))
          have hxb : (x == y) = false := by simpa using hxy
          subst E
          go_wp2
          go_quiet (fail)
          go_wp2
          go_ret
          exact ⟨rfl, below_trans HW.out (below_drewN _ _)⟩
  · have E : K = false := by
      rw [HK.out, decide_eq_false_iff_not]
      intro he
      rw [he] at hL
      exact hne (hL.symm.trans hM)
    have b0 : ((L : Int) == (M : Int)) = false := by simp; omega
    have b2 : (L == M) = false := by simpa using hne
    have b1 : ¬ (L : Int) = (M : Int) := by omega
    subst E
    clear hL hM hne
    go_enter Tryz.func70, Tryz.ntmps70
    go_wp2
    go_ret
    exact ⟨rfl, Below.refl _ _⟩
end Go.Proofs.YtmgalfdiiegjjaaGreatDoor
