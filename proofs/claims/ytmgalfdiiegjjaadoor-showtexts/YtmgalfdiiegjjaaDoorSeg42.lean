/- Several texts in one. -/
import Derived.Test.YtmgalfdiiegjjaaDoorShC11
import Derived.Test.YtmgalfdiiegjjaaDoorSeg40
namespace Go.Proofs.YtmgalfdiiegjjaaDoor
open Go.RowKit

theorem size_pos (t : SH.Tr) : 1 ≤ SH.sizeT t := by cases t <;> simp [SH.sizeT]
set_option maxRecDepth 10000 in
set_option maxHeartbeats 16000000 in
theorem blw_all : ∀ s, BlW s := by
  intro s
  induction s with
  | zero =>
    intro t ns n c p w0 wa w v ov bs hs
    have := size_pos t
    omega
  | succ s ih =>
    intro t ns n c p w0 wa w v ov bs hs hr ha h hln hl hc
    obtain ⟨x, fl, hx, hxk⟩ := SH.flat_ne t n
    obtain ⟨y, hy, hyx⟩ := (hx ▸ ha).head
    obtain ⟨b5, o5, cap5, ka, kc, ia, ic, hv5, c6, r1, r2⟩ := hr.at hy
    have hNl : n < ns.length := (List.getElem?_eq_some_iff.1 hy).1
    have hnm : ns.length ≤ maxLen := by obtain ⟨_, _, _, h9⟩ := hr.slice; exact h9
    obtain ⟨NL, hNL⟩ : ∃ NL, ns.length = NL := ⟨_, rfl⟩
    rw [hNL] at hv5 hNl hnm
    unfold maxLen at hnm
    have hN0 : (0 : Int) ≤ (n : Int) := by omega
    have hN1 : (n : Int) < (NL : Int) := by omega
    subst hv5
    have hlny := hln y (List.mem_of_getElem? hy)
    obtain ⟨kd, ln, tx, q, ks, is⟩ := y
    obtain ⟨e1, e2, e3, e4, e5⟩ : kd = x.kind ∧ tx = x.text ∧ q = x.quoted ∧ ks = x.keys ∧ is = icast x.kids := by
      unfold SH.zi SH.up at hyx
      simp only [SH.Ni.mk.injEq] at hyx
      exact ⟨hyx.1, hyx.2.2.1, hyx.2.2.2.1, hyx.2.2.2.2.1, hyx.2.2.2.2.2⟩
    simp only at c6 r1 r2 hlny
    rw [hxk] at e1
    subst e1
    have n0 := h.st.cell 0
    simp only [List.getElem?_toArray, List.getElem?_cons_zero] at n0
    obtain ⟨d0, d1, d2, d3, d4, d5⟩ := c6.below h.bl
    simp only at d0 d1 d2 d3 d4 d5
    have H := Lib.hid (h.calm (below_alloc w (.cells #[.int .i64 (SH.knd t), .int .i64 ln, .string ⟨tx.toArray⟩, .bool q, .slice ka ks.length kc, .slice ia is.length ic] 37)))
    have HLS := Lib.hid hlny
    cases t with
    | text S Q =>
      simp only [SH.flatT, List.cons.injEq] at hx
      obtain ⟨rfl, -⟩ := hx
      simp only at e2 e3
      subst e2 e3
      rw [SH.showT] at hl ⊢
      have HP := Lib.hid (wtext_any 1 ln tx q (.slice ka ks.length kc) (.slice ia is.length ic) H.out HLS.out.1 (by omega) ⟨_, _, _, rfl⟩ ⟨_, _, _, rfl⟩)
      rw [show SH.knd (.text tx q) = 1 from rfl] at d0 H
      clear hr ha h hln hl hc hy r1 r2 hNl hnm hNL hlny e4 e5 hyx c6 hxk
      obtain ⟨kn, hkn⟩ : ∃ kn, ks.length = kn := ⟨_, rfl⟩
      obtain ⟨im, him⟩ : ∃ im, is.length = im := ⟨_, rfl⟩
      rw [hkn] at d4 HP H
      rw [him] at d5 HP H
      clear hkn him
      go_enter Tryd.func14, Tryd.ntmps14
      go_wp2_with (go_at_call 20; refine HP.out.mono ?_; rintro e w2 ⟨rfl, ov2, s2⟩; have S2 := Lib.hid s2; clear s2)
      go_end0
      exact ⟨rfl, _, S2.out⟩
    | list k =>
      simp only [SH.flatT, List.cons.injEq] at hx
      obtain ⟨rfl, rfl⟩ := hx
      simp only at e5
      subst e5
      rw [SH.showT] at hl ⊢
      rw [SH.sizeT] at hs hc
      have HP := Lib.hid (shitems_any ih k ns (n + 1) c p w0 wa _ _ ov bs 2 ln tx q (.slice ka ks.length kc) (.slice ia (icast (SH.kidsF k (n + 1))).length ic) (by omega) hr (by rw [SH.flatT] at ha; exact ha.tail) H.out hln hl (by omega) ⟨_, _, _, rfl⟩ r2)
      rw [show SH.knd (.list k) = 2 from rfl] at d0 H
      clear hr ha h hln hl hc hy r1 r2 hNl hnm hNL hlny e4 hyx c6 hxk e2 e3
      obtain ⟨kn, hkn⟩ : ∃ kn, ks.length = kn := ⟨_, rfl⟩
      obtain ⟨im, him⟩ : ∃ im, (icast (SH.kidsF k (n + 1))).length = im := ⟨_, rfl⟩
      rw [hkn] at d4 HP H
      rw [him] at d5 HP H
      clear hkn him
      go_enter Tryd.func14, Tryd.ntmps14
      go_wp2_with (go_at_call 21; refine HP.out.mono ?_; rintro e w2 ⟨rfl, ov2, s2⟩; have S2 := Lib.hid s2; clear s2)
      go_end0
      exact ⟨rfl, _, S2.out⟩
    | map k =>
      simp only [SH.flatT, List.cons.injEq] at hx
      obtain ⟨rfl, rfl⟩ := hx
      simp only at e4 e5
      subst e4 e5
      rw [SH.showT] at hl ⊢
      rw [SH.sizeT] at hs hc
      have HP := Lib.hid (shentries_any ih k ns (n + 1) c p w0 wa _ _ ov bs 3 ln tx q (.slice ka (SH.keysF k).length kc) (.slice ia (icast (SH.kidsF k (n + 1))).length ic) (by omega) hr (by rw [SH.flatT] at ha; exact ha.tail) H.out hln hlny.2 hl (by omega) r1 r2)
      rw [show SH.knd (.map k) = 3 from rfl] at d0 H
      clear hr ha h hln hl hc hy r1 r2 hNl hnm hNL hlny hyx c6 hxk e2 e3
      obtain ⟨kn, hkn⟩ : ∃ kn, (SH.keysF k).length = kn := ⟨_, rfl⟩
      obtain ⟨im, him⟩ : ∃ im, (icast (SH.kidsF k (n + 1))).length = im := ⟨_, rfl⟩
      rw [hkn] at d4 HP H
      rw [him] at d5 HP H
      clear hkn him
      go_enter Tryd.func14, Tryd.ntmps14
      go_wp2_with (go_at_call 22; refine HP.out.mono ?_; rintro e w2 ⟨rfl, ov2, s2⟩; have S2 := Lib.hid s2; clear s2)
      go_end0
      exact ⟨rfl, _, S2.out⟩
end Go.Proofs.YtmgalfdiiegjjaaDoor

/- The walk of show.Check. -/
namespace Go.Proofs.YtmgalfdiiegjjaaDoor
open Go.RowKit

theorem chk_yes {ns : List SH.Ni} (h2 : ns.length ≤ 2000) (h : SH.wk ns 25 0 1 = some ns.length) : SH.chkb ns = true := by
  refine decide_eq_true ⟨?_, h2, h⟩
  cases ns with
  | nil => simp [SH.wk] at h
  | cons a l => simp
theorem chk_no {ns : List SH.Ni} (h : ns.length ≤ 2000 → SH.wk ns 25 0 1 ≠ some ns.length) : SH.chkb ns = false :=
  decide_eq_false fun k => h k.2.1 k.2.2
def okI (b : Bool) : Int := if b then 0 else 1
set_option maxRecDepth 10000 in
set_option maxHeartbeats 16000000 in
theorem check_any (v : Value) (ns : List SH.Ni) (w : World) (hr : Rdi w v ns) (hl : Lens2 ns) (hm : MaxIs w) :
    Calls Tryd.prog 9 #[.agg #[v]] w fun e w' => e = .returned (.int .i64 (okI (SH.chkb ns))) ∧ Below w.heap.size w w' := by
  obtain ⟨ao, cap, rfl, hlm⟩ := hr.slice
  unfold maxLen at hlm
  obtain ⟨K, HK⟩ : ∃ K, Hid (K = okI (SH.chkb ns)) := ⟨_, Lib.hid rfl⟩
  rw [← HK.out]
  have B0 := below_alloc w (.cells #[.slice ao ns.length cap] 24)
  have HB0 := Lib.hid B0
  have HS0 := Lib.hid (Str.new w 24 #[.slice ao ns.length cap])
  have HW : Hid (Wst (w.alloc (.cells #[.slice ao ns.length cap] 24)) ((w.alloc (.cells #[.slice ao ns.length cap] 24)).alloc (.cells #[.slice ao ns.length cap, .int .i64 0] 44)) (w.heap.size + 1) (.slice ao ns.length cap) 0) := by
    have s := Str.new (w.alloc (.cells #[.slice ao ns.length cap] 24)) 44 #[.slice ao ns.length cap, .int .i64 0]
    rw [bx_size] at s
    exact ⟨below_alloc _ _, s, by rw [bx_size]; exact Nat.le_refl _⟩
  have HBK := Lib.hid (shblock_all 25 _ ns 0 1 (w.heap.size + 1) 0 _ _ (hr.below B0) hl (hm.below B0) HW.out rfl (Nat.zero_le _))
  obtain ⟨L, hL⟩ : ∃ L, ns.length = L := ⟨_, rfl⟩
  have HL := Lib.hid hL
  rw [hL] at hlm HBK HW HS0 HB0 ⊢
  have e0 := HS0.out.cell 0
  simp only [List.getElem?_toArray, List.getElem?_cons_zero] at e0
  have e1 := ((below_alloc (w.alloc (.cells #[.slice ao L cap] 24)) (.cells #[.slice ao L cap, .int .i64 0] 44)).cell (cell_lt e0)).trans e0
  clear hr hl hm hL B0
  by_cases h2 : 2000 < L
  · have h2i : (2000 : Int) < (L : Int) := by omega
    have E : K = 1 := by
      rw [HK.out, chk_no (fun h => absurd h (by have := HL.out; omega))]; rfl
    subst E
    go_enter Tryd.func9, Tryd.ntmps9
    go_wp2
    go_ret
    exact ⟨rfl, below_trans HB0.out HW.out.bl⟩
  · have h2i : ¬ (2000 : Int) < (L : Int) := by omega
    obtain ⟨O, hO⟩ : ∃ O, bkr ns 25 0 1 0 = O := ⟨_, rfl⟩
    have HO : Hid (SH.wk ns 25 0 1 = O) := by
      show _ = _
      rw [← hO]; unfold bkr; exact (if_pos rfl).symm
    rw [hO] at HBK
    clear hO
    have hw0 : ((0 : Nat) : Int) = 0 := rfl
    have hw1 : ((1 : Nat) : Int) = 1 := rfl
    rw [hw1] at HBK
    clear hw0 hw1
    cases O with
    | none =>
      have E : K = 1 := by
        rw [HK.out, chk_no (fun _ h => by rw [HO.out] at h; cases h)]; rfl
      subst E
      go_enter Tryd.func9, Tryd.ntmps9
      go_wp2_with (go_at_call 16; refine HBK.out.mono ?_; rintro e w2 ⟨m9, rfl, s2, -⟩; have S2 := Lib.hid s2; clear s2)
      go_ret
      exact ⟨rfl, below_trans HB0.out S2.out.bl⟩
    | some m =>
      by_cases hmL : m = L
      · subst hmL
        have E : K = 0 := by
          rw [HK.out, chk_yes (by have := HL.out; omega) (by rw [HL.out]; exact HO.out)]; rfl
        subst E
        go_enter Tryd.func9, Tryd.ntmps9
        go_wp2_with (go_at_call 16; refine HBK.out.mono ?_; rintro e w2 ⟨m9, rfl, s2, h9⟩; have h9' := h9 m rfl; subst h9'; have S2 := Lib.hid s2; have f1 : w2.cell? ⟨w.heap.size + 1, 1, none⟩ = some (.int .i64 (m : Int)) := s2.st.cell 1; have f0 : w2.cell? ⟨w.heap.size, 0, none⟩ = some (.slice ao m cap) := (HS0.out.below s2.bl).cell 0; clear s2 h9)
        go_ret
        exact ⟨rfl, below_trans HB0.out S2.out.bl⟩
      · have hb : ((m : Int) != (L : Int)) = true := by simp; omega
        have hb2 : (m != L) = true := by simpa using hmL
        have E : K = 1 := by
          rw [HK.out, chk_no (fun _ h => by rw [HO.out, HL.out] at h; exact hmL (Option.some.inj h))]; rfl
        subst E
        go_enter Tryd.func9, Tryd.ntmps9
        go_wp2_with (go_at_call 16; refine HBK.out.mono ?_; rintro e w2 ⟨m9, rfl, s2, h9⟩; have h9' := h9 m rfl; subst h9'; have S2 := Lib.hid s2; have f1 : w2.cell? ⟨w.heap.size + 1, 1, none⟩ = some (.int .i64 (m : Int)) := s2.st.cell 1; have f0 : w2.cell? ⟨w.heap.size, 0, none⟩ = some (.slice ao L cap) := (HS0.out.below s2.bl).cell 0; clear s2 h9)
        go_ret
        exact ⟨rfl, below_trans HB0.out S2.out.bl⟩
end Go.Proofs.YtmgalfdiiegjjaaDoor
