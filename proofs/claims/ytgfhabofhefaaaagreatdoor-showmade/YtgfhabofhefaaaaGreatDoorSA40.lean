/- A part of the proof. -/
import Derived.Test.YtgfhabofhefaaaaGreatDoorSA39
import Derived.Test.YtgfhabofhefaaaaGreatDoorSA37
import Derived.Test.YtgfhabofhefaaaaGreatDoorSA03
import Derived.Test.YtgfhabofhefaaaaGreatDoorSA23
import Derived.BigQuiet
namespace Go.Proofs.YtgfhabofhefaaaaGreatDoor
open Go.RowKit
theorem size_pos (t : SH.Tr) : 1 ≤ SH.sizeT t := by cases t <;> simp [SH.sizeT]
set_option maxRecDepth 10000 in
set_option maxHeartbeats 16000000 in
theorem blw_all : ∀ s, BlW s := by
  intro s
  induction s with
  | zero =>
    intro t ns n c p w0 wa w v ov bs hs
    have := size_pos t
    omega
  | succ s ih =>
    intro t ns n c p w0 wa w v ov bs hs hr ha h hln hl hc
    obtain ⟨x, fl, hx, hxk⟩ := SH.flat_ne t n
    obtain ⟨y, hy, hyx⟩ := (hx ▸ ha).head
    obtain ⟨b5, o5, cap5, ka, kc, ia, ic, hv5, c6, r1, r2⟩ := hr.at hy
    have hNl : n < ns.length := (List.getElem?_eq_some_iff.1 hy).1
    have hnm : ns.length ≤ maxLen := by obtain ⟨_, _, _, h9⟩ := hr.slice; exact h9
    obtain ⟨NL, hNL⟩ : ∃ NL, ns.length = NL := ⟨_, rfl⟩
    rw [hNL] at hv5 hNl hnm
    unfold maxLen at hnm
    have hN0 : (0 : Int) ≤ (n : Int) := by omega
    have hN1 : (n : Int) < (NL : Int) := by omega
    subst hv5
    have hlny := hln y (List.mem_of_getElem? hy)
    obtain ⟨kd, ln, tx, q, ks, is⟩ := y
    obtain ⟨e1, e2, e3, e4, e5⟩ : kd = x.kind ∧ tx = x.text ∧ q = x.quoted ∧ ks = x.keys ∧ is = icast x.kids := by
      unfold SH.zi SH.up at hyx
      simp only [SH.Ni.mk.injEq] at hyx
      exact ⟨hyx.1, hyx.2.2.1, hyx.2.2.2.1, hyx.2.2.2.2.1, hyx.2.2.2.2.2⟩
    simp only at c6 r1 r2 hlny
    rw [hxk] at e1
    subst e1
    have n0 := h.st.cell 0
    simp only [List.getElem?_toArray, List.getElem?_cons_zero] at n0
    obtain ⟨d0, d1, d2, d3, d4, d5⟩ := c6.below h.bl
    simp only at d0 d1 d2 d3 d4 d5
    have H := Lib.hid (h.calm (below_alloc w (.cells #[.int .i64 (SH.knd t), .int .i64 ln, .string ⟨tx.toArray⟩, .bool q, .slice ka ks.length kc, .slice ia is.length ic] 48)))
    have HLS := Lib.hid hlny
    cases t with
    | text S Q =>
      simp only [SH.flatT, List.cons.injEq] at hx
      obtain ⟨rfl, -⟩ := hx
      simp only at e2 e3
      subst e2 e3
      rw [SH.showT] at hl ⊢
      have HP := Lib.hid (wtext_any 1 ln tx q (.slice ka ks.length kc) (.slice ia is.length ic) H.out HLS.out.1 (by omega) ⟨_, _, _, rfl⟩ ⟨_, _, _, rfl⟩)
      rw [show SH.knd (.text tx q) = 1 from rfl] at d0 H
      clear hr ha h hln hl hc hy r1 r2 hNl hnm hNL hlny e4 e5 hyx c6 hxk
      obtain ⟨kn, hkn⟩ : ∃ kn, ks.length = kn := ⟨_, rfl⟩
      obtain ⟨im, him⟩ : ∃ im, is.length = im := ⟨_, rfl⟩
      rw [hkn] at d4 HP H
      rw [him] at d5 HP H
      clear hkn him
      go_enter Tryz.func31, Tryz.ntmps31
      go_wp2_with (go_at_call 57; refine HP.out.mono ?_; rintro e w2 ⟨rfl, ov2, s2⟩; have S2 := Lib.hid s2; clear s2)
      go_end0
      exact ⟨rfl, _, S2.out⟩
    | list k =>
      simp only [SH.flatT, List.cons.injEq] at hx
      obtain ⟨rfl, rfl⟩ := hx
      simp only at e5
      subst e5
      rw [SH.showT] at hl ⊢
      rw [SH.sizeT] at hs hc
      have HP := Lib.hid (shitems_any ih k ns (n + 1) c p w0 wa _ _ ov bs 2 ln tx q (.slice ka ks.length kc) (.slice ia (icast (SH.kidsF k (n + 1))).length ic) (by omega) hr (by rw [SH.flatT] at ha; exact ha.tail) H.out hln hl (by omega) ⟨_, _, _, rfl⟩ r2)
      rw [show SH.knd (.list k) = 2 from rfl] at d0 H
      clear hr ha h hln hl hc hy r1 r2 hNl hnm hNL hlny e4 hyx c6 hxk e2 e3
      obtain ⟨kn, hkn⟩ : ∃ kn, ks.length = kn := ⟨_, rfl⟩
      obtain ⟨im, him⟩ : ∃ im, (icast (SH.kidsF k (n + 1))).length = im := ⟨_, rfl⟩
      rw [hkn] at d4 HP H
      rw [him] at d5 HP H
      clear hkn him
      go_enter Tryz.func31, Tryz.ntmps31
      go_wp2_with (go_at_call 58; refine HP.out.mono ?_; rintro e w2 ⟨rfl, ov2, s2⟩; have S2 := Lib.hid s2; clear s2)
      go_end0
      exact ⟨rfl, _, S2.out⟩
    | map k =>
      simp only [SH.flatT, List.cons.injEq] at hx
      obtain ⟨rfl, rfl⟩ := hx
      simp only at e4 e5
      subst e4 e5
      rw [SH.showT] at hl ⊢
      rw [SH.sizeT] at hs hc
      have HP := Lib.hid (shentries_any ih k ns (n + 1) c p w0 wa _ _ ov bs 3 ln tx q (.slice ka (SH.keysF k).length kc) (.slice ia (icast (SH.kidsF k (n + 1))).length ic) (by omega) hr (by rw [SH.flatT] at ha; exact ha.tail) H.out hln hlny.2 hl (by omega) r1 r2)
      rw [show SH.knd (.map k) = 3 from rfl] at d0 H
      clear hr ha h hln hl hc hy r1 r2 hNl hnm hNL hlny hyx c6 hxk e2 e3
      obtain ⟨kn, hkn⟩ : ∃ kn, (SH.keysF k).length = kn := ⟨_, rfl⟩
      obtain ⟨im, him⟩ : ∃ im, (icast (SH.kidsF k (n + 1))).length = im := ⟨_, rfl⟩
      rw [hkn] at d4 HP H
      rw [him] at d5 HP H
      clear hkn him
      go_enter Tryz.func31, Tryz.ntmps31
      go_wp2_with (go_at_call 59; refine HP.out.mono ?_; rintro e w2 ⟨rfl, ov2, s2⟩; have S2 := Lib.hid s2; clear s2)
      go_end0
      exact ⟨rfl, _, S2.out⟩
end Go.Proofs.YtgfhabofhefaaaaGreatDoor
namespace Go.Proofs.YtgfhabofhefaaaaGreatDoor
open Go.RowKit
theorem chk_yes {ns : List SH.Ni} (h2 : ns.length ≤ 2000) (h : SH.wk ns 25 0 1 = some ns.length) : SH.chkb ns = true := by
  refine decide_eq_true ⟨?_, h2, h⟩
  cases ns with
  | nil => simp [SH.wk] at h
  | cons a l => simp
theorem chk_no {ns : List SH.Ni} (h : ns.length ≤ 2000 → SH.wk ns 25 0 1 ≠ some ns.length) : SH.chkb ns = false :=
  decide_eq_false fun k => h k.2.1 k.2.2
def okI (b : Bool) : Int := if b then 0 else 1
set_option maxRecDepth 10000 in
set_option maxHeartbeats 16000000 in
theorem check_any (v : Value) (ns : List SH.Ni) (w : World) (hr : Rdi w v ns) (hl : Lens2 ns) (hm : MaxIs w) :
    Calls Tryz.prog 14 #[.agg #[v]] w fun e w' => e = .returned (.int .i64 (okI (SH.chkb ns))) ∧ Below w.heap.size w w' := by
  obtain ⟨ao, cap, rfl, hlm⟩ := hr.slice
  unfold maxLen at hlm
  obtain ⟨K, HK⟩ : ∃ K, Hid (K = okI (SH.chkb ns)) := ⟨_, Lib.hid rfl⟩
  rw [← HK.out]
  have B0 := below_alloc w (.cells #[.slice ao ns.length cap] 26)
  have HB0 := Lib.hid B0
  have HS0 := Lib.hid (Str.new w 26 #[.slice ao ns.length cap])
  have HW : Hid (Wst (w.alloc (.cells #[.slice ao ns.length cap] 26)) ((w.alloc (.cells #[.slice ao ns.length cap] 26)).alloc (.cells #[.slice ao ns.length cap, .int .i64 0] 77)) (w.heap.size + 1) (.slice ao ns.length cap) 0) := by
    have s := Str.new (w.alloc (.cells #[.slice ao ns.length cap] 26)) 77 #[.slice ao ns.length cap, .int .i64 0]
    rw [bx_size] at s
    exact ⟨below_alloc _ _, s, by rw [bx_size]; exact Nat.le_refl _⟩
  have HBK := Lib.hid (shblock_all 25 _ ns 0 1 (w.heap.size + 1) 0 _ _ (hr.below B0) hl (hm.below B0) HW.out rfl (Nat.zero_le _))
  obtain ⟨L, hL⟩ : ∃ L, ns.length = L := ⟨_, rfl⟩
  have HL := Lib.hid hL
  rw [hL] at hlm HBK HW HS0 HB0 ⊢
  have e0 := HS0.out.cell 0
  simp only [List.getElem?_toArray, List.getElem?_cons_zero] at e0
  have e1 := ((below_alloc (w.alloc (.cells #[.slice ao L cap] 26)) (.cells #[.slice ao L cap, .int .i64 0] 77)).cell (cell_lt e0)).trans e0
  clear hr hl hm hL B0
  by_cases h2 : 2000 < L
  · have h2i : (2000 : Int) < (L : Int) := by omega
    have E : K = 1 := by
      rw [HK.out, chk_no (fun h => absurd h (by have := HL.out; omega))]; rfl
    subst E
    go_enter Tryz.func14, Tryz.ntmps14
    go_wp2
    go_ret
    exact ⟨rfl, below_trans HB0.out HW.out.bl⟩
  · have h2i : ¬ (2000 : Int) < (L : Int) := by omega
    obtain ⟨O, hO⟩ : ∃ O, bkr ns 25 0 1 0 = O := ⟨_, rfl⟩
    have HO : Hid (SH.wk ns 25 0 1 = O) := by
      show _ = _
      rw [← hO]; unfold bkr; exact (if_pos rfl).symm
    rw [hO] at HBK
    clear hO
    have hw0 : ((0 : Nat) : Int) = 0 := rfl
    have hw1 : ((1 : Nat) : Int) = 1 := rfl
    rw [hw1] at HBK
    clear hw0 hw1
    cases O with
    | none =>
      have E : K = 1 := by
        rw [HK.out, chk_no (fun _ h => by rw [HO.out] at h; cases h)]; rfl
      subst E
      go_enter Tryz.func14, Tryz.ntmps14
      go_wp2_with (go_at_call 35; refine HBK.out.mono ?_; rintro e w2 ⟨m9, rfl, s2, -⟩; have S2 := Lib.hid s2; clear s2)
      go_ret
      exact ⟨rfl, below_trans HB0.out S2.out.bl⟩
    | some m =>
      by_cases hmL : m = L
      · subst hmL
        have E : K = 0 := by
          rw [HK.out, chk_yes (by have := HL.out; omega) (by rw [HL.out]; exact HO.out)]; rfl
        subst E
        go_enter Tryz.func14, Tryz.ntmps14
        go_wp2_with (go_at_call 35; refine HBK.out.mono ?_; rintro e w2 ⟨m9, rfl, s2, h9⟩; have h9' := h9 m rfl; subst h9'; have S2 := Lib.hid s2; have f1 : w2.cell? ⟨w.heap.size + 1, 1, none⟩ = some (.int .i64 (m : Int)) := s2.st.cell 1; have f0 : w2.cell? ⟨w.heap.size, 0, none⟩ = some (.slice ao m cap) := (HS0.out.below s2.bl).cell 0; clear s2 h9)
        go_ret
        exact ⟨rfl, below_trans HB0.out S2.out.bl⟩
      · have hb : ((m : Int) != (L : Int)) = true := by simp; omega
        have hb2 : (m != L) = true := by simpa using hmL
        have E : K = 1 := by
          rw [HK.out, chk_no (fun _ h => by rw [HO.out, HL.out] at h; exact hmL (Option.some.inj h))]; rfl
        subst E
        go_enter Tryz.func14, Tryz.ntmps14
        go_wp2_with (go_at_call 35; refine HBK.out.mono ?_; rintro e w2 ⟨m9, rfl, s2, h9⟩; have h9' := h9 m rfl; subst h9'; have S2 := Lib.hid s2; have f1 : w2.cell? ⟨w.heap.size + 1, 1, none⟩ = some (.int .i64 (m : Int)) := s2.st.cell 1; have f0 : w2.cell? ⟨w.heap.size, 0, none⟩ = some (.slice ao L cap) := (HS0.out.below s2.bl).cell 0; clear s2 h9)
        go_ret
        exact ⟨rfl, below_trans HB0.out S2.out.bl⟩
end Go.Proofs.YtgfhabofhefaaaaGreatDoor
namespace Go.Proofs.YtgfhabofhefaaaaGreatDoor
open Go.RowKit
def ShE (w : World) (code : Int) (T : List UInt8) (e : Ending) (w' : World) : Prop := ∃ v, e = .returned (.tuple #[v, .int .i64 code]) ∧ Rdv w' v (bv T) ∧ Below w.heap.size w w'
theorem wrs_start (w1 : World) (v : Value) : Wrs w1 (w1.alloc (.cells #[v, .slice none 0 0] 75)) (w1.alloc (.cells #[v, .slice none 0 0] 75)) w1.heap.size v (.slice none 0 0) [] :=
  ⟨below_alloc _ _, Nat.le_refl _, Kt.refl _ _, Str.new _ _ _, Own.nil _ _ _⟩
set_option maxRecDepth 10000 in
set_option maxHeartbeats 16000000 in
theorem shtext_any (v : Value) (ns : List SH.Ni) (code : Int) (T : List UInt8) (w : World) (hr : Rdi w v ns) (hl : Lens2 ns) (hm : MaxIs w) (ht : SH.Tx ns code T) :
    Calls Tryz.prog 12 #[.agg #[v]] w (ShE w code T) := by
  obtain ⟨ao, cap, rfl, hlm⟩ := hr.slice
  unfold maxLen at hlm
  have B0 := below_alloc w (.cells #[.slice ao ns.length cap] 26)
  have HB0 := Lib.hid B0
  have HS0 := Lib.hid (Str.new w 26 #[.slice ao ns.length cap])
  have HC := Lib.hid (check_any _ ns _ (hr.below B0) hl (hm.below B0))
  have HR := Lib.hid hr
  have e0 := HS0.out.cell 0
  simp only [List.getElem?_toArray, List.getElem?_cons_zero] at e0
  rcases ht with ⟨hk, rfl, rfl⟩ | ⟨hk, t, ho, ht⟩
  · rw [hk] at HC
    rw [show okI false = 1 from rfl] at HC
    clear hr hl hm hk hlm B0
    obtain ⟨L, hL⟩ : ∃ L, ns.length = L := ⟨_, rfl⟩
    rw [hL] at HC HS0 HB0 HR e0 ⊢
    clear hL
    go_enter Tryz.func12, Tryz.ntmps12
    go_wp2_with (go_at_call 14; refine HC.out.mono ?_; rintro e w2 ⟨rfl, b2⟩; have B2 := Lib.hid (below_trans HB0.out b2); clear b2)
    go_ret2
    exact ⟨_, rfl, Rdv.nil _, B2.out⟩
  · rw [hk] at HC
    rw [show okI true = 0 from rfl] at HC
    have HO := Lib.hid ho
    have HT := Lib.hid ht
    clear hr hl hm hk hlm B0 ho ht
    have HBW := Lib.hid (fun (w1 : World) (h1 : Rdi w1 (.slice ao ns.length cap) ns) => blw_all (SH.sizeT t) t ns 0 0 w1.heap.size w1 _ _ (.slice ao ns.length cap) (.slice none 0 0) [] (Nat.le_refl _) h1 HO.out.at (wrs_start w1 _) (fun x hx => ⟨by have := (HO.out.lens x hx).1; omega, fun k hk => by have := (HO.out.lens x hx).2.1 k hk; omega⟩) (by have := HO.out.len; simp only [List.length_nil]; omega) (by have := HO.out.size; omega))
    rw [List.nil_append] at HBW
    obtain ⟨L, hL⟩ : ∃ L, ns.length = L := ⟨_, rfl⟩
    rw [hL] at HC HS0 HB0 HR HBW e0 ⊢
    clear hL
    obtain ⟨R, hR⟩ : ∃ R, SH.showT t 0 = R := ⟨_, rfl⟩
    rw [hR] at HBW HT
    rw [show ((0 : Nat) : Int) = 0 from rfl] at HBW
    have hRl : R.length ≤ 40000000 := by rw [← hR]; exact HO.out.len
    clear hR
    go_enter Tryz.func12, Tryz.ntmps12
    go_upto_region 4 with (go_at_call 14; refine HC.out.mono ?_; rintro e w2 ⟨rfl, b2⟩)
    have B2 := Lib.hid (below_trans HB0.out b2)
    have HX := Lib.hid (HBW.out w2 (HR.out.below B2.out))
    have f0 : w2.cell? ⟨w.heap.size, 0, none⟩ = some (.slice ao L cap) := (HS0.out.below b2).cell 0
    clear b2 e0
    rcases HT.out with ⟨h6, rfl, rfl⟩ | ⟨h6, rfl, rfl⟩
    · obtain ⟨m, hm⟩ : ∃ m, R.length = m := ⟨_, rfl⟩
      rw [hm] at h6 hRl
      have h6i : (60000 : Int) < (m : Int) := by omega
      have HM := Lib.hid hm
      clear hm
      go_wp2_with (go_at_call 31; refine HX.out.mono ?_; rintro e w3 ⟨rfl, ov3, s3⟩; obtain ⟨ao3, cp3, hv3, -⟩ := s3.own.rd; rw [bv_len, HM.out] at hv3; subst hv3; have g1 : w3.cell? ⟨w2.heap.size, 1, none⟩ = some (.slice ao3 m cp3) := s3.st.cell 1; have S3 := Lib.hid s3; clear s3)
      go_ret2
      exact ⟨_, rfl, Rdv.nil _, below_trans B2.out S3.out.bl⟩
    · obtain ⟨m, hm⟩ : ∃ m, T.length = m := ⟨_, rfl⟩
      rw [hm] at h6 hRl
      have h6i : ¬ (60000 : Int) < (m : Int) := by omega
      have HM := Lib.hid hm
      clear hm
      go_wp2_with (go_at_call 31; refine HX.out.mono ?_; rintro e w3 ⟨rfl, ov3, s3⟩; obtain ⟨ao3, cp3, hv3, -⟩ := s3.own.rd; rw [bv_len, HM.out] at hv3; subst hv3; have g1 : w3.cell? ⟨w2.heap.size, 1, none⟩ = some (.slice ao3 m cp3) := s3.st.cell 1; have S3 := Lib.hid s3; clear s3)
      go_ret2
      exact ⟨_, rfl, S3.out.own.rd, below_trans B2.out S3.out.bl⟩
end Go.Proofs.YtgfhabofhefaaaaGreatDoor
namespace Go.Proofs.YtgfhabofhefaaaaGreatDoor
open Go.RowKit
structure Rst (w0 w : World) (p : Nat) (lv : Value) (L : List LX.Pc) (t : Nat) (nv : Value) (ns : List DC.Nd) (fk fl : Int) (S : Nat → Prop) : Prop where
  bl : Below w0.heap.size w0 w
  hp : w0.heap.size ≤ p
  st : Str w p 115 #[lv, .int .i64 (t : Int), nv, .int .i64 fk, .int .i64 fl]
  rd : Rdp w0 lv L
  le : t ≤ L.length
  nd : Nds w w0.heap.size S nv ns
  sb : ∀ g, S g → g < w.heap.size
section
variable {w0 w w' : World} {p : Nat} {lv nv : Value} {L : List LX.Pc} {t : Nat} {ns : List DC.Nd} {fk fl : Int} {S : Nat → Prop}
theorem Rst.off (h : Rst w0 w p lv L t nv ns fk fl S) : nv.ownBlock = none ∨ nv.ownBlock ≠ some p := h.nd.off h.st (by decide)
theorem Rst.farp (h : Rst w0 w p lv L t nv ns fk fl S) {S' : Nat → Prop} : Far w S' (some p) := Far.str h.st (by decide) (by decide)
theorem Rst.size (h : Rst w0 w p lv L t nv ns fk fl S) : w0.heap.size ≤ w.heap.size := h.bl.size
theorem Rst.kb (h : Rst w0 w p lv L t nv ns fk fl S) {q r : Option Nat} (hk : Kb w w' q r) (hq : Far w S q) (hr : Far w S r) (q1 : some p ≠ q) (r1 : some p ≠ r) (q2 : nv.ownBlock = none ∨ nv.ownBlock ≠ q) (r2 : nv.ownBlock = none ∨ nv.ownBlock ≠ r) (q3 : ∀ g, q = some g → w0.heap.size ≤ g) (r3 : ∀ g, r = some g → w0.heap.size ≤ g) : Rst w0 w' p lv L t nv ns fk fl S :=
  ⟨h.bl.trans (hk.below h.size q3 r3), h.hp, h.st.kb hk q1 r1, h.rd, h.le, h.nd.kb hk hq hr q2 r2, fun g hg => Nat.lt_of_lt_of_le (h.sb g hg) hk.size⟩
theorem Rst.calm (h : Rst w0 w p lv L t nv ns fk fl S) (hb : Below w.heap.size w w') : Rst w0 w' p lv L t nv ns fk fl S :=
  h.kb (Kb.of_below hb none none) (Far.none _ _) (Far.none _ _) (by simp) (by simp) no_or no_or (by simp) (by simp)
theorem Rst.mono (h : Rst w0 w p lv L t nv ns fk fl S) {S' : Nat → Prop} (hs : ∀ g, S g → S' g) (hb : ∀ g, S' g → g < w.heap.size) : Rst w0 w p lv L t nv ns fk fl S' := ⟨h.bl, h.hp, h.st, h.rd, h.le, h.nd.mono hs, hb⟩
theorem Rst.turn (h : Rst w0 w p lv L t nv ns fk fl S) {t' : Nat} {gk gl : Int} (hk : Kb w w' (some p) none) (hs : Str w' p 115 #[lv, .int .i64 (t' : Int), nv, .int .i64 gk, .int .i64 gl]) (ht : t' ≤ L.length) : Rst w0 w' p lv L t' nv ns gk gl S :=
  ⟨h.bl.trans (hk.below h.size (fun g hg => by have := Option.some.inj hg; have := h.hp; omega) (by simp)), h.hp, hs, h.rd, ht, h.nd.kb hk h.farp (Far.none _ _) h.off no_or, fun g hg => Nat.lt_of_lt_of_le (h.sb g hg) hk.size⟩
theorem Rst.fail (h : Rst w0 w p lv L t nv ns fk fl S) (k n : Int) : Rst w0 ((w.setCell ⟨p, 3, none⟩ (.int .i64 k)).setCell ⟨p, 4, none⟩ (.int .i64 n)) p lv L t nv ns k n S ∧ Kb w ((w.setCell ⟨p, 3, none⟩ (.int .i64 k)).setCell ⟨p, 4, none⟩ (.int .i64 n)) (some p) nv.ownBlock :=
  ⟨h.turn ((Kb.set w p 3 _ none).trans (Kb.set _ p 4 _ none)) ((h.st.set 3 (.int .i64 k)).set 4 (.int .i64 n)) h.le, (Kb.set w p 3 _ _).trans (Kb.set _ p 4 _ _)⟩
theorem Rst.next (h : Rst w0 w p lv L t nv ns fk fl S) (ht : t + 1 ≤ L.length) : Rst w0 (w.setCell ⟨p, 1, none⟩ (.int .i64 ((t + 1 : Nat) : Int))) p lv L (t + 1) nv ns fk fl S ∧ Kb w (w.setCell ⟨p, 1, none⟩ (.int .i64 ((t + 1 : Nat) : Int))) (some p) nv.ownBlock :=
  ⟨h.turn (Kb.set w p 1 _ none) (h.st.set 1 (.int .i64 ((t + 1 : Nat) : Int))) ht, Kb.set w p 1 _ _⟩
theorem Rst.push {vs : List Nv} (h : Rst w0 w p lv L t nv (vs.map (·.1)) fk fl S) {nv' : Value} {a : Nv} (hn : ∀ a ∈ vs, Nk w w0.heap.size S a) (ho : Ownv w w0.heap.size nv vs) {w1 : World} (hg : w.grownBy w1 nv.ownBlock) (ho' : Ownv w1 w0.heap.size nv' (vs ++ [a])) (ha : Nk w1 w0.heap.size S a) :
    Str w1 p 115 #[lv, .int .i64 (t : Int), nv, .int .i64 fk, .int .i64 fl] ∧ Rst w0 (w1.setCell ⟨p, 2, none⟩ nv') p lv L t nv' (vs.map (·.1) ++ [a.1]) fk fl S ∧ Kb w (w1.setCell ⟨p, 2, none⟩ nv') (some p) nv.ownBlock := by
  have k1 := Kb.of_grown hg (some p)
  have s1 : Str w1 p 115 #[lv, .int .i64 (t : Int), nv, .int .i64 fk, .int .i64 fl] := h.st.kb (Kb.of_grown hg none) (by simp) (by
    rcases h.off with e | e
    · rw [e]; simp
    · exact fun e2 => e e2.symm)
  have kb := Kb.set w1 p 2 nv' none
  have b1 : Below w0.heap.size w0 w1 := h.bl.trans ((Kb.of_grown hg none).below h.size (by simp) (fun g hg => (h.nd.ge hg).1))
  have n1 := Nds.push hn ho hg ho' ha
  have f1 : Far w1 S (some p) := Far.str s1 (by decide) (by decide)
  exact ⟨s1, ⟨b1.trans (kb.below b1.size (fun g hg => by have := Option.some.inj hg; have := h.hp; omega) (by simp)), h.hp, s1.set 2 nv', h.rd, h.le, n1.kb kb f1 (Far.none _ _) (ho'.off s1 (.inl (by decide))) no_or, fun g hg => Nat.lt_of_lt_of_le (h.sb g hg) (Nat.le_trans k1.size kb.size)⟩, k1.trans (Kb.set w1 p 2 nv' _)⟩
end
theorem dropt_at {L : List LX.Pc} {t : Nat} (h : t < L.length) : ∃ x, L[t]? = some x ∧ L.drop t = x :: L.drop (t + 1) := ⟨L[t], List.getElem?_eq_getElem h, List.drop_eq_getElem_cons h⟩
theorem Rst.at {w0 w : World} {p : Nat} {lv nv : Value} {L : List LX.Pc} {t : Nat} {ns : List DC.Nd} {fk fl : Int} {S : Nat → Prop} (h : Rst w0 w p lv L t nv ns fk fl S) {j : Nat} {x : LX.Pc} (hx : L[j]? = some x) : ∃ b off cap, lv = .slice (some ⟨b, off, none⟩) L.length cap ∧ At5 w b (off + j * 5) x := by
  obtain ⟨ao, cap, e, _, _, _, h4⟩ := h.rd
  obtain ⟨b, off, rfl, c⟩ := h4 j x hx
  exact ⟨b, off, cap, e, c.below h.bl⟩
set_option maxHeartbeats 1000000 in
theorem rfail_any {w0 w : World} {p : Nat} {lv nv : Value} {L : List LX.Pc} {t : Nat} {ns : List DC.Nd} {fl : Int} {S : Nat → Prop} (h : Rst w0 w p lv L t nv ns 0 fl S) (k n : Int) :
    Calls Tryz.prog 63 #[.pointer (some ⟨p, 0, none⟩), .int .i64 k, .int .i64 n] w fun e w' => e = .returned (.tuple #[]) ∧ Rst w0 w' p lv L t nv ns k n S ∧ Kb w w' (some p) nv.ownBlock := by
  have HF := Lib.hid (h.fail k n)
  have c3 : w.cell? ⟨p, 3, none⟩ = some (.int .i64 0) := h.st.cell 3
  have c4 : w.cell? ⟨p, 4, none⟩ = some (.int .i64 fl) := h.st.cell 4
  have f3 := h.st.frozen 3
  have f4 := h.st.frozen 4
  clear h
  go_enter Tryz.func63, Tryz.ntmps63
  go_wp2
  go_end0
  exact ⟨rfl, HF.out.1, HF.out.2⟩
def RbE (w0 w : World) (p : Nat) (lv : Value) (L : List LX.Pc) (nv : Value) (ns : List DC.Nd) (S : Nat → Prop) (r : DC.BR) (e : Ending) (w' : World) : Prop :=
  ∃ (z t' : Nat) (nv' : Value) (ns' : List DC.Nd) (k l : Int), e = .returned (.int .i64 (z : Int)) ∧ Rst w0 w' p lv L t' nv' ns' k l (More S w w') ∧ Kb w w' (some p) nv.ownBlock ∧ Near w nv nv' ∧ match r with
  | .bad a b => k = a ∧ l = b ∧ (∃ ms, ns' = ns ++ ms) ∧ ns'.length ≤ 2000
  | .ok a => k = 0 ∧ l = 0 ∧ z = ns.length ∧ ns' = ns ++ a.1 ∧ L.drop t' = a.2
def RbC (f : Nat) : Prop := ∀ (w0 w : World) (p : Nat) (lv nv : Value) (L : List LX.Pc) (t : Nat) (ns : List DC.Nd) (S : Nat → Prop) (d : Nat), Rst w0 w p lv L t nv ns 0 0 S → t < L.length → L.length ≤ 1000000 → 2 * (L.drop t).length + 2 ≤ f → ns.length ≤ 2000 → d ≤ 25 →
  Calls Tryz.prog 62 #[.pointer (some ⟨p, 0, none⟩), .int .i64 (d : Int)] w (RbE w0 w p lv L nv ns S (DC.blk f d ns.length (L.drop t)))
theorem RbE.from {w0 w w1 w' : World} {p : Nat} {lv nv : Value} {L : List LX.Pc} {ns : List DC.Nd} {S : Nat → Prop} {r : DC.BR} {e : Ending} (hk : Kb w w1 (some p) nv.ownBlock) (h : RbE w0 w1 p lv L nv ns S r e w') : RbE w0 w p lv L nv ns S r e w' := by
  obtain ⟨z, t', nv', ns', k, l, he, hp, hkb, hn, hr⟩ := h
  refine ⟨z, t', nv', ns', k, l, he, hp.mono (fun g hg => hg.imp id fun hg => ⟨Nat.le_trans hk.size hg.1, hg.2⟩) (fun g hg => ?_), hk.trans hkb, ?_, hr⟩
  · rcases hg with hg | hg
    · exact hp.sb g (.inl hg)
    · exact hg.2
  · rcases hn with hn | hn
    · exact .inl hn
    · exact .inr fun g hg => Nat.le_trans hk.size (hn g hg)
theorem More.ofS {S : Nat → Prop} {w w' : World} (hs : ∀ g, S g → g < w.heap.size) (hz : w.heap.size ≤ w'.heap.size) : (∀ g, S g → More S w w' g) ∧ ∀ g, More S w w' g → g < w'.heap.size :=
  ⟨fun g hg => .inl hg, fun g hg => by
    rcases hg with h | h
    · exact Nat.lt_of_lt_of_le (hs g h) hz
    · exact h.2⟩
set_option maxHeartbeats 4000000 in
theorem runder_any {f : Nat} (hb : RbC f) {w0 w : World} {p : Nat} {lv nv : Value} {L : List LX.Pc} {t : Nat} {ns : List DC.Nd} {S : Nat → Prop} (h : Rst w0 w p lv L t nv ns 0 0 S) (x : LX.Pc) (d : Nat) (hd : d ≤ 24) (hL : L.length ≤ 1000000) (hf : 2 * (L.drop t).length + 2 ≤ f) (hN : ns.length ≤ 2000) :
    Calls Tryz.prog 96 #[.pointer (some ⟨p, 0, none⟩), .agg (pc x), .int .i64 (d : Int)] w (RbE w0 w p lv L nv ns S (DC.und f x.2.1 x.2.2.1 (d + 1) ns.length (L.drop t))) := by
  have BA := below_alloc w (.cells (pc x) 117)
  have HS := Lib.hid (h.calm BA)
  have HBA := Lib.hid (Kb.of_below BA (some p) nv.ownBlock)
  have HSB := Lib.hid h.sb
  have sx := Str.new w 117 (pc x)
  have x1 := sx.cell 1
  have x2 := sx.cell 2
  have c1 := HS.out.st.cell 1
  have c0 := HS.out.st.cell 0
  have HN := Lib.hid hN
  obtain ⟨al, cl, hal, _, _⟩ := h.rd.slice
  by_cases ht : t < L.length
  · obtain ⟨q, hq, hdr⟩ := dropt_at ht
    obtain ⟨b, off, cap, rfl, hq5⟩ := HS.out.at hq
    have q2 := hq5.c2
    obtain ⟨n, hn⟩ : ∃ n, L.length = n := ⟨_, rfl⟩
    have HLn := Lib.hid hn
    have HB := Lib.hid (fun (u : World) (k : Below _ _ u) => hb w0 u p _ nv L t ns S (d + 1) (HS.out.calm k) ht hL hf hN (by omega))
    have HU := Lib.hid (show DC.und f x.2.1 x.2.2.1 (d + 1) ns.length (L.drop t) = if q.2.2.1 ≤ x.2.2.1 then .bad 10 x.2.1 else DC.blk f (d + 1) ns.length (L.drop t) by
      unfold DC.und
      rw [hdr]
      by_cases hqx : q.2.2.1 ≤ x.2.2.1
      · rw [if_pos (by simpa [DC.low] using hqx), if_pos hqx]
      · rw [if_neg (by simpa [DC.low] using hqx), if_neg hqx])
    obtain ⟨A, hA⟩ : ∃ A, DC.und f x.2.1 x.2.2.1 (d + 1) ns.length (L.drop t) = A := ⟨_, rfl⟩
    rw [hA] at HU ⊢
    obtain ⟨xk, xn, xc, xt, xq⟩ := x
    obtain ⟨qk, qn, qc, qt, qq⟩ := q
    have htn : (t : Int) < (n : Int) := by omega
    have htb : decide ((n : Int) ≤ (t : Int)) = false := decide_eq_false (by omega)
    have htc : decide (n ≤ t) = false := decide_eq_false (by omega)
    have ht0 : (0 : Int) ≤ (t : Int) := by omega
    have hd1 : ((d + 1 : Nat) : Int) = (d : Int) + 1 := rfl
    unfold pc at HS HB HBA x1 x2 c0 c1 q2 ⊢
    simp only [List.getElem?_toArray, List.getElem?_cons_zero, List.getElem?_cons_succ] at HS HB HBA HU x1 x2 c0 c1 q2 ⊢
    rw [hn] at c0
    rw [hd1] at HB
    clear BA sx hq hdr hq5 hA hal hn h hf hN hb hd1
    by_cases hqx : qc ≤ xc
    · have HF := Lib.hid (fun (u : World) (k : Below _ _ u) => rfail_any (HS.out.calm k) 10 xn)
      have hqd : decide (qc ≤ xc) = true := decide_eq_true hqx
      rw [if_pos hqx] at HU
      clear HB
      go_enter Tryz.func96, Tryz.ntmps96
      go_wp2
      generalize w.alloc (.cells #[.int .i64 xk, .int .i64 xn, .int .i64 xc, .string ⟨xt.toArray⟩, .bool xq] 117) = W at *
      go_quiet (fail)
      go_wp2_with (go_at_call 63; refine (HF.out (W.drewN nq) (below_drewN _ _)).mono ?_; rintro e w2 ⟨rfl, hp, hk⟩)
      go_ret
      rw [HU.out]
      have hkk := (HBA.out.trans (Kb.of_below (below_drewN W nq) _ _)).trans hk
      obtain ⟨m1, m2⟩ := More.ofS HSB.out hkk.size
      exact ⟨0, t, nv, ns, 10, xn, rfl, hp.mono m1 m2, hkk, Near.refl _ _, rfl, rfl, ⟨[], (List.append_nil _).symm⟩, HN.out⟩
    · have hqd : decide (qc ≤ xc) = false := decide_eq_false hqx
      rw [if_neg hqx] at HU
      have HO := Lib.hid (fun (u : World) (e : Ending) (w' : World) (k : Kb w u (some p) nv.ownBlock) (he : RbE w0 u p (.slice (some ⟨b, off, none⟩) L.length cap) L nv ns S (DC.blk f (d + 1) ns.length (L.drop t)) e w') => RbE.from k he)
      rw [← HU.out] at HO HB
      go_enter Tryz.func96, Tryz.ntmps96
      go_wp2
      generalize w.alloc (.cells #[.int .i64 xk, .int .i64 xn, .int .i64 xc, .string ⟨xt.toArray⟩, .bool xq] 117) = W at *
      go_quiet (fail)
      go_wp2_with (go_at_call 62; refine (HB.out (W.drewN nq) (below_drewN _ _)).mono ?_; rintro e w2 he; replace he := HO.out _ _ _ (HBA.out.trans (Kb.of_below (below_drewN W nq) _ _)) he; obtain ⟨z, t', nv', ns', k, l, rfl, hp, hrest⟩ := he)
      go_ret
      exact ⟨z, t', nv', ns', k, l, rfl, hp, hrest⟩
  · have htl : t = L.length := by have := h.le; omega
    have HU : Hid (DC.und f x.2.1 x.2.2.1 (d + 1) ns.length (L.drop t) = .bad 10 x.2.1) := by
      show _ = _
      rw [htl, List.drop_length]; rfl
    rw [HU.out]
    subst hal
    obtain ⟨n, hn⟩ : ∃ n, L.length = n := ⟨_, rfl⟩
    rw [hn] at htl c0 HS
    have htb : decide ((n : Int) ≤ (t : Int)) = true := decide_eq_true (by omega)
    have htn : (n : Int) ≤ (t : Int) := by omega
    obtain ⟨xk, xn, xc, xt, xq⟩ := x
    have HF := Lib.hid (fun (u : World) (k : Below _ _ u) => rfail_any (HS.out.calm k) 10 xn)
    unfold pc at HS HF HBA x1 x2 c0 c1 ⊢
    simp only [List.getElem?_toArray, List.getElem?_cons_zero, List.getElem?_cons_succ] at HS HF HBA x1 x2 c0 c1 ⊢
    rw [hn]
    clear BA sx h hf hN hb ht
    subst htl
    go_enter Tryz.func96, Tryz.ntmps96
    go_wp2
    generalize w.alloc (.cells #[.int .i64 xk, .int .i64 xn, .int .i64 xc, .string ⟨xt.toArray⟩, .bool xq] 117) = W at *
    go_quiet (fail)
    go_wp2_with (go_at_call 63; refine (HF.out (W.drewN nq) (below_drewN _ _)).mono ?_; rintro e w2 ⟨rfl, hp, hk⟩)
    go_ret
    have hkk := (HBA.out.trans (Kb.of_below (below_drewN W nq) _ _)).trans hk
    obtain ⟨m1, m2⟩ := More.ofS HSB.out hkk.size
    exact ⟨0, _, nv, ns, 10, xn, rfl, hp.mono m1 m2, hkk, Near.refl _ _, rfl, rfl, ⟨[], (List.append_nil _).symm⟩, HN.out⟩
end Go.Proofs.YtgfhabofhefaaaaGreatDoor
namespace Go.Proofs.YtgfhabofhefaaaaGreatDoor
open Go.RowKit
abbrev bareT (y : DC.Nd) : Nv := (y, .slice none 0 0, .slice none 0 0)
structure TbS (w0 w wr : World) (p : Nat) (nv lv nv' kv v : Value) (x : LX.Pc) (L : List LX.Pc) (t : Nat) (ns : List DC.Nd) (fk fl : Int) (S Sk : Nat → Prop) (ks : List LX.B) (is : List Nat) : Prop where
  rs : Rst w0 wr p lv L t nv' ns fk fl Sk
  kb : Kb w wr (some p) nv.ownBlock
  nr : Near w nv nv'
  fi : Str wr w.heap.size 117 (pc x)
  keys : Own wr w.heap.size 9 kv (sv ks)
  kids : Own wr w.heap.size 3 v (nats is)
  sub : ∀ g, Sk g → More S w wr g
  ak : ∀ g, kv.ownBlock = some g → ¬ Sk g
  ai : ∀ g, v.ownBlock = some g → ¬ Sk g
  gz : w0.heap.size ≤ w.heap.size
section
variable {w0 w wr : World} {p : Nat} {nv lv nv' kv v : Value} {x : LX.Pc} {L : List LX.Pc} {t : Nat} {ns : List DC.Nd} {fk fl : Int} {S Sk : Nat → Prop} {ks : List LX.B} {is : List Nat}
theorem TbS.start (h : Rst w0 w p lv L t nv ns fk fl S) (x : LX.Pc) : TbS w0 w ((w.alloc (.cells (pc x) 117)).drew) p nv lv nv (.slice none 0 0) (.slice none 0 0) x L t ns fk fl S S [] [] := by
  have b := below_trans (below_alloc w (.cells (pc x) 117)) (below_drew _)
  exact ⟨h.calm b, Kb.of_below b _ _, Near.refl _ _, (Str.new w 117 (pc x)).below (below_drew _), Own.nil _ _ _, Own.nil _ _ _, fun g hg => .inl hg, (by intro g h; cases h), (by intro g h; cases h), h.bl.size⟩
theorem TbS.calm (h : TbS w0 w wr p nv lv nv' kv v x L t ns fk fl S Sk ks is) {w' : World} (hb : Below wr.heap.size wr w') : TbS w0 w w' p nv lv nv' kv v x L t ns fk fl S Sk ks is :=
  ⟨h.rs.calm hb, h.kb.trans (Kb.of_below hb _ _), h.nr, h.fi.below hb, h.keys.below hb, h.kids.below hb, fun g hg => (h.sub g hg).imp id fun hg => ⟨hg.1, Nat.lt_of_lt_of_le hg.2 hb.size⟩, h.ak, h.ai, h.gz⟩
theorem TbS.fed (h : TbS w0 w wr p nv lv nv' kv v x L t ns fk fl S Sk ks is) {w2 : World} {nv2 : Value} {t2 : Nat} {ns2 : List DC.Nd} {gk gl : Int} {S2 : Nat → Prop} (hk : Kb wr w2 (some p) nv'.ownBlock) (hp : Rst w0 w2 p lv L t2 nv2 ns2 gk gl S2) (hn : Near wr nv' nv2) (hs : ∀ g, S2 g → More Sk wr w2 g) :
    TbS w0 w w2 p nv lv nv2 kv v x L t2 ns2 gk gl S S2 ks is := by
  have hpf : p ≠ w.heap.size := h.rs.st.apart_str h.fi (by decide)
  refine ⟨hp, h.kb.near h.nr hk, h.nr.trans hn h.kb.size, h.fi.kb hk (fun e => hpf (Option.some.inj e).symm) ?_, h.keys.kb hk (h.keys.ne_str h.rs.st (by decide)) (h.keys.ne_nds h.rs.nd (by decide)).1, h.kids.kb hk (h.kids.ne_str h.rs.st (by decide)) (h.kids.ne_nds h.rs.nd (by decide)).1, fun g hg => ?_, fun g hg h2 => ?_, fun g hg h2 => ?_, h.gz⟩
  · intro e
    rcases h.rs.nd.off h.fi (by decide) with h1 | h1
    · rw [h1] at e; cases e
    · exact h1 e.symm
  · rcases hs g hg with hg | hg
    · rcases h.sub g hg with h1 | h1
      · exact .inl h1
      · exact .inr ⟨h1.1, Nat.lt_of_lt_of_le h1.2 hk.size⟩
    · exact .inr ⟨Nat.le_trans h.kb.size hg.1, hg.2⟩
  · rcases hs g h2 with h1 | h1
    · exact h.ak g hg h1
    · have := (h.keys.lt hg).2; omega
  · rcases hs g h2 with h1 | h1
    · exact h.ai g hg h1
    · have := (h.kids.lt hg).2; omega
theorem TbS.own_turn (h : TbS w0 w wr p nv lv nv' kv v x L t ns fk fl S Sk ks is) {w' : World} {u : Value} {e : TypeId} {xs : List Value} (hx : Own wr w.heap.size e u xs) (he1 : e ≠ 115) (he2 : e ≠ 48) (he3 : e ≠ 117) (hs : ∀ g, u.ownBlock = some g → ¬ Sk g) (hg : wr.grownBy w' u.ownBlock) :
    Rst w0 w' p lv L t nv' ns fk fl Sk ∧ Kb w w' (some p) nv.ownBlock ∧ Str w' w.heap.size 117 (pc x) := by
  have hkb := Kb.of_grown hg none
  have np : some p ≠ u.ownBlock := fun e1 => by
    rcases hx.ne_str h.rs.st (fun e => he1 e.symm) with h1 | h1
    · rw [h1] at e1; cases e1
    · exact h1 e1.symm
  have nf : some w.heap.size ≠ u.ownBlock := fun e1 => by
    rcases hx.ne_str h.fi (fun e => he3 e.symm) with h1 | h1
    · rw [h1] at e1; cases e1
    · exact h1 e1.symm
  exact ⟨h.rs.kb hkb (Far.none _ _) (Far.not hs) (by simp) np no_or (hx.ne_nds h.rs.nd he2).2 (by simp) (fun g hg => Nat.le_trans h.gz (hx.lt hg).1), h.kb.trans_new (q' := u.ownBlock) (Kb.of_grown hg _) (fun g hg => .inr (hx.lt hg).1), h.fi.kb hkb (by simp) nf⟩
theorem TbS.key (h : TbS w0 w wr p nv lv nv' kv v x L t ns fk fl S Sk ks is) {w' : World} {kv' : Value} {ks' : List LX.B} (hg : wr.grownBy w' kv.ownBlock) (ho : Own w' w.heap.size 9 kv' (sv ks')) (hn : Near wr kv kv') : TbS w0 w w' p nv lv nv' kv' v x L t ns fk fl S Sk ks' is := by
  obtain ⟨h1, h2, h3⟩ := h.own_turn h.keys (by decide) (by decide) (by decide) h.ak hg
  refine ⟨h1, h2, h.nr, h3, ho, h.kids.kb (Kb.of_grown hg none) no_or (h.kids.apart h.keys (by decide)), fun g hg' => (h.sub g hg').imp id fun h3 => ⟨h3.1, Nat.lt_of_lt_of_le h3.2 hg.size⟩, fun g hg' => ?_, h.ai, h.gz⟩
  rcases hn with hn | hn
  · exact h.ak g (by rw [← hn]; exact hg')
  · intro hs; have := hn g hg'; have := h.rs.sb g hs; omega
theorem TbS.kid (h : TbS w0 w wr p nv lv nv' kv v x L t ns fk fl S Sk ks is) {w' : World} {v' : Value} {is' : List Nat} (hg : wr.grownBy w' v.ownBlock) (ho : Own w' w.heap.size 3 v' (nats is')) (hn : Near wr v v') : TbS w0 w w' p nv lv nv' kv v' x L t ns fk fl S Sk ks is' := by
  obtain ⟨h1, h2, h3⟩ := h.own_turn h.kids (by decide) (by decide) (by decide) h.ai hg
  refine ⟨h1, h2, h.nr, h3, h.keys.kb (Kb.of_grown hg none) no_or (h.keys.apart h.kids (by decide)), ho, fun g hg' => (h.sub g hg').imp id fun h3 => ⟨h3.1, Nat.lt_of_lt_of_le h3.2 hg.size⟩, h.ak, fun g hg' => ?_, h.gz⟩
  rcases hn with hn | hn
  · exact h.ai g (by rw [← hn]; exact hg')
  · intro hs; have := hn g hg'; have := h.rs.sb g hs; omega
theorem TbS.push (h : TbS w0 w wr p nv lv nv' kv v x L t ns fk fl S Sk ks is) {vs : List Nv} (hvs : vs.map (·.1) = ns) (ho : Ownv wr w0.heap.size nv' vs) (hn : ∀ a ∈ vs, Nk wr w0.heap.size Sk a) {w1 : World} {nv2 : Value} {a : Nv} (hg : wr.grownBy w1 nv'.ownBlock) (ho' : Ownv w1 w0.heap.size nv2 (vs ++ [a])) (ha : Nk w1 w0.heap.size Sk a) (hnr : Near wr nv' nv2) :
    Str w1 p 115 #[lv, .int .i64 (t : Int), nv', .int .i64 fk, .int .i64 fl] ∧ TbS w0 w (w1.setCell ⟨p, 2, none⟩ nv2) p nv lv nv2 kv v x L t (ns ++ [a.1]) fk fl S Sk ks is := by
  subst hvs
  obtain ⟨s1, s2, s3⟩ := h.rs.push hn ho hg ho' ha
  exact ⟨s1, h.fed s3 s2 hnr fun g hg => .inl hg⟩
theorem TbS.rst (h : TbS w0 w wr p nv lv nv' kv v x L t ns fk fl S Sk ks is) (hS : ∀ g, S g → g < w.heap.size) : Rst w0 wr p lv L t nv' ns fk fl (More S w wr) :=
  h.rs.mono h.sub fun g hg => by
    rcases hg with hg | hg
    · exact Nat.lt_of_lt_of_le (hS g hg) h.kb.size
    · exact hg.2
end
end Go.Proofs.YtgfhabofhefaaaaGreatDoor
