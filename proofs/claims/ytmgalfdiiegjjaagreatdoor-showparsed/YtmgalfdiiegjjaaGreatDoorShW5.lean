/- The walk of the document's own walk: which nodes may be a document's. -/
import Derived.Test.YtmgalfdiiegjjaaGreatDoorShW4
namespace Go.Proofs.YtmgalfdiiegjjaaGreatDoor
open Go.RowKit

abbrev Niv := SH.Ni × Value × Value
/-- A node lies at b, from cell o on. -/
structure At6i (w : World) (b o : Nat) (x : Niv) : Prop where
  c0 : w.cell? ⟨b, o, none⟩ = some (.int .i64 x.1.kind)
  c1 : w.cell? ⟨b, o + 1, none⟩ = some (.int .i64 x.1.line)
  c2 : w.cell? ⟨b, o + 2, none⟩ = some (.string ⟨x.1.text.toArray⟩)
  c3 : w.cell? ⟨b, o + 3, none⟩ = some (.bool x.1.quoted)
  c4 : w.cell? ⟨b, o + 4, none⟩ = some x.2.1
  c5 : w.cell? ⟨b, o + 5, none⟩ = some x.2.2
theorem At6i.below {w w' : World} {b o : Nat} {x : Niv} (h : At6i w b o x) (hb : Below w.heap.size w w') : At6i w' b o x :=
  ⟨(hb.cell (cell_lt h.c0)).trans h.c0, (hb.cell (cell_lt h.c1)).trans h.c1, (hb.cell (cell_lt h.c2)).trans h.c2, (hb.cell (cell_lt h.c3)).trans h.c3, (hb.cell (cell_lt h.c4)).trans h.c4, (hb.cell (cell_lt h.c5)).trans h.c5⟩
/-- The slice value v reads, in w, as those nodes, whose kids are whatever numbers. -/
structure Rdi (w : World) (v : Value) (ns : List SH.Ni) : Prop where
  row : ∃ (vs : List Niv) (ao : Option Addr) (cap : Nat), vs.map (·.1) = ns ∧ v = .slice ao ns.length cap ∧ ns.length ≤ cap ∧ cap ≤ maxLen ∧ (ao = none → cap = 0) ∧ (∀ j x, vs[j]? = some x → ∃ b off, ao = some ⟨b, off, none⟩ ∧ At6i w b (off + j * 6) x) ∧ ∀ a ∈ vs, Rdv w a.2.1 (sv a.1.keys) ∧ Rdv w a.2.2 (ints a.1.kids)
theorem Rdi.below {w w' : World} {v : Value} {ns : List SH.Ni} (h : Rdi w v ns) (hb : Below w.heap.size w w') : Rdi w' v ns := by
  obtain ⟨vs, ao, cap, h1, h2, h3, h4, h5, h6, h7⟩ := h.row
  refine ⟨vs, ao, cap, h1, h2, h3, h4, h5, fun j x hx => ?_, fun a ha => ⟨(h7 a ha).1.below hb, (h7 a ha).2.below hb⟩⟩
  obtain ⟨b, off, e, c⟩ := h6 j x hx
  exact ⟨b, off, e, c.below hb⟩
theorem Rdi.slice {w : World} {v : Value} {ns : List SH.Ni} (h : Rdi w v ns) : ∃ ao cap, v = .slice ao ns.length cap ∧ ns.length ≤ maxLen := by
  obtain ⟨vs, ao, cap, h1, h2, h3, h4, _⟩ := h.row
  exact ⟨ao, cap, h2, by omega⟩
/-- One node of them. -/
theorem Rdi.at {w : World} {v : Value} {ns : List SH.Ni} (h : Rdi w v ns) {j : Nat} {x : SH.Ni} (hx : ns[j]? = some x) :
    ∃ b off cap ka kc ia ic, v = .slice (some ⟨b, off, none⟩) ns.length cap ∧ At6i w b (off + j * 6) (x, .slice ka x.keys.length kc, .slice ia x.kids.length ic) ∧ Rdv w (.slice ka x.keys.length kc) (sv x.keys) ∧ Rdv w (.slice ia x.kids.length ic) (ints x.kids) := by
  obtain ⟨vs, ao, cap, h1, h2, h3, h4, h5, h6, h7⟩ := h.row
  rw [← h1, List.getElem?_map] at hx
  obtain ⟨y, hy, rfl⟩ := Option.map_eq_some_iff.1 hx
  obtain ⟨b, off, rfl, c⟩ := h6 j y hy
  obtain ⟨k1, k2⟩ := h7 y (List.mem_of_getElem? hy)
  obtain ⟨x, va, vi⟩ := y
  obtain ⟨ka, kc, e1⟩ := k1.slice
  obtain ⟨ia, ic, e2⟩ := k2.slice
  simp only at e1 e2 k1 k2
  rw [sv_len] at e1
  rw [ints_len] at e2
  subst e1 e2
  exact ⟨b, off, cap, ka, kc, ia, ic, h2, c, k1, k2⟩
/-- Texts and keys are no longer than a text may be. -/
def Lens (ns : List SH.Ni) : Prop := ∀ x ∈ ns, x.text.length ≤ 9223372036854775807 ∧ ∀ k ∈ x.keys, k.length ≤ 9223372036854775807
def wv (o : Option Nat) : Int := match o with
  | none => -1
  | some m => m
theorem at_le {ns : List SH.Ni} {n : Nat} {l : List DC.Nd} (h : SH.At ns n l) (hl : l ≠ []) : n + l.length ≤ ns.length := by
  have hp := List.length_pos_iff.2 hl
  have h1 := h (l.length - 1) _ (List.getElem?_eq_getElem (by omega))
  obtain ⟨y, hy, _⟩ := Option.map_eq_some_iff.1 h1
  have := (List.getElem?_eq_some_iff.1 hy).1
  omega
theorem wk_le {ns : List SH.Ni} {f n d m : Nat} (h : SH.wk ns f n d = some m) : m ≤ ns.length := by
  obtain ⟨t, _, _, _, h4, h5⟩ := SH.wk_tree ns f _ _ _ h
  have h6 := at_le h5 (by cases t <;> simp [SH.flatT])
  rw [SH.flatT_len] at h6
  omega
def WkC (f : Nat) : Prop := ∀ (v : Value) (ns : List SH.Ni) (n d : Nat) (w : World), Rdi w v ns → Lens ns → f + d = 26 → n ≤ ns.length →
  Calls Tryz.prog 35 #[.agg #[v], .int .i64 (n : Int), .int .i64 (d : Int)] w fun e w' => e = .returned (.int .i64 (wv (SH.wk ns f n d))) ∧ Below w.heap.size w w'
set_option maxRecDepth 10000 in
set_option maxHeartbeats 16000000 in
theorem rwalk_all : ∀ f, WkC f := by
  intro f
  induction f with
  | zero =>
    intro v ns n d w hr hl hf hn
    obtain rfl : d = 26 := by omega
    obtain ⟨ao, cap, rfl, hm⟩ := hr.slice
    unfold maxLen at hm
    have HB := Lib.hid (below_alloc w (.cells #[.slice ao ns.length cap] 26))
    have s0 := (Str.new w 26 #[.slice ao ns.length cap]).cell 0
    rw [show wv (SH.wk ns 0 n 26) = -1 from rfl]
    obtain ⟨L, hL⟩ : ∃ L, ns.length = L := ⟨_, rfl⟩
    rw [hL] at hm hn HB s0 ⊢
    by_cases hnl : n < L
    · have h1 : ¬ (L : Int) ≤ (n : Int) := by omega
      clear hr hl hf hL hn
      go_enter Tryz.func35, Tryz.ntmps35
      go_wp2
      go_ret
      exact ⟨rfl, HB.out⟩
    · have h1 : (L : Int) ≤ (n : Int) := by omega
      clear hr hl hf hL hn
      go_enter Tryz.func35, Tryz.ntmps35
      go_wp2
      go_ret
      exact ⟨rfl, HB.out⟩
  | succ f ih =>
    intro v ns n d w hr hl hf hn
    have B1 := below_alloc w (.cells #[v] 26)
    have HB := Lib.hid B1
    have HS := Lib.hid (Str.new w 26 #[v])
    have HR := Lib.hid (hr.below B1)
    have HLN := Lib.hid hl
    have HIH := Lib.hid ih
    have HF := Lib.hid hf
    obtain ⟨A, HA⟩ : ∃ A, Hid (A = SH.wk ns (f + 1) n d) := ⟨_, Lib.hid rfl⟩
    rw [← HA.out]
    obtain ⟨RV, HRV⟩ : ∃ RV : Int, Hid (RV = wv A) := ⟨_, Lib.hid rfl⟩
    rw [← HRV.out]
    obtain ⟨ao, cap, hv, hm⟩ := hr.slice
    subst hv
    unfold maxLen at hm
    obtain ⟨L, hL⟩ : ∃ L, ns.length = L := ⟨_, rfl⟩
    have HL := Lib.hid hL
    rw [hL] at hm hn HB HS HR ⊢
    have s0 : (w.alloc (.cells #[.slice ao L cap] 26)).cell? ⟨w.heap.size, 0, none⟩ = some (.slice ao L cap) := HS.out.cell 0
    have hn9 : (n : Int) ≤ 9223372036854775807 := by omega
    clear B1 hr hl ih hL
    by_cases hnl : n < L
    · have h1 : ¬ (L : Int) ≤ (n : Int) := by omega
      have h1b : (n : Int) < (L : Int) := by omega
      have h10 : (0 : Int) ≤ (n : Int) := by omega
      have hn8 : (n : Int) + 1 ≤ 9223372036854775807 := by omega
      obtain ⟨x, hx⟩ : ∃ x, ns[n]? = some x := ⟨ns[n]'(by have := HL.out; omega), List.getElem?_eq_getElem _⟩
      by_cases hd : d ≤ 24
      · have h2 : ¬ (24 : Int) < (d : Int) := by omega
        obtain ⟨b, off, cap2, ka, kc, ia, ic, hv2, c6, k1, k2⟩ := HR.out.at hx
        simp only [Value.slice.injEq] at hv2
        obtain ⟨rfl, -, -⟩ := hv2
        have hlx := HLN.out x (List.mem_of_getElem? hx)
        have HX := Lib.hid hx
        obtain ⟨kd, ln, tx, q, ks, is⟩ := x
        simp only at c6 k1 k2 hlx
        have HFI := Lib.hid (rfits_any kd ln tx q ks is _ _ _ k1 k2 hlx.1 hlx.2)
        have HC6 := Lib.hid c6
        have HK2 := Lib.hid k2
        obtain ⟨FB, hFB⟩ : ∃ FB, SH.fits ⟨kd, ln, tx, q, ks, is⟩ = FB := ⟨_, rfl⟩
        rw [hFB] at HFI
        have HFB := Lib.hid hFB
        obtain ⟨d0, d1, d2, d3, d4, d5⟩ := c6
        simp only at d0 d1 d2 d3 d4 d5
        have him : is.length ≤ 9223372036854775807 := by have := k2.len_le; rw [ints_len] at this; unfold maxLen at this; omega
        clear k1 k2 hlx hx hFB hnl hd
        cases FB with
        | false =>
          have E : RV = -1 := by
            rw [HRV.out]
            rw [HA.out, SH.wk, HX.out]
            simp only
            rw [if_neg (fun h => by rw [HFB.out] at h; cases h.2)]
            rfl
          subst E
          go_enter Tryz.func35, Tryz.ntmps35
          go_wp2_with (go_at_call 63; refine HFI.out.mono ?_; rintro e w1 ⟨rfl, b1⟩)
          go_ret
          exact ⟨rfl, below_trans HB.out b1⟩
        | true =>
          have HFO : Hid (A = is.foldlM (SH.step ns f d) (n + 1)) := by
            show A = _
            rw [HA.out, SH.wk, HX.out]
            simp only
            rw [if_pos ⟨by omega, HFB.out⟩]
          obtain ⟨kn, hkn⟩ : ∃ kn, is.length = kn := ⟨_, rfl⟩
          have HKN := Lib.hid hkn
          rw [hkn] at him d5 HC6 HK2 HFI
          go_enter Tryz.func35, Tryz.ntmps35
          go_upto_region 3 with (go_at_call 63; refine HFI.out.mono ?_; rintro e w1 ⟨rfl, b1⟩)
          have HB1 := Lib.hid b1
          clear b1 d0 d1 d2 d3 d4 d5 s0 HFI
          generalize w.alloc (.cells #[.slice (some ⟨b, off, none⟩) L cap] 26) = W at *
          go_wp2
          go_loopg [7, 8] kn (fun g s7 s8 wx => ∃ (i m : Nat), i + g = kn ∧ s7 = .int .i64 (m : Int) ∧ s8 = .int .i64 (i : Int) ∧ m ≤ L ∧ Hid (Below W.heap.size W wx) ∧ Hid (A = (is.drop i).foldlM (SH.step ns f d) m))
          case atStart => exact ⟨0, n + 1, by omega, rfl, rfl, by omega, HB1, by rw [List.drop_zero]; exact HFO⟩
          case round =>
            clear HB1 HFO
            obtain ⟨i, m, hi, rfl, rfl, hmL, HB1, HFO⟩ := hrel
            have e0 : wr.cell? ⟨w.heap.size, 0, none⟩ = some (.slice (some ⟨b, off, none⟩) L cap) := (HS.out.below HB1.out).cell 0
            have e5 : wr.cell? ⟨b, off + n * 6 + 5, none⟩ = some (.slice ia kn ic) := (HC6.out.below HB1.out).c5
            cases gk with
            | zero =>
              obtain rfl : i = kn := by omega
              have E : RV = (m : Int) := by
                rw [HRV.out]
                rw [HFO.out, List.drop_eq_nil_of_le (by have := HKN.out; omega)]; rfl
              subst E
              go_wp2
              go_ret
              exact ⟨rfl, below_trans HB.out HB1.out⟩
            | succ g =>
              have hik : (i : Int) < (kn : Int) := by omega
              have hi0 : (0 : Int) ≤ (i : Int) := by omega
              obtain ⟨k, hk⟩ : ∃ k, is[i]? = some k := ⟨is[i]'(by have := HKN.out; omega), List.getElem?_eq_getElem _⟩
              have hki : (ints is)[i]? = some (.int .i64 k) := by simp [ints, hk]
              obtain ⟨b3, o3, c3, e3, u3⟩ := (HK2.out.below HB1.out).atv hki
              simp only [Value.slice.injEq] at e3
              obtain ⟨rfl, -, -⟩ := e3
              have hdr : is.drop i = k :: is.drop (i + 1) := by
                have h9 := List.getElem?_eq_some_iff.1 hk
                rw [List.drop_eq_getElem_cons h9.1, h9.2]
              have HF2 : Hid (A = (SH.step ns f d m k).bind fun m2 => (is.drop (i + 1)).foldlM (SH.step ns f d) m2) := by
                show A = _
                rw [HFO.out, hdr, List.foldlM_cons]; rfl
              clear hk hki hdr HFO
              by_cases hkm : k = (m : Int)
              · subst hkm
                obtain ⟨O, hO⟩ : ∃ O, SH.wk ns f m (d + 1) = O := ⟨_, rfl⟩
                have HO := Lib.hid hO
                have HW := Lib.hid (HIH.out _ ns m (d + 1) wr (HR.out.below HB1.out) HLN.out (by have := HF.out; omega) (by have := HL.out; omega))
                rw [hO] at HW
                have hdi : ((d + 1 : Nat) : Int) = (d : Int) + 1 := rfl
                rw [hdi] at HW
                have hdm : (d : Int) + 1 ≤ 9223372036854775807 := by have := HF.out; omega
                clear hO hdi
                cases O with
                | none =>
                  simp only [wv] at HW
                  have E : RV = -1 := by
                    rw [HRV.out]
                    rw [HF2.out]; unfold SH.step; rw [if_pos rfl, HO.out]; rfl
                  subst E
                  go_wp2_with (go_at_call 35; refine HW.out.mono ?_; rintro e w2 ⟨rfl, b2⟩)
                  go_ret
                  exact ⟨rfl, below_trans HB.out (below_trans HB1.out b2)⟩
                | some m2 =>
                  simp only [wv] at HW
                  have hm2 := wk_le HO.out
                  have HML := Lib.hid hm2
                  have E : Hid (A = (is.drop (i + 1)).foldlM (SH.step ns f d) m2) := by
                    show A = _
                    rw [HF2.out]; unfold SH.step; rw [if_pos rfl, HO.out]; rfl
                  obtain ⟨Z, hZ⟩ : ∃ Z : Int, (m2 : Int) = Z := ⟨_, rfl⟩
                  have hn0 : decide (Z < 0) = false := decide_eq_false (by omega)
                  have HZZ := Lib.hid hZ
                  rw [hZ] at HW
                  clear hm2 hZ
                  go_wp2_with (go_at_call 35; refine HW.out.mono ?_; rintro e w2 ⟨rfl, b2⟩; have HB2 := Lib.hid (below_trans HB1.out b2); clear b2)
                  go_roundg g
                  case rel => exact ⟨i + 1, m2, by omega, by rw [HZZ.out], by first | rfl | (simp; done), by have := HML.out; have := HL.out; omega, HB2, E⟩
                  case measure => omega
              · have hkb : (k != (m : Int)) = true := by simpa using hkm
                have E : RV = -1 := by
                  rw [HRV.out]
                  rw [HF2.out]; unfold SH.step; rw [if_neg hkm]; rfl
                subst E
                go_wp2
                go_ret
                exact ⟨rfl, below_trans HB.out HB1.out⟩
      · have h2 : (24 : Int) < (d : Int) := by omega
        have E : RV = -1 := by
          rw [HRV.out]
          rw [HA.out, SH.wk, hx]
          simp only
          rw [if_neg (fun h => hd h.1)]
          rfl
        subst E
        clear hx
        go_enter Tryz.func35, Tryz.ntmps35
        go_wp2
        go_ret
        exact ⟨rfl, HB.out⟩
    · have h1 : (L : Int) ≤ (n : Int) := by omega
      have E : RV = -1 := by
        rw [HRV.out]
        rw [HA.out, SH.wk, List.getElem?_eq_none (by have := HL.out; omega)]
        rfl
      subst E
      go_enter Tryz.func35, Tryz.ntmps35
      go_wp2
      go_ret
      exact ⟨rfl, HB.out⟩
end Go.Proofs.YtmgalfdiiegjjaaGreatDoor
