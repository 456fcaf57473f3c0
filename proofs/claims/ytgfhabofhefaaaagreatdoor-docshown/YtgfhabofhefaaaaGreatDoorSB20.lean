/- A part of the proof. -/
import Derived.Test.YtgfhabofhefaaaaGreatDoorSB19
import Derived.Deep.LoopGhost
import Derived.Deep.DeepCutAuto
import Derived.Deep.CutBlock
namespace Go.Proofs.YtgfhabofhefaaaaGreatDoor
open Go.RowKit
namespace CF
theorem lp_le {c : Cf} {g : List Int → Nat → Int → Int → Option Nat} (hg : ∀ kids next dom up m, g kids next dom up = some m → next ≤ c.brs.length → next ≤ m ∧ m ≤ c.brs.length) {dom up : Int} :
    ∀ (rest : List Int) (seen : List Br) (next m : Nat), lp g c dom up seen rest next = some m → next ≤ c.brs.length → next ≤ m ∧ m ≤ c.brs.length
  | [], _, _, _, h, hn => by
    rw [lp] at h
    cases h
    exact ⟨Nat.le_refl _, hn⟩
  | k0 :: r, seen, next, m, h, hn => by
    rw [lp] at h
    split at h
    · cases h
    split at h
    · cases h
    rename_i b hb
    split at h
    · cases h
    split at h
    · cases h
    rename_i m1 hm
    have hl := (List.getElem?_eq_some_iff.1 hb).1
    have h1 := hg _ _ _ _ _ hm (by omega)
    have h2 := lp_le hg r _ _ _ h h1.2
    exact ⟨by omega, h2.2⟩
theorem kf_le {c : Cf} : ∀ (f : Nat) (kids : List Int) (next : Nat) (dom up : Int) (m : Nat), kf c f kids next dom up = some m → next ≤ c.brs.length → next ≤ m ∧ m ≤ c.brs.length
  | 0, kids, next, _, _, m, h, hn => by
    rw [kf] at h
    split at h
    · cases h; exact ⟨Nat.le_refl _, hn⟩
    · cases h
  | f + 1, kids, next, dom, up, m, h, hn => by
    rw [kf] at h
    exact lp_le (fun kids next dom up m => kf_le f kids next dom up m) kids [] next m h hn
def Led (c : Cf) (kids : List Int) (i : Nat) (seen : List Br) : Prop := seen.length = i ∧ ∀ (j : Nat) (b : Br), seen[j]? = some b → ∃ n : Nat, kids[j]? = some (n : Int) ∧ c.brs[n]? = some b
theorem Led.nil (c : Cf) (kids : List Int) : Led c kids 0 [] := ⟨rfl, by simp⟩
theorem Led.more {c : Cf} {kids : List Int} {i : Nat} {seen : List Br} (h : Led c kids i seen) {n : Nat} {b : Br} (hk : kids[i]? = some (n : Int)) (hb : c.brs[n]? = some b) : Led c kids (i + 1) (seen ++ [b]) := by
  obtain ⟨h1, h2⟩ := h
  refine ⟨by simp [h1], fun j x hx => ?_⟩
  rcases Nat.lt_trichotomy j seen.length with hj | hj | hj
  · rw [List.getElem?_append_left hj] at hx
    exact h2 j x hx
  · subst hj
    rw [List.getElem?_append_right (Nat.le_refl _), Nat.sub_self] at hx
    cases hx
    exact ⟨n, by rw [h1]; exact hk, hb⟩
  · rw [List.getElem?_eq_none (by simp; omega)] at hx
    cases hx
end CF
theorem lp_num {c : CF.Cf} {g : List Int → Nat → Int → Int → Option Nat} {dom up k : Int} {seen : List CF.Br} {r : List Int} {n : Nat} (h : k ≠ (n : Int)) : CF.lp g c dom up seen (k :: r) n = none := by rw [CF.lp, if_pos h]
theorem lp_end {c : CF.Cf} {g : List Int → Nat → Int → Int → Option Nat} {dom up : Int} {seen : List CF.Br} {r : List Int} {n : Nat} (h : c.brs.length ≤ n) : CF.lp g c dom up seen ((n : Int) :: r) n = none := by
  rw [CF.lp, if_neg (by simp), List.getElem?_eq_none h]
theorem lp_at {c : CF.Cf} {g : List Int → Nat → Int → Int → Option Nat} {dom up : Int} {seen : List CF.Br} {r : List Int} {n : Nat} {b : CF.Br} (h : c.brs[n]? = some b) :
    CF.lp g c dom up seen ((n : Int) :: r) n = if CF.fits b dom up = false ∨ seen.any (CF.met b) = true then none else match g b.kids (n + 1) dom n with
          | none => none
          | some m => CF.lp g c dom up (seen ++ [b]) r m := by
  rw [CF.lp, if_neg (by simp), h]
  rfl
theorem any_take {α : Type} {p : α → Bool} {l : List α} {j : Nat} {x : α} (h : (l.take j).any p = false) (hx : l[j]? = some x) (hp : p x = false) : (l.take (j + 1)).any p = false := by
  rw [List.take_add_one, hx, List.any_append, h]
  simp [hp]
theorem any_at {α : Type} {p : α → Bool} {l : List α} {j : Nat} {x : α} (hx : l[j]? = some x) (hp : p x = true) : l.any p = true := List.any_eq_true.2 ⟨x, List.mem_of_getElem? hx, hp⟩
theorem At13.below {w w' : World} {b o : Nat} {x : CF.Br} {kv : Value} (h : At13 w b o x kv) (hb : Below w.heap.size w w') : At13 w' b o x kv :=
  ⟨(hb.cell (cell_lt h.c0)).trans h.c0, (hb.cell (cell_lt h.c1)).trans h.c1, (hb.cell (cell_lt h.c2)).trans h.c2, (hb.cell (cell_lt h.c3)).trans h.c3, (hb.cell (cell_lt h.c4)).trans h.c4, (hb.cell (cell_lt h.c5)).trans h.c5, (hb.cell (cell_lt h.c6)).trans h.c6, (hb.cell (cell_lt h.c7)).trans h.c7, (hb.cell (cell_lt h.c8)).trans h.c8, (hb.cell (cell_lt h.c9)).trans h.c9, (hb.cell (cell_lt h.c10)).trans h.c10, (hb.cell (cell_lt h.c11)).trans h.c11, (hb.cell (cell_lt h.c12)).trans h.c12⟩
def KfC (f : Nat) : Prop := ∀ (c : CF.Cf) (vd vb vk : Value) (kids : List Int) (next d : Nat) (dom up : Int) (w : World), RdD w vd c.doms → RdB w vb c.brs → Rdv w vk (ints kids) → CfOk c → c.brs.length ≤ 500 → next ≤ c.brs.length → f + d = 9 →
  Calls Tryz.prog 41 #[.agg #[vd, vb], vk, .int .i64 (next : Int), .int .i64 dom, .int .i64 up, .int .i64 (d : Int)] w fun e w' => e = .returned (.int .i64 (wv (CF.kf c f kids next dom up))) ∧ Below w.heap.size w w'
set_option maxRecDepth 10000 in
set_option maxHeartbeats 8000000 in
theorem kidsFit_none (ao bo : Option Addr) (n1 c1 n2 c2 : Nat) (ka : Option Addr) (kc : Nat) (next d : Nat) (dom up : Int) (w : World) :
    Calls Tryz.prog 41 #[.agg #[.slice ao n1 c1, .slice bo n2 c2], .slice ka 0 kc, .int .i64 (next : Int), .int .i64 dom, .int .i64 up, .int .i64 (d : Int)] w fun e w' => e = .returned (.int .i64 (next : Int)) ∧ Below w.heap.size w w' := by
  have HB := Lib.hid (below_alloc w (.cells #[.slice ao n1 c1, .slice bo n2 c2] 33))
  go_enter Tryz.func41, Tryz.ntmps41
  go_wp2
  go_loopg [2, 13] 0 (fun g s2 s13 wx => s2 = .int .i64 (next : Int) ∧ s13 = .int .i64 0 ∧ Hid (Below w.heap.size w wx))
  case atStart => exact ⟨rfl, rfl, HB⟩
  case round =>
    clear HB
    obtain ⟨rfl, rfl, HB⟩ := hrel
    go_wp2
    go_ret
    exact ⟨rfl, HB.out⟩
set_option maxRecDepth 10000 in
set_option maxHeartbeats 32000000 in
theorem kidsFit_all : ∀ f, KfC f := by
  intro f
  induction f with
  | zero =>
    intro c vd vb vk kids next d dom up w hd hb hk hc h5 hn hf
    obtain rfl : d = 9 := by omega
    obtain ⟨ao, ca, rfl, -⟩ := hd.slice
    obtain ⟨bo, cb, rfl, -⟩ := hb.slice
    obtain ⟨ka, kc, rfl⟩ := hk.slice
    rw [ints_len]
    by_cases h0 : kids = []
    · subst h0
      rw [CF.kf, if_pos rfl]
      exact kidsFit_none ao bo _ _ _ _ ka kc next 9 dom up w
    · have hp := List.length_pos_iff.2 h0
      rw [CF.kf, if_neg h0]
      obtain ⟨K, hK⟩ : ∃ K, kids.length = K := ⟨_, rfl⟩
      rw [hK] at hp ⊢
      have hpi : (0 : Int) < (K : Int) := by omega
      simp only [wv]
      have HB := Lib.hid (below_alloc w (.cells #[.slice ao c.doms.length ca, .slice bo c.brs.length cb] 33))
      clear hd hb hk hc h5 hn hf h0 hK hp
      go_enter Tryz.func41, Tryz.ntmps41
      go_wp2
      go_ret
      exact ⟨rfl, HB.out⟩
  | succ f ih =>
    intro c vd vb vk kids next d dom up w hd hb hk hc h5 hn hf
    obtain ⟨ao, ca, rfl, -⟩ := hd.slice
    obtain ⟨bo, cb, rfl, hmb⟩ := hb.slice
    obtain ⟨ka, kc, rfl⟩ := hk.slice
    have hmk := hk.len_le
    rw [ints_len] at hk hmk ⊢
    unfold maxLen at hmk hmb
    by_cases h0 : kids = []
    · subst h0
      rw [CF.kf, CF.lp]
      exact kidsFit_none ao bo _ _ _ _ ka kc next d dom up w
    have hp := List.length_pos_iff.2 h0
    have HIH := Lib.hid ih
    obtain ⟨A, HA⟩ : ∃ A, Hid (A = CF.kf c (f + 1) kids next dom up) := ⟨_, Lib.hid rfl⟩
    rw [← HA.out]
    obtain ⟨RV, HRV⟩ : ∃ RV : Int, Hid (RV = wv A) := ⟨_, Lib.hid rfl⟩
    rw [← HRV.out]
    have HLP0 : Hid (A = CF.lp (CF.kf c f) c dom up [] kids next) := by show A = _; rw [HA.out, CF.kf]
    have HC := Lib.hid hc
    have HD := Lib.hid hd
    have HBR := Lib.hid hb
    have HK := Lib.hid hk
    have HF := Lib.hid hf
    obtain ⟨K, hK⟩ : ∃ K, kids.length = K := ⟨_, rfl⟩
    obtain ⟨L, hL⟩ : ∃ L, c.brs.length = L := ⟨_, rfl⟩
    obtain ⟨N1, hN1⟩ : ∃ L, c.doms.length = L := ⟨_, rfl⟩
    have HKL := Lib.hid hK
    have HL := Lib.hid hL
    rw [hK] at hp hmk HK ⊢
    rw [hL] at h5 hn hmb HBR ⊢
    rw [hN1] at HD ⊢
    have H5 := Lib.hid h5
    have hpi : (0 : Int) < (K : Int) := by omega
    have hd8 : ¬ (8 : Int) < (d : Int) := by omega
    have hdi : (d : Int) ≤ 1000000 := by omega
    have hmki : (K : Int) ≤ 9223372036854775807 := by omega
    have HB0 := Lib.hid (below_alloc w (.cells #[.slice ao N1 ca, .slice bo L cb] 33))
    have HS := Lib.hid (Str.new w 33 #[.slice ao N1 ca, .slice bo L cb])
    clear hd hb hk hc h5 hf h0 hK hL hN1 hp ih hmb hmk
    go_enter Tryz.func41, Tryz.ntmps41
    go_upto_region 3 with fail
    generalize w.alloc (.cells #[.slice ao N1 ca, .slice bo L cb] 33) = W at *
    go_wp2
    go_loopg [2, 13] K (fun g s2 s13 wx => ∃ (i m : Nat) (seen : List CF.Br), i + g = K ∧ s2 = .int .i64 (m : Int) ∧ s13 = .int .i64 (i : Int) ∧ m ≤ L ∧ Hid (Below W.heap.size W wx) ∧ Hid (CF.Led c kids i seen) ∧ Hid (A = CF.lp (CF.kf c f) c dom up seen (kids.drop i) m))
    case atStart => exact ⟨0, next, [], by omega, rfl, rfl, hn, Lib.hid (Below.refl _ _), Lib.hid (CF.Led.nil _ _), by rw [List.drop_zero]; exact HLP0⟩
    case round =>
      clear HLP0 hn
      obtain ⟨i, m, seen, hi, rfl, rfl, hm, HB1, HLD, HLP⟩ := hrel
      have g0 : wr.cell? ⟨w.heap.size, 0, none⟩ = some (.slice ao N1 ca) := (HS.out.below HB1.out).cell 0
      have g1 : wr.cell? ⟨w.heap.size, 1, none⟩ = some (.slice bo L cb) := (HS.out.below HB1.out).cell 1
      cases gk with
      | zero =>
        obtain rfl : i = K := by omega
        have E : RV = (m : Int) := by
          rw [HRV.out, HLP.out, List.drop_eq_nil_of_le (by have := HKL.out; omega), CF.lp]; rfl
        subst E
        go_wp2
        go_ret
        exact ⟨rfl, below_trans HB0.out HB1.out⟩
      | succ g =>
        have hik : (i : Int) < (K : Int) := by omega
        have hi0 : (0 : Int) ≤ (i : Int) := by omega
        have hm0 : (0 : Int) ≤ (m : Int) := by omega
        obtain ⟨k, hk⟩ : ∃ k, kids[i]? = some k := ⟨kids[i]'(by have := HKL.out; omega), List.getElem?_eq_getElem _⟩
        obtain ⟨b3, o3, c3, e3, u3⟩ := (HK.out.below (below_trans HB0.out HB1.out)).atv (j := i) (u := .int .i64 k) (by simp [ints, hk])
        simp only [Value.slice.injEq] at e3
        obtain ⟨rfl, -, -⟩ := e3
        have hdr : kids.drop i = k :: kids.drop (i + 1) := by
          have h9 := List.getElem?_eq_some_iff.1 hk
          rw [List.drop_eq_getElem_cons h9.1, h9.2]
        have HLP2 : Hid (A = CF.lp (CF.kf c f) c dom up seen (k :: kids.drop (i + 1)) m) := by show A = _; rw [HLP.out, hdr]
        have HKI := Lib.hid hk
        clear hk hdr HLP
        by_cases hkm : k = (m : Int)
        · subst hkm
          by_cases hml : m < L
          · have hmli : (m : Int) < (L : Int) := by omega
            have hmlj : ¬ (L : Int) ≤ (m : Int) := by omega
            have hm1 : (m : Int) ≤ 1000000 := by have := H5.out; omega
            obtain ⟨b, hb⟩ : ∃ b, c.brs[m]? = some b := ⟨c.brs[m]'(by have := HL.out; omega), List.getElem?_eq_getElem _⟩
            have hb' := hb
            obtain ⟨bq, off, cap2, ia, ic, hv2, a13, rk⟩ := (HBR.out.below (below_trans HB0.out HB1.out)).at hb
            simp only [Value.slice.injEq] at hv2
            obtain ⟨rfl, -, -⟩ := hv2
            have HFI := Lib.hid (fun u => fits_any b ia b.kids.length ic dom up u (HC.out.br b (List.mem_of_getElem? hb)))
            have HBK := Lib.hid rk
            have HAT := Lib.hid a13
            have HB := Lib.hid hb
            obtain ⟨FB, hFB⟩ : ∃ FB, CF.fits b dom up = FB := ⟨_, rfl⟩
            rw [hFB] at HFI
            have HFB := Lib.hid hFB
            obtain ⟨bk, bv, ba, bd, bu, bh, ⟨rn, ru, rl, rr, rs, rx⟩, bi⟩ := b
            unfold brA at HFI
            simp only at HFI a13 HBK HAT
            obtain ⟨BN, hBN⟩ : ∃ BN, bi.length = BN := ⟨_, rfl⟩
            rw [hBN] at HFI a13 HBK HAT
            obtain ⟨d0, d1, d2, d3, d4, d5, d6, d7, d8, d9, d10, d11, d12⟩ := a13
            simp only at d0 d1 d2 d3 d4 d5 d6 d7 d8 d9 d10 d11 d12
            clear rk hb hb' hFB hBN
            cases FB with
            | false =>
              have E : RV = -1 := by
                rw [HRV.out, HLP2.out, lp_at HB.out, if_pos (.inl HFB.out)]; rfl
              subst E
              go_wp2_with (go_at_call 70; refine (HFI.out _).mono ?_; rintro e w1 ⟨rfl, b1⟩)
              go_ret
              exact ⟨rfl, below_trans HB0.out (below_trans HB1.out b1)⟩
            | true =>
              have HLP3 : Hid (A = if seen.any (CF.met ⟨bk, bv, ba, bd, bu, bh, ⟨rn, ru, rl, rr, rs, rx⟩, bi⟩) = true then none else match CF.kf c f bi (m + 1) dom m with
                  | none => none
                  | some m' => CF.lp (CF.kf c f) c dom up (seen ++ [⟨bk, bv, ba, bd, bu, bh, ⟨rn, ru, rl, rr, rs, rx⟩, bi⟩]) (kids.drop (i + 1)) m') := by
                show A = _
                rw [HLP2.out, lp_at HB.out]
                simp only [HFB.out, Bool.true_eq_false, false_or]
              go_upto_region 8 with (go_at_call 70; refine (HFI.out _).mono ?_; rintro e w1 ⟨rfl, b1⟩)
              have B1 := Lib.hid (below_trans HB1.out b1)
              have g1' := (b1.cell (cell_lt g1)).trans g1
              clear d0 d1 d2 d3 d4 d5 d6 d7 d8 d9 d10 d11 d12
              obtain ⟨d0, d1, d2, d3, d4, d5, d6, d7, d8, d9, d10, d11, d12⟩ := HAT.out.below b1
              simp only at d0 d1 d2 d3 d4 d5 d6 d7 d8 d9 d10 d11 d12
              have HSB := Lib.hid (Str.new w1 92 #[.string ⟨bk.toArray⟩, .string ⟨bv.toArray⟩, .bool ba, .int .i64 bd, .int .i64 bu, .bool bh, .string ⟨rn.toArray⟩, .int .i64 ru, .int .i64 rl, .float .f64 rr, .bool rs, .bool rx, .slice ia BN ic])
              have HB2 := Lib.hid (below_trans B1.out (below_alloc w1 (.cells #[.string ⟨bk.toArray⟩, .string ⟨bv.toArray⟩, .bool ba, .int .i64 bd, .int .i64 bu, .bool bh, .string ⟨rn.toArray⟩, .int .i64 ru, .int .i64 rl, .float .f64 rr, .bool rs, .bool rx, .slice ia BN ic] 92)))
              have HBK3 := Lib.hid ((HBK.out.below b1).below (below_alloc w1 (.cells #[.string ⟨bk.toArray⟩, .string ⟨bv.toArray⟩, .bool ba, .int .i64 bd, .int .i64 bu, .bool bh, .string ⟨rn.toArray⟩, .int .i64 ru, .int .i64 rl, .float .f64 rr, .bool rs, .bool rx, .slice ia BN ic] 92)))
              obtain ⟨P, hP⟩ : ∃ P, w1.heap.size = P := ⟨_, rfl⟩
              rw [hP] at HSB
              clear g0 g1 b1 u3 HB1 HFI HAT HLP2 HBK
              go_upto_region 9 with fail
              generalize w1.alloc (.cells #[.string ⟨bk.toArray⟩, .string ⟨bv.toArray⟩, .bool ba, .int .i64 bd, .int .i64 bu, .bool bh, .string ⟨rn.toArray⟩, .int .i64 ru, .int .i64 rl, .float .f64 rr, .bool rs, .bool rx, .slice ia BN ic] 92) = w2 at *
              clear d0 d1 d2 d3 d4 d5 d6 d7 d8 d9 d10 d11 d12 g1' hP
              go_wp2
              go_loopg [15] i (fun g2 s15 wx => ∃ (j : Nat), j + g2 = i ∧ s15 = .int .i64 (j : Int) ∧ Hid (Below w2.heap.size w2 wx) ∧ Hid ((seen.take j).any (CF.met ⟨bk, bv, ba, bd, bu, bh, ⟨rn, ru, rl, rr, rs, rx⟩, bi⟩) = false))
              case atStart => exact ⟨0, by omega, rfl, Lib.hid (Below.refl _ _), Lib.hid (by simp)⟩
              case round =>
                obtain ⟨j, hj, rfl, HB3, HANY⟩ := hrel
                have g0 : wr.cell? ⟨w.heap.size, 0, none⟩ = some (.slice ao N1 ca) := (HS.out.below (below_trans HB2.out HB3.out)).cell 0
                have g1 : wr.cell? ⟨w.heap.size, 1, none⟩ = some (.slice (some ⟨bq, off, none⟩) L cb) := (HS.out.below (below_trans HB2.out HB3.out)).cell 1
                have p12 : wr.cell? ⟨P, 12, none⟩ = some (.slice ia BN ic) := (HSB.out.below HB3.out).cell 12
                cases gk with
                | succ g2 =>
                  have hji : (j : Int) < (i : Int) := by omega
                  have hjk : (j : Int) < (K : Int) := by omega
                  have hj0 : (0 : Int) ≤ (j : Int) := by omega
                  obtain ⟨x, hx⟩ : ∃ x, seen[j]? = some x := ⟨seen[j]'(by have := HLD.out.1; omega), List.getElem?_eq_getElem _⟩
                  obtain ⟨n, hkn, hxn⟩ := HLD.out.2 j x hx
                  have hnL : n < L := by rw [← HL.out]; exact (List.getElem?_eq_some_iff.1 hxn).1
                  have hnLi : (n : Int) < (L : Int) := by omega
                  have hn0 : (0 : Int) ≤ (n : Int) := by omega
                  have B4 := below_trans HB0.out (below_trans HB2.out HB3.out)
                  obtain ⟨b3', o3', c3', e3', u3⟩ := (HK.out.below B4).atv (j := j) (u := .int .i64 (n : Int)) (by simp [ints, hkn])
                  simp only [Value.slice.injEq, Option.some.injEq, Addr.mk.injEq, and_true] at e3'
                  obtain ⟨⟨rfl, rfl⟩, -, -⟩ := e3'
                  obtain ⟨bq', off', cap3, ja, jc, hv3, ax, -⟩ := (HBR.out.below B4).at hxn
                  simp only [Value.slice.injEq, Option.some.injEq, Addr.mk.injEq, and_true] at hv3
                  obtain ⟨⟨rfl, rfl⟩, -, -⟩ := hv3
                  have HX := Lib.hid hx
                  obtain ⟨XN, hXN⟩ : ∃ XN, x.kids.length = XN := ⟨_, rfl⟩
                  rw [hXN] at ax
                  obtain ⟨xk, xv, xa, xd, xu, xh, ⟨yn, yu, yl, yr, ys, yx⟩, xi⟩ := x
                  obtain ⟨x0, x1, x2, x3, x4, x5, x6, x7, x8, x9, x10, x11, x12⟩ := ax
                  simp only at x0 x1 x2 x3 x4 x5 x6 x7 x8 x9 x10 x11 x12
                  clear hx hkn hxn hXN B4
                  go_upto_region 12 with fail
                  go_cut [16] (fun s16 wx => ∃ a, s16 = .pointer (some ⟨a, 0, none⟩) ∧ Hid (Below w2.heap.size w2 wx) ∧ Hid (Str wx a 92 #[.string ⟨xk.toArray⟩, .string ⟨xv.toArray⟩, .bool xa, .int .i64 xd, .int .i64 xu, .bool xh, .string ⟨yn.toArray⟩, .int .i64 yu, .int .i64 yl, .float .f64 yr, .bool ys, .bool yx, .slice ja XN jc]))
                  case first =>
                    have A_x0 := fun o => ((below_alloc wr o).cell (cell_lt x0)).trans x0
                    have A_x1 := fun o => ((below_alloc wr o).cell (cell_lt x1)).trans x1
                    have A_x2 := fun o => ((below_alloc wr o).cell (cell_lt x2)).trans x2
                    have A_x3 := fun o => ((below_alloc wr o).cell (cell_lt x3)).trans x3
                    have A_x4 := fun o => ((below_alloc wr o).cell (cell_lt x4)).trans x4
                    have A_x5 := fun o => ((below_alloc wr o).cell (cell_lt x5)).trans x5
                    have A_x6 := fun o => ((below_alloc wr o).cell (cell_lt x6)).trans x6
                    have A_x7 := fun o => ((below_alloc wr o).cell (cell_lt x7)).trans x7
                    have A_x8 := fun o => ((below_alloc wr o).cell (cell_lt x8)).trans x8
                    have A_x9 := fun o => ((below_alloc wr o).cell (cell_lt x9)).trans x9
                    have A_x10 := fun o => ((below_alloc wr o).cell (cell_lt x10)).trans x10
                    have A_x11 := fun o => ((below_alloc wr o).cell (cell_lt x11)).trans x11
                    have A_x12 := fun o => ((below_alloc wr o).cell (cell_lt x12)).trans x12
                    have A_g1 := fun o => ((below_alloc wr o).cell (cell_lt g1)).trans g1
                    have A_u3 := fun o => ((below_alloc wr o).cell (cell_lt u3)).trans u3
                    have HB5 := Lib.hid (below_trans HB3.out (below_trans (below_alloc wr (.cells #[.string ⟨xk.toArray⟩, .string ⟨xv.toArray⟩, .bool xa, .int .i64 xd, .int .i64 xu, .bool xh, .string ⟨yn.toArray⟩, .int .i64 yu, .int .i64 yl, .float .f64 yr, .bool ys, .bool yx, .slice ja XN jc] 92)) (below_drew _)))
                    have HS5 := Lib.hid ((Str.new wr 92 #[.string ⟨xk.toArray⟩, .string ⟨xv.toArray⟩, .bool xa, .int .i64 xd, .int .i64 xu, .bool xh, .string ⟨yn.toArray⟩, .int .i64 yu, .int .i64 yl, .float .f64 yr, .bool ys, .bool yx, .slice ja XN jc]).below (below_drew _))
                    go_region
                    go_wp2_with fail
                    go_meet
                    exact ⟨_, rfl, HB5, HS5⟩
                  case rest =>
                    obtain ⟨a, rfl, HB4, HSX⟩ := hcut
                    clear x0 x1 x2 x3 x4 x5 x6 x7 x8 x9 x10 x11 x12 g0 g1 u3 HB3 p12
                    have y0 : wc.cell? ⟨a, 0, none⟩ = some (.string ⟨xk.toArray⟩) := HSX.out.cell 0
                    have y1 : wc.cell? ⟨a, 1, none⟩ = some (.string ⟨xv.toArray⟩) := HSX.out.cell 1
                    have y2 : wc.cell? ⟨a, 2, none⟩ = some (.bool xa) := HSX.out.cell 2
                    have q0 : wc.cell? ⟨P, 0, none⟩ = some (.string ⟨bk.toArray⟩) := (HSB.out.below HB4.out).cell 0
                    have q1 : wc.cell? ⟨P, 1, none⟩ = some (.string ⟨bv.toArray⟩) := (HSB.out.below HB4.out).cell 1
                    have q2 : wc.cell? ⟨P, 2, none⟩ = some (.bool ba) := (HSB.out.below HB4.out).cell 2
                    by_cases hk : xk = bk
                    · subst hk
                      by_cases hv : xv = bv
                      · subst hv
                        by_cases ha : xa = ba
                        · subst ha
                          have E : RV = -1 := by
                            rw [HRV.out, HLP3.out, if_pos (any_at HX.out (by simp [CF.met]))]; rfl
                          subst E
                          have hab : (xa == xa) = true := by simp
                          go_wp2
                          go_ret
                          exact ⟨rfl, below_trans HB0.out (below_trans HB2.out HB4.out)⟩
                        · have hab : (xa == ba) = false := by simpa using ha
                          have HM : Hid (CF.met ⟨xk, xv, ba, bd, bu, bh, ⟨rn, ru, rl, rr, rs, rx⟩, bi⟩ ⟨xk, xv, xa, xd, xu, xh, ⟨yn, yu, yl, yr, ys, yx⟩, xi⟩ = false) := by show _ = _; simp [CF.met, ha]
                          have HA3 : Hid ((seen.take (j + 1)).any (CF.met ⟨xk, xv, ba, bd, bu, bh, ⟨rn, ru, rl, rr, rs, rx⟩, bi⟩) = false) := any_take HANY.out HX.out HM.out
                          go_wp2
                          go_roundg g2
                          case rel => exact ⟨j + 1, by omega, by first | rfl | (simp; done), HB4, HA3⟩
                          case measure => omega
                      · have hvb : (xv == bv) = false := by simpa using hv
                        have HM : Hid (CF.met ⟨xk, bv, ba, bd, bu, bh, ⟨rn, ru, rl, rr, rs, rx⟩, bi⟩ ⟨xk, xv, xa, xd, xu, xh, ⟨yn, yu, yl, yr, ys, yx⟩, xi⟩ = false) := by show _ = _; simp [CF.met, hv]
                        have HA3 : Hid ((seen.take (j + 1)).any (CF.met ⟨xk, bv, ba, bd, bu, bh, ⟨rn, ru, rl, rr, rs, rx⟩, bi⟩) = false) := any_take HANY.out HX.out HM.out
                        go_wp2
                        go_roundg g2
                        case rel => exact ⟨j + 1, by omega, by first | rfl | (simp; done), HB4, HA3⟩
                        case measure => omega
                    · have hkb : (xk == bk) = false := by simpa using hk
                      have HM : Hid (CF.met ⟨bk, bv, ba, bd, bu, bh, ⟨rn, ru, rl, rr, rs, rx⟩, bi⟩ ⟨xk, xv, xa, xd, xu, xh, ⟨yn, yu, yl, yr, ys, yx⟩, xi⟩ = false) := by show _ = _; simp [CF.met, hk]
                      have HA3 : Hid ((seen.take (j + 1)).any (CF.met ⟨bk, bv, ba, bd, bu, bh, ⟨rn, ru, rl, rr, rs, rx⟩, bi⟩) = false) := any_take HANY.out HX.out HM.out
                      go_wp2
                      go_roundg g2
                      case rel => exact ⟨j + 1, by omega, by first | rfl | (simp; done), HB4, HA3⟩
                      case measure => omega
                | zero =>
                  obtain rfl : j = i := by omega
                  have HAN2 : Hid (seen.any (CF.met ⟨bk, bv, ba, bd, bu, bh, ⟨rn, ru, rl, rr, rs, rx⟩, bi⟩) = false) := by
                    show _ = _
                    have := HANY.out
                    rwa [List.take_of_length_le (by have := HLD.out.1; omega)] at this
                  have HLP4 : Hid (A = match CF.kf c f bi (m + 1) dom m with
                      | none => none
                      | some m' => CF.lp (CF.kf c f) c dom up (seen ++ [⟨bk, bv, ba, bd, bu, bh, ⟨rn, ru, rl, rr, rs, rx⟩, bi⟩]) (kids.drop (j + 1)) m') := by
                    show A = _
                    rw [HLP3.out, if_neg (by rw [HAN2.out]; simp)]
                  have B4 := below_trans HB0.out (below_trans HB2.out HB3.out)
                  have HW := Lib.hid (HIH.out c (.slice ao N1 ca) (.slice (some ⟨bq, off, none⟩) L cb) (.slice ia BN ic) bi (m + 1) (d + 1) dom (m : Int) wr (HD.out.below B4) (HBR.out.below B4) (HBK3.out.below HB3.out) HC.out (by rw [HL.out]; exact H5.out) (by rw [HL.out]; omega) (by have := HF.out; omega))
                  obtain ⟨O, hO⟩ : ∃ O, CF.kf c f bi (m + 1) dom m = O := ⟨_, rfl⟩
                  have HO := Lib.hid hO
                  rw [hO, show ((m + 1 : Nat) : Int) = (m : Int) + 1 from rfl, show ((d + 1 : Nat) : Int) = (d : Int) + 1 from rfl] at HW
                  clear hO B4
                  cases O with
                  | none =>
                    simp only [wv] at HW
                    have E : RV = -1 := by
                      rw [HRV.out, HLP4.out, HO.out]; rfl
                    subst E
                    go_wp2_with (go_at_call 41; refine HW.out.mono ?_; rintro e w5 ⟨rfl, b5⟩)
                    go_ret
                    exact ⟨rfl, below_trans HB0.out (below_trans HB2.out (below_trans HB3.out b5))⟩
                  | some m2 =>
                    simp only [wv] at HW
                    have hm2 := CF.kf_le f bi (m + 1) dom m m2 HO.out (by rw [HL.out]; omega)
                    have HML : Hid (m2 ≤ L) := by show _ ≤ _; rw [← HL.out]; exact hm2.2
                    have E : Hid (A = CF.lp (CF.kf c f) c dom up (seen ++ [⟨bk, bv, ba, bd, bu, bh, ⟨rn, ru, rl, rr, rs, rx⟩, bi⟩]) (kids.drop (j + 1)) m2) := by
                      show A = _
                      rw [HLP4.out, HO.out]
                    have HLD2 := Lib.hid (HLD.out.more HKI.out HB.out)
                    obtain ⟨Z, hZ⟩ : ∃ Z : Int, (m2 : Int) = Z := ⟨_, rfl⟩
                    have hn0 : decide (Z < 0) = false := decide_eq_false (by omega)
                    have HZZ := Lib.hid hZ
                    rw [hZ] at HW
                    clear hm2 hZ
                    go_wp2_with (go_at_call 41; refine HW.out.mono ?_; rintro e w5 ⟨rfl, b5⟩; have HB6 := Lib.hid (below_trans (below_trans HB2.out HB3.out) b5); clear b5)
                    go_roundg g
                    case rel => exact ⟨j + 1, m2, _, by omega, by rw [HZZ.out], by first | rfl | (simp; done), HML.out, HB6, HLD2, E⟩
                    case measure => omega
          · have hmli : (L : Int) ≤ (m : Int) := by omega
            have E : RV = -1 := by
              rw [HRV.out, HLP2.out, lp_end (by have := HL.out; omega)]; rfl
            subst E
            go_wp2
            go_ret
            exact ⟨rfl, below_trans HB0.out HB1.out⟩
        · have hkb : (k != (m : Int)) = true := by simpa using hkm
          have E : RV = -1 := by
            rw [HRV.out, HLP2.out, lp_num hkm]; rfl
          subst E
          go_wp2
          go_ret
          exact ⟨rfl, below_trans HB0.out HB1.out⟩
end Go.Proofs.YtgfhabofhefaaaaGreatDoor
