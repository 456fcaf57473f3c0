/- The walk of ShowDocs. -/
import Derived.Test.YtmgalfdiiegjjaaDoorSeg49
import Derived.Test.YtmgalfdiiegjjaaDoorShS4
import Derived.Deep.RegionHeld3
namespace Go.Proofs.YtmgalfdiiegjjaaDoor
open Go.RowKit

set_option maxRecDepth 10000 in
set_option maxHeartbeats 32000000 in
theorem showDocs_walk (va : Value) (xs : List SH.Ni) (vb : Value) (ys : List SH.Ni) (w : World) (h1 : Rdi w va xs) (f1 : Lens xs) (h2 : Rdi w vb ys) (f2 : Lens ys) (hm : MaxIs w) :
    Calls Tryd.prog 3 #[.agg #[va], .agg #[vb]] w fun e w' => e = .returned (.bool true) ∧ Below w.heap.size w w' := by
  have HS0 := Lib.hid (Sb.start w va vb)
  have H1 := Lib.hid (h1.below HS0.out.bl)
  have H2 := Lib.hid (h2.below HS0.out.bl)
  have HM := Lib.hid (hm.below HS0.out.bl)
  have HF1 := Lib.hid f1
  have HF2 := Lib.hid f2
  obtain ⟨ao, cap, rfl, -⟩ := h1.slice
  obtain ⟨bo, cap', rfl, -⟩ := h2.slice
  obtain ⟨L, hL⟩ : ∃ L, xs.length = L := ⟨_, rfl⟩
  obtain ⟨M, hM⟩ : ∃ M, ys.length = M := ⟨_, rfl⟩
  rw [hL] at HS0 H1 H2 HM ⊢
  rw [hM] at HS0 H1 H2 HM ⊢
  have g0 := HS0.out.d0.cell 0
  have g1 := HS0.out.d1.cell 0
  simp only [List.getElem?_toArray, List.getElem?_cons_zero] at g0 g1
  clear h1 h2 hm f1 f2 hL hM
  go_enter Tryd.func3, Tryd.ntmps3
  go_upto_region 1 with fail
  generalize World.alloc (World.alloc _ _) _ = W at *
  have HAW := Lib.hid (fun (u : World) (hu : Below W.heap.size W u) => awake13 u (HM.out.below hu))
  have HH1 := Lib.hid (shheavy_any _ xs W H1.out HF1.out)
  have HH2 := Lib.hid (fun (u : World) (hu : Below W.heap.size W u) => shheavy_any _ ys u (H2.out.below hu) HF2.out)
  have HG := Lib.hid (fun (u : World) (hu : Below W.heap.size W u) => (⟨(hu.cell (cell_lt g0)).trans g0, (hu.cell (cell_lt g1)).trans g1⟩ : u.cell? ⟨w.heap.size, 0, none⟩ = some (.slice ao L cap) ∧ u.cell? ⟨w.heap.size + 1, 0, none⟩ = some (.slice bo M cap')))
  have HB := Lib.hid HS0.out.bl
  clear HS0
  go_wp2_with fail
  refine HH1.out.mono ?_
  rintro e w1 ⟨b1, rfl, hb1, hx1⟩
  have B1 := Lib.hid hb1
  obtain ⟨p0, p1⟩ := HG.out _ hb1
  have HX1 := Lib.hid hx1
  clear hb1 hx1
  cases b1 with
  | true =>
    go_wp2_with (go_at_call 6; refine (HAW.out _ B1.out).mono ?_; rintro e w9 ⟨rfl, b9⟩; have B9 := Lib.hid (below_trans B1.out b9); clear b9)
    go_ret
    exact ⟨rfl, below_trans HB.out B9.out⟩
  | false =>
    go_wp2_with fail
    refine (HH2.out _ B1.out).mono ?_
    rintro e w2 ⟨b2, rfl, hb2, hx2⟩
    have B2 := Lib.hid (below_trans B1.out hb2)
    have HX2 := Lib.hid hx2
    obtain ⟨q0, q1⟩ := HG.out _ B2.out
    clear hb2 hx2 p0 p1
    cases b2 with
    | true =>
      go_wp2_with (go_at_call 6; refine (HAW.out _ B2.out).mono ?_; rintro e w9 ⟨rfl, b9⟩; have B9 := Lib.hid (below_trans B2.out b9); clear b9)
      go_ret
      exact ⟨rfl, below_trans HB.out B9.out⟩
    | false =>
      obtain ⟨hn1, hl1⟩ := HX1.out (by first | trivial | rfl)
      obtain ⟨hn2, hl2⟩ := HX2.out (by first | trivial | rfl)
      have hL2 : Lens2 xs := fun x hx => by
        obtain ⟨a1, a2, a3, a4⟩ := hl1 x hx
        exact ⟨by omega, fun k hk => by have := a4 k hk; omega, by omega⟩
      obtain ⟨code, T, ht⟩ := SH.tx_some xs
      have HT1 := Lib.hid (shtext_any _ xs code T _ (H1.out.below B2.out) hL2 (HM.out.below B2.out) ht)
      have HT2 := Lib.hid (fun (u : World) (hu : Below W.heap.size W u) => shrtext_any _ xs code T u (H1.out.below hu) hL2.one ht)
      have HC1 := Lib.hid (fun (u : World) (hu : Below W.heap.size W u) => check_any _ xs u (H1.out.below hu) hL2 (HM.out.below hu))
      have HC2 := Lib.hid (fun (u : World) (hu : Below W.heap.size W u) => rcheck_any _ xs u (H1.out.below hu) hL2.one)
      have HE1 := Lib.hid (fun (u : World) (hu : Below W.heap.size W u) => shsame_any _ _ xs ys u (H1.out.below hu) (H2.out.below hu))
      have HE2 := Lib.hid (fun (u : World) (hu : Below W.heap.size W u) => shrsame_any _ _ xs ys u (H1.out.below hu) (H2.out.below hu))
      have HE3 := Lib.hid (fun (u : World) (hu : Below W.heap.size W u) => shsame_any _ _ xs xs u (H1.out.below hu) (H1.out.below hu))
      rw [SH.sameb_refl] at HE3
      obtain ⟨SB, hSB⟩ : ∃ SB, SH.sameb xs ys = SB := ⟨_, rfl⟩
      rw [hSB] at HE1 HE2
      obtain ⟨CB, hCB⟩ : ∃ CB, SH.chkb xs = CB := ⟨_, rfl⟩
      rw [hCB] at HC1 HC2
      clear hn1 hl1 hn2 hl2 hL2 ht hSB hCB HX1 HX2
      cases CB
      · rw [show okI false = 1 from rfl] at HC1
        go_upto_region 5 with (first
          | (go_at_call 8; refine (HT2.out _ B3.out).mono ?_; rintro e w4 ⟨v4, rfl, r4, b4⟩; have R4 := Lib.hid r4; have R3 := Lib.hid (R0.out.below b4); obtain ⟨ao4, cp4, rfl, -⟩ := r4; have B4 := Lib.hid (below_trans B3.out b4); clear b4)
          | (go_at_call 7; refine HT1.out.mono ?_; rintro e w3 ⟨v3, rfl, r3, b3⟩; have R0 := Lib.hid r3; obtain ⟨ao3, cp3, rfl, -⟩ := r3; have B3 := Lib.hid (below_trans B2.out b3); obtain ⟨j0, j1⟩ := HG.out _ B3.out; clear b3))
        have HR := Lib.hid (fun (u : World) (hu : Below w4.heap.size w4 u) => r1bytes_any _ _ T u (R3.out.below hu) (R4.out.below hu))
        have HW4 := Lib.hid (fun (u : World) (hu : Below w4.heap.size w4 u) => below_trans B4.out hu)
        clear j0 j1 q0 q1 g0 g1
        refine wp_region_held_drew (S := (fun u2 => u2.cell? ⟨w.heap.size, 0, none⟩ = some (.slice ao L cap) ∧ u2.cell? ⟨w.heap.size + 1, 0, none⟩ = some (.slice bo M cap'))) (by kernel_rfl) (HG.out _ (HW4.out _ (below_drew _))) ?_
        intro hS0
        refine wpAnyH_take (i := 0) (v := ?vq1) rfl (by kernel_rfl) (by kernel_rfl) (by kernel_rfl) (fun _ _ _ h => h) (Or.inl ⟨by rfl, ?hq1⟩) hS0 ?rq1
        case hq1 => intro x hSx; obtain ⟨q1, q2⟩ := hSx; go_simp; first | done | with_reducible rfl
        (try simp only [List.getElem_toArray, List.getElem_cons_zero, Act.put, List.setIfInBounds_toArray, List.set_cons_zero, List.set_cons_succ])
        refine wpAnyH_take (i := 3) (v := ?vq2) rfl (by kernel_rfl) (by kernel_rfl) (by kernel_rfl) (fun _ _ _ h => h) (Or.inl ⟨by rfl, ?hq2⟩) hS0 ?rq2
        case hq2 => intro x hSx; obtain ⟨q1, q2⟩ := hSx; go_simp; first | done | with_reducible rfl
        (try simp only [List.getElem_toArray, List.getElem_cons_zero, List.getElem_cons_succ, Act.put, List.setIfInBounds_toArray, List.set_cons_zero, List.set_cons_succ])
        refine wpAnyH_ready (rs := [1]) (by kernel_rfl) (by simp) ?_
        refine AllReadyH.cons rfl (fun K hK => ?_) AllReadyH.nil
        go_simp
        go_at_call 9
        refine (HC1.out _ (HW4.out _ (below_drew _))).mono ?_
        rintro e u1 ⟨rfl, b1⟩
        have Q1 := Lib.hid (below_trans (below_drew _) b1)
        clear b1
        refine hK.out _ _ (HG.out _ (HW4.out _ Q1.out)) (fun hS1 => ?_)
        clear hK K
        (try simp only [List.getElem_toArray, List.getElem_cons_zero, List.getElem_cons_succ, Act.put, List.setIfInBounds_toArray, List.set_cons_zero, List.set_cons_succ])
        refine wpAnyH_take (i := 2) (v := ?vq3) rfl (by kernel_rfl) (by kernel_rfl) (by kernel_rfl) (fun _ _ _ h => h) (Or.inl ⟨by rfl, ?hq3⟩) hS1 ?rq3
        case hq3 => intro x hSx; obtain ⟨q1, q2⟩ := hSx; go_simp; first | done | with_reducible rfl
        (try simp only [List.getElem_toArray, List.getElem_cons_zero, List.getElem_cons_succ, Act.put, List.setIfInBounds_toArray, List.set_cons_zero, List.set_cons_succ])
        refine wpAnyH_ready (rs := [4]) (by kernel_rfl) (by simp) ?_
        refine AllReadyH.cons rfl (fun K hK => ?_) AllReadyH.nil
        go_simp
        go_at_call 10
        refine (HC2.out _ (HW4.out _ Q1.out)).mono ?_
        rintro e u4 ⟨rfl, b4⟩
        have Q4 := Lib.hid (below_trans Q1.out b4)
        clear b4
        refine hK.out _ _ (HG.out _ (HW4.out _ Q4.out)) (fun hS2 => ?_)
        clear hK K
        (try simp only [List.getElem_toArray, List.getElem_cons_zero, List.getElem_cons_succ, Act.put, List.setIfInBounds_toArray, List.set_cons_zero, List.set_cons_succ])
        refine wpAnyH_take (i := 5) (v := ?vq4) rfl (by kernel_rfl) (by kernel_rfl) (by kernel_rfl) (fun _ _ _ h => h) (Or.inl ⟨by rfl, ?hq4⟩) hS2 ?rq4
        case hq4 => intro x hSx; obtain ⟨q1, q2⟩ := hSx; go_simp; first | done | with_reducible rfl
        (try simp only [List.getElem_toArray, List.getElem_cons_zero, List.getElem_cons_succ, Act.put, List.setIfInBounds_toArray, List.set_cons_zero, List.set_cons_succ])
        refine wpAnyH_take (i := 6) (v := ?vq5) rfl (by kernel_rfl) (by kernel_rfl) (by kernel_rfl) (fun _ _ _ h => h) (Or.inl ⟨by rfl, ?hq5⟩) hS2 ?rq5
        case hq5 => intro x hSx; obtain ⟨q1, q2⟩ := hSx; go_simp; first | done | with_reducible rfl
        (try simp only [List.getElem_toArray, List.getElem_cons_zero, List.getElem_cons_succ, Act.put, List.setIfInBounds_toArray, List.set_cons_zero, List.set_cons_succ])
        refine wpAnyH_take (i := 7) (v := ?vq6) rfl (by kernel_rfl) (by kernel_rfl) (by kernel_rfl) (fun _ _ _ h => h) (Or.inl ⟨by rfl, ?hq6⟩) hS2 ?rq6
        case hq6 => intro x hSx; obtain ⟨q1, q2⟩ := hSx; go_simp; first | done | with_reducible rfl
        (try simp only [List.getElem_toArray, List.getElem_cons_zero, List.getElem_cons_succ, Act.put, List.setIfInBounds_toArray, List.set_cons_zero, List.set_cons_succ])
        refine wpAnyH_take (i := 8) (v := ?vq7) rfl (by kernel_rfl) (by kernel_rfl) (by kernel_rfl) (fun _ _ _ h => h) (Or.inl ⟨by rfl, ?hq7⟩) hS2 ?rq7
        case hq7 => intro x hSx; obtain ⟨q1, q2⟩ := hSx; go_simp; first | done | with_reducible rfl
        (try simp only [List.getElem_toArray, List.getElem_cons_zero, List.getElem_cons_succ, Act.put, List.setIfInBounds_toArray, List.set_cons_zero, List.set_cons_succ])
        refine wpAnyH_ready (rs := [9]) (by kernel_rfl) (by simp) ?_
        refine AllReadyH.cons rfl (fun K hK => ?_) AllReadyH.nil
        go_simp
        go_at_call 11
        refine (HR.out _ Q4.out).mono ?_
        rintro e u9 ⟨rfl, hw9⟩
        replace hw9 := hw9.symm
        subst hw9
        have Q9 := Lib.hid Q4.out
        refine hK.out _ _ (HG.out _ (HW4.out _ Q9.out)) (fun hS3 => ?_)
        clear hK K
        (try simp only [List.getElem_toArray, List.getElem_cons_zero, List.getElem_cons_succ, Act.put, List.setIfInBounds_toArray, List.set_cons_zero, List.set_cons_succ])
        refine wpAnyH_take (i := 10) (v := ?vq8) rfl (by kernel_rfl) (by kernel_rfl) (by kernel_rfl) (fun _ _ _ h => h) (Or.inl ⟨by rfl, ?hq8⟩) hS3 ?rq8
        case hq8 => intro x hSx; obtain ⟨q1, q2⟩ := hSx; go_simp; first | done | with_reducible rfl
        (try simp only [List.getElem_toArray, List.getElem_cons_zero, List.getElem_cons_succ, Act.put, List.setIfInBounds_toArray, List.set_cons_zero, List.set_cons_succ])
        refine wpAnyH_take (i := 11) (v := ?vq9) rfl (by kernel_rfl) (by kernel_rfl) (by kernel_rfl) (fun _ _ _ h => h) (Or.inl ⟨by rfl, ?hq9⟩) hS3 ?rq9
        case hq9 => intro x hSx; obtain ⟨q1, q2⟩ := hSx; go_simp; first | done | with_reducible rfl
        (try simp only [List.getElem_toArray, List.getElem_cons_zero, List.getElem_cons_succ, Act.put, List.setIfInBounds_toArray, List.set_cons_zero, List.set_cons_succ])
        refine wpAnyH_take (i := 12) (v := ?vq10) rfl (by kernel_rfl) (by kernel_rfl) (by kernel_rfl) (fun _ _ _ h => h) (Or.inl ⟨by rfl, ?hq10⟩) hS3 ?rq10
        case hq10 => intro x hSx; obtain ⟨q1, q2⟩ := hSx; go_simp; first | done | with_reducible rfl
        (try simp only [List.getElem_toArray, List.getElem_cons_zero, List.getElem_cons_succ, Act.put, List.setIfInBounds_toArray, List.set_cons_zero, List.set_cons_succ])
        refine wpAnyH_take (i := 13) (v := ?vq11) rfl (by kernel_rfl) (by kernel_rfl) (by kernel_rfl) (fun _ _ _ h => h) (Or.inl ⟨by rfl, ?hq11⟩) hS3 ?rq11
        case hq11 => intro x hSx; obtain ⟨q1, q2⟩ := hSx; go_simp; first | done | with_reducible rfl
        (try simp only [List.getElem_toArray, List.getElem_cons_zero, List.getElem_cons_succ, Act.put, List.setIfInBounds_toArray, List.set_cons_zero, List.set_cons_succ])
        refine wpAnyH_take (i := 14) (v := ?vq12) rfl (by kernel_rfl) (by kernel_rfl) (by kernel_rfl) (fun _ _ _ h => h) (Or.inl ⟨by rfl, ?hq12⟩) hS3 ?rq12
        case hq12 => intro x hSx; obtain ⟨q1, q2⟩ := hSx; go_simp; first | done | with_reducible rfl
        (try simp only [List.getElem_toArray, List.getElem_cons_zero, List.getElem_cons_succ, Act.put, List.setIfInBounds_toArray, List.set_cons_zero, List.set_cons_succ])
        refine wpAnyH_take (i := 15) (v := ?vq13) rfl (by kernel_rfl) (by kernel_rfl) (by kernel_rfl) (fun _ _ _ h => h) (Or.inl ⟨by rfl, ?hq13⟩) hS3 ?rq13
        case hq13 => intro x hSx; obtain ⟨q1, q2⟩ := hSx; go_simp; first | done | with_reducible rfl
        (try simp only [List.getElem_toArray, List.getElem_cons_zero, List.getElem_cons_succ, Act.put, List.setIfInBounds_toArray, List.set_cons_zero, List.set_cons_succ])
        refine wpAnyH_take (i := 16) (v := ?vq14) rfl (by kernel_rfl) (by kernel_rfl) (by kernel_rfl) (fun _ _ _ h => h) (Or.inl ⟨by rfl, ?hq14⟩) hS3 ?rq14
        case hq14 => intro x hSx; obtain ⟨q1, q2⟩ := hSx; go_simp; first | done | with_reducible rfl
        (try simp only [List.getElem_toArray, List.getElem_cons_zero, List.getElem_cons_succ, Act.put, List.setIfInBounds_toArray, List.set_cons_zero, List.set_cons_succ])
        refine wpAnyH_take (i := 17) (v := ?vq15) rfl (by kernel_rfl) (by kernel_rfl) (by kernel_rfl) (fun _ _ _ h => h) (Or.inl ⟨by rfl, ?hq15⟩) hS3 ?rq15
        case hq15 => intro x hSx; obtain ⟨q1, q2⟩ := hSx; go_simp; first | done | with_reducible rfl
        (try simp only [List.getElem_toArray, List.getElem_cons_zero, List.getElem_cons_succ, Act.put, List.setIfInBounds_toArray, List.set_cons_zero, List.set_cons_succ])
        refine wpAnyH_take (i := 18) (v := ?vq16) rfl (by kernel_rfl) (by kernel_rfl) (by kernel_rfl) (fun _ _ _ h => h) (Or.inl ⟨by rfl, ?hq16⟩) hS3 ?rq16
        case hq16 => intro x hSx; obtain ⟨q1, q2⟩ := hSx; go_simp; first | done | with_reducible rfl
        (try simp only [List.getElem_toArray, List.getElem_cons_zero, List.getElem_cons_succ, Act.put, List.setIfInBounds_toArray, List.set_cons_zero, List.set_cons_succ])
        refine wpAnyH_take (i := 20) (v := ?vq17) rfl (by kernel_rfl) (by kernel_rfl) (by kernel_rfl) (fun _ _ _ h => h) (Or.inl ⟨by rfl, ?hq17⟩) hS3 ?rq17
        case hq17 => intro x hSx; obtain ⟨q1, q2⟩ := hSx; go_simp; first | done | with_reducible rfl
        (try simp only [List.getElem_toArray, List.getElem_cons_zero, List.getElem_cons_succ, Act.put, List.setIfInBounds_toArray, List.set_cons_zero, List.set_cons_succ])
        refine wpAnyH_take (i := 21) (v := ?vq18) rfl (by kernel_rfl) (by kernel_rfl) (by kernel_rfl) (fun _ _ _ h => h) (Or.inl ⟨by rfl, ?hq18⟩) hS3 ?rq18
        case hq18 => intro x hSx; obtain ⟨q1, q2⟩ := hSx; go_simp; first | done | with_reducible rfl
        (try simp only [List.getElem_toArray, List.getElem_cons_zero, List.getElem_cons_succ, Act.put, List.setIfInBounds_toArray, List.set_cons_zero, List.set_cons_succ])
        refine wpAnyH_ready (rs := [19]) (by kernel_rfl) (by simp) ?_
        refine AllReadyH.cons rfl (fun K hK => ?_) AllReadyH.nil
        go_simp
        go_at_call 12
        refine (HE1.out _ (HW4.out _ Q9.out)).mono ?_
        rintro e u19 ⟨rfl, b19⟩
        have Q19 := Lib.hid (below_trans Q9.out b19)
        clear b19
        refine hK.out _ _ (HG.out _ (HW4.out _ Q19.out)) (fun hS4 => ?_)
        clear hK K
        (try simp only [List.getElem_toArray, List.getElem_cons_zero, List.getElem_cons_succ, Act.put, List.setIfInBounds_toArray, List.set_cons_zero, List.set_cons_succ])
        refine wpAnyH_ready (rs := [22]) (by kernel_rfl) (by simp) ?_
        refine AllReadyH.cons rfl (fun K hK => ?_) AllReadyH.nil
        go_simp
        go_at_call 13
        refine (HE2.out _ (HW4.out _ Q19.out)).mono ?_
        rintro e u22 ⟨rfl, b22⟩
        have Q22 := Lib.hid (below_trans Q19.out b22)
        clear b22
        refine hK.out _ _ (HG.out _ (HW4.out _ Q22.out)) (fun hS5 => ?_)
        clear hK K
        (try simp only [List.getElem_toArray, List.getElem_cons_zero, List.getElem_cons_succ, Act.put, List.setIfInBounds_toArray, List.set_cons_zero, List.set_cons_succ])
        refine wpAnyH_take (i := 23) (v := ?vq19) rfl (by kernel_rfl) (by kernel_rfl) (by kernel_rfl) (fun _ _ _ h => h) (Or.inl ⟨by rfl, ?hq19⟩) hS5 ?rq19
        case hq19 => intro x hSx; obtain ⟨q1, q2⟩ := hSx; go_simp; first | done | with_reducible rfl
        (try simp only [List.getElem_toArray, List.getElem_cons_zero, List.getElem_cons_succ, Act.put, List.setIfInBounds_toArray, List.set_cons_zero, List.set_cons_succ])
        refine wpAnyH_take (i := 24) (v := ?vq20) rfl (by kernel_rfl) (by kernel_rfl) (by kernel_rfl) (fun _ _ _ h => h) (Or.inl ⟨by rfl, ?hq20⟩) hS5 ?rq20
        case hq20 => intro x hSx; obtain ⟨q1, q2⟩ := hSx; go_simp; first | done | with_reducible rfl
        (try simp only [List.getElem_toArray, List.getElem_cons_zero, List.getElem_cons_succ, Act.put, List.setIfInBounds_toArray, List.set_cons_zero, List.set_cons_succ])
        refine wpAnyH_take (i := 25) (v := ?vq21) rfl (by kernel_rfl) (by kernel_rfl) (by kernel_rfl) (fun _ _ _ h => h) (Or.inl ⟨by rfl, ?hq21⟩) hS5 ?rq21
        case hq21 => intro x hSx; obtain ⟨q1, q2⟩ := hSx; go_simp; first | done | with_reducible rfl
        (try simp only [List.getElem_toArray, List.getElem_cons_zero, List.getElem_cons_succ, Act.put, List.setIfInBounds_toArray, List.set_cons_zero, List.set_cons_succ])
        refine wpAnyH_take (i := 26) (v := ?vq22) rfl (by kernel_rfl) (by kernel_rfl) (by kernel_rfl) (fun _ _ _ h => h) (Or.inl ⟨by rfl, ?hq22⟩) hS5 ?rq22
        case hq22 => intro x hSx; obtain ⟨q1, q2⟩ := hSx; go_simp; first | done | with_reducible rfl
        (try simp only [List.getElem_toArray, List.getElem_cons_zero, List.getElem_cons_succ, Act.put, List.setIfInBounds_toArray, List.set_cons_zero, List.set_cons_succ])
        refine wpAnyH_take (i := 27) (v := ?vq23) rfl (by kernel_rfl) (by kernel_rfl) (by kernel_rfl) (fun _ _ _ h => h) (Or.inl ⟨by rfl, ?hq23⟩) hS5 ?rq23
        case hq23 => intro x hSx; obtain ⟨q1, q2⟩ := hSx; go_simp; first | done | with_reducible rfl
        (try simp only [List.getElem_toArray, List.getElem_cons_zero, List.getElem_cons_succ, Act.put, List.setIfInBounds_toArray, List.set_cons_zero, List.set_cons_succ])
        refine wpAnyH_ready (rs := [28]) (by kernel_rfl) (by simp) ?_
        refine AllReadyH.cons rfl (fun K hK => ?_) AllReadyH.nil
        go_simp
        go_at_call 12
        refine (HE3.out _ (HW4.out _ Q22.out)).mono ?_
        rintro e u28 ⟨rfl, b28⟩
        have Q28 := Lib.hid (below_trans Q22.out b28)
        clear b28
        refine hK.out _ _ (HG.out _ (HW4.out _ Q28.out)) (fun hS6 => ?_)
        clear hK K
        (try simp only [List.getElem_toArray, List.getElem_cons_zero, List.getElem_cons_succ, Act.put, List.setIfInBounds_toArray, List.set_cons_zero, List.set_cons_succ])
        refine wpAnyH_take (i := 29) (v := ?vq24) rfl (by kernel_rfl) (by kernel_rfl) (by kernel_rfl) (fun _ _ _ h => h) (Or.inl ⟨by rfl, ?hq24⟩) hS6 ?rq24
        case hq24 => intro x hSx; obtain ⟨q1, q2⟩ := hSx; go_simp; first | done | with_reducible rfl
        (try simp only [List.getElem_toArray, List.getElem_cons_zero, List.getElem_cons_succ, Act.put, List.setIfInBounds_toArray, List.set_cons_zero, List.set_cons_succ])
        refine wpAnyH_take (i := 30) (v := ?vq25) rfl (by kernel_rfl) (by kernel_rfl) (by kernel_rfl) (fun _ _ _ h => h) (Or.inl ⟨by rfl, ?hq25⟩) hS6 ?rq25
        case hq25 => intro x hSx; obtain ⟨q1, q2⟩ := hSx; go_simp; first | done | with_reducible rfl
        (try simp only [List.getElem_toArray, List.getElem_cons_zero, List.getElem_cons_succ, Act.put, List.setIfInBounds_toArray, List.set_cons_zero, List.set_cons_succ])
        refine wpAnyH_ready (rs := [31]) (by kernel_rfl) (by simp) ?_
        refine AllReadyH.cons rfl (fun K hK => ?_) AllReadyH.nil
        go_simp
        go_at_call 6
        refine (HAW.out _ (HW4.out _ Q28.out)).mono ?_
        rintro e u31 ⟨rfl, b31⟩
        have Q31 := Lib.hid (below_trans Q28.out b31)
        clear b31
        refine hK.out _ _ (HG.out _ (HW4.out _ Q31.out)) (fun hS7 => ?_)
        clear hK K
        (try simp only [List.getElem_toArray, List.getElem_cons_zero, List.getElem_cons_succ, Act.put, List.setIfInBounds_toArray, List.set_cons_zero, List.set_cons_succ])
        refine wpAnyH_take (i := 32) (v := ?vq26) rfl (by kernel_rfl) (by kernel_rfl) (by kernel_rfl) (fun _ _ _ h => h) (Or.inl ⟨by rfl, ?hq26⟩) hS7 ?rq26
        case hq26 => intro x hSx; obtain ⟨q1, q2⟩ := hSx; go_simp; first | done | with_reducible rfl
        (try simp only [List.getElem_toArray, List.getElem_cons_zero, List.getElem_cons_succ, Act.put, List.setIfInBounds_toArray, List.set_cons_zero, List.set_cons_succ])
        refine wpAnyH_take (i := 33) (v := ?vq27) rfl (by kernel_rfl) (by kernel_rfl) (by kernel_rfl) (fun _ _ _ h => h) (Or.inl ⟨by rfl, ?hq27⟩) hS7 ?rq27
        case hq27 => intro x hSx; obtain ⟨q1, q2⟩ := hSx; go_simp; first | done | with_reducible rfl
        (try simp only [List.getElem_toArray, List.getElem_cons_zero, List.getElem_cons_succ, Act.put, List.setIfInBounds_toArray, List.set_cons_zero, List.set_cons_succ])
        refine wpAnyH_done (by kernel_rfl) ?_ _
        go_wp2
        go_ret
        exact ⟨rfl, below_trans HB.out (HW4.out _ Q31.out)⟩
      · rw [show okI true = 0 from rfl] at HC1
        go_upto_region 5 with (first
          | (go_at_call 8; refine (HT2.out _ B3.out).mono ?_; rintro e w4 ⟨v4, rfl, r4, b4⟩; have R4 := Lib.hid r4; have R3 := Lib.hid (R0.out.below b4); obtain ⟨ao4, cp4, rfl, -⟩ := r4; have B4 := Lib.hid (below_trans B3.out b4); clear b4)
          | (go_at_call 7; refine HT1.out.mono ?_; rintro e w3 ⟨v3, rfl, r3, b3⟩; have R0 := Lib.hid r3; obtain ⟨ao3, cp3, rfl, -⟩ := r3; have B3 := Lib.hid (below_trans B2.out b3); obtain ⟨j0, j1⟩ := HG.out _ B3.out; clear b3))
        have HR := Lib.hid (fun (u : World) (hu : Below w4.heap.size w4 u) => r1bytes_any _ _ T u (R3.out.below hu) (R4.out.below hu))
        have HW4 := Lib.hid (fun (u : World) (hu : Below w4.heap.size w4 u) => below_trans B4.out hu)
        clear j0 j1 q0 q1 g0 g1
        refine wp_region_held_drew (S := (fun u2 => u2.cell? ⟨w.heap.size, 0, none⟩ = some (.slice ao L cap) ∧ u2.cell? ⟨w.heap.size + 1, 0, none⟩ = some (.slice bo M cap'))) (by kernel_rfl) (HG.out _ (HW4.out _ (below_drew _))) ?_
        intro hS0
        refine wpAnyH_take (i := 0) (v := ?vq28) rfl (by kernel_rfl) (by kernel_rfl) (by kernel_rfl) (fun _ _ _ h => h) (Or.inl ⟨by rfl, ?hq28⟩) hS0 ?rq28
        case hq28 => intro x hSx; obtain ⟨q1, q2⟩ := hSx; go_simp; first | done | with_reducible rfl
        (try simp only [List.getElem_toArray, List.getElem_cons_zero, Act.put, List.setIfInBounds_toArray, List.set_cons_zero, List.set_cons_succ])
        refine wpAnyH_take (i := 3) (v := ?vq29) rfl (by kernel_rfl) (by kernel_rfl) (by kernel_rfl) (fun _ _ _ h => h) (Or.inl ⟨by rfl, ?hq29⟩) hS0 ?rq29
        case hq29 => intro x hSx; obtain ⟨q1, q2⟩ := hSx; go_simp; first | done | with_reducible rfl
        (try simp only [List.getElem_toArray, List.getElem_cons_zero, List.getElem_cons_succ, Act.put, List.setIfInBounds_toArray, List.set_cons_zero, List.set_cons_succ])
        refine wpAnyH_ready (rs := [1]) (by kernel_rfl) (by simp) ?_
        refine AllReadyH.cons rfl (fun K hK => ?_) AllReadyH.nil
        go_simp
        go_at_call 9
        refine (HC1.out _ (HW4.out _ (below_drew _))).mono ?_
        rintro e u1 ⟨rfl, b1⟩
        have Q1 := Lib.hid (below_trans (below_drew _) b1)
        clear b1
        refine hK.out _ _ (HG.out _ (HW4.out _ Q1.out)) (fun hS1 => ?_)
        clear hK K
        (try simp only [List.getElem_toArray, List.getElem_cons_zero, List.getElem_cons_succ, Act.put, List.setIfInBounds_toArray, List.set_cons_zero, List.set_cons_succ])
        refine wpAnyH_take (i := 2) (v := ?vq30) rfl (by kernel_rfl) (by kernel_rfl) (by kernel_rfl) (fun _ _ _ h => h) (Or.inl ⟨by rfl, ?hq30⟩) hS1 ?rq30
        case hq30 => intro x hSx; obtain ⟨q1, q2⟩ := hSx; go_simp; first | done | with_reducible rfl
        (try simp only [List.getElem_toArray, List.getElem_cons_zero, List.getElem_cons_succ, Act.put, List.setIfInBounds_toArray, List.set_cons_zero, List.set_cons_succ])
        refine wpAnyH_ready (rs := [4]) (by kernel_rfl) (by simp) ?_
        refine AllReadyH.cons rfl (fun K hK => ?_) AllReadyH.nil
        go_simp
        go_at_call 10
        refine (HC2.out _ (HW4.out _ Q1.out)).mono ?_
        rintro e u4 ⟨rfl, b4⟩
        have Q4 := Lib.hid (below_trans Q1.out b4)
        clear b4
        refine hK.out _ _ (HG.out _ (HW4.out _ Q4.out)) (fun hS2 => ?_)
        clear hK K
        (try simp only [List.getElem_toArray, List.getElem_cons_zero, List.getElem_cons_succ, Act.put, List.setIfInBounds_toArray, List.set_cons_zero, List.set_cons_succ])
        refine wpAnyH_take (i := 5) (v := ?vq31) rfl (by kernel_rfl) (by kernel_rfl) (by kernel_rfl) (fun _ _ _ h => h) (Or.inl ⟨by rfl, ?hq31⟩) hS2 ?rq31
        case hq31 => intro x hSx; obtain ⟨q1, q2⟩ := hSx; go_simp; first | done | with_reducible rfl
        (try simp only [List.getElem_toArray, List.getElem_cons_zero, List.getElem_cons_succ, Act.put, List.setIfInBounds_toArray, List.set_cons_zero, List.set_cons_succ])
        refine wpAnyH_take (i := 6) (v := ?vq32) rfl (by kernel_rfl) (by kernel_rfl) (by kernel_rfl) (fun _ _ _ h => h) (Or.inl ⟨by rfl, ?hq32⟩) hS2 ?rq32
        case hq32 => intro x hSx; obtain ⟨q1, q2⟩ := hSx; go_simp; first | done | with_reducible rfl
        (try simp only [List.getElem_toArray, List.getElem_cons_zero, List.getElem_cons_succ, Act.put, List.setIfInBounds_toArray, List.set_cons_zero, List.set_cons_succ])
        refine wpAnyH_take (i := 7) (v := ?vq33) rfl (by kernel_rfl) (by kernel_rfl) (by kernel_rfl) (fun _ _ _ h => h) (Or.inl ⟨by rfl, ?hq33⟩) hS2 ?rq33
        case hq33 => intro x hSx; obtain ⟨q1, q2⟩ := hSx; go_simp; first | done | with_reducible rfl
        (try simp only [List.getElem_toArray, List.getElem_cons_zero, List.getElem_cons_succ, Act.put, List.setIfInBounds_toArray, List.set_cons_zero, List.set_cons_succ])
        refine wpAnyH_take (i := 8) (v := ?vq34) rfl (by kernel_rfl) (by kernel_rfl) (by kernel_rfl) (fun _ _ _ h => h) (Or.inl ⟨by rfl, ?hq34⟩) hS2 ?rq34
        case hq34 => intro x hSx; obtain ⟨q1, q2⟩ := hSx; go_simp; first | done | with_reducible rfl
        (try simp only [List.getElem_toArray, List.getElem_cons_zero, List.getElem_cons_succ, Act.put, List.setIfInBounds_toArray, List.set_cons_zero, List.set_cons_succ])
        refine wpAnyH_ready (rs := [9]) (by kernel_rfl) (by simp) ?_
        refine AllReadyH.cons rfl (fun K hK => ?_) AllReadyH.nil
        go_simp
        go_at_call 11
        refine (HR.out _ Q4.out).mono ?_
        rintro e u9 ⟨rfl, hw9⟩
        replace hw9 := hw9.symm
        subst hw9
        have Q9 := Lib.hid Q4.out
        refine hK.out _ _ (HG.out _ (HW4.out _ Q9.out)) (fun hS3 => ?_)
        clear hK K
        (try simp only [List.getElem_toArray, List.getElem_cons_zero, List.getElem_cons_succ, Act.put, List.setIfInBounds_toArray, List.set_cons_zero, List.set_cons_succ])
        refine wpAnyH_take (i := 10) (v := ?vq35) rfl (by kernel_rfl) (by kernel_rfl) (by kernel_rfl) (fun _ _ _ h => h) (Or.inl ⟨by rfl, ?hq35⟩) hS3 ?rq35
        case hq35 => intro x hSx; obtain ⟨q1, q2⟩ := hSx; go_simp; first | done | with_reducible rfl
        (try simp only [List.getElem_toArray, List.getElem_cons_zero, List.getElem_cons_succ, Act.put, List.setIfInBounds_toArray, List.set_cons_zero, List.set_cons_succ])
        refine wpAnyH_take (i := 11) (v := ?vq36) rfl (by kernel_rfl) (by kernel_rfl) (by kernel_rfl) (fun _ _ _ h => h) (Or.inl ⟨by rfl, ?hq36⟩) hS3 ?rq36
        case hq36 => intro x hSx; obtain ⟨q1, q2⟩ := hSx; go_simp; first | done | with_reducible rfl
        (try simp only [List.getElem_toArray, List.getElem_cons_zero, List.getElem_cons_succ, Act.put, List.setIfInBounds_toArray, List.set_cons_zero, List.set_cons_succ])
        refine wpAnyH_take (i := 12) (v := ?vq37) rfl (by kernel_rfl) (by kernel_rfl) (by kernel_rfl) (fun _ _ _ h => h) (Or.inl ⟨by rfl, ?hq37⟩) hS3 ?rq37
        case hq37 => intro x hSx; obtain ⟨q1, q2⟩ := hSx; go_simp; first | done | with_reducible rfl
        (try simp only [List.getElem_toArray, List.getElem_cons_zero, List.getElem_cons_succ, Act.put, List.setIfInBounds_toArray, List.set_cons_zero, List.set_cons_succ])
        refine wpAnyH_take (i := 13) (v := ?vq38) rfl (by kernel_rfl) (by kernel_rfl) (by kernel_rfl) (fun _ _ _ h => h) (Or.inl ⟨by rfl, ?hq38⟩) hS3 ?rq38
        case hq38 => intro x hSx; obtain ⟨q1, q2⟩ := hSx; go_simp; first | done | with_reducible rfl
        (try simp only [List.getElem_toArray, List.getElem_cons_zero, List.getElem_cons_succ, Act.put, List.setIfInBounds_toArray, List.set_cons_zero, List.set_cons_succ])
        refine wpAnyH_take (i := 14) (v := ?vq39) rfl (by kernel_rfl) (by kernel_rfl) (by kernel_rfl) (fun _ _ _ h => h) (Or.inl ⟨by rfl, ?hq39⟩) hS3 ?rq39
        case hq39 => intro x hSx; obtain ⟨q1, q2⟩ := hSx; go_simp; first | done | with_reducible rfl
        (try simp only [List.getElem_toArray, List.getElem_cons_zero, List.getElem_cons_succ, Act.put, List.setIfInBounds_toArray, List.set_cons_zero, List.set_cons_succ])
        refine wpAnyH_take (i := 15) (v := ?vq40) rfl (by kernel_rfl) (by kernel_rfl) (by kernel_rfl) (fun _ _ _ h => h) (Or.inl ⟨by rfl, ?hq40⟩) hS3 ?rq40
        case hq40 => intro x hSx; obtain ⟨q1, q2⟩ := hSx; go_simp; first | done | with_reducible rfl
        (try simp only [List.getElem_toArray, List.getElem_cons_zero, List.getElem_cons_succ, Act.put, List.setIfInBounds_toArray, List.set_cons_zero, List.set_cons_succ])
        refine wpAnyH_take (i := 16) (v := ?vq41) rfl (by kernel_rfl) (by kernel_rfl) (by kernel_rfl) (fun _ _ _ h => h) (Or.inl ⟨by rfl, ?hq41⟩) hS3 ?rq41
        case hq41 => intro x hSx; obtain ⟨q1, q2⟩ := hSx; go_simp; first | done | with_reducible rfl
        (try simp only [List.getElem_toArray, List.getElem_cons_zero, List.getElem_cons_succ, Act.put, List.setIfInBounds_toArray, List.set_cons_zero, List.set_cons_succ])
        refine wpAnyH_take (i := 17) (v := ?vq42) rfl (by kernel_rfl) (by kernel_rfl) (by kernel_rfl) (fun _ _ _ h => h) (Or.inl ⟨by rfl, ?hq42⟩) hS3 ?rq42
        case hq42 => intro x hSx; obtain ⟨q1, q2⟩ := hSx; go_simp; first | done | with_reducible rfl
        (try simp only [List.getElem_toArray, List.getElem_cons_zero, List.getElem_cons_succ, Act.put, List.setIfInBounds_toArray, List.set_cons_zero, List.set_cons_succ])
        refine wpAnyH_take (i := 18) (v := ?vq43) rfl (by kernel_rfl) (by kernel_rfl) (by kernel_rfl) (fun _ _ _ h => h) (Or.inl ⟨by rfl, ?hq43⟩) hS3 ?rq43
        case hq43 => intro x hSx; obtain ⟨q1, q2⟩ := hSx; go_simp; first | done | with_reducible rfl
        (try simp only [List.getElem_toArray, List.getElem_cons_zero, List.getElem_cons_succ, Act.put, List.setIfInBounds_toArray, List.set_cons_zero, List.set_cons_succ])
        refine wpAnyH_take (i := 20) (v := ?vq44) rfl (by kernel_rfl) (by kernel_rfl) (by kernel_rfl) (fun _ _ _ h => h) (Or.inl ⟨by rfl, ?hq44⟩) hS3 ?rq44
        case hq44 => intro x hSx; obtain ⟨q1, q2⟩ := hSx; go_simp; first | done | with_reducible rfl
        (try simp only [List.getElem_toArray, List.getElem_cons_zero, List.getElem_cons_succ, Act.put, List.setIfInBounds_toArray, List.set_cons_zero, List.set_cons_succ])
        refine wpAnyH_take (i := 21) (v := ?vq45) rfl (by kernel_rfl) (by kernel_rfl) (by kernel_rfl) (fun _ _ _ h => h) (Or.inl ⟨by rfl, ?hq45⟩) hS3 ?rq45
        case hq45 => intro x hSx; obtain ⟨q1, q2⟩ := hSx; go_simp; first | done | with_reducible rfl
        (try simp only [List.getElem_toArray, List.getElem_cons_zero, List.getElem_cons_succ, Act.put, List.setIfInBounds_toArray, List.set_cons_zero, List.set_cons_succ])
        refine wpAnyH_ready (rs := [19]) (by kernel_rfl) (by simp) ?_
        refine AllReadyH.cons rfl (fun K hK => ?_) AllReadyH.nil
        go_simp
        go_at_call 12
        refine (HE1.out _ (HW4.out _ Q9.out)).mono ?_
        rintro e u19 ⟨rfl, b19⟩
        have Q19 := Lib.hid (below_trans Q9.out b19)
        clear b19
        refine hK.out _ _ (HG.out _ (HW4.out _ Q19.out)) (fun hS4 => ?_)
        clear hK K
        (try simp only [List.getElem_toArray, List.getElem_cons_zero, List.getElem_cons_succ, Act.put, List.setIfInBounds_toArray, List.set_cons_zero, List.set_cons_succ])
        refine wpAnyH_ready (rs := [22]) (by kernel_rfl) (by simp) ?_
        refine AllReadyH.cons rfl (fun K hK => ?_) AllReadyH.nil
        go_simp
        go_at_call 13
        refine (HE2.out _ (HW4.out _ Q19.out)).mono ?_
        rintro e u22 ⟨rfl, b22⟩
        have Q22 := Lib.hid (below_trans Q19.out b22)
        clear b22
        refine hK.out _ _ (HG.out _ (HW4.out _ Q22.out)) (fun hS5 => ?_)
        clear hK K
        (try simp only [List.getElem_toArray, List.getElem_cons_zero, List.getElem_cons_succ, Act.put, List.setIfInBounds_toArray, List.set_cons_zero, List.set_cons_succ])
        refine wpAnyH_take (i := 23) (v := ?vq46) rfl (by kernel_rfl) (by kernel_rfl) (by kernel_rfl) (fun _ _ _ h => h) (Or.inl ⟨by rfl, ?hq46⟩) hS5 ?rq46
        case hq46 => intro x hSx; obtain ⟨q1, q2⟩ := hSx; go_simp; first | done | with_reducible rfl
        (try simp only [List.getElem_toArray, List.getElem_cons_zero, List.getElem_cons_succ, Act.put, List.setIfInBounds_toArray, List.set_cons_zero, List.set_cons_succ])
        refine wpAnyH_take (i := 24) (v := ?vq47) rfl (by kernel_rfl) (by kernel_rfl) (by kernel_rfl) (fun _ _ _ h => h) (Or.inl ⟨by rfl, ?hq47⟩) hS5 ?rq47
        case hq47 => intro x hSx; obtain ⟨q1, q2⟩ := hSx; go_simp; first | done | with_reducible rfl
        (try simp only [List.getElem_toArray, List.getElem_cons_zero, List.getElem_cons_succ, Act.put, List.setIfInBounds_toArray, List.set_cons_zero, List.set_cons_succ])
        refine wpAnyH_take (i := 25) (v := ?vq48) rfl (by kernel_rfl) (by kernel_rfl) (by kernel_rfl) (fun _ _ _ h => h) (Or.inl ⟨by rfl, ?hq48⟩) hS5 ?rq48
        case hq48 => intro x hSx; obtain ⟨q1, q2⟩ := hSx; go_simp; first | done | with_reducible rfl
        (try simp only [List.getElem_toArray, List.getElem_cons_zero, List.getElem_cons_succ, Act.put, List.setIfInBounds_toArray, List.set_cons_zero, List.set_cons_succ])
        refine wpAnyH_take (i := 26) (v := ?vq49) rfl (by kernel_rfl) (by kernel_rfl) (by kernel_rfl) (fun _ _ _ h => h) (Or.inl ⟨by rfl, ?hq49⟩) hS5 ?rq49
        case hq49 => intro x hSx; obtain ⟨q1, q2⟩ := hSx; go_simp; first | done | with_reducible rfl
        (try simp only [List.getElem_toArray, List.getElem_cons_zero, List.getElem_cons_succ, Act.put, List.setIfInBounds_toArray, List.set_cons_zero, List.set_cons_succ])
        refine wpAnyH_take (i := 27) (v := ?vq50) rfl (by kernel_rfl) (by kernel_rfl) (by kernel_rfl) (fun _ _ _ h => h) (Or.inl ⟨by rfl, ?hq50⟩) hS5 ?rq50
        case hq50 => intro x hSx; obtain ⟨q1, q2⟩ := hSx; go_simp; first | done | with_reducible rfl
        (try simp only [List.getElem_toArray, List.getElem_cons_zero, List.getElem_cons_succ, Act.put, List.setIfInBounds_toArray, List.set_cons_zero, List.set_cons_succ])
        refine wpAnyH_ready (rs := [28]) (by kernel_rfl) (by simp) ?_
        refine AllReadyH.cons rfl (fun K hK => ?_) AllReadyH.nil
        go_simp
        go_at_call 12
        refine (HE3.out _ (HW4.out _ Q22.out)).mono ?_
        rintro e u28 ⟨rfl, b28⟩
        have Q28 := Lib.hid (below_trans Q22.out b28)
        clear b28
        refine hK.out _ _ (HG.out _ (HW4.out _ Q28.out)) (fun hS6 => ?_)
        clear hK K
        (try simp only [List.getElem_toArray, List.getElem_cons_zero, List.getElem_cons_succ, Act.put, List.setIfInBounds_toArray, List.set_cons_zero, List.set_cons_succ])
        refine wpAnyH_take (i := 29) (v := ?vq51) rfl (by kernel_rfl) (by kernel_rfl) (by kernel_rfl) (fun _ _ _ h => h) (Or.inl ⟨by rfl, ?hq51⟩) hS6 ?rq51
        case hq51 => intro x hSx; obtain ⟨q1, q2⟩ := hSx; go_simp; first | done | with_reducible rfl
        (try simp only [List.getElem_toArray, List.getElem_cons_zero, List.getElem_cons_succ, Act.put, List.setIfInBounds_toArray, List.set_cons_zero, List.set_cons_succ])
        refine wpAnyH_take (i := 30) (v := ?vq52) rfl (by kernel_rfl) (by kernel_rfl) (by kernel_rfl) (fun _ _ _ h => h) (Or.inl ⟨by rfl, ?hq52⟩) hS6 ?rq52
        case hq52 => intro x hSx; obtain ⟨q1, q2⟩ := hSx; go_simp; first | done | with_reducible rfl
        (try simp only [List.getElem_toArray, List.getElem_cons_zero, List.getElem_cons_succ, Act.put, List.setIfInBounds_toArray, List.set_cons_zero, List.set_cons_succ])
        refine wpAnyH_ready (rs := [31]) (by kernel_rfl) (by simp) ?_
        refine AllReadyH.cons rfl (fun K hK => ?_) AllReadyH.nil
        go_simp
        go_at_call 6
        refine (HAW.out _ (HW4.out _ Q28.out)).mono ?_
        rintro e u31 ⟨rfl, b31⟩
        have Q31 := Lib.hid (below_trans Q28.out b31)
        clear b31
        refine hK.out _ _ (HG.out _ (HW4.out _ Q31.out)) (fun hS7 => ?_)
        clear hK K
        (try simp only [List.getElem_toArray, List.getElem_cons_zero, List.getElem_cons_succ, Act.put, List.setIfInBounds_toArray, List.set_cons_zero, List.set_cons_succ])
        refine wpAnyH_take (i := 32) (v := ?vq53) rfl (by kernel_rfl) (by kernel_rfl) (by kernel_rfl) (fun _ _ _ h => h) (Or.inl ⟨by rfl, ?hq53⟩) hS7 ?rq53
        case hq53 => intro x hSx; obtain ⟨q1, q2⟩ := hSx; go_simp; first | done | with_reducible rfl
        (try simp only [List.getElem_toArray, List.getElem_cons_zero, List.getElem_cons_succ, Act.put, List.setIfInBounds_toArray, List.set_cons_zero, List.set_cons_succ])
        refine wpAnyH_take (i := 33) (v := ?vq54) rfl (by kernel_rfl) (by kernel_rfl) (by kernel_rfl) (fun _ _ _ h => h) (Or.inl ⟨by rfl, ?hq54⟩) hS7 ?rq54
        case hq54 => intro x hSx; obtain ⟨q1, q2⟩ := hSx; go_simp; first | done | with_reducible rfl
        (try simp only [List.getElem_toArray, List.getElem_cons_zero, List.getElem_cons_succ, Act.put, List.setIfInBounds_toArray, List.set_cons_zero, List.set_cons_succ])
        refine wpAnyH_done (by kernel_rfl) ?_ _
        go_wp2
        go_ret
        exact ⟨rfl, below_trans HB.out (HW4.out _ Q31.out)⟩
end Go.Proofs.YtmgalfdiiegjjaaDoor
