/- A part of the proof. -/
import Derived.Test.YtgfhabofhefaaaaGreatDoorSB48
import Derived.Test.YtgfhabofhefaaaaGreatDoorSB38
import Derived.BigQuiet
import Derived.Deep.RegionHeld3
import Derived.Deep.CutBlock
import Derived.Deep.DeepCutAuto
namespace Go.Proofs.YtgfhabofhefaaaaGreatDoor
open Go.RowKit
set_option maxRecDepth 10000 in
set_option maxHeartbeats 16000000 in
theorem tshow_list {s : Nat} (ih : SwC s) (k : SH.Fo) (hs : SH.sizeF k ≤ s) (ns : List SH.Ni) (n c : Nat) (w0 wa w : World) (vd v : Value) (bs : List UInt8) (hr : Rdi w0 vd ns) (ha : SH.At ns n (SH.flatT (.list k) n)) (h : Tw w0 wa w v bs)
    (hln : ∀ x ∈ ns, x.text.length ≤ 5000 ∧ ∀ k ∈ x.keys, k.length ≤ 15000) (hl : bs.length + (SH.showL k c true).length ≤ 600000000) (hc : c + 2 * SH.sizeF k + 2 ≤ 1000000) :
    Calls Tryz.prog 28 #[v, .agg #[vd], .int .i64 (n : Int), .int .i64 (c : Int)] w (TwE w0 wa (bs ++ SH.showL k c true)) := by
  rw [SH.flatT] at ha
  obtain ⟨y, hy, hyx⟩ := ha.head
  have hat := ha.tail
  obtain ⟨b5, o5, cap5, ka, kc, ia, ic, hv5, c6, r1, r2⟩ := hr.at hy
  have hNl : n < ns.length := (List.getElem?_eq_some_iff.1 hy).1
  have hnm : ns.length ≤ maxLen := by obtain ⟨_, _, _, h9⟩ := hr.slice; exact h9
  obtain ⟨NL, hNL⟩ : ∃ NL, ns.length = NL := ⟨_, rfl⟩
  rw [hNL] at hv5 hNl hnm
  unfold maxLen at hnm
  have hN0 : (0 : Int) ≤ (n : Int) := by omega
  have hN1 : (n : Int) < (NL : Int) := by omega
  subst hv5
  have hkl := (hln y (List.mem_of_getElem? hy)).2
  obtain ⟨kd, ln, tx, qq, ks, is⟩ := y
  obtain ⟨rfl, rfl, rfl⟩ : kd = 2 ∧ is = ticast (SH.kidsF k (n + 1)) ∧ ks = [] := by
    unfold SH.zi SH.up at hyx
    simp only [SH.Ni.mk.injEq] at hyx
    exact ⟨hyx.1, hyx.2.2.2.2.2, hyx.2.2.2.2.1⟩
  simp only at c6 r1 r2 hkl
  rw [ticast_len] at c6 r2
  skip
  obtain ⟨L, hL⟩ : ∃ L, (SH.kidsF k (n + 1)).length = L := ⟨_, rfl⟩
  have him := r2.len_le
  unfold maxLen at him
  rw [ints_len, ticast_len, hL] at him
  rw [hL] at c6 r2
  skip
  obtain ⟨kn, hkn⟩ : ∃ kn, ([] : List LX.B).length = kn := ⟨_, rfl⟩
  rw [hkn] at c6
  have HL := Lib.hid hL
  have hL9 : (L : Int) ≤ 9223372036854775807 := by omega
  obtain ⟨d0, d1, d2, d3, d4, d5⟩ := (c6.below h.bl).below (below_alloc w (.cells #[.slice (some ⟨b5, o5, none⟩) NL cap5] 26))
  simp only at d0 d1 d2 d3 d4 d5
  obtain ⟨h1, h2, h3, h4⟩ := tw_boxes (vd := .slice (some ⟨b5, o5, none⟩) NL cap5) h #[.int .i64 2, .int .i64 ln, .string ⟨tx.toArray⟩, .bool qq, .slice ka kn kc, .slice ia L ic]
  have H := Lib.hid h1
  have HKU := Lib.hid h2
  have HS5 := Lib.hid h3
  have HS9 := Lib.hid h4
  have HR2 := Lib.hid r2
  have HR1 := Lib.hid r1
  have HKK := Lib.hid hkl
  have HR := Lib.hid hr
  have HI := Lib.hid ih
  have HLN := Lib.hid hln
  have HLL := Lib.hid hl
  have HCC := Lib.hid hc
  have HSZ := Lib.hid hs
  have HNL := Lib.hid hNL
  have HKN := Lib.hid hkn
  have hc9 : (c : Int) ≤ 1000000 := by omega
  have HA0 : Hid (∃ k', SH.kidsF k' (n + 1) = (SH.kidsF k (n + 1)).drop 0 ∧ SH.At ns (n + 1) (SH.flatF k' (n + 1)) ∧ SH.sizeF k' ≤ SH.sizeF k ∧ SH.showL k c true = [] ++ SH.showL k' c (decide (0 = 0))) := ⟨k, rfl, hat, Nat.le_refl _, by rw [List.nil_append, decide_eq_true rfl]⟩
  clear hr ha h hln hl hc hs ih hy hyx hNl hnm hNL c6 hat r1 r2 h1 h2 h3 h4 him hL hkl hkn
  obtain ⟨T, hT⟩ : ∃ T, SH.showL k c true = T := ⟨_, rfl⟩
  rw [hT] at HLL HA0 ⊢
  clear hT
  go_enter Tryz.func28, Tryz.ntmps28
  go_wp2
  generalize World.alloc (World.alloc _ _) _ = W at *
  clear d0 d1 d2 d3 d4 d5
  go_loopg [0, 10] L (fun g s0 s10 wx => ∃ (i N' : Nat) (pre : List UInt8) (u : Value), i + g = L ∧ s10 = .int .i64 (i : Int) ∧ u = s0 ∧ Hid (Tw w0 W wx u (bs ++ pre)) ∧ Hid (∃ k', SH.kidsF k' N' = (SH.kidsF k (n + 1)).drop i ∧ SH.At ns N' (SH.flatF k' N') ∧ SH.sizeF k' ≤ SH.sizeF k ∧ T = pre ++ SH.showL k' c (decide (i = 0))))
  case atStart => exact ⟨0, n + 1, [], v, by omega, rfl, rfl, by rw [List.append_nil]; exact H, HA0⟩
  case round =>
    clear H HA0
    obtain ⟨i, N', pre, u, hi, rfl, rfl, H, HA⟩ := hrel
    have k5 : wr.cell? ⟨w.heap.size + 1, 5, none⟩ = some (.slice ia L ic) := (H.out.kt.str HS9.out (by decide)).cell 5
    have k0 : wr.cell? ⟨w.heap.size + 1, 0, none⟩ = some (.int .i64 2) := (H.out.kt.str HS9.out (by decide)).cell 0
    obtain ⟨k', a1, a2, a3, a4⟩ := HA.out
    cases gk with
    | zero =>
      obtain rfl : i = L := by omega
      rw [List.drop_eq_nil_of_le (by have := HL.out; omega)] at a1
      cases k' with
      | cons key t r => rw [SH.kidsF] at a1; cases a1
      | nil =>
        rw [SH.showL, List.append_nil] at a4
        subst a4
        clear a1 a2 a3 HA
        go_wp2
        go_ret
        exact TwE.mk (H.out.back HKU.out)
    | succ g =>
      have hin : (i : Int) < (L : Int) := by omega
      have hi0 : (0 : Int) ≤ (i : Int) := by omega
      cases k' with
      | nil =>
        rw [SH.kidsF] at a1
        have := congrArg List.length a1
        rw [List.length_drop] at this
        simp only [List.length_nil] at this
        have := HL.out
        omega
      | cons key t r =>
        rw [SH.kidsF] at a1
        skip
        rw [SH.flatF] at a2
        rw [SH.sizeF] at a3
        rw [tshowL_cons] at a4
        have hget : (SH.kidsF k (n + 1))[i]? = some N' := by
          have := congrArg (fun l => l[0]?) a1
          simpa using this.symm
        have hki : (ints (ticast (SH.kidsF k (n + 1))))[i]? = some (.int .i64 (N' : Int)) := by simp [ints, ticast, hget]
        obtain ⟨b3, o3, c3, e3, u30⟩ := HR2.out.atv hki
        simp only [Value.slice.injEq] at e3
        obtain ⟨rfl, -, -⟩ := e3
        have HFX := Lib.hid (fun (u2 : World) (o2 : Value) (bs2 : List UInt8) (h2 : Tw w0 W u2 o2 bs2) => (⟨⟨(h2.kt.str HS5.out (by decide)).cell 0, (h2.kt.str HS9.out (by decide)).cell 5, (h2.bl.cell (cell_lt u30)).trans u30⟩, (h2.kt.str HS9.out (by decide)).cell 0⟩ : (u2.cell? ⟨w.heap.size, 0, none⟩ = some (.slice (some ⟨b5, o5, none⟩) NL cap5) ∧ u2.cell? ⟨w.heap.size + 1, 5, none⟩ = some (.slice (some ⟨b3, o3, none⟩) L ic) ∧ u2.cell? ⟨b3, o3 + i, none⟩ = some (.int .i64 (N' : Int))) ∧ u2.cell? ⟨w.heap.size + 1, 0, none⟩ = some (.int .i64 2)))
        have HN : Hid (∃ k'', SH.kidsF k'' (N' + SH.sizeT t) = (SH.kidsF k (n + 1)).drop (i + 1) ∧ SH.At ns (N' + SH.sizeT t) (SH.flatF k'' (N' + SH.sizeT t)) ∧ SH.sizeF k'' ≤ SH.sizeF k ∧ T = (pre ++ (if decide (i = 0) = true then [] else DC.bl c) ++ ([45, 32] ++ SH.showT t (c + 2))) ++ SH.showL k'' c (decide (i + 1 = 0))) := by
          refine ⟨r, ?_, ?_, by omega, ?_⟩
          · have := congrArg (List.drop 1) a1
            rw [List.drop_drop] at this
            rw [List.drop_succ_cons, List.drop_zero] at this
            exact this
          · have := a2.right
            rwa [SH.flatT_len] at this
          · rw [a4, decide_eq_false (show ¬ i + 1 = 0 by omega)]
            simp
        have HTL : Hid ((pre ++ (if decide (i = 0) = true then [] else DC.bl c) ++ ([45, 32] ++ SH.showT t (c + 2))).length ≤ T.length) := by
          show _ ≤ _
          obtain ⟨k2, _, _, _, e⟩ := HN.out
          have := congrArg List.length e
          rw [List.length_append] at this
          omega
        have HIT := Lib.hid (fun (u2 : World) (o2 : Value) (bs2 : List UInt8) (h2 : Tw w0 W u2 o2 bs2) (h3 : bs2.length + (SH.showT t (c + 2)).length ≤ 600000000) => HI.out t ns N' (c + 2) w0 W u2 _ o2 bs2 (by have := HSZ.out; omega) HR.out a2.left h2 HLN.out h3 (by have := HCC.out; omega))
        rw [show ((c + 2 : Nat) : Int) = (c : Int) + 2 from rfl] at HIT
        have HBL : Hid ((DC.bl c).length = c ∧ (DC.bl (c + 2)).length = c + 2) := by show _ ∧ _; simp [DC.bl]
        clear hki hget a1 a2 a3 a4 HA u30
        by_cases h0 : i = 0
        · subst h0
          have hd0 : decide (0 < L) = true := decide_eq_true (by omega)
          have hin0 : (0 : Int) < (L : Int) := by omega
          have hin1 : 0 < L := by omega
          simp only [Nat.add_zero] at HFX
          obtain ⟨⟨j1, j2, j3⟩, j4⟩ := HFX.out _ _ _ H.out
          rw [decide_eq_true (show (0 : Nat) = 0 from rfl)] at HN HTL
          simp only [if_true, List.append_nil] at HN HTL
          go_upto_region 13 with fail
          refine wp_region_held_drew (S := fun u2 => u2.cell? ⟨w.heap.size, 0, none⟩ = some (.slice (some ⟨b5, o5, none⟩) NL cap5) ∧ u2.cell? ⟨w.heap.size + 1, 5, none⟩ = some (.slice (some ⟨b3, o3, none⟩) L ic) ∧ u2.cell? ⟨b3, o3, none⟩ = some (.int .i64 (N' : Int))) (by kernel_rfl) (HFX.out _ _ _ (H.out.calm (below_drew _))).1 ?_
          intro hS0
          have hwr : IntKind.i64.wrap ((c : Int) + 2) = (c : Int) + 2 := twrap_small (by omega) (by omega)
          refine wpAnyH_take (i := 0) (v := ?vq1) rfl (by kernel_rfl) (by kernel_rfl) (by kernel_rfl) (fun _ _ _ h => h) (Or.inl ⟨by rfl, ?hq1⟩) hS0 ?rq1
          case hq1 => intro x hSx; obtain ⟨q1, q2, q3⟩ := hSx; go_simp; first | done | with_reducible rfl
          (try simp only [List.getElem_toArray, List.getElem_cons_zero, Act.put, List.setIfInBounds_toArray, List.set_cons_zero, List.set_cons_succ])
          refine wpAnyH_take (i := 3) (v := ?vq2) rfl (by kernel_rfl) (by kernel_rfl) (by kernel_rfl) (fun _ _ _ h => h) (Or.inl ⟨by rfl, ?hq2⟩) hS0 ?rq2
          case hq2 => intro x hSx; obtain ⟨q1, q2, q3⟩ := hSx; go_simp; first | done | with_reducible rfl
          (try simp only [List.getElem_toArray, List.getElem_cons_zero, List.getElem_cons_succ, Act.put, List.setIfInBounds_toArray, List.set_cons_zero, List.set_cons_succ])
          refine wpAnyH_take (i := 4) (v := ?vq3) rfl (by kernel_rfl) (by kernel_rfl) (by kernel_rfl) (fun _ _ _ h => h) (Or.inl ⟨by rfl, ?hq3⟩) hS0 ?rq3
          case hq3 => intro x hSx; obtain ⟨q1, q2, q3⟩ := hSx; go_simp; first | done | with_reducible rfl
          (try simp only [List.getElem_toArray, List.getElem_cons_zero, List.getElem_cons_succ, Act.put, List.setIfInBounds_toArray, List.set_cons_zero, List.set_cons_succ])
          refine wpAnyH_take (i := 5) (v := ?vq4) rfl (by kernel_rfl) (by kernel_rfl) (by kernel_rfl) (fun _ _ _ h => h) (Or.inl ⟨by rfl, ?hq4⟩) hS0 ?rq4
          case hq4 => intro x hSx; obtain ⟨q1, q2, q3⟩ := hSx; go_simp; first | done | with_reducible rfl
          (try simp only [List.getElem_toArray, List.getElem_cons_zero, List.getElem_cons_succ, Act.put, List.setIfInBounds_toArray, List.set_cons_zero, List.set_cons_succ])
          refine wpAnyH_take (i := 6) (v := ?vq5) rfl (by kernel_rfl) (by kernel_rfl) (by kernel_rfl) (fun _ _ _ h => h) (Or.inl ⟨by rfl, ?hq5⟩) hS0 ?rq5
          case hq5 => intro x hSx; obtain ⟨q1, q2, q3⟩ := hSx; go_simp; first | done | with_reducible rfl
          (try simp only [List.getElem_toArray, List.getElem_cons_zero, List.getElem_cons_succ, Act.put, List.setIfInBounds_toArray, List.set_cons_zero, List.set_cons_succ])
          refine wpAnyH_take (i := 7) (v := ?vq6) rfl (by kernel_rfl) (by kernel_rfl) (by kernel_rfl) (fun _ _ _ h => h) (Or.inl ⟨by rfl, ?hq6⟩) hS0 ?rq6
          case hq6 => intro x hSx; obtain ⟨q1, q2, q3⟩ := hSx; go_simp; first | done | with_reducible rfl
          (try simp only [List.getElem_toArray, List.getElem_cons_zero, List.getElem_cons_succ, Act.put, List.setIfInBounds_toArray, List.set_cons_zero, List.set_cons_succ])
          refine wpAnyH_take (i := 8) (v := ?vq7) rfl (by kernel_rfl) (by kernel_rfl) (by kernel_rfl) (fun _ _ _ h => h) (Or.inl ⟨by rfl, ?hq7⟩) hS0 ?rq7
          case hq7 => intro x hSx; obtain ⟨q1, q2, q3⟩ := hSx; go_simp; first | done | with_reducible rfl
          (try simp only [List.getElem_toArray, List.getElem_cons_zero, List.getElem_cons_succ, Act.put, List.setIfInBounds_toArray, List.set_cons_zero, List.set_cons_succ])
          refine wpAnyH_take (i := 9) (v := ?vq8) rfl (by kernel_rfl) (by kernel_rfl) (by kernel_rfl) (fun _ _ _ h => h) (Or.inl ⟨by rfl, ?hq8⟩) hS0 ?rq8
          case hq8 => intro x hSx; obtain ⟨q1, q2, q3⟩ := hSx; go_simp; first | done | with_reducible rfl
          (try simp only [List.getElem_toArray, List.getElem_cons_zero, List.getElem_cons_succ, Act.put, List.setIfInBounds_toArray, List.set_cons_zero, List.set_cons_succ])
          refine wpAnyH_take (i := 10) (v := ?vq9) rfl (by kernel_rfl) (by kernel_rfl) (by kernel_rfl) (fun _ _ _ h => h) (Or.inl ⟨by rfl, ?hq9⟩) hS0 ?rq9
          case hq9 => intro x hSx; obtain ⟨q1, q2, q3⟩ := hSx; go_simp; first | done | with_reducible rfl
          (try simp only [List.getElem_toArray, List.getElem_cons_zero, List.getElem_cons_succ, Act.put, List.setIfInBounds_toArray, List.set_cons_zero, List.set_cons_succ])
          refine wpAnyH_ready (rs := [1]) (by kernel_rfl) (by simp) ?_
          refine AllReadyH.cons rfl (fun K hK => ?_) AllReadyH.nil
          go_simp
          have SA := Lib.hid ((H.out.calm (below_drew _)).calm (below_alloc _ (.cells #[.int .u8 45, .int .u8 32] 5)))
          refine hK.out _ _ (HFX.out _ _ _ SA.out).1 (fun hS1 => ?_)
          clear hK K
          (try simp only [List.getElem_toArray, List.getElem_cons_zero, List.getElem_cons_succ, Act.put, List.setIfInBounds_toArray, List.set_cons_zero, List.set_cons_succ])
          refine wpAnyH_ready (rs := [2]) (by kernel_rfl) (by simp) ?_
          refine AllReadyH.cons rfl (fun K hK => ?_) AllReadyH.nil
          refine step_append_turned (news := [45, 32]) (by rfl) (.tmp 49) (.tmp 50) 35 (by rfl) w0.heap.size 5 Tryz.underlying35 Tryz.linfo_u8 (by rfl) SA.out.own (by rfl) (two_rd (a := 45) (b := 32) rfl rfl) (by simp) (by have := HTL.out; have := HLL.out; have := HBL.out; simp only [List.length_append, List.length_cons, List.length_nil] at *; omega) SA.out.size ?_
          intro g3 cap3 w3 ho3 hg3
          have S3 := Lib.hid (SA.out.grown hg3 ho3)
          clear ho3 hg3
          generalize List.length (bs ++ pre) + List.length ([45, 32] : List UInt8) = m3 at S3 ⊢
          refine hK.out _ _ (HFX.out _ _ _ S3.out).1 (fun hS2 => ?_)
          clear hK K
          (try simp only [List.getElem_toArray, List.getElem_cons_zero, List.getElem_cons_succ, Act.put, List.setIfInBounds_toArray, List.set_cons_zero, List.set_cons_succ])
          refine wpAnyH_ready (rs := [11]) (by kernel_rfl) (by simp) ?_
          refine AllReadyH.cons rfl (fun K hK => ?_) AllReadyH.nil
          go_simp
          go_at_call 28
          refine (HIT.out _ _ _ S3.out (by have := HTL.out; have := HLL.out; have := HBL.out; simp only [List.length_append, List.length_cons, List.length_nil] at *; omega)).mono ?_
          rintro e w4 ⟨a4, n4, c4, rfl, s4⟩
          have S4 := Lib.hid s4
          clear s4
          refine hK.out _ _ (HFX.out _ _ _ S4.out).1 (fun hS3 => ?_)
          clear hK K
          (try simp only [List.getElem_toArray, List.getElem_cons_zero, List.getElem_cons_succ, Act.put, List.setIfInBounds_toArray, List.set_cons_zero, List.set_cons_succ])
          refine wpAnyH_take (i := 12) (v := ?vq10) rfl (by kernel_rfl) (by kernel_rfl) (by kernel_rfl) (fun _ _ _ h => h) (Or.inl ⟨by rfl, ?hq10⟩) hS3 ?rq10
          case hq10 => intro x hSx; obtain ⟨-, -, -⟩ := hSx; go_simp; first | done | with_reducible rfl
          (try simp only [List.getElem_toArray, List.getElem_cons_zero, List.getElem_cons_succ, Act.put, List.setIfInBounds_toArray, List.set_cons_zero])
          refine wpAnyH_done (by kernel_rfl) ?_ _
          go_wp2
          go_roundg g
          case rel => exact ⟨1, N' + SH.sizeT t, pre ++ ([45, 32] ++ SH.showT t (c + 2)), _, by omega, by first | rfl | (simp; done), rfl, by have := S4; simp only [List.append_assoc, List.cons_append, List.nil_append] at this ⊢; exact this, HN⟩
          case measure => omega
        · have hg0 : (0 : Int) < (i : Int) := by omega
          rw [decide_eq_false h0] at HN HTL
          simp only [Bool.false_eq_true, if_false] at HN HTL
          have HD := Lib.hid (tin_any c H.out (by have := HTL.out; have := HLL.out; have := HBL.out; simp only [List.length_append, List.length_cons, List.length_nil] at *; omega))
          rw [List.append_assoc bs pre (DC.bl c)] at HD
          clear h0
          go_upto_region 13 with (go_at_call 53; refine HD.out.mono ?_; rintro e w2 ⟨a2, n2, c2, rfl, s2⟩; have S2 := Lib.hid s2; obtain ⟨⟨j1, j2, j3⟩, j4⟩ := HFX.out _ _ _ s2; clear s2)
          refine wp_region_held_drew (S := fun u2 => u2.cell? ⟨w.heap.size, 0, none⟩ = some (.slice (some ⟨b5, o5, none⟩) NL cap5) ∧ u2.cell? ⟨w.heap.size + 1, 5, none⟩ = some (.slice (some ⟨b3, o3, none⟩) L ic) ∧ u2.cell? ⟨b3, o3 + i, none⟩ = some (.int .i64 (N' : Int))) (by kernel_rfl) (HFX.out _ _ _ (S2.out.calm (below_drew _))).1 ?_
          intro hS0
          have hwr : IntKind.i64.wrap ((c : Int) + 2) = (c : Int) + 2 := twrap_small (by omega) (by omega)
          refine wpAnyH_take (i := 0) (v := ?vq11) rfl (by kernel_rfl) (by kernel_rfl) (by kernel_rfl) (fun _ _ _ h => h) (Or.inl ⟨by rfl, ?hq11⟩) hS0 ?rq11
          case hq11 => intro x hSx; obtain ⟨q1, q2, q3⟩ := hSx; go_simp; first | done | with_reducible rfl
          (try simp only [List.getElem_toArray, List.getElem_cons_zero, Act.put, List.setIfInBounds_toArray, List.set_cons_zero, List.set_cons_succ])
          refine wpAnyH_take (i := 3) (v := ?vq12) rfl (by kernel_rfl) (by kernel_rfl) (by kernel_rfl) (fun _ _ _ h => h) (Or.inl ⟨by rfl, ?hq12⟩) hS0 ?rq12
          case hq12 => intro x hSx; obtain ⟨q1, q2, q3⟩ := hSx; go_simp; first | done | with_reducible rfl
          (try simp only [List.getElem_toArray, List.getElem_cons_zero, List.getElem_cons_succ, Act.put, List.setIfInBounds_toArray, List.set_cons_zero, List.set_cons_succ])
          refine wpAnyH_take (i := 4) (v := ?vq13) rfl (by kernel_rfl) (by kernel_rfl) (by kernel_rfl) (fun _ _ _ h => h) (Or.inl ⟨by rfl, ?hq13⟩) hS0 ?rq13
          case hq13 => intro x hSx; obtain ⟨q1, q2, q3⟩ := hSx; go_simp; first | done | with_reducible rfl
          (try simp only [List.getElem_toArray, List.getElem_cons_zero, List.getElem_cons_succ, Act.put, List.setIfInBounds_toArray, List.set_cons_zero, List.set_cons_succ])
          refine wpAnyH_take (i := 5) (v := ?vq14) rfl (by kernel_rfl) (by kernel_rfl) (by kernel_rfl) (fun _ _ _ h => h) (Or.inl ⟨by rfl, ?hq14⟩) hS0 ?rq14
          case hq14 => intro x hSx; obtain ⟨q1, q2, q3⟩ := hSx; go_simp; first | done | with_reducible rfl
          (try simp only [List.getElem_toArray, List.getElem_cons_zero, List.getElem_cons_succ, Act.put, List.setIfInBounds_toArray, List.set_cons_zero, List.set_cons_succ])
          refine wpAnyH_take (i := 6) (v := ?vq15) rfl (by kernel_rfl) (by kernel_rfl) (by kernel_rfl) (fun _ _ _ h => h) (Or.inl ⟨by rfl, ?hq15⟩) hS0 ?rq15
          case hq15 => intro x hSx; obtain ⟨q1, q2, q3⟩ := hSx; go_simp; first | done | with_reducible rfl
          (try simp only [List.getElem_toArray, List.getElem_cons_zero, List.getElem_cons_succ, Act.put, List.setIfInBounds_toArray, List.set_cons_zero, List.set_cons_succ])
          refine wpAnyH_take (i := 7) (v := ?vq16) rfl (by kernel_rfl) (by kernel_rfl) (by kernel_rfl) (fun _ _ _ h => h) (Or.inl ⟨by rfl, ?hq16⟩) hS0 ?rq16
          case hq16 => intro x hSx; obtain ⟨q1, q2, q3⟩ := hSx; go_simp; first | done | with_reducible rfl
          (try simp only [List.getElem_toArray, List.getElem_cons_zero, List.getElem_cons_succ, Act.put, List.setIfInBounds_toArray, List.set_cons_zero, List.set_cons_succ])
          refine wpAnyH_take (i := 8) (v := ?vq17) rfl (by kernel_rfl) (by kernel_rfl) (by kernel_rfl) (fun _ _ _ h => h) (Or.inl ⟨by rfl, ?hq17⟩) hS0 ?rq17
          case hq17 => intro x hSx; obtain ⟨q1, q2, q3⟩ := hSx; go_simp; first | done | with_reducible rfl
          (try simp only [List.getElem_toArray, List.getElem_cons_zero, List.getElem_cons_succ, Act.put, List.setIfInBounds_toArray, List.set_cons_zero, List.set_cons_succ])
          refine wpAnyH_take (i := 9) (v := ?vq18) rfl (by kernel_rfl) (by kernel_rfl) (by kernel_rfl) (fun _ _ _ h => h) (Or.inl ⟨by rfl, ?hq18⟩) hS0 ?rq18
          case hq18 => intro x hSx; obtain ⟨q1, q2, q3⟩ := hSx; go_simp; first | done | with_reducible rfl
          (try simp only [List.getElem_toArray, List.getElem_cons_zero, List.getElem_cons_succ, Act.put, List.setIfInBounds_toArray, List.set_cons_zero, List.set_cons_succ])
          refine wpAnyH_take (i := 10) (v := ?vq19) rfl (by kernel_rfl) (by kernel_rfl) (by kernel_rfl) (fun _ _ _ h => h) (Or.inl ⟨by rfl, ?hq19⟩) hS0 ?rq19
          case hq19 => intro x hSx; obtain ⟨q1, q2, q3⟩ := hSx; go_simp; first | done | with_reducible rfl
          (try simp only [List.getElem_toArray, List.getElem_cons_zero, List.getElem_cons_succ, Act.put, List.setIfInBounds_toArray, List.set_cons_zero, List.set_cons_succ])
          refine wpAnyH_ready (rs := [1]) (by kernel_rfl) (by simp) ?_
          refine AllReadyH.cons rfl (fun K hK => ?_) AllReadyH.nil
          go_simp
          have SA := Lib.hid ((S2.out.calm (below_drew _)).calm (below_alloc _ (.cells #[.int .u8 45, .int .u8 32] 5)))
          refine hK.out _ _ (HFX.out _ _ _ SA.out).1 (fun hS1 => ?_)
          clear hK K
          (try simp only [List.getElem_toArray, List.getElem_cons_zero, List.getElem_cons_succ, Act.put, List.setIfInBounds_toArray, List.set_cons_zero, List.set_cons_succ])
          refine wpAnyH_ready (rs := [2]) (by kernel_rfl) (by simp) ?_
          refine AllReadyH.cons rfl (fun K hK => ?_) AllReadyH.nil
          refine step_append_turned (news := [45, 32]) (by rfl) (.tmp 49) (.tmp 50) 35 (by rfl) w0.heap.size 5 Tryz.underlying35 Tryz.linfo_u8 (by rfl) SA.out.own (by rfl) (two_rd (a := 45) (b := 32) rfl rfl) (by simp) (by have := HTL.out; have := HLL.out; have := HBL.out; simp only [List.length_append, List.length_cons, List.length_nil] at *; omega) SA.out.size ?_
          intro g3 cap3 w3 ho3 hg3
          have S3 := Lib.hid (SA.out.grown hg3 ho3)
          clear ho3 hg3
          generalize List.length (bs ++ (pre ++ DC.bl c)) + List.length ([45, 32] : List UInt8) = m3 at S3 ⊢
          refine hK.out _ _ (HFX.out _ _ _ S3.out).1 (fun hS2 => ?_)
          clear hK K
          (try simp only [List.getElem_toArray, List.getElem_cons_zero, List.getElem_cons_succ, Act.put, List.setIfInBounds_toArray, List.set_cons_zero, List.set_cons_succ])
          refine wpAnyH_ready (rs := [11]) (by kernel_rfl) (by simp) ?_
          refine AllReadyH.cons rfl (fun K hK => ?_) AllReadyH.nil
          go_simp
          go_at_call 28
          refine (HIT.out _ _ _ S3.out (by have := HTL.out; have := HLL.out; have := HBL.out; simp only [List.length_append, List.length_cons, List.length_nil] at *; omega)).mono ?_
          rintro e w4 ⟨a4, n4, c4, rfl, s4⟩
          have S4 := Lib.hid s4
          clear s4
          refine hK.out _ _ (HFX.out _ _ _ S4.out).1 (fun hS3 => ?_)
          clear hK K
          (try simp only [List.getElem_toArray, List.getElem_cons_zero, List.getElem_cons_succ, Act.put, List.setIfInBounds_toArray, List.set_cons_zero, List.set_cons_succ])
          refine wpAnyH_take (i := 12) (v := ?vq20) rfl (by kernel_rfl) (by kernel_rfl) (by kernel_rfl) (fun _ _ _ h => h) (Or.inl ⟨by rfl, ?hq20⟩) hS3 ?rq20
          case hq20 => intro x hSx; obtain ⟨-, -, -⟩ := hSx; go_simp; first | done | with_reducible rfl
          (try simp only [List.getElem_toArray, List.getElem_cons_zero, List.getElem_cons_succ, Act.put, List.setIfInBounds_toArray, List.set_cons_zero])
          refine wpAnyH_done (by kernel_rfl) ?_ _
          go_wp2
          go_roundg g
          case rel => exact ⟨i + 1, N' + SH.sizeT t, (pre ++ DC.bl c) ++ ([45, 32] ++ SH.showT t (c + 2)), _, by omega, by first | rfl | (simp; done), rfl, by have := S4; simp only [List.append_assoc, List.cons_append, List.nil_append] at this ⊢; exact this, HN⟩
          case measure => omega
end Go.Proofs.YtgfhabofhefaaaaGreatDoor
