/- A part of the proof. -/
import Derived.Test.YtgfhabofhefaaaaGreatDoorSB49
import Derived.Test.YtgfhabofhefaaaaGreatDoorSB38
import Derived.BigQuiet
import Derived.Deep.RegionHeld3
import Derived.Deep.CutBlock
import Derived.Deep.DeepCutAuto
namespace Go.Proofs.YtgfhabofhefaaaaGreatDoor
open Go.RowKit
set_option maxRecDepth 10000 in
set_option maxHeartbeats 16000000 in
theorem tshow_map {s : Nat} (ih : SwC s) (k : SH.Fo) (hs : SH.sizeF k ≤ s) (ns : List SH.Ni) (n c : Nat) (w0 wa w : World) (vd v : Value) (bs : List UInt8) (hr : Rdi w0 vd ns) (ha : SH.At ns n (SH.flatT (.map k) n)) (h : Tw w0 wa w v bs)
    (hln : ∀ x ∈ ns, x.text.length ≤ 5000 ∧ ∀ k ∈ x.keys, k.length ≤ 15000) (hl : bs.length + (SH.showM k c true).length ≤ 600000000) (hc : c + 2 * SH.sizeF k + 2 ≤ 1000000) :
    Calls Tryz.prog 28 #[v, .agg #[vd], .int .i64 (n : Int), .int .i64 (c : Int)] w (TwE w0 wa (bs ++ SH.showM k c true)) := by
  rw [SH.flatT] at ha
  obtain ⟨y, hy, hyx⟩ := ha.head
  have hat := ha.tail
  obtain ⟨b5, o5, cap5, ka, kc, ia, ic, hv5, c6, r1, r2⟩ := hr.at hy
  have hNl : n < ns.length := (List.getElem?_eq_some_iff.1 hy).1
  have hnm : ns.length ≤ maxLen := by obtain ⟨_, _, _, h9⟩ := hr.slice; exact h9
  obtain ⟨NL, hNL⟩ : ∃ NL, ns.length = NL := ⟨_, rfl⟩
  rw [hNL] at hv5 hNl hnm
  unfold maxLen at hnm
  have hN0 : (0 : Int) ≤ (n : Int) := by omega
  have hN1 : (n : Int) < (NL : Int) := by omega
  subst hv5
  have hkl := (hln y (List.mem_of_getElem? hy)).2
  obtain ⟨kd, ln, tx, qq, ks, is⟩ := y
  obtain ⟨rfl, rfl, rfl⟩ : kd = 3 ∧ is = ticast (SH.kidsF k (n + 1)) ∧ ks = SH.keysF k := by
    unfold SH.zi SH.up at hyx
    simp only [SH.Ni.mk.injEq] at hyx
    exact ⟨hyx.1, hyx.2.2.2.2.2, hyx.2.2.2.2.1⟩
  simp only at c6 r1 r2 hkl
  rw [ticast_len] at c6 r2
  rw [← tkids_len k (n + 1)] at c6 r1
  obtain ⟨L, hL⟩ : ∃ L, (SH.kidsF k (n + 1)).length = L := ⟨_, rfl⟩
  have him := r2.len_le
  unfold maxLen at him
  rw [ints_len, ticast_len, hL] at him
  rw [hL] at c6 r2
  rw [hL] at r1
  have HL := Lib.hid hL
  have hL9 : (L : Int) ≤ 9223372036854775807 := by omega
  obtain ⟨d0, d1, d2, d3, d4, d5⟩ := (c6.below h.bl).below (below_alloc w (.cells #[.slice (some ⟨b5, o5, none⟩) NL cap5] 26))
  simp only at d0 d1 d2 d3 d4 d5
  obtain ⟨h1, h2, h3, h4⟩ := tw_boxes (vd := .slice (some ⟨b5, o5, none⟩) NL cap5) h #[.int .i64 3, .int .i64 ln, .string ⟨tx.toArray⟩, .bool qq, .slice ka L kc, .slice ia L ic]
  have H := Lib.hid h1
  have HKU := Lib.hid h2
  have HS5 := Lib.hid h3
  have HS9 := Lib.hid h4
  have HR2 := Lib.hid r2
  have HR1 := Lib.hid r1
  have HKK := Lib.hid hkl
  have HR := Lib.hid hr
  have HI := Lib.hid ih
  have HLN := Lib.hid hln
  have HLL := Lib.hid hl
  have HCC := Lib.hid hc
  have HSZ := Lib.hid hs
  have HNL := Lib.hid hNL
  have hc9 : (c : Int) ≤ 1000000 := by omega
  have HA0 : Hid (∃ k', SH.kidsF k' (n + 1) = (SH.kidsF k (n + 1)).drop 0 ∧ SH.keysF k' = (SH.keysF k).drop 0 ∧ SH.At ns (n + 1) (SH.flatF k' (n + 1)) ∧ SH.sizeF k' ≤ SH.sizeF k ∧ SH.showM k c true = [] ++ SH.showM k' c (decide (0 = 0))) := ⟨k, rfl, rfl, hat, Nat.le_refl _, by rw [List.nil_append, decide_eq_true rfl]⟩
  clear hr ha h hln hl hc hs ih hy hyx hNl hnm hNL c6 hat r1 r2 h1 h2 h3 h4 him hL hkl
  obtain ⟨T, hT⟩ : ∃ T, SH.showM k c true = T := ⟨_, rfl⟩
  rw [hT] at HLL HA0 ⊢
  clear hT
  go_enter Tryz.func28, Tryz.ntmps28
  go_wp2
  generalize World.alloc (World.alloc _ _) _ = W at *
  clear d0 d1 d2 d3 d4 d5
  go_loopg [0, 10] L (fun g s0 s10 wx => ∃ (i N' : Nat) (pre : List UInt8) (u : Value), i + g = L ∧ s10 = .int .i64 (i : Int) ∧ u = s0 ∧ Hid (Tw w0 W wx u (bs ++ pre)) ∧ Hid (∃ k', SH.kidsF k' N' = (SH.kidsF k (n + 1)).drop i ∧ SH.keysF k' = (SH.keysF k).drop i ∧ SH.At ns N' (SH.flatF k' N') ∧ SH.sizeF k' ≤ SH.sizeF k ∧ T = pre ++ SH.showM k' c (decide (i = 0))))
  case atStart => exact ⟨0, n + 1, [], v, by omega, rfl, rfl, by rw [List.append_nil]; exact H, HA0⟩
  case round =>
    clear H HA0
    obtain ⟨i, N', pre, u, hi, rfl, rfl, H, HA⟩ := hrel
    have k5 : wr.cell? ⟨w.heap.size + 1, 5, none⟩ = some (.slice ia L ic) := (H.out.kt.str HS9.out (by decide)).cell 5
    have k0 : wr.cell? ⟨w.heap.size + 1, 0, none⟩ = some (.int .i64 3) := (H.out.kt.str HS9.out (by decide)).cell 0
    obtain ⟨k', a1, aK, a2, a3, a4⟩ := HA.out
    cases gk with
    | zero =>
      obtain rfl : i = L := by omega
      rw [List.drop_eq_nil_of_le (by have := HL.out; omega)] at a1
      cases k' with
      | cons key t r => rw [SH.kidsF] at a1; cases a1
      | nil =>
        rw [SH.showM, List.append_nil] at a4
        subst a4
        clear a1 a2 a3 HA
        go_wp2
        go_ret
        exact TwE.mk (H.out.back HKU.out)
    | succ g =>
      have hin : (i : Int) < (L : Int) := by omega
      have hi0 : (0 : Int) ≤ (i : Int) := by omega
      cases k' with
      | nil =>
        rw [SH.kidsF] at a1
        have := congrArg List.length a1
        rw [List.length_drop] at this
        simp only [List.length_nil] at this
        have := HL.out
        omega
      | cons key t r =>
        rw [SH.kidsF] at a1
        rw [SH.keysF] at aK
        rw [SH.flatF] at a2
        rw [SH.sizeF] at a3
        rw [tshowM_cons] at a4
        have hget : (SH.kidsF k (n + 1))[i]? = some N' := by
          have := congrArg (fun l => l[0]?) a1
          simpa using this.symm
        have hki : (ints (ticast (SH.kidsF k (n + 1))))[i]? = some (.int .i64 (N' : Int)) := by simp [ints, ticast, hget]
        obtain ⟨b3, o3, c3, e3, u30⟩ := HR2.out.atv hki
        simp only [Value.slice.injEq] at e3
        obtain ⟨rfl, -, -⟩ := e3
        have hkey : (SH.keysF k)[i]? = some key := by
          have := congrArg (fun l => l[0]?) aK
          simpa using this.symm
        have hks : (sv (SH.keysF k))[i]? = some (.string ⟨key.toArray⟩) := by simp [sv, hkey]
        obtain ⟨b4, o4, c4, e4, u40⟩ := HR1.out.atv hks
        simp only [Value.slice.injEq] at e4
        obtain ⟨rfl, -, -⟩ := e4
        have HKY := Lib.hid (HKK.out key (List.mem_of_getElem? hkey))
        obtain ⟨x, fl, hx, hxk⟩ := tflat_ne t N'
        obtain ⟨y, hy, hyx⟩ := (hx ▸ a2.left).head
        obtain ⟨b6, o6, cap6, ka6, kc6, ia6, ic6, hv6, c6, -, -⟩ := HR.out.at hy
        have hyk : y.kind = tknd t := by
          have := congrArg SH.Ni.kind hyx
          rw [← hxk]; exact this
        have hNl : N' < NL := by have := (List.getElem?_eq_some_iff.1 hy).1; have := HNL.out; omega
        have hN2 : (0 : Int) ≤ (N' : Int) := by omega
        have hN3 : (N' : Int) < (NL : Int) := by omega
        simp only [Value.slice.injEq, Option.some.injEq, Addr.mk.injEq, and_true] at hv6
        obtain ⟨⟨rfl, rfl⟩, -, -⟩ := hv6
        have d00 := c6.c0
        rw [hyk] at d00
        have HFX := Lib.hid (fun (u2 : World) (o2 : Value) (bs2 : List UInt8) (h2 : Tw w0 W u2 o2 bs2) => (⟨⟨(h2.kt.str HS5.out (by decide)).cell 0, (h2.kt.str HS9.out (by decide)).cell 5, (h2.bl.cell (cell_lt u30)).trans u30⟩, (h2.kt.str HS9.out (by decide)).cell 4, (h2.bl.cell (cell_lt u40)).trans u40, (h2.bl.cell (cell_lt d00)).trans d00, (h2.kt.str HS9.out (by decide)).cell 0⟩ : (u2.cell? ⟨w.heap.size, 0, none⟩ = some (.slice (some ⟨b5, o5, none⟩) NL cap5) ∧ u2.cell? ⟨w.heap.size + 1, 5, none⟩ = some (.slice (some ⟨b3, o3, none⟩) L ic) ∧ u2.cell? ⟨b3, o3 + i, none⟩ = some (.int .i64 (N' : Int))) ∧ u2.cell? ⟨w.heap.size + 1, 4, none⟩ = some (.slice (some ⟨b4, o4, none⟩) L kc) ∧ u2.cell? ⟨b4, o4 + i, none⟩ = some (.string ⟨key.toArray⟩) ∧ u2.cell? ⟨b5, o5 + N' * 6, none⟩ = some (.int .i64 (tknd t)) ∧ u2.cell? ⟨w.heap.size + 1, 0, none⟩ = some (.int .i64 3)))
        have HN : Hid (∃ k'', SH.kidsF k'' (N' + SH.sizeT t) = (SH.kidsF k (n + 1)).drop (i + 1) ∧ SH.keysF k'' = (SH.keysF k).drop (i + 1) ∧ SH.At ns (N' + SH.sizeT t) (SH.flatF k'' (N' + SH.sizeT t)) ∧ SH.sizeF k'' ≤ SH.sizeF k ∧ T = (pre ++ (if decide (i = 0) = true then [] else DC.bl c) ++ ((key ++ [58]) ++ ((if tisTx t then [32] else 10 :: DC.bl (c + 2)) ++ SH.showT t (c + 2)))) ++ SH.showM k'' c (decide (i + 1 = 0))) := by
          refine ⟨r, ?_, ?_, ?_, by omega, ?_⟩
          · have := congrArg (List.drop 1) a1
            rw [List.drop_drop] at this
            rw [List.drop_succ_cons, List.drop_zero] at this
            exact this
          · have := congrArg (List.drop 1) aK
            rw [List.drop_drop] at this
            rw [List.drop_succ_cons, List.drop_zero] at this
            exact this
          · have := a2.right
            rwa [SH.flatT_len] at this
          · rw [a4, decide_eq_false (show ¬ i + 1 = 0 by omega)]
            simp
        have HTL : Hid ((pre ++ (if decide (i = 0) = true then [] else DC.bl c) ++ ((key ++ [58]) ++ ((if tisTx t then [32] else 10 :: DC.bl (c + 2)) ++ SH.showT t (c + 2)))).length ≤ T.length) := by
          show _ ≤ _
          obtain ⟨k2, _, _, _, _, e⟩ := HN.out
          have := congrArg List.length e
          rw [List.length_append] at this
          omega
        have HIT := Lib.hid (fun (u2 : World) (o2 : Value) (bs2 : List UInt8) (h2 : Tw w0 W u2 o2 bs2) (h3 : bs2.length + (SH.showT t (c + 2)).length ≤ 600000000) => HI.out t ns N' (c + 2) w0 W u2 _ o2 bs2 (by have := HSZ.out; omega) HR.out a2.left h2 HLN.out h3 (by have := HCC.out; omega))
        rw [show ((c + 2 : Nat) : Int) = (c : Int) + 2 from rfl] at HIT
        have HBL : Hid ((DC.bl c).length = c ∧ (DC.bl (c + 2)).length = c + 2) := by show _ ∧ _; simp [DC.bl]
        clear hki hget a1 a2 a3 a4 HA u30 aK hkey hks u40 hx hxk hy hyx c6 hyk hNl d00
        by_cases h0 : i = 0
        · subst h0
          have hd0 : decide (0 < L) = true := decide_eq_true (by omega)
          have hin0 : (0 : Int) < (L : Int) := by omega
          have hin1 : 0 < L := by omega
          simp only [Nat.add_zero] at HFX
          cases hX : tisTx t with
          | true =>
            have hk1 : tknd t = 1 := by cases t <;> first | rfl | cases hX
            rw [hk1] at HFX
            clear hk1
            rw [decide_eq_true (show (0 : Nat) = 0 from rfl)] at HN HTL
            simp only [if_true, List.append_nil] at HN HTL
            simp only [hX, if_true] at HN HTL
            obtain ⟨⟨j1, j2, j3⟩, j4, j5, j6, j7⟩ := HFX.out _ _ _ H.out
            obtain ⟨WC, vc, hcv, hbw, hrd⟩ := conv_text key (by have := HKY.out; omega) wr
            have SC := Lib.hid (H.out.calm hbw)
            have RC := Lib.hid hrd
            clear hbw hrd j6
            go_upto_region 15 with (first
              | (at_builtin; refine wpList_append_bytes rfl (.tmp 68) (.tmp 69) 35 rfl w0.heap.size 5 Tryz.underlying35 Tryz.linfo_u8 (by rfl) (S6.out.calm (below_alloc _ _)).own (by rfl) (one_rd (b := 58) rfl) (by have := HTL.out; have := HLL.out; have := HBL.out; simp only [List.length_append, List.length_cons, List.length_nil] at *; omega) (S6.out.calm (below_alloc _ _)).size ?_; intro u7 w7 ho7 hg7 hb7; have S7 := Lib.hid ((S6.out.calm (below_alloc _ _)).grown hg7 ho7); obtain ⟨⟨m1, m2, m3⟩, -, -, m6, -⟩ := HFX.out _ _ _ S7.out; clear ho7 hg7 hb7)
              | (at_builtin; refine wpList_append_bytes rfl (.tmp 61) (.tmp 67) 35 rfl w0.heap.size 5 Tryz.underlying35 Tryz.linfo_u8 (by rfl) SC.out.own (by rfl) RC.out (by have := HTL.out; have := HLL.out; have := HBL.out; simp only [List.length_append, List.length_cons, List.length_nil] at *; omega) SC.out.size ?_; intro u6 w6 ho6 hg6 hb6; have S6 := Lib.hid (SC.out.grown hg6 ho6); clear ho6 hg6 hb6))
            clear j1 j2 j3 j4 j5 j7 hcv
            have S8 := Lib.hid (fun (u : World) (hu : ∃ n9, w7.drewN n9 = u) => (show Tw w0 W u u7 _ from by obtain ⟨n9, rfl⟩ := hu; exact S7.out.calm (below_drewN w7 n9)))
            go_quiet (fail)
            clear m1 m2 m3 m6
            go_upto_region 16 with fail
            generalize hw8 : World.drewN w7 _ = w8 at *
            have S9 := Lib.hid (S8.out w8 ⟨_, hw8⟩)
            clear hw8
            refine wp_region_held_drew (S := fun u2 => u2.cell? ⟨w.heap.size, 0, none⟩ = some (.slice (some ⟨b5, o5, none⟩) NL cap5) ∧ u2.cell? ⟨w.heap.size + 1, 5, none⟩ = some (.slice (some ⟨b3, o3, none⟩) L ic) ∧ u2.cell? ⟨b3, o3, none⟩ = some (.int .i64 (N' : Int))) (by kernel_rfl) (HFX.out _ _ _ (S9.out.calm (below_drew _))).1 ?_
            intro hS0
            have hwr : IntKind.i64.wrap ((c : Int) + 2) = (c : Int) + 2 := twrap_small (by omega) (by omega)
            refine wpAnyH_take (i := 0) (v := ?vq21) rfl (by kernel_rfl) (by kernel_rfl) (by kernel_rfl) (fun _ _ _ h => h) (Or.inl ⟨by rfl, ?hq21⟩) hS0 ?rq21
            case hq21 => intro x hSx; obtain ⟨q1, q2, q3⟩ := hSx; go_simp; first | done | with_reducible rfl
            (try simp only [List.getElem_toArray, List.getElem_cons_zero, Act.put, List.setIfInBounds_toArray, List.set_cons_zero, List.set_cons_succ])
            refine wpAnyH_take (i := 3) (v := ?vq22) rfl (by kernel_rfl) (by kernel_rfl) (by kernel_rfl) (fun _ _ _ h => h) (Or.inl ⟨by rfl, ?hq22⟩) hS0 ?rq22
            case hq22 => intro x hSx; obtain ⟨q1, q2, q3⟩ := hSx; go_simp; first | done | with_reducible rfl
            (try simp only [List.getElem_toArray, List.getElem_cons_zero, List.getElem_cons_succ, Act.put, List.setIfInBounds_toArray, List.set_cons_zero, List.set_cons_succ])
            refine wpAnyH_take (i := 4) (v := ?vq23) rfl (by kernel_rfl) (by kernel_rfl) (by kernel_rfl) (fun _ _ _ h => h) (Or.inl ⟨by rfl, ?hq23⟩) hS0 ?rq23
            case hq23 => intro x hSx; obtain ⟨q1, q2, q3⟩ := hSx; go_simp; first | done | with_reducible rfl
            (try simp only [List.getElem_toArray, List.getElem_cons_zero, List.getElem_cons_succ, Act.put, List.setIfInBounds_toArray, List.set_cons_zero, List.set_cons_succ])
            refine wpAnyH_take (i := 5) (v := ?vq24) rfl (by kernel_rfl) (by kernel_rfl) (by kernel_rfl) (fun _ _ _ h => h) (Or.inl ⟨by rfl, ?hq24⟩) hS0 ?rq24
            case hq24 => intro x hSx; obtain ⟨q1, q2, q3⟩ := hSx; go_simp; first | done | with_reducible rfl
            (try simp only [List.getElem_toArray, List.getElem_cons_zero, List.getElem_cons_succ, Act.put, List.setIfInBounds_toArray, List.set_cons_zero, List.set_cons_succ])
            refine wpAnyH_take (i := 6) (v := ?vq25) rfl (by kernel_rfl) (by kernel_rfl) (by kernel_rfl) (fun _ _ _ h => h) (Or.inl ⟨by rfl, ?hq25⟩) hS0 ?rq25
            case hq25 => intro x hSx; obtain ⟨q1, q2, q3⟩ := hSx; go_simp; first | done | with_reducible rfl
            (try simp only [List.getElem_toArray, List.getElem_cons_zero, List.getElem_cons_succ, Act.put, List.setIfInBounds_toArray, List.set_cons_zero, List.set_cons_succ])
            refine wpAnyH_take (i := 7) (v := ?vq26) rfl (by kernel_rfl) (by kernel_rfl) (by kernel_rfl) (fun _ _ _ h => h) (Or.inl ⟨by rfl, ?hq26⟩) hS0 ?rq26
            case hq26 => intro x hSx; obtain ⟨q1, q2, q3⟩ := hSx; go_simp; first | done | with_reducible rfl
            (try simp only [List.getElem_toArray, List.getElem_cons_zero, List.getElem_cons_succ, Act.put, List.setIfInBounds_toArray, List.set_cons_zero, List.set_cons_succ])
            refine wpAnyH_take (i := 8) (v := ?vq27) rfl (by kernel_rfl) (by kernel_rfl) (by kernel_rfl) (fun _ _ _ h => h) (Or.inl ⟨by rfl, ?hq27⟩) hS0 ?rq27
            case hq27 => intro x hSx; obtain ⟨q1, q2, q3⟩ := hSx; go_simp; first | done | with_reducible rfl
            (try simp only [List.getElem_toArray, List.getElem_cons_zero, List.getElem_cons_succ, Act.put, List.setIfInBounds_toArray, List.set_cons_zero, List.set_cons_succ])
            refine wpAnyH_take (i := 9) (v := ?vq28) rfl (by kernel_rfl) (by kernel_rfl) (by kernel_rfl) (fun _ _ _ h => h) (Or.inl ⟨by rfl, ?hq28⟩) hS0 ?rq28
            case hq28 => intro x hSx; obtain ⟨q1, q2, q3⟩ := hSx; go_simp; first | done | with_reducible rfl
            (try simp only [List.getElem_toArray, List.getElem_cons_zero, List.getElem_cons_succ, Act.put, List.setIfInBounds_toArray, List.set_cons_zero, List.set_cons_succ])
            refine wpAnyH_take (i := 10) (v := ?vq29) rfl (by kernel_rfl) (by kernel_rfl) (by kernel_rfl) (fun _ _ _ h => h) (Or.inl ⟨by rfl, ?hq29⟩) hS0 ?rq29
            case hq29 => intro x hSx; obtain ⟨q1, q2, q3⟩ := hSx; go_simp; first | done | with_reducible rfl
            (try simp only [List.getElem_toArray, List.getElem_cons_zero, List.getElem_cons_succ, Act.put, List.setIfInBounds_toArray, List.set_cons_zero, List.set_cons_succ])
            refine wpAnyH_ready (rs := [1]) (by kernel_rfl) (by simp) ?_
            refine AllReadyH.cons rfl (fun K hK => ?_) AllReadyH.nil
            go_simp
            have SA := Lib.hid ((S9.out.calm (below_drew _)).calm (below_alloc _ (.cells #[.int .u8 32] 5)))
            refine hK.out _ _ (HFX.out _ _ _ SA.out).1 (fun hS1 => ?_)
            clear hK K
            (try simp only [List.getElem_toArray, List.getElem_cons_zero, List.getElem_cons_succ, Act.put, List.setIfInBounds_toArray, List.set_cons_zero, List.set_cons_succ])
            refine wpAnyH_ready (rs := [2]) (by kernel_rfl) (by simp) ?_
            refine AllReadyH.cons rfl (fun K hK => ?_) AllReadyH.nil
            refine step_append_turned (news := [32]) (by rfl) (.tmp 82) (.tmp 83) 35 (by rfl) w0.heap.size 5 Tryz.underlying35 Tryz.linfo_u8 (by rfl) SA.out.own (by rfl) (one_rd (b := 32) rfl) (by simp) (by have := HTL.out; have := HLL.out; have := HBL.out; simp only [List.length_append, List.length_cons, List.length_nil] at *; omega) SA.out.size ?_
            intro g3 cap3 w3 ho3 hg3
            have S3 := Lib.hid (SA.out.grown hg3 ho3)
            clear ho3 hg3
            generalize List.length (bs ++ pre ++ key ++ [58]) + List.length ([32] : List UInt8) = m3 at S3 ⊢
            refine hK.out _ _ (HFX.out _ _ _ S3.out).1 (fun hS2 => ?_)
            clear hK K
            (try simp only [List.getElem_toArray, List.getElem_cons_zero, List.getElem_cons_succ, Act.put, List.setIfInBounds_toArray, List.set_cons_zero, List.set_cons_succ])
            refine wpAnyH_ready (rs := [11]) (by kernel_rfl) (by simp) ?_
            refine AllReadyH.cons rfl (fun K hK => ?_) AllReadyH.nil
            go_simp
            go_at_call 28
            refine (HIT.out _ _ _ S3.out (by have := HTL.out; have := HLL.out; have := HBL.out; simp only [List.length_append, List.length_cons, List.length_nil] at *; omega)).mono ?_
            rintro e w4 ⟨a4, n4, c4, rfl, s4⟩
            have S4 := Lib.hid s4
            clear s4
            refine hK.out _ _ (HFX.out _ _ _ S4.out).1 (fun hS3 => ?_)
            clear hK K
            (try simp only [List.getElem_toArray, List.getElem_cons_zero, List.getElem_cons_succ, Act.put, List.setIfInBounds_toArray, List.set_cons_zero, List.set_cons_succ])
            refine wpAnyH_take (i := 12) (v := ?vq30) rfl (by kernel_rfl) (by kernel_rfl) (by kernel_rfl) (fun _ _ _ h => h) (Or.inl ⟨by rfl, ?hq30⟩) hS3 ?rq30
            case hq30 => intro x hSx; obtain ⟨-, -, -⟩ := hSx; go_simp; first | done | with_reducible rfl
            (try simp only [List.getElem_toArray, List.getElem_cons_zero, List.getElem_cons_succ, Act.put, List.setIfInBounds_toArray, List.set_cons_zero])
            refine wpAnyH_done (by kernel_rfl) ?_ _
            go_wp2
            go_roundg g
            case rel => exact ⟨1, N' + SH.sizeT t, pre ++ ((key ++ [58]) ++ ([32] ++ SH.showT t (c + 2))), _, by omega, by first | rfl | (simp; done), rfl, by have := S4; simp only [List.append_assoc, List.cons_append, List.nil_append] at this ⊢; exact this, HN⟩
            case measure => omega
          | false =>
            obtain ⟨KD, hKD⟩ : ∃ KD, tknd t = KD := ⟨_, rfl⟩
            have hk1 : (KD == 1) = false := by rw [← hKD]; cases t <;> first | rfl | cases hX
            rw [hKD] at HFX
            clear hKD
            rw [decide_eq_true (show (0 : Nat) = 0 from rfl)] at HN HTL
            simp only [if_true, List.append_nil] at HN HTL
            simp only [hX, Bool.false_eq_true, if_false] at HN HTL
            obtain ⟨⟨j1, j2, j3⟩, j4, j5, j6, j7⟩ := HFX.out _ _ _ H.out
            obtain ⟨WC, vc, hcv, hbw, hrd⟩ := conv_text key (by have := HKY.out; omega) wr
            have SC := Lib.hid (H.out.calm hbw)
            have RC := Lib.hid hrd
            clear hbw hrd j6
            go_upto_region 15 with (first
              | (at_builtin; refine wpList_append_bytes rfl (.tmp 68) (.tmp 69) 35 rfl w0.heap.size 5 Tryz.underlying35 Tryz.linfo_u8 (by rfl) (S6.out.calm (below_alloc _ _)).own (by rfl) (one_rd (b := 58) rfl) (by have := HTL.out; have := HLL.out; have := HBL.out; simp only [List.length_append, List.length_cons, List.length_nil] at *; omega) (S6.out.calm (below_alloc _ _)).size ?_; intro u7 w7 ho7 hg7 hb7; have S7 := Lib.hid ((S6.out.calm (below_alloc _ _)).grown hg7 ho7); obtain ⟨⟨m1, m2, m3⟩, -, -, m6, -⟩ := HFX.out _ _ _ S7.out; clear ho7 hg7 hb7)
              | (at_builtin; refine wpList_append_bytes rfl (.tmp 61) (.tmp 67) 35 rfl w0.heap.size 5 Tryz.underlying35 Tryz.linfo_u8 (by rfl) SC.out.own (by rfl) RC.out (by have := HTL.out; have := HLL.out; have := HBL.out; simp only [List.length_append, List.length_cons, List.length_nil] at *; omega) SC.out.size ?_; intro u6 w6 ho6 hg6 hb6; have S6 := Lib.hid (SC.out.grown hg6 ho6); clear ho6 hg6 hb6))
            clear j1 j2 j3 j4 j5 j7 hcv
            have S8 := Lib.hid (fun (u : World) (hu : ∃ n9, w7.drewN n9 = u) => (show Tw w0 W u u7 _ from by obtain ⟨n9, rfl⟩ := hu; exact S7.out.calm (below_drewN w7 n9)))
            go_quiet (fail)
            clear m1 m2 m3 m6
            have HI2 := Lib.hid (fun (u2 : World) (o2 : Value) (h2 : Tw w0 W u2 o2 (bs ++ pre ++ key ++ [58] ++ [10])) => tin_any (c + 2) h2 (by have := HTL.out; have := HLL.out; have := HBL.out; simp only [List.length_append, List.length_cons, List.length_nil] at *; omega))
            rw [show ((c + 2 : Nat) : Int) = (c : Int) + 2 from rfl] at HI2
            go_upto_region 17 with fail
            generalize hw8 : World.drewN w7 _ = w8 at *
            have S9 := Lib.hid (S8.out w8 ⟨_, hw8⟩)
            clear hw8
            refine wp_region_held_drew (S := fun u2 => u2.cell? ⟨w.heap.size, 0, none⟩ = some (.slice (some ⟨b5, o5, none⟩) NL cap5) ∧ u2.cell? ⟨w.heap.size + 1, 5, none⟩ = some (.slice (some ⟨b3, o3, none⟩) L ic) ∧ u2.cell? ⟨b3, o3, none⟩ = some (.int .i64 (N' : Int))) (by kernel_rfl) (HFX.out _ _ _ (S9.out.calm (below_drew _))).1 ?_
            intro hS0
            have hwr : IntKind.i64.wrap ((c : Int) + 2) = (c : Int) + 2 := twrap_small (by omega) (by omega)
            refine wpAnyH_take (i := 0) (v := ?vq31) rfl (by kernel_rfl) (by kernel_rfl) (by kernel_rfl) (fun _ _ _ h => h) (Or.inl ⟨by rfl, ?hq31⟩) hS0 ?rq31
            case hq31 => intro x hSx; obtain ⟨q1, q2, q3⟩ := hSx; go_simp; first | done | with_reducible rfl
            (try simp only [List.getElem_toArray, List.getElem_cons_zero, Act.put, List.setIfInBounds_toArray, List.set_cons_zero, List.set_cons_succ])
            refine wpAnyH_take (i := 3) (v := ?vq32) rfl (by kernel_rfl) (by kernel_rfl) (by kernel_rfl) (fun _ _ _ h => h) (Or.inl ⟨by rfl, ?hq32⟩) hS0 ?rq32
            case hq32 => intro x hSx; obtain ⟨q1, q2, q3⟩ := hSx; go_simp; first | done | with_reducible rfl
            (try simp only [List.getElem_toArray, List.getElem_cons_zero, List.getElem_cons_succ, Act.put, List.setIfInBounds_toArray, List.set_cons_zero, List.set_cons_succ])
            refine wpAnyH_take (i := 4) (v := ?vq33) rfl (by kernel_rfl) (by kernel_rfl) (by kernel_rfl) (fun _ _ _ h => h) (Or.inl ⟨by rfl, ?hq33⟩) hS0 ?rq33
            case hq33 => intro x hSx; obtain ⟨q1, q2, q3⟩ := hSx; go_simp; first | done | with_reducible rfl
            (try simp only [List.getElem_toArray, List.getElem_cons_zero, List.getElem_cons_succ, Act.put, List.setIfInBounds_toArray, List.set_cons_zero, List.set_cons_succ])
            refine wpAnyH_take (i := 6) (v := ?vq34) rfl (by kernel_rfl) (by kernel_rfl) (by kernel_rfl) (fun _ _ _ h => h) (Or.inl ⟨by rfl, ?hq34⟩) hS0 ?rq34
            case hq34 => intro x hSx; obtain ⟨q1, q2, q3⟩ := hSx; go_simp; first | done | with_reducible rfl
            (try simp only [List.getElem_toArray, List.getElem_cons_zero, List.getElem_cons_succ, Act.put, List.setIfInBounds_toArray, List.set_cons_zero, List.set_cons_succ])
            refine wpAnyH_take (i := 7) (v := ?vq35) rfl (by kernel_rfl) (by kernel_rfl) (by kernel_rfl) (fun _ _ _ h => h) (Or.inl ⟨by rfl, ?hq35⟩) hS0 ?rq35
            case hq35 => intro x hSx; obtain ⟨q1, q2, q3⟩ := hSx; go_simp; first | done | with_reducible rfl
            (try simp only [List.getElem_toArray, List.getElem_cons_zero, List.getElem_cons_succ, Act.put, List.setIfInBounds_toArray, List.set_cons_zero, List.set_cons_succ])
            refine wpAnyH_take (i := 8) (v := ?vq36) rfl (by kernel_rfl) (by kernel_rfl) (by kernel_rfl) (fun _ _ _ h => h) (Or.inl ⟨by rfl, ?hq36⟩) hS0 ?rq36
            case hq36 => intro x hSx; obtain ⟨q1, q2, q3⟩ := hSx; go_simp; first | done | with_reducible rfl
            (try simp only [List.getElem_toArray, List.getElem_cons_zero, List.getElem_cons_succ, Act.put, List.setIfInBounds_toArray, List.set_cons_zero, List.set_cons_succ])
            refine wpAnyH_take (i := 9) (v := ?vq37) rfl (by kernel_rfl) (by kernel_rfl) (by kernel_rfl) (fun _ _ _ h => h) (Or.inl ⟨by rfl, ?hq37⟩) hS0 ?rq37
            case hq37 => intro x hSx; obtain ⟨q1, q2, q3⟩ := hSx; go_simp; first | done | with_reducible rfl
            (try simp only [List.getElem_toArray, List.getElem_cons_zero, List.getElem_cons_succ, Act.put, List.setIfInBounds_toArray, List.set_cons_zero, List.set_cons_succ])
            refine wpAnyH_take (i := 10) (v := ?vq38) rfl (by kernel_rfl) (by kernel_rfl) (by kernel_rfl) (fun _ _ _ h => h) (Or.inl ⟨by rfl, ?hq38⟩) hS0 ?rq38
            case hq38 => intro x hSx; obtain ⟨q1, q2, q3⟩ := hSx; go_simp; first | done | with_reducible rfl
            (try simp only [List.getElem_toArray, List.getElem_cons_zero, List.getElem_cons_succ, Act.put, List.setIfInBounds_toArray, List.set_cons_zero, List.set_cons_succ])
            refine wpAnyH_take (i := 11) (v := ?vq39) rfl (by kernel_rfl) (by kernel_rfl) (by kernel_rfl) (fun _ _ _ h => h) (Or.inl ⟨by rfl, ?hq39⟩) hS0 ?rq39
            case hq39 => intro x hSx; obtain ⟨q1, q2, q3⟩ := hSx; go_simp; first | done | with_reducible rfl
            (try simp only [List.getElem_toArray, List.getElem_cons_zero, List.getElem_cons_succ, Act.put, List.setIfInBounds_toArray, List.set_cons_zero, List.set_cons_succ])
            refine wpAnyH_take (i := 12) (v := ?vq40) rfl (by kernel_rfl) (by kernel_rfl) (by kernel_rfl) (fun _ _ _ h => h) (Or.inl ⟨by rfl, ?hq40⟩) hS0 ?rq40
            case hq40 => intro x hSx; obtain ⟨q1, q2, q3⟩ := hSx; go_simp; first | done | with_reducible rfl
            (try simp only [List.getElem_toArray, List.getElem_cons_zero, List.getElem_cons_succ, Act.put, List.setIfInBounds_toArray, List.set_cons_zero, List.set_cons_succ])
            refine wpAnyH_take (i := 13) (v := ?vq41) rfl (by kernel_rfl) (by kernel_rfl) (by kernel_rfl) (fun _ _ _ h => h) (Or.inl ⟨by rfl, ?hq41⟩) hS0 ?rq41
            case hq41 => intro x hSx; obtain ⟨q1, q2, q3⟩ := hSx; go_simp; first | done | with_reducible rfl
            (try simp only [List.getElem_toArray, List.getElem_cons_zero, List.getElem_cons_succ, Act.put, List.setIfInBounds_toArray, List.set_cons_zero, List.set_cons_succ])
            refine wpAnyH_ready (rs := [1]) (by kernel_rfl) (by simp) ?_
            refine AllReadyH.cons rfl (fun K hK => ?_) AllReadyH.nil
            go_simp
            have SA := Lib.hid ((S9.out.calm (below_drew _)).calm (below_alloc _ (.cells #[.int .u8 10] 5)))
            refine hK.out _ _ (HFX.out _ _ _ SA.out).1 (fun hS1 => ?_)
            clear hK K
            (try simp only [List.getElem_toArray, List.getElem_cons_zero, List.getElem_cons_succ, Act.put, List.setIfInBounds_toArray, List.set_cons_zero, List.set_cons_succ])
            refine wpAnyH_ready (rs := [2]) (by kernel_rfl) (by simp) ?_
            refine AllReadyH.cons rfl (fun K hK => ?_) AllReadyH.nil
            refine step_append_turned (news := [10]) (by rfl) (.tmp 94) (.tmp 95) 35 (by rfl) w0.heap.size 5 Tryz.underlying35 Tryz.linfo_u8 (by rfl) SA.out.own (by rfl) (one_rd (b := 10) rfl) (by simp) (by have := HTL.out; have := HLL.out; have := HBL.out; simp only [List.length_append, List.length_cons, List.length_nil] at *; omega) SA.out.size ?_
            intro g3 cap3 w3 ho3 hg3
            have S3 := Lib.hid (SA.out.grown hg3 ho3)
            clear ho3 hg3
            generalize List.length (bs ++ pre ++ key ++ [58]) + List.length ([10] : List UInt8) = m3 at S3 ⊢
            refine hK.out _ _ (HFX.out _ _ _ S3.out).1 (fun hS2 => ?_)
            clear hK K
            (try simp only [List.getElem_toArray, List.getElem_cons_zero, List.getElem_cons_succ, Act.put, List.setIfInBounds_toArray, List.set_cons_zero, List.set_cons_succ])
            refine wpAnyH_ready (rs := [5]) (by kernel_rfl) (by simp) ?_
            refine AllReadyH.cons rfl (fun K hK => ?_) AllReadyH.nil
            go_simp
            go_at_call 53
            refine (HI2.out _ _ S3.out).mono ?_
            rintro e w5 ⟨a5, n5, c5, rfl, s5⟩
            have S5 := Lib.hid s5
            clear s5
            refine hK.out _ _ (HFX.out _ _ _ S5.out).1 (fun hS4 => ?_)
            clear hK K
            (try simp only [List.getElem_toArray, List.getElem_cons_zero, List.getElem_cons_succ, Act.put, List.setIfInBounds_toArray, List.set_cons_zero, List.set_cons_succ])
            refine wpAnyH_ready (rs := [14]) (by kernel_rfl) (by simp) ?_
            refine AllReadyH.cons rfl (fun K hK => ?_) AllReadyH.nil
            go_simp
            go_at_call 28
            refine (HIT.out _ _ _ S5.out (by have := HTL.out; have := HLL.out; have := HBL.out; simp only [List.length_append, List.length_cons, List.length_nil] at *; omega)).mono ?_
            rintro e w4 ⟨a4, n4, c4, rfl, s4⟩
            have S4 := Lib.hid s4
            clear s4
            refine hK.out _ _ (HFX.out _ _ _ S4.out).1 (fun hS3 => ?_)
            clear hK K
            (try simp only [List.getElem_toArray, List.getElem_cons_zero, List.getElem_cons_succ, Act.put, List.setIfInBounds_toArray, List.set_cons_zero, List.set_cons_succ])
            refine wpAnyH_take (i := 15) (v := ?vq42) rfl (by kernel_rfl) (by kernel_rfl) (by kernel_rfl) (fun _ _ _ h => h) (Or.inl ⟨by rfl, ?hq42⟩) hS3 ?rq42
            case hq42 => intro x hSx; obtain ⟨-, -, -⟩ := hSx; go_simp; first | done | with_reducible rfl
            (try simp only [List.getElem_toArray, List.getElem_cons_zero, List.getElem_cons_succ, Act.put, List.setIfInBounds_toArray, List.set_cons_zero])
            refine wpAnyH_done (by kernel_rfl) ?_ _
            go_wp2
            go_roundg g
            case rel => exact ⟨1, N' + SH.sizeT t, pre ++ ((key ++ [58]) ++ (10 :: DC.bl (c + 2) ++ SH.showT t (c + 2))), _, by omega, by first | rfl | (simp; done), rfl, by have := S4; simp only [List.append_assoc, List.cons_append, List.nil_append] at this ⊢; exact this, HN⟩
            case measure => omega
        · have hg0 : (0 : Int) < (i : Int) := by omega
          cases hX : tisTx t with
          | true =>
            have hk1 : tknd t = 1 := by cases t <;> first | rfl | cases hX
            rw [hk1] at HFX
            clear hk1
            rw [decide_eq_false h0] at HN HTL
            simp only [Bool.false_eq_true, if_false] at HN HTL
            simp only [hX, if_true] at HN HTL
            have HD := Lib.hid (tin_any c H.out (by have := HTL.out; have := HLL.out; have := HBL.out; simp only [List.length_append, List.length_cons, List.length_nil] at *; omega))
            rw [List.append_assoc bs pre (DC.bl c)] at HD
            clear h0
            go_upto_region 15 with (first
              | (at_builtin; refine wpList_append_bytes rfl (.tmp 68) (.tmp 69) 35 rfl w0.heap.size 5 Tryz.underlying35 Tryz.linfo_u8 (by rfl) (S6.out.calm (below_alloc _ _)).own (by rfl) (one_rd (b := 58) rfl) (by have := HTL.out; have := HLL.out; have := HBL.out; simp only [List.length_append, List.length_cons, List.length_nil] at *; omega) (S6.out.calm (below_alloc _ _)).size ?_; intro u7 w7 ho7 hg7 hb7; have S7 := Lib.hid ((S6.out.calm (below_alloc _ _)).grown hg7 ho7); obtain ⟨⟨m1, m2, m3⟩, -, -, m6, -⟩ := HFX.out _ _ _ S7.out; clear ho7 hg7 hb7)
              | (at_builtin; refine wpList_append_bytes rfl (.tmp 61) (.tmp 67) 35 rfl w0.heap.size 5 Tryz.underlying35 Tryz.linfo_u8 (by rfl) SC.out.own (by rfl) RC.out (by have := HTL.out; have := HLL.out; have := HBL.out; simp only [List.length_append, List.length_cons, List.length_nil] at *; omega) SC.out.size ?_; intro u6 w6 ho6 hg6 hb6; have S6 := Lib.hid (SC.out.grown hg6 ho6); clear ho6 hg6 hb6)
              | (go_at_call 53; refine HD.out.mono ?_; rintro e w2 ⟨a2, n2, c2, rfl, s2⟩; obtain ⟨WC, vc, hcv, hbw, hrd⟩ := conv_text key (by have := HKY.out; omega) w2; have SC := Lib.hid (s2.calm hbw); have RC := Lib.hid hrd; obtain ⟨⟨j1, j2, j3⟩, j4, j5, -, j7⟩ := HFX.out _ _ _ s2; clear s2 hbw hrd))
            clear j1 j2 j3 j4 j5 j7 hcv
            have S8 := Lib.hid (fun (u : World) (hu : ∃ n9, w7.drewN n9 = u) => (show Tw w0 W u u7 _ from by obtain ⟨n9, rfl⟩ := hu; exact S7.out.calm (below_drewN w7 n9)))
            go_quiet (fail)
            clear m1 m2 m3 m6
            go_upto_region 16 with fail
            generalize hw8 : World.drewN w7 _ = w8 at *
            have S9 := Lib.hid (S8.out w8 ⟨_, hw8⟩)
            clear hw8
            refine wp_region_held_drew (S := fun u2 => u2.cell? ⟨w.heap.size, 0, none⟩ = some (.slice (some ⟨b5, o5, none⟩) NL cap5) ∧ u2.cell? ⟨w.heap.size + 1, 5, none⟩ = some (.slice (some ⟨b3, o3, none⟩) L ic) ∧ u2.cell? ⟨b3, o3 + i, none⟩ = some (.int .i64 (N' : Int))) (by kernel_rfl) (HFX.out _ _ _ (S9.out.calm (below_drew _))).1 ?_
            intro hS0
            have hwr : IntKind.i64.wrap ((c : Int) + 2) = (c : Int) + 2 := twrap_small (by omega) (by omega)
            refine wpAnyH_take (i := 0) (v := ?vq43) rfl (by kernel_rfl) (by kernel_rfl) (by kernel_rfl) (fun _ _ _ h => h) (Or.inl ⟨by rfl, ?hq43⟩) hS0 ?rq43
            case hq43 => intro x hSx; obtain ⟨q1, q2, q3⟩ := hSx; go_simp; first | done | with_reducible rfl
            (try simp only [List.getElem_toArray, List.getElem_cons_zero, Act.put, List.setIfInBounds_toArray, List.set_cons_zero, List.set_cons_succ])
            refine wpAnyH_take (i := 3) (v := ?vq44) rfl (by kernel_rfl) (by kernel_rfl) (by kernel_rfl) (fun _ _ _ h => h) (Or.inl ⟨by rfl, ?hq44⟩) hS0 ?rq44
            case hq44 => intro x hSx; obtain ⟨q1, q2, q3⟩ := hSx; go_simp; first | done | with_reducible rfl
            (try simp only [List.getElem_toArray, List.getElem_cons_zero, List.getElem_cons_succ, Act.put, List.setIfInBounds_toArray, List.set_cons_zero, List.set_cons_succ])
            refine wpAnyH_take (i := 4) (v := ?vq45) rfl (by kernel_rfl) (by kernel_rfl) (by kernel_rfl) (fun _ _ _ h => h) (Or.inl ⟨by rfl, ?hq45⟩) hS0 ?rq45
            case hq45 => intro x hSx; obtain ⟨q1, q2, q3⟩ := hSx; go_simp; first | done | with_reducible rfl
            (try simp only [List.getElem_toArray, List.getElem_cons_zero, List.getElem_cons_succ, Act.put, List.setIfInBounds_toArray, List.set_cons_zero, List.set_cons_succ])
            refine wpAnyH_take (i := 5) (v := ?vq46) rfl (by kernel_rfl) (by kernel_rfl) (by kernel_rfl) (fun _ _ _ h => h) (Or.inl ⟨by rfl, ?hq46⟩) hS0 ?rq46
            case hq46 => intro x hSx; obtain ⟨q1, q2, q3⟩ := hSx; go_simp; first | done | with_reducible rfl
            (try simp only [List.getElem_toArray, List.getElem_cons_zero, List.getElem_cons_succ, Act.put, List.setIfInBounds_toArray, List.set_cons_zero, List.set_cons_succ])
            refine wpAnyH_take (i := 6) (v := ?vq47) rfl (by kernel_rfl) (by kernel_rfl) (by kernel_rfl) (fun _ _ _ h => h) (Or.inl ⟨by rfl, ?hq47⟩) hS0 ?rq47
            case hq47 => intro x hSx; obtain ⟨q1, q2, q3⟩ := hSx; go_simp; first | done | with_reducible rfl
            (try simp only [List.getElem_toArray, List.getElem_cons_zero, List.getElem_cons_succ, Act.put, List.setIfInBounds_toArray, List.set_cons_zero, List.set_cons_succ])
            refine wpAnyH_take (i := 7) (v := ?vq48) rfl (by kernel_rfl) (by kernel_rfl) (by kernel_rfl) (fun _ _ _ h => h) (Or.inl ⟨by rfl, ?hq48⟩) hS0 ?rq48
            case hq48 => intro x hSx; obtain ⟨q1, q2, q3⟩ := hSx; go_simp; first | done | with_reducible rfl
            (try simp only [List.getElem_toArray, List.getElem_cons_zero, List.getElem_cons_succ, Act.put, List.setIfInBounds_toArray, List.set_cons_zero, List.set_cons_succ])
            refine wpAnyH_take (i := 8) (v := ?vq49) rfl (by kernel_rfl) (by kernel_rfl) (by kernel_rfl) (fun _ _ _ h => h) (Or.inl ⟨by rfl, ?hq49⟩) hS0 ?rq49
            case hq49 => intro x hSx; obtain ⟨q1, q2, q3⟩ := hSx; go_simp; first | done | with_reducible rfl
            (try simp only [List.getElem_toArray, List.getElem_cons_zero, List.getElem_cons_succ, Act.put, List.setIfInBounds_toArray, List.set_cons_zero, List.set_cons_succ])
            refine wpAnyH_take (i := 9) (v := ?vq50) rfl (by kernel_rfl) (by kernel_rfl) (by kernel_rfl) (fun _ _ _ h => h) (Or.inl ⟨by rfl, ?hq50⟩) hS0 ?rq50
            case hq50 => intro x hSx; obtain ⟨q1, q2, q3⟩ := hSx; go_simp; first | done | with_reducible rfl
            (try simp only [List.getElem_toArray, List.getElem_cons_zero, List.getElem_cons_succ, Act.put, List.setIfInBounds_toArray, List.set_cons_zero, List.set_cons_succ])
            refine wpAnyH_take (i := 10) (v := ?vq51) rfl (by kernel_rfl) (by kernel_rfl) (by kernel_rfl) (fun _ _ _ h => h) (Or.inl ⟨by rfl, ?hq51⟩) hS0 ?rq51
            case hq51 => intro x hSx; obtain ⟨q1, q2, q3⟩ := hSx; go_simp; first | done | with_reducible rfl
            (try simp only [List.getElem_toArray, List.getElem_cons_zero, List.getElem_cons_succ, Act.put, List.setIfInBounds_toArray, List.set_cons_zero, List.set_cons_succ])
            refine wpAnyH_ready (rs := [1]) (by kernel_rfl) (by simp) ?_
            refine AllReadyH.cons rfl (fun K hK => ?_) AllReadyH.nil
            go_simp
            have SA := Lib.hid ((S9.out.calm (below_drew _)).calm (below_alloc _ (.cells #[.int .u8 32] 5)))
            refine hK.out _ _ (HFX.out _ _ _ SA.out).1 (fun hS1 => ?_)
            clear hK K
            (try simp only [List.getElem_toArray, List.getElem_cons_zero, List.getElem_cons_succ, Act.put, List.setIfInBounds_toArray, List.set_cons_zero, List.set_cons_succ])
            refine wpAnyH_ready (rs := [2]) (by kernel_rfl) (by simp) ?_
            refine AllReadyH.cons rfl (fun K hK => ?_) AllReadyH.nil
            refine step_append_turned (news := [32]) (by rfl) (.tmp 82) (.tmp 83) 35 (by rfl) w0.heap.size 5 Tryz.underlying35 Tryz.linfo_u8 (by rfl) SA.out.own (by rfl) (one_rd (b := 32) rfl) (by simp) (by have := HTL.out; have := HLL.out; have := HBL.out; simp only [List.length_append, List.length_cons, List.length_nil] at *; omega) SA.out.size ?_
            intro g3 cap3 w3 ho3 hg3
            have S3 := Lib.hid (SA.out.grown hg3 ho3)
            clear ho3 hg3
            generalize List.length (bs ++ (pre ++ DC.bl c) ++ key ++ [58]) + List.length ([32] : List UInt8) = m3 at S3 ⊢
            refine hK.out _ _ (HFX.out _ _ _ S3.out).1 (fun hS2 => ?_)
            clear hK K
            (try simp only [List.getElem_toArray, List.getElem_cons_zero, List.getElem_cons_succ, Act.put, List.setIfInBounds_toArray, List.set_cons_zero, List.set_cons_succ])
            refine wpAnyH_ready (rs := [11]) (by kernel_rfl) (by simp) ?_
            refine AllReadyH.cons rfl (fun K hK => ?_) AllReadyH.nil
            go_simp
            go_at_call 28
            refine (HIT.out _ _ _ S3.out (by have := HTL.out; have := HLL.out; have := HBL.out; simp only [List.length_append, List.length_cons, List.length_nil] at *; omega)).mono ?_
            rintro e w4 ⟨a4, n4, c4, rfl, s4⟩
            have S4 := Lib.hid s4
            clear s4
            refine hK.out _ _ (HFX.out _ _ _ S4.out).1 (fun hS3 => ?_)
            clear hK K
            (try simp only [List.getElem_toArray, List.getElem_cons_zero, List.getElem_cons_succ, Act.put, List.setIfInBounds_toArray, List.set_cons_zero, List.set_cons_succ])
            refine wpAnyH_take (i := 12) (v := ?vq52) rfl (by kernel_rfl) (by kernel_rfl) (by kernel_rfl) (fun _ _ _ h => h) (Or.inl ⟨by rfl, ?hq52⟩) hS3 ?rq52
            case hq52 => intro x hSx; obtain ⟨-, -, -⟩ := hSx; go_simp; first | done | with_reducible rfl
            (try simp only [List.getElem_toArray, List.getElem_cons_zero, List.getElem_cons_succ, Act.put, List.setIfInBounds_toArray, List.set_cons_zero])
            refine wpAnyH_done (by kernel_rfl) ?_ _
            go_wp2
            go_roundg g
            case rel => exact ⟨i + 1, N' + SH.sizeT t, (pre ++ DC.bl c) ++ ((key ++ [58]) ++ ([32] ++ SH.showT t (c + 2))), _, by omega, by first | rfl | (simp; done), rfl, by have := S4; simp only [List.append_assoc, List.cons_append, List.nil_append] at this ⊢; exact this, HN⟩
            case measure => omega
          | false =>
            obtain ⟨KD, hKD⟩ : ∃ KD, tknd t = KD := ⟨_, rfl⟩
            have hk1 : (KD == 1) = false := by rw [← hKD]; cases t <;> first | rfl | cases hX
            rw [hKD] at HFX
            clear hKD
            rw [decide_eq_false h0] at HN HTL
            simp only [Bool.false_eq_true, if_false] at HN HTL
            simp only [hX, Bool.false_eq_true, if_false] at HN HTL
            have HD := Lib.hid (tin_any c H.out (by have := HTL.out; have := HLL.out; have := HBL.out; simp only [List.length_append, List.length_cons, List.length_nil] at *; omega))
            rw [List.append_assoc bs pre (DC.bl c)] at HD
            clear h0
            go_upto_region 15 with (first
              | (at_builtin; refine wpList_append_bytes rfl (.tmp 68) (.tmp 69) 35 rfl w0.heap.size 5 Tryz.underlying35 Tryz.linfo_u8 (by rfl) (S6.out.calm (below_alloc _ _)).own (by rfl) (one_rd (b := 58) rfl) (by have := HTL.out; have := HLL.out; have := HBL.out; simp only [List.length_append, List.length_cons, List.length_nil] at *; omega) (S6.out.calm (below_alloc _ _)).size ?_; intro u7 w7 ho7 hg7 hb7; have S7 := Lib.hid ((S6.out.calm (below_alloc _ _)).grown hg7 ho7); obtain ⟨⟨m1, m2, m3⟩, -, -, m6, -⟩ := HFX.out _ _ _ S7.out; clear ho7 hg7 hb7)
              | (at_builtin; refine wpList_append_bytes rfl (.tmp 61) (.tmp 67) 35 rfl w0.heap.size 5 Tryz.underlying35 Tryz.linfo_u8 (by rfl) SC.out.own (by rfl) RC.out (by have := HTL.out; have := HLL.out; have := HBL.out; simp only [List.length_append, List.length_cons, List.length_nil] at *; omega) SC.out.size ?_; intro u6 w6 ho6 hg6 hb6; have S6 := Lib.hid (SC.out.grown hg6 ho6); clear ho6 hg6 hb6)
              | (go_at_call 53; refine HD.out.mono ?_; rintro e w2 ⟨a2, n2, c2, rfl, s2⟩; obtain ⟨WC, vc, hcv, hbw, hrd⟩ := conv_text key (by have := HKY.out; omega) w2; have SC := Lib.hid (s2.calm hbw); have RC := Lib.hid hrd; obtain ⟨⟨j1, j2, j3⟩, j4, j5, -, j7⟩ := HFX.out _ _ _ s2; clear s2 hbw hrd))
            clear j1 j2 j3 j4 j5 j7 hcv
            have S8 := Lib.hid (fun (u : World) (hu : ∃ n9, w7.drewN n9 = u) => (show Tw w0 W u u7 _ from by obtain ⟨n9, rfl⟩ := hu; exact S7.out.calm (below_drewN w7 n9)))
            go_quiet (fail)
            clear m1 m2 m3 m6
            have HI2 := Lib.hid (fun (u2 : World) (o2 : Value) (h2 : Tw w0 W u2 o2 (bs ++ (pre ++ DC.bl c) ++ key ++ [58] ++ [10])) => tin_any (c + 2) h2 (by have := HTL.out; have := HLL.out; have := HBL.out; simp only [List.length_append, List.length_cons, List.length_nil] at *; omega))
            rw [show ((c + 2 : Nat) : Int) = (c : Int) + 2 from rfl] at HI2
            go_upto_region 17 with fail
            generalize hw8 : World.drewN w7 _ = w8 at *
            have S9 := Lib.hid (S8.out w8 ⟨_, hw8⟩)
            clear hw8
            refine wp_region_held_drew (S := fun u2 => u2.cell? ⟨w.heap.size, 0, none⟩ = some (.slice (some ⟨b5, o5, none⟩) NL cap5) ∧ u2.cell? ⟨w.heap.size + 1, 5, none⟩ = some (.slice (some ⟨b3, o3, none⟩) L ic) ∧ u2.cell? ⟨b3, o3 + i, none⟩ = some (.int .i64 (N' : Int))) (by kernel_rfl) (HFX.out _ _ _ (S9.out.calm (below_drew _))).1 ?_
            intro hS0
            have hwr : IntKind.i64.wrap ((c : Int) + 2) = (c : Int) + 2 := twrap_small (by omega) (by omega)
            refine wpAnyH_take (i := 0) (v := ?vq53) rfl (by kernel_rfl) (by kernel_rfl) (by kernel_rfl) (fun _ _ _ h => h) (Or.inl ⟨by rfl, ?hq53⟩) hS0 ?rq53
            case hq53 => intro x hSx; obtain ⟨q1, q2, q3⟩ := hSx; go_simp; first | done | with_reducible rfl
            (try simp only [List.getElem_toArray, List.getElem_cons_zero, Act.put, List.setIfInBounds_toArray, List.set_cons_zero, List.set_cons_succ])
            refine wpAnyH_take (i := 3) (v := ?vq54) rfl (by kernel_rfl) (by kernel_rfl) (by kernel_rfl) (fun _ _ _ h => h) (Or.inl ⟨by rfl, ?hq54⟩) hS0 ?rq54
            case hq54 => intro x hSx; obtain ⟨q1, q2, q3⟩ := hSx; go_simp; first | done | with_reducible rfl
            (try simp only [List.getElem_toArray, List.getElem_cons_zero, List.getElem_cons_succ, Act.put, List.setIfInBounds_toArray, List.set_cons_zero, List.set_cons_succ])
            refine wpAnyH_take (i := 4) (v := ?vq55) rfl (by kernel_rfl) (by kernel_rfl) (by kernel_rfl) (fun _ _ _ h => h) (Or.inl ⟨by rfl, ?hq55⟩) hS0 ?rq55
            case hq55 => intro x hSx; obtain ⟨q1, q2, q3⟩ := hSx; go_simp; first | done | with_reducible rfl
            (try simp only [List.getElem_toArray, List.getElem_cons_zero, List.getElem_cons_succ, Act.put, List.setIfInBounds_toArray, List.set_cons_zero, List.set_cons_succ])
            refine wpAnyH_take (i := 6) (v := ?vq56) rfl (by kernel_rfl) (by kernel_rfl) (by kernel_rfl) (fun _ _ _ h => h) (Or.inl ⟨by rfl, ?hq56⟩) hS0 ?rq56
            case hq56 => intro x hSx; obtain ⟨q1, q2, q3⟩ := hSx; go_simp; first | done | with_reducible rfl
            (try simp only [List.getElem_toArray, List.getElem_cons_zero, List.getElem_cons_succ, Act.put, List.setIfInBounds_toArray, List.set_cons_zero, List.set_cons_succ])
            refine wpAnyH_take (i := 7) (v := ?vq57) rfl (by kernel_rfl) (by kernel_rfl) (by kernel_rfl) (fun _ _ _ h => h) (Or.inl ⟨by rfl, ?hq57⟩) hS0 ?rq57
            case hq57 => intro x hSx; obtain ⟨q1, q2, q3⟩ := hSx; go_simp; first | done | with_reducible rfl
            (try simp only [List.getElem_toArray, List.getElem_cons_zero, List.getElem_cons_succ, Act.put, List.setIfInBounds_toArray, List.set_cons_zero, List.set_cons_succ])
            refine wpAnyH_take (i := 8) (v := ?vq58) rfl (by kernel_rfl) (by kernel_rfl) (by kernel_rfl) (fun _ _ _ h => h) (Or.inl ⟨by rfl, ?hq58⟩) hS0 ?rq58
            case hq58 => intro x hSx; obtain ⟨q1, q2, q3⟩ := hSx; go_simp; first | done | with_reducible rfl
            (try simp only [List.getElem_toArray, List.getElem_cons_zero, List.getElem_cons_succ, Act.put, List.setIfInBounds_toArray, List.set_cons_zero, List.set_cons_succ])
            refine wpAnyH_take (i := 9) (v := ?vq59) rfl (by kernel_rfl) (by kernel_rfl) (by kernel_rfl) (fun _ _ _ h => h) (Or.inl ⟨by rfl, ?hq59⟩) hS0 ?rq59
            case hq59 => intro x hSx; obtain ⟨q1, q2, q3⟩ := hSx; go_simp; first | done | with_reducible rfl
            (try simp only [List.getElem_toArray, List.getElem_cons_zero, List.getElem_cons_succ, Act.put, List.setIfInBounds_toArray, List.set_cons_zero, List.set_cons_succ])
            refine wpAnyH_take (i := 10) (v := ?vq60) rfl (by kernel_rfl) (by kernel_rfl) (by kernel_rfl) (fun _ _ _ h => h) (Or.inl ⟨by rfl, ?hq60⟩) hS0 ?rq60
            case hq60 => intro x hSx; obtain ⟨q1, q2, q3⟩ := hSx; go_simp; first | done | with_reducible rfl
            (try simp only [List.getElem_toArray, List.getElem_cons_zero, List.getElem_cons_succ, Act.put, List.setIfInBounds_toArray, List.set_cons_zero, List.set_cons_succ])
            refine wpAnyH_take (i := 11) (v := ?vq61) rfl (by kernel_rfl) (by kernel_rfl) (by kernel_rfl) (fun _ _ _ h => h) (Or.inl ⟨by rfl, ?hq61⟩) hS0 ?rq61
            case hq61 => intro x hSx; obtain ⟨q1, q2, q3⟩ := hSx; go_simp; first | done | with_reducible rfl
            (try simp only [List.getElem_toArray, List.getElem_cons_zero, List.getElem_cons_succ, Act.put, List.setIfInBounds_toArray, List.set_cons_zero, List.set_cons_succ])
            refine wpAnyH_take (i := 12) (v := ?vq62) rfl (by kernel_rfl) (by kernel_rfl) (by kernel_rfl) (fun _ _ _ h => h) (Or.inl ⟨by rfl, ?hq62⟩) hS0 ?rq62
            case hq62 => intro x hSx; obtain ⟨q1, q2, q3⟩ := hSx; go_simp; first | done | with_reducible rfl
            (try simp only [List.getElem_toArray, List.getElem_cons_zero, List.getElem_cons_succ, Act.put, List.setIfInBounds_toArray, List.set_cons_zero, List.set_cons_succ])
            refine wpAnyH_take (i := 13) (v := ?vq63) rfl (by kernel_rfl) (by kernel_rfl) (by kernel_rfl) (fun _ _ _ h => h) (Or.inl ⟨by rfl, ?hq63⟩) hS0 ?rq63
            case hq63 => intro x hSx; obtain ⟨q1, q2, q3⟩ := hSx; go_simp; first | done | with_reducible rfl
            (try simp only [List.getElem_toArray, List.getElem_cons_zero, List.getElem_cons_succ, Act.put, List.setIfInBounds_toArray, List.set_cons_zero, List.set_cons_succ])
            refine wpAnyH_ready (rs := [1]) (by kernel_rfl) (by simp) ?_
            refine AllReadyH.cons rfl (fun K hK => ?_) AllReadyH.nil
            go_simp
            have SA := Lib.hid ((S9.out.calm (below_drew _)).calm (below_alloc _ (.cells #[.int .u8 10] 5)))
            refine hK.out _ _ (HFX.out _ _ _ SA.out).1 (fun hS1 => ?_)
            clear hK K
            (try simp only [List.getElem_toArray, List.getElem_cons_zero, List.getElem_cons_succ, Act.put, List.setIfInBounds_toArray, List.set_cons_zero, List.set_cons_succ])
            refine wpAnyH_ready (rs := [2]) (by kernel_rfl) (by simp) ?_
            refine AllReadyH.cons rfl (fun K hK => ?_) AllReadyH.nil
            refine step_append_turned (news := [10]) (by rfl) (.tmp 94) (.tmp 95) 35 (by rfl) w0.heap.size 5 Tryz.underlying35 Tryz.linfo_u8 (by rfl) SA.out.own (by rfl) (one_rd (b := 10) rfl) (by simp) (by have := HTL.out; have := HLL.out; have := HBL.out; simp only [List.length_append, List.length_cons, List.length_nil] at *; omega) SA.out.size ?_
            intro g3 cap3 w3 ho3 hg3
            have S3 := Lib.hid (SA.out.grown hg3 ho3)
            clear ho3 hg3
            generalize List.length (bs ++ (pre ++ DC.bl c) ++ key ++ [58]) + List.length ([10] : List UInt8) = m3 at S3 ⊢
            refine hK.out _ _ (HFX.out _ _ _ S3.out).1 (fun hS2 => ?_)
            clear hK K
            (try simp only [List.getElem_toArray, List.getElem_cons_zero, List.getElem_cons_succ, Act.put, List.setIfInBounds_toArray, List.set_cons_zero, List.set_cons_succ])
            refine wpAnyH_ready (rs := [5]) (by kernel_rfl) (by simp) ?_
            refine AllReadyH.cons rfl (fun K hK => ?_) AllReadyH.nil
            go_simp
            go_at_call 53
            refine (HI2.out _ _ S3.out).mono ?_
            rintro e w5 ⟨a5, n5, c5, rfl, s5⟩
            have S5 := Lib.hid s5
            clear s5
            refine hK.out _ _ (HFX.out _ _ _ S5.out).1 (fun hS4 => ?_)
            clear hK K
            (try simp only [List.getElem_toArray, List.getElem_cons_zero, List.getElem_cons_succ, Act.put, List.setIfInBounds_toArray, List.set_cons_zero, List.set_cons_succ])
            refine wpAnyH_ready (rs := [14]) (by kernel_rfl) (by simp) ?_
            refine AllReadyH.cons rfl (fun K hK => ?_) AllReadyH.nil
            go_simp
            go_at_call 28
            refine (HIT.out _ _ _ S5.out (by have := HTL.out; have := HLL.out; have := HBL.out; simp only [List.length_append, List.length_cons, List.length_nil] at *; omega)).mono ?_
            rintro e w4 ⟨a4, n4, c4, rfl, s4⟩
            have S4 := Lib.hid s4
            clear s4
            refine hK.out _ _ (HFX.out _ _ _ S4.out).1 (fun hS3 => ?_)
            clear hK K
            (try simp only [List.getElem_toArray, List.getElem_cons_zero, List.getElem_cons_succ, Act.put, List.setIfInBounds_toArray, List.set_cons_zero, List.set_cons_succ])
            refine wpAnyH_take (i := 15) (v := ?vq64) rfl (by kernel_rfl) (by kernel_rfl) (by kernel_rfl) (fun _ _ _ h => h) (Or.inl ⟨by rfl, ?hq64⟩) hS3 ?rq64
            case hq64 => intro x hSx; obtain ⟨-, -, -⟩ := hSx; go_simp; first | done | with_reducible rfl
            (try simp only [List.getElem_toArray, List.getElem_cons_zero, List.getElem_cons_succ, Act.put, List.setIfInBounds_toArray, List.set_cons_zero])
            refine wpAnyH_done (by kernel_rfl) ?_ _
            go_wp2
            go_roundg g
            case rel => exact ⟨i + 1, N' + SH.sizeT t, (pre ++ DC.bl c) ++ ((key ++ [58]) ++ (10 :: DC.bl (c + 2) ++ SH.showT t (c + 2))), _, by omega, by first | rfl | (simp; done), rfl, by have := S4; simp only [List.append_assoc, List.cons_append, List.nil_append] at this ⊢; exact this, HN⟩
            case measure => omega
end Go.Proofs.YtgfhabofhefaaaaGreatDoor
