/- A part of the proof. -/
import Derived.Test.YtgfhabofhefaaaaGreatDoorSA38
namespace Go.Proofs.YtgfhabofhefaaaaGreatDoor
open Go.RowKit
set_option maxRecDepth 10000 in
set_option maxHeartbeats 16000000 in
theorem shentries_any {s : Nat} (ih : BlW s) (k : SH.Fo) (ns : List SH.Ni) (N c p : Nat) (w0 wa w : World) (v ov : Value) (bs : List UInt8) (kd ln : Int) (S : List UInt8) (q : Bool) (va vi : Value) (hk : SH.sizeF k ≤ s) (hr : Rdi w0 v ns) (ha : SH.At ns N (SH.flatF k N)) (h : Wrs w0 wa w p v ov bs)
    (hln : ∀ x ∈ ns, x.text.length ≤ 10000 ∧ ∀ k ∈ x.keys, k.length ≤ 15000) (hkl : ∀ x ∈ SH.keysF k, x.length ≤ 15000) (hl : bs.length + (SH.showM k c true).length ≤ 600000000) (hc : c + 2 * SH.sizeF k + 2 ≤ 1000000) (hva : Rdv w0 va (sv (SH.keysF k))) (hvi : Rdv w0 vi (ints (icast (SH.kidsF k N)))) :
    Calls Tryz.prog 59 #[.pointer (some ⟨p, 0, none⟩), .agg #[.int .i64 kd, .int .i64 ln, .string ⟨S.toArray⟩, .bool q, va, vi], .int .i64 (c : Int)] w (WrE w0 wa p v (bs ++ SH.showM k c true)) := by
  obtain ⟨ka, kc, rfl⟩ := hva.slice
  obtain ⟨ia, ic, rfl⟩ := hvi.slice
  have him := hvi.len_le
  unfold maxLen at him
  rw [ints_len, icast_len] at him hvi ⊢
  rw [sv_len, ← kids_len k N] at hva ⊢
  obtain ⟨L, hL⟩ : ∃ L, (SH.kidsF k N).length = L := ⟨_, rfl⟩
  have HL := Lib.hid hL
  have HKL := Lib.hid ((kids_len k N).symm.trans hL)
  rw [hL] at him hvi hva ⊢
  have hL9 : (L : Int) ≤ 9223372036854775807 := by omega
  have HVI := Lib.hid hvi
  have HVA := Lib.hid hva
  have HR := Lib.hid hr
  have HI := Lib.hid ih
  have HLN := Lib.hid hln
  have HKK := Lib.hid hkl
  have HLL := Lib.hid hl
  have HCC := Lib.hid hc
  have hc9 : (c : Int) ≤ 1000000 := by omega
  have BX := below_alloc w (.cells #[.int .i64 kd, .int .i64 ln, .string ⟨S.toArray⟩, .bool q, .slice ka L kc, .slice ia L ic] 48)
  have HBX := Lib.hid (Str.new w 48 #[.int .i64 kd, .int .i64 ln, .string ⟨S.toArray⟩, .bool q, .slice ka L kc, .slice ia L ic])
  have HPN : Hid (w.heap.size ≠ p) := by show _ ≠ _; have := h.st.lt; omega
  have H := Lib.hid (h.calm BX).here
  have HKT := Lib.hid (h.kt.calm BX)
  have HA0 : Hid (∃ k', SH.kidsF k' N = (SH.kidsF k N).drop 0 ∧ SH.keysF k' = (SH.keysF k).drop 0 ∧ SH.At ns N (SH.flatF k' N) ∧ SH.sizeF k' ≤ SH.sizeF k ∧ SH.showM k c true = [] ++ SH.showM k' c (decide (0 = 0))) := ⟨k, rfl, rfl, ha, Nat.le_refl _, by rw [List.nil_append, decide_eq_true rfl]⟩
  clear hvi hva hr ih ha h hln hl hc hL him BX hkl
  obtain ⟨T, hT⟩ : ∃ T, SH.showM k c true = T := ⟨_, rfl⟩
  rw [hT] at HLL HA0 ⊢
  have HK := Lib.hid hk
  clear hT hk
  go_enter Tryz.func59, Tryz.ntmps59
  go_wp2
  generalize w.alloc (.cells #[.int .i64 kd, .int .i64 ln, .string ⟨S.toArray⟩, .bool q, .slice ka L kc, .slice ia L ic] 48) = W at *
  go_loopg [11] L (fun g s11 wx => ∃ (i N' : Nat) (pre : List UInt8) (u : Value), i + g = L ∧ s11 = .int .i64 (i : Int) ∧ Hid (Wrs w0 W wx p v u (bs ++ pre)) ∧ Hid (∃ k', SH.kidsF k' N' = (SH.kidsF k N).drop i ∧ SH.keysF k' = (SH.keysF k).drop i ∧ SH.At ns N' (SH.flatF k' N') ∧ SH.sizeF k' ≤ SH.sizeF k ∧ T = pre ++ SH.showM k' c (decide (i = 0))))
  case atStart => exact ⟨0, N, [], ov, by omega, rfl, by rw [List.append_nil]; exact H, HA0⟩
  case round =>
    clear H HA0
    obtain ⟨i, N', pre, u, hi, rfl, H, HA⟩ := hrel
    obtain ⟨k', a1, a5, a2, a3, a4⟩ := HA.out
    cases gk with
    | zero =>
      obtain rfl : i = L := by omega
      rw [List.drop_eq_nil_of_le (by have := HL.out; omega)] at a1
      cases k' with
      | cons key t r => rw [SH.kidsF] at a1; cases a1
      | nil =>
        rw [SH.showM, List.append_nil] at a4
        subst a4
        clear a1 a2 a3 a5 HA
        go_wp2
        go_end0
        exact ⟨rfl, _, H.out.back HKT.out⟩
    | succ g =>
      have hin : (i : Int) < (L : Int) := by omega
      have hi0 : (0 : Int) ≤ (i : Int) := by omega
      cases k' with
      | nil =>
        rw [SH.kidsF] at a1
        have := congrArg List.length a1
        rw [List.length_drop] at this
        simp only [List.length_nil] at this
        have := HL.out
        omega
      | cons key t r =>
        rw [SH.kidsF] at a1
        rw [SH.keysF] at a5
        rw [SH.flatF] at a2
        rw [SH.sizeF] at a3
        rw [SH.showM_cons] at a4
        have hget : (SH.kidsF k N)[i]? = some N' := by
          have := congrArg (fun l => l[0]?) a1
          simpa using this.symm
        have hkey : (SH.keysF k)[i]? = some key := by
          have := congrArg (fun l => l[0]?) a5
          simpa using this.symm
        have hki : (ints (icast (SH.kidsF k N)))[i]? = some (.int .i64 (N' : Int)) := by simp [ints, icast, hget]
        have hks : (sv (SH.keysF k))[i]? = some (.string ⟨key.toArray⟩) := by simp [sv, hkey]
        obtain ⟨b3, o3, c3, e3, u3⟩ := (HVI.out.below H.out.bl).atv hki
        simp only [Value.slice.injEq] at e3
        obtain ⟨rfl, -, -⟩ := e3
        obtain ⟨b4, o4, c4, e4, u4⟩ := (HVA.out.below H.out.bl).atv hks
        simp only [Value.slice.injEq] at e4
        obtain ⟨rfl, -, -⟩ := e4
        have hklen := HKK.out key (List.mem_of_getElem? hkey)
        have HKY := Lib.hid hklen
        have hsz : ¬ 9223372036854775807 < (⟨key.toArray⟩ : ByteArray).size + 1 := by rw [str_size]; omega
        obtain ⟨x, fl, hx, hxk⟩ := SH.flat_ne t N'
        obtain ⟨y, hy, hyx⟩ := (hx ▸ a2.left).head
        obtain ⟨b5, o5, cap5, ka5, kc5, ia5, ic5, hv5, c6, -, -⟩ := HR.out.at hy
        have hyk : y.kind = SH.knd t := by
          have := congrArg SH.Ni.kind hyx
          rw [← hxk]; exact this
        have d0 := (c6.below H.out.bl).c0
        rw [hyk] at d0
        have hNl : N' < ns.length := (List.getElem?_eq_some_iff.1 hy).1
        have hnm : ns.length ≤ maxLen := by obtain ⟨_, _, _, h9⟩ := HR.out.slice; exact h9
        obtain ⟨NL, hNL⟩ : ∃ NL, ns.length = NL := ⟨_, rfl⟩
        rw [hNL] at hv5 hNl hnm
        unfold maxLen at hnm
        have hN0 : (0 : Int) ≤ (N' : Int) := by omega
        have hN1 : (N' : Int) < (NL : Int) := by omega
        have n0 := H.out.st.cell 0
        simp only [List.getElem?_toArray, List.getElem?_cons_zero] at n0
        have HVV := Lib.hid hv5
        rw [hv5] at n0
        have k4 : wr.cell? ⟨w.heap.size, 4, none⟩ = some (.slice (some ⟨b4, o4, none⟩) L kc) := (H.out.kt.str HBX.out HPN.out (by decide)).cell 4
        have HN : Hid (∃ k'', SH.kidsF k'' (N' + SH.sizeT t) = (SH.kidsF k N).drop (i + 1) ∧ SH.keysF k'' = (SH.keysF k).drop (i + 1) ∧ SH.At ns (N' + SH.sizeT t) (SH.flatF k'' (N' + SH.sizeT t)) ∧ SH.sizeF k'' ≤ SH.sizeF k ∧ T = (pre ++ (if decide (i = 0) = true then [] else DC.bl c) ++ ((key ++ [58]) ++ ((if SH.isTx t then [32] else 10 :: DC.bl (c + 2)) ++ SH.showT t (c + 2)))) ++ SH.showM k'' c (decide (i + 1 = 0))) := by
          refine ⟨r, ?_, ?_, ?_, by omega, ?_⟩
          · have := congrArg (List.drop 1) a1
            rw [List.drop_drop] at this
            rw [List.drop_succ_cons, List.drop_zero] at this
            exact this
          · have := congrArg (List.drop 1) a5
            rw [List.drop_drop] at this
            rw [List.drop_succ_cons, List.drop_zero] at this
            exact this
          · have := a2.right
            rwa [SH.flatT_len] at this
          · rw [a4, decide_eq_false (show ¬ i + 1 = 0 by omega)]
            simp
        have HTL : Hid ((pre ++ (if decide (i = 0) = true then [] else DC.bl c) ++ ((key ++ [58]) ++ ((if SH.isTx t then [32] else 10 :: DC.bl (c + 2)) ++ SH.showT t (c + 2)))).length ≤ T.length) := by
          show _ ≤ _
          obtain ⟨k2, _, _, _, _, e⟩ := HN.out
          have := congrArg List.length e
          rw [List.length_append] at this
          omega
        have HIT := Lib.hid (fun (u2 : World) (o2 : Value) (bs2 : List UInt8) (h2 : Wrs w0 W u2 p v o2 bs2) (h3 : bs2.length + (SH.showT t (c + 2)).length ≤ 600000000) => HI.out t ns N' (c + 2) p w0 W u2 v o2 bs2 (by have := HK.out; omega) HR.out a2.left h2 HLN.out h3 (by have := HCC.out; omega))
        have hcc : ((c + 2 : Nat) : Int) = (c : Int) + 2 := rfl
        rw [hcc] at HIT
        have u40 : w0.cell? ⟨b4, o4 + i, none⟩ = some (.string ⟨key.toArray⟩) := by
          obtain ⟨b4', o4', c4', e4', u4'⟩ := HVA.out.atv hks
          simp only [Value.slice.injEq, Option.some.injEq, Addr.mk.injEq, and_true] at e4'
          obtain ⟨⟨rfl, rfl⟩, -, -⟩ := e4'
          exact u4'
        have d00 := c6.c0
        rw [hyk] at d00
        subst hv5
        have HFX := Lib.hid (fun (u2 : World) (o2 : Value) (bs2 : List UInt8) (h2 : Wrs w0 W u2 p (.slice (some ⟨b5, o5, none⟩) NL cap5) o2 bs2) => (⟨(h2.kt.str HBX.out HPN.out (by decide)).cell 4, (h2.bl.cell (cell_lt u40)).trans u40, h2.st.cell 0, (h2.bl.cell (cell_lt d00)).trans d00⟩ : u2.cell? ⟨w.heap.size, 4, none⟩ = some (.slice (some ⟨b4, o4, none⟩) L kc) ∧ u2.cell? ⟨b4, o4 + i, none⟩ = some (.string ⟨key.toArray⟩) ∧ u2.cell? ⟨p, 0, none⟩ = some (.slice (some ⟨b5, o5, none⟩) NL cap5) ∧ u2.cell? ⟨b5, o5 + N' * 6, none⟩ = some (.int .i64 (SH.knd t))))
        have HBL : Hid ((DC.bl c).length = c ∧ (DC.bl (c + 2)).length = c + 2) := by show _ ∧ _; simp [DC.bl]
        clear hki hget hkey hks a1 a2 a3 a4 a5 HA hy hyx hx hxk hyk c6 hnm hNl hklen hNL d0 n0 d00 u40 HVV hcc
        by_cases h0 : i = 0
        · subst h0
          have hd0 : decide (0 < L) = true := decide_eq_true (by omega)
          rw [Nat.add_zero] at u3 u4
          simp only [Nat.add_zero] at HFX
          cases hX : SH.isTx t with
          | true =>
            have hk1 : SH.knd t = 1 := by cases t <;> first | rfl | cases hX
            rw [hk1] at HFX
            clear hk1
            rw [decide_eq_true (show (0 : Nat) = 0 from rfl)] at HN HTL
            simp only [if_true, List.append_nil] at HN HTL
            simp only [hX, if_true] at HN HTL
            have HPK := Lib.hid (fun (u2 : World) (o2 : Value) (h2 : Wrs w0 W u2 p (.slice (some ⟨b5, o5, none⟩) NL cap5) o2 (bs ++ pre)) => wput_any h2 (key ++ [58]) (by have := HTL.out; have := HLL.out; have := HBL.out; simp only [List.length_append, List.length_cons, List.length_nil] at *; omega))
            rw [← str_app] at HPK
            have HP1 := Lib.hid (fun (u2 : World) (o2 : Value) (h2 : Wrs w0 W u2 p (.slice (some ⟨b5, o5, none⟩) NL cap5) o2 ((bs ++ pre) ++ (key ++ [58]))) => wput_any h2 [32] (by have := HTL.out; have := HLL.out; have := HBL.out; simp only [List.length_append, List.length_cons, List.length_nil] at *; omega))
            have HB := Lib.hid (fun (u2 : World) (o2 : Value) (h2 : Wrs w0 W u2 p (.slice (some ⟨b5, o5, none⟩) NL cap5) o2 (((bs ++ pre) ++ (key ++ [58])) ++ [32])) => HIT.out u2 o2 _ h2 (by have := HTL.out; have := HLL.out; have := HBL.out; simp only [List.length_append, List.length_cons, List.length_nil] at *; omega))
            have s1 := H.out
            clear HIT
            go_wp2_with (first
              | (go_at_call 31; refine (HB.out _ _ S4.out).mono ?_; rintro e w6 ⟨rfl, ov6, s6⟩; have S6 := Lib.hid s6; clear s6)
              | (go_at_call 88; refine (HP1.out _ _ S3.out).mono ?_; rintro e w4 ⟨rfl, ov4, s4⟩; have S4 := Lib.hid s4; clear s4)
              | (go_at_call 88; refine (HPK.out _ _ H.out).mono ?_; rintro e w3 ⟨rfl, ov3, s3⟩; have S3 := Lib.hid s3; obtain ⟨-, -, nn, dd⟩ := HFX.out _ _ _ s3; clear s3))
            go_roundg g
            case rel => exact ⟨1, N' + SH.sizeT t, pre ++ ((key ++ [58]) ++ ([32] ++ SH.showT t (c + 2))), ov6, by omega, by first | rfl | (simp; done), by have := S6; simp only [List.append_assoc, List.cons_append, List.nil_append] at this ⊢; exact this, HN⟩
            case measure => omega
          | false =>
            obtain ⟨KD, hKD⟩ : ∃ KD, SH.knd t = KD := ⟨_, rfl⟩
            have hk1 : (KD == 1) = false := by rw [← hKD]; cases t <;> first | rfl | cases hX
            rw [hKD] at HFX
            clear hKD
            rw [decide_eq_true (show (0 : Nat) = 0 from rfl)] at HN HTL
            simp only [if_true, List.append_nil] at HN HTL
            simp only [hX, Bool.false_eq_true, if_false] at HN HTL
            have HPK := Lib.hid (fun (u2 : World) (o2 : Value) (h2 : Wrs w0 W u2 p (.slice (some ⟨b5, o5, none⟩) NL cap5) o2 (bs ++ pre)) => wput_any h2 (key ++ [58]) (by have := HTL.out; have := HLL.out; have := HBL.out; simp only [List.length_append, List.length_cons, List.length_nil] at *; omega))
            rw [← str_app] at HPK
            have HP1 := Lib.hid (fun (u2 : World) (o2 : Value) (h2 : Wrs w0 W u2 p (.slice (some ⟨b5, o5, none⟩) NL cap5) o2 ((bs ++ pre) ++ (key ++ [58]))) => wput_any h2 [10] (by have := HTL.out; have := HLL.out; have := HBL.out; simp only [List.length_append, List.length_cons, List.length_nil] at *; omega))
            have HI2 := Lib.hid (fun (u2 : World) (o2 : Value) (h2 : Wrs w0 W u2 p (.slice (some ⟨b5, o5, none⟩) NL cap5) o2 (((bs ++ pre) ++ (key ++ [58])) ++ [10])) => windent_any (c + 2) h2 (by have := HTL.out; have := HLL.out; have := HBL.out; simp only [List.length_append, List.length_cons, List.length_nil] at *; omega))
            rw [show ((c + 2 : Nat) : Int) = (c : Int) + 2 from rfl] at HI2
            have HB := Lib.hid (fun (u2 : World) (o2 : Value) (h2 : Wrs w0 W u2 p (.slice (some ⟨b5, o5, none⟩) NL cap5) o2 ((((bs ++ pre) ++ (key ++ [58])) ++ [10]) ++ DC.bl (c + 2))) => HIT.out u2 o2 _ h2 (by have := HTL.out; have := HLL.out; have := HBL.out; simp only [List.length_append, List.length_cons, List.length_nil] at *; omega))
            have s1 := H.out
            clear HIT
            go_wp2_with (first
              | (go_at_call 31; refine (HB.out _ _ S5.out).mono ?_; rintro e w6 ⟨rfl, ov6, s6⟩; have S6 := Lib.hid s6; clear s6)
              | (go_at_call 89; refine (HI2.out _ _ S4.out).mono ?_; rintro e w5 ⟨rfl, ov5, s5⟩; have S5 := Lib.hid s5; clear s5)
              | (go_at_call 88; refine (HP1.out _ _ S3.out).mono ?_; rintro e w4 ⟨rfl, ov4, s4⟩; have S4 := Lib.hid s4; clear s4)
              | (go_at_call 88; refine (HPK.out _ _ H.out).mono ?_; rintro e w3 ⟨rfl, ov3, s3⟩; have S3 := Lib.hid s3; obtain ⟨-, -, nn, dd⟩ := HFX.out _ _ _ s3; clear s3))
            go_roundg g
            case rel => exact ⟨1, N' + SH.sizeT t, pre ++ ((key ++ [58]) ++ (10 :: DC.bl (c + 2) ++ SH.showT t (c + 2))), ov6, by omega, by first | rfl | (simp; done), by have := S6; simp only [List.append_assoc, List.cons_append, List.nil_append] at this ⊢; exact this, HN⟩
            case measure => omega
        · have hg0 : (0 : Int) < (i : Int) := by omega
          cases hX : SH.isTx t with
          | true =>
            have hk1 : SH.knd t = 1 := by cases t <;> first | rfl | cases hX
            rw [hk1] at HFX
            clear hk1
            rw [decide_eq_false h0] at HN HTL
            simp only [Bool.false_eq_true, if_false] at HN HTL
            simp only [hX, if_true] at HN HTL
            have HD := Lib.hid (windent_any c H.out (by have := HTL.out; have := HLL.out; have := HBL.out; simp only [List.length_append, List.length_cons, List.length_nil] at *; omega))
            rw [List.append_assoc bs pre (DC.bl c)] at HD
            have HPK := Lib.hid (fun (u2 : World) (o2 : Value) (h2 : Wrs w0 W u2 p (.slice (some ⟨b5, o5, none⟩) NL cap5) o2 (bs ++ (pre ++ DC.bl c))) => wput_any h2 (key ++ [58]) (by have := HTL.out; have := HLL.out; have := HBL.out; simp only [List.length_append, List.length_cons, List.length_nil] at *; omega))
            rw [← str_app] at HPK
            have HP1 := Lib.hid (fun (u2 : World) (o2 : Value) (h2 : Wrs w0 W u2 p (.slice (some ⟨b5, o5, none⟩) NL cap5) o2 ((bs ++ (pre ++ DC.bl c)) ++ (key ++ [58]))) => wput_any h2 [32] (by have := HTL.out; have := HLL.out; have := HBL.out; simp only [List.length_append, List.length_cons, List.length_nil] at *; omega))
            have HB := Lib.hid (fun (u2 : World) (o2 : Value) (h2 : Wrs w0 W u2 p (.slice (some ⟨b5, o5, none⟩) NL cap5) o2 (((bs ++ (pre ++ DC.bl c)) ++ (key ++ [58])) ++ [32])) => HIT.out u2 o2 _ h2 (by have := HTL.out; have := HLL.out; have := HBL.out; simp only [List.length_append, List.length_cons, List.length_nil] at *; omega))
            clear HIT k4 u4
            go_wp2_with (first
              | (go_at_call 31; refine (HB.out _ _ S4.out).mono ?_; rintro e w6 ⟨rfl, ov6, s6⟩; have S6 := Lib.hid s6; clear s6)
              | (go_at_call 88; refine (HP1.out _ _ S3.out).mono ?_; rintro e w4 ⟨rfl, ov4, s4⟩; have S4 := Lib.hid s4; clear s4)
              | (go_at_call 88; refine (HPK.out _ _ S2.out).mono ?_; rintro e w3 ⟨rfl, ov3, s3⟩; have S3 := Lib.hid s3; obtain ⟨-, -, nn, dd⟩ := HFX.out _ _ _ s3; clear s3)
              | (go_at_call 89; refine HD.out.mono ?_; rintro e w2 ⟨rfl, ov2, s2⟩; have S2 := Lib.hid s2; obtain ⟨kk, uu, -, -⟩ := HFX.out _ _ _ s2; clear s2))
            go_roundg g
            case rel => exact ⟨i + 1, N' + SH.sizeT t, (pre ++ DC.bl c) ++ ((key ++ [58]) ++ ([32] ++ SH.showT t (c + 2))), ov6, by omega, by first | rfl | (simp; done), by have := S6; simp only [List.append_assoc, List.cons_append, List.nil_append] at this ⊢; exact this, HN⟩
            case measure => omega
          | false =>
            obtain ⟨KD, hKD⟩ : ∃ KD, SH.knd t = KD := ⟨_, rfl⟩
            have hk1 : (KD == 1) = false := by rw [← hKD]; cases t <;> first | rfl | cases hX
            rw [hKD] at HFX
            clear hKD
            rw [decide_eq_false h0] at HN HTL
            simp only [Bool.false_eq_true, if_false] at HN HTL
            simp only [hX, Bool.false_eq_true, if_false] at HN HTL
            have HD := Lib.hid (windent_any c H.out (by have := HTL.out; have := HLL.out; have := HBL.out; simp only [List.length_append, List.length_cons, List.length_nil] at *; omega))
            rw [List.append_assoc bs pre (DC.bl c)] at HD
            have HPK := Lib.hid (fun (u2 : World) (o2 : Value) (h2 : Wrs w0 W u2 p (.slice (some ⟨b5, o5, none⟩) NL cap5) o2 (bs ++ (pre ++ DC.bl c))) => wput_any h2 (key ++ [58]) (by have := HTL.out; have := HLL.out; have := HBL.out; simp only [List.length_append, List.length_cons, List.length_nil] at *; omega))
            rw [← str_app] at HPK
            have HP1 := Lib.hid (fun (u2 : World) (o2 : Value) (h2 : Wrs w0 W u2 p (.slice (some ⟨b5, o5, none⟩) NL cap5) o2 ((bs ++ (pre ++ DC.bl c)) ++ (key ++ [58]))) => wput_any h2 [10] (by have := HTL.out; have := HLL.out; have := HBL.out; simp only [List.length_append, List.length_cons, List.length_nil] at *; omega))
            have HI2 := Lib.hid (fun (u2 : World) (o2 : Value) (h2 : Wrs w0 W u2 p (.slice (some ⟨b5, o5, none⟩) NL cap5) o2 (((bs ++ (pre ++ DC.bl c)) ++ (key ++ [58])) ++ [10])) => windent_any (c + 2) h2 (by have := HTL.out; have := HLL.out; have := HBL.out; simp only [List.length_append, List.length_cons, List.length_nil] at *; omega))
            rw [show ((c + 2 : Nat) : Int) = (c : Int) + 2 from rfl] at HI2
            have HB := Lib.hid (fun (u2 : World) (o2 : Value) (h2 : Wrs w0 W u2 p (.slice (some ⟨b5, o5, none⟩) NL cap5) o2 ((((bs ++ (pre ++ DC.bl c)) ++ (key ++ [58])) ++ [10]) ++ DC.bl (c + 2))) => HIT.out u2 o2 _ h2 (by have := HTL.out; have := HLL.out; have := HBL.out; simp only [List.length_append, List.length_cons, List.length_nil] at *; omega))
            clear HIT k4 u4
            go_wp2_with (first
              | (go_at_call 31; refine (HB.out _ _ S5.out).mono ?_; rintro e w6 ⟨rfl, ov6, s6⟩; have S6 := Lib.hid s6; clear s6)
              | (go_at_call 89; refine (HI2.out _ _ S4.out).mono ?_; rintro e w5 ⟨rfl, ov5, s5⟩; have S5 := Lib.hid s5; clear s5)
              | (go_at_call 88; refine (HP1.out _ _ S3.out).mono ?_; rintro e w4 ⟨rfl, ov4, s4⟩; have S4 := Lib.hid s4; clear s4)
              | (go_at_call 88; refine (HPK.out _ _ S2.out).mono ?_; rintro e w3 ⟨rfl, ov3, s3⟩; have S3 := Lib.hid s3; obtain ⟨-, -, nn, dd⟩ := HFX.out _ _ _ s3; clear s3)
              | (go_at_call 89; refine HD.out.mono ?_; rintro e w2 ⟨rfl, ov2, s2⟩; have S2 := Lib.hid s2; obtain ⟨kk, uu, -, -⟩ := HFX.out _ _ _ s2; clear s2))
            go_roundg g
            case rel => exact ⟨i + 1, N' + SH.sizeT t, (pre ++ DC.bl c) ++ ((key ++ [58]) ++ (10 :: DC.bl (c + 2) ++ SH.showT t (c + 2))), ov6, by omega, by first | rfl | (simp; done), by have := S6; simp only [List.append_assoc, List.cons_append, List.nil_append] at this ⊢; exact this, HN⟩
            case measure => omega
end Go.Proofs.YtgfhabofhefaaaaGreatDoor
