/- A part of the proof. -/
import Derived.Test.YtgfhabofhefaaaaGreatDoorSB14
import Derived.Recover
namespace Go.Proofs.YtgfhabofhefaaaaGreatDoor
open Go.RowKit
def RoE (w : World) (B p : Nat) (no ind : Int) (tx : List UInt8) (o : LX.R) (e : Ending) (w' : World) : Prop :=
  Below B w w' ∧ ((o.1 = 0 ∧ e = .returned (.tuple #[]) ∧ ∃ rest v', Lxr w' B p no ind tx rest v' o.2) ∨ (o.1 ≠ 0 ∧ e = .panicked (gave o.1) ∧ o.2 = []))
theorem roe_no {w w' : World} {B p : Nat} {no ind : Int} {tx : List UInt8} {o : LX.R} {k : Int} (h : o = (k, [])) (hk : k ≠ 0) (hb : Below B w w') : RoE w B p no ind tx o (.panicked (gave k)) w' := by
  subst h
  exact ⟨hb, .inr ⟨hk, rfl, rfl⟩⟩
theorem roe_yes {w w' : World} {B p : Nat} {no ind : Int} {tx rest : List UInt8} {o : LX.R} {acc : List LX.Pc} {v' : Value} (h : o = (0, acc)) (hl : Lxr w' B p no ind tx rest v' acc) (hb : Below B w w') : RoE w B p no ind tx o (.returned (.tuple #[])) w' := by
  subst h
  exact ⟨hb, .inl ⟨rfl, rfl, rest, v', hl⟩⟩
theorem roe_text {w wr w' : World} {B p : Nat} {no ind : Int} {tx rest : List UInt8} {o : LX.R} {acc : List LX.Pc} {e : Ending} (h : o = LX.fin no (ind + tx.length) acc rest) (hne : rest ≠ []) (hb : Below B w wr) (ht : TxE wr B p no ind tx rest acc (LX.txt rest) e w') :
    (e = .returned (.tuple #[]) ∧ RoE w B p no ind tx o (.returned (.tuple #[])) w') ∨ (∃ k, e = .panicked (gave k) ∧ RoE w B p no ind tx o (.panicked (gave k)) w') := by
  obtain ⟨b1, ⟨h1, h2, v', h3⟩ | ⟨h1, h2⟩⟩ := ht
  · refine .inl ⟨h2, roe_yes ?_ h3 (hb.trans b1)⟩
    rw [h, LX.fin, if_neg hne, if_pos h1]
  · refine .inr ⟨_, h2, roe_no ?_ h1 (hb.trans b1)⟩
    rw [h, LX.fin, if_neg hne, if_neg h1]
structure RW (w wr : World) (B p : Nat) (no ind : Int) (tx rest : List UInt8) (v : Value) (acc : List LX.Pc) : Prop where
  bl : Below B w wr
  lx : Lxr wr B p no ind tx rest v acc
theorem RW.step {w wr w' : World} {B p : Nat} {no ind : Int} {tx rest rest' : List UInt8} {v v' : Value} {acc acc' : List LX.Pc} (h : RW w wr B p no ind tx rest v acc) (hl : Lxr w' B p no ind tx rest' v' acc') (hb : Below B wr w') : RW w w' B p no ind tx rest' v' acc' := ⟨h.bl.trans hb, hl⟩
theorem RW.cut {w wr : World} {B p : Nat} {no ind : Int} {tx rest : List UInt8} {v : Value} {acc : List LX.Pc} (h : RW w wr B p no ind tx rest v acc) (r : List UInt8) : RW w (wr.setCell ⟨p, 3, none⟩ (.string ⟨r.toArray⟩)) B p no ind tx r v acc := ⟨h.bl.trans (h.lx.rest r).2, (h.lx.rest r).1⟩
set_option maxHeartbeats 16000000 in
theorem lrow_any {w : World} {B p : Nat} {no ind : Int} {tx : List UInt8} {v : Value} (h : Lxr w B p no ind tx tx v []) (hm : MaxIs w) (hB : 1 < B) (h2 : tx.length ≤ 17000) :
    Calls Tryz.prog 86 #[.pointer (some ⟨p, 0, none⟩)] w (RoE w B p no ind tx (LX.row (no, ind, tx))) := by
  have c1 : w.cell? ⟨p, 1, none⟩ = some (.int .i64 ind) := h.str.cell 1
  have HL0 := Lib.hid h
  obtain ⟨F, HF⟩ : ∃ F, Hid (F = LX.row (no, ind, tx)) := ⟨_, Lib.hid rfl⟩
  rw [← HF.out]
  have HMX := Lib.hid hm
  have HMB := Lib.hid hB
  have HTX := Lib.hid h2
  have HTT := Lib.hid (fun k x => lmust_true k x)
  have HFF := Lib.hid (fun k x => lmust_false k x)
  clear h hm hB
  by_cases hin : ind < 0
  · have E := Lib.hid (show F = (6, []) by rw [HF.out, LX.row, if_pos (.inl hin)])
    have g0 : ¬ 0 ≤ ind := by omega
    have g1 : decide (0 ≤ ind) = false := decide_eq_false g0
    go_enter Tryz.func86, Tryz.ntmps86
    go_wp2_with fail
    refine (HFF.out 6 _).mono ?_
    rintro e w1 ⟨rfl, rfl⟩
    exact ⟨rfl, roe_no E.out (by decide) (Below.refl _ _)⟩
  have g0 : 0 ≤ ind := by omega
  by_cases hin2 : 16384 < ind
  · have E := Lib.hid (show F = (6, []) by rw [HF.out, LX.row, if_pos (.inr hin2)])
    have g1 : ¬ ind ≤ 16384 := by omega
    have g2 : decide (ind ≤ 16384) = false := decide_eq_false g1
    go_enter Tryz.func86, Tryz.ntmps86
    go_wp2_with fail
    refine (HFF.out 6 _).mono ?_
    rintro e w1 ⟨rfl, rfl⟩
    exact ⟨rfl, roe_no E.out (by decide) (Below.refl _ _)⟩
  have g1 : ind ≤ 16384 := by omega
  have HG := Lib.hid (show F = LX.go no (ind + tx.length) (LX.tl tx).length [] (LX.tl tx) by rw [HF.out, LX.row, if_neg (by simp only; omega)])
  have HP0 := Lib.hid (passBlanks_any HL0.out)
  go_enter Tryz.func86, Tryz.ntmps86
  go_wp2_with fail
  refine (HTT.out 6 _).mono ?_
  rintro e w1 ⟨rfl, hw1⟩
  replace hw1 := hw1.symm
  subst hw1
  go_wp2_with fail
  refine HP0.out.mono ?_
  rintro e w1 ⟨rfl, hl1, b1⟩
  have HW1 : Hid (RW w w1 B p no ind tx (LX.tl tx) v []) := ⟨b1, hl1⟩
  clear hl1 b1 HP0 HL0 c1
  go_wp2
  go_loopg [] (LX.tl tx).length (fun g wx => ∃ rest v acc, Hid (rest.length ≤ g ∧ acc.length + rest.length ≤ tx.length) ∧ Hid (RW w wx B p no ind tx rest v acc) ∧ Hid (F = LX.go no (ind + tx.length) g acc rest))
  case atStart => exact ⟨LX.tl tx, v, [], ⟨Nat.le_refl _, by simpa using LX.tl_len tx⟩, HW1, HG⟩
  case round =>
    clear HW1 HG
    obtain ⟨rest, v, acc, HLN, HW, HE⟩ := hrel
    have c3 : wr.cell? ⟨p, 3, none⟩ = some (.string ⟨rest.toArray⟩) := HW.out.lx.str.cell 3
    have f3 := HW.out.lx.str.frozen 3
    have HD := Lib.hid (ldash_any rest wr)
    cases hd : LX.dash rest with
    | true =>
      have hpos := LX.dash_len hd
      obtain ⟨g, rfl⟩ : ∃ g, gk = g + 1 := ⟨gk - 1, by have := HLN.out; omega⟩
      have E := Lib.hid (HE.out.trans (LX.go_dash hd))
      rw [hd] at HD
      have HPUT := Lib.hid (put_any HW.out.lx 1 0 0 [] false g0 g1 (by have := HTX.out; omega) (by have := HLN.out; omega) (by have := HLN.out; have := HTX.out; omega))
      clear hd HE
      go_wp2_with fail
      refine HD.out.mono ?_
      rintro e w2 ⟨rfl, hw2⟩
      replace hw2 := hw2.symm
      subst hw2
      go_wp2_with fail
      refine HPUT.out.mono ?_
      rintro e w3 ⟨rfl, ⟨v3, hl3⟩, b3⟩
      have HW3 := Lib.hid (HW.out.step hl3 b3)
      clear hl3 b3 HPUT HD c3 f3 HW
      have d3 : w3.cell? ⟨p, 3, none⟩ = some (.string ⟨rest.toArray⟩) := HW3.out.lx.str.cell 3
      have e3 := HW3.out.lx.str.frozen 3
      have hsz := str_size rest
      obtain ⟨n, hn⟩ : ∃ n, rest.length = n := ⟨_, rfl⟩
      have x1 := lcut_back hn 1
      have HN := Lib.hid hn
      rw [hn] at hsz hpos
      have h1n : (1 : Int) ≤ (n : Int) := by omega
      have HW4 := Lib.hid (HW3.out.cut (rest.drop 1))
      have HPB := Lib.hid (passBlanks_any HW4.out.lx)
      obtain ⟨D, hD⟩ : ∃ D, rest.drop 1 = D := ⟨_, rfl⟩
      have HDL := Lib.hid hD
      rw [hD] at x1 HW4 HPB
      clear hn hD
      go_wp2_with fail
      refine HPB.out.mono ?_
      rintro e w5 ⟨rfl, hl5, b5⟩
      have HW5 := Lib.hid (HW4.out.step hl5 b5)
      clear hl5 b5 HPB HW4 HW3
      go_wp2
      go_roundg g
      case rel =>
        refine ⟨LX.tl D, v3, _, ⟨?_, ?_⟩, HW5, ?_⟩
        · have h1 := LX.tl_len D
          have h2 : D.length = rest.length - 1 := by rw [← HDL.out, List.length_drop]
          have := HLN.out
          omega
        · have h1 := LX.tl_len D
          have h2 : D.length = rest.length - 1 := by rw [← HDL.out, List.length_drop]
          have := HLN.out
          have := HN.out
          rw [List.length_append]; simp only [List.length_cons, List.length_nil]; omega
        · show _ = _
          rw [E.out, ← HDL.out]
      case measure => omega
    | false =>
      have HMID := Lib.hid (HE.out.trans (LX.go_mid hd))
      rw [hd] at HD
      have HK := Lib.hid (keySize_any rest wr (by have := HLN.out; have := HTX.out; omega))
      have hkl := LX.key_lt (l := rest)
      obtain ⟨k, hk⟩ : ∃ k, LX.key rest = k := ⟨_, rfl⟩
      have HKE := Lib.hid hk
      rw [hk] at HK hkl
      clear hd HE hk
      by_cases hk0 : k = 0
      · subst hk0
        have HFIN := Lib.hid (HMID.out.trans (by rw [LX.mid, if_pos HKE.out]))
        by_cases hr0 : rest = []
        · have E := Lib.hid (HFIN.out.trans (by rw [LX.fin, if_pos hr0]))
          subst hr0
          go_wp2_with fail
          refine HD.out.mono ?_
          rintro e w2 ⟨rfl, hw2⟩
          replace hw2 := hw2.symm
          subst hw2
          go_wp2_with fail
          refine HK.out.mono ?_
          rintro e w2 ⟨rfl, hw2⟩
          replace hw2 := hw2.symm
          subst hw2
          go_wp2
          go_end0
          exact roe_yes E.out HW.out.lx HW.out.bl
        · have hrb : (rest == []) = false := beq_eq_false_iff_ne.2 hr0
          have hrb2 : (rest != []) = true := by simp [bne, hrb]
          have HTEXT := Lib.hid (text_any HW.out.lx (HMX.out.bel HMB.out HW.out.bl) HMB.out g0 g1 HTX.out (by have := HLN.out; omega) (by have := HLN.out; have := HTX.out; omega) hr0)
          have HOUT := Lib.hid (fun (e : Ending) (w' : World) => roe_text (w' := w') (e := e) (p := p) HFIN.out hr0 HW.out.bl)
          go_wp2_with fail
          refine HD.out.mono ?_
          rintro e w2 ⟨rfl, hw2⟩
          replace hw2 := hw2.symm
          subst hw2
          go_wp2_with fail
          refine HK.out.mono ?_
          rintro e w2 ⟨rfl, hw2⟩
          replace hw2 := hw2.symm
          subst hw2
          go_wp2_with fail
          refine HTEXT.out.mono ?_
          rintro e w7 ht
          rcases HOUT.out _ _ ht with ⟨rfl, hro⟩ | ⟨kk, rfl, hro⟩
          · have HRO := Lib.hid hro
            clear hro ht HOUT HTEXT
            go_wp2
            go_end0
            exact HRO.out
          · exact ⟨rfl, hro⟩
      · have hkp : 0 < k := by omega
        have hkl2 := hkl hkp
        have gk0 : (0 : Int) < (k : Int) := by omega
        by_cases hk64 : 64 < k
        · have E := Lib.hid (show F = (5, []) by rw [HMID.out, LX.mid, if_neg (by rw [HKE.out]; exact hk0), if_pos (by rw [HKE.out]; exact hk64)])
          have g64 : ¬ (k : Int) ≤ 64 := by omega
          have g65 : decide ((k : Int) ≤ 64) = false := decide_eq_false g64
          go_wp2_with fail
          refine HD.out.mono ?_
          rintro e w2 ⟨rfl, hw2⟩
          replace hw2 := hw2.symm
          subst hw2
          go_wp2_with fail
          refine HK.out.mono ?_
          rintro e w2 ⟨rfl, hw2⟩
          replace hw2 := hw2.symm
          subst hw2
          go_wp2_with fail
          refine (HFF.out 5 _).mono ?_
          rintro e w2 ⟨rfl, rfl⟩
          exact ⟨rfl, roe_no E.out (by decide) HW.out.bl⟩
        · have g64 : (k : Int) ≤ 64 := by omega
          have HFIN := Lib.hid (show F = LX.fin no (ind + tx.length) (acc ++ [(2, no, ind + tx.length - rest.length, rest.take k, false)]) (LX.tl (rest.drop (k + 1))) by rw [HMID.out, LX.mid, if_neg (by rw [HKE.out]; exact hk0), if_neg (by rw [HKE.out]; exact hk64), HKE.out])
          have hsz := str_size rest
          obtain ⟨n, hn⟩ : ∃ n, rest.length = n := ⟨_, rfl⟩
          have x0 := lcut_front rest k
          have x1 := lcut_back hn (k + 1)
          have HN := Lib.hid hn
          have HPUT := Lib.hid (put_any HW.out.lx 2 0 0 (rest.take k) false g0 g1 (by have := HTX.out; omega) (by have := HLN.out; omega) (by have := HLN.out; have := HTX.out; omega))
          rw [hn] at hsz hkl2
          have hkn : (k : Int) ≤ (n : Int) := by omega
          have hkn1 : (k : Int) + 1 ≤ (n : Int) := by omega
          have hk9 : k ≤ 17000 := by have := HLN.out; have := HTX.out; have := HN.out; omega
          obtain ⟨D, hD⟩ : ∃ D, rest.drop (k + 1) = D := ⟨_, rfl⟩
          have HDL := Lib.hid hD
          rw [hD] at x1 HFIN
          obtain ⟨K, hK⟩ : ∃ K, rest.take k = K := ⟨_, rfl⟩
          rw [hK] at x0 HPUT HFIN
          clear hn hD hK hkl
          go_wp2_with fail
          refine HD.out.mono ?_
          rintro e w2 ⟨rfl, hw2⟩
          replace hw2 := hw2.symm
          subst hw2
          go_wp2_with fail
          refine HK.out.mono ?_
          rintro e w2 ⟨rfl, hw2⟩
          replace hw2 := hw2.symm
          subst hw2
          go_wp2_with fail
          refine (HTT.out 5 _).mono ?_
          rintro e w2 ⟨rfl, hw2⟩
          replace hw2 := hw2.symm
          subst hw2
          go_wp2_with fail
          refine HPUT.out.mono ?_
          rintro e w3 ⟨rfl, ⟨v3, hl3⟩, b3⟩
          have HW3 := Lib.hid (HW.out.step hl3 b3)
          clear hl3 b3 HPUT HD HK c3 f3 HW
          have d3 : w3.cell? ⟨p, 3, none⟩ = some (.string ⟨rest.toArray⟩) := HW3.out.lx.str.cell 3
          have e3 := HW3.out.lx.str.frozen 3
          have HW4 := Lib.hid (HW3.out.cut D)
          have HPB := Lib.hid (passBlanks_any HW4.out.lx)
          go_wp2_with fail
          refine HPB.out.mono ?_
          rintro e w5 ⟨rfl, hl5, b5⟩
          have HW5 := Lib.hid (HW4.out.step hl5 b5)
          clear hl5 b5 HPB HW4 HW3 x0 x1 d3 e3
          have HRL : Hid ((LX.tl D).length ≤ tx.length ∧ (acc ++ [(2, no, ind + tx.length - rest.length, K, false)]).length ≤ 20000) := by
            have h1 := LX.tl_len D
            have h2 : D.length = rest.length - (k + 1) := by rw [← HDL.out, List.length_drop]
            have := HLN.out
            have := HTX.out
            refine ⟨by omega, ?_⟩
            rw [List.length_append]; simp only [List.length_cons, List.length_nil]; omega
          obtain ⟨R, hR⟩ : ∃ R, LX.tl D = R := ⟨_, rfl⟩
          rw [hR] at HW5 HFIN HRL
          obtain ⟨A, hA⟩ : ∃ A, acc ++ [(2, no, ind + tx.length - rest.length, K, false)] = A := ⟨_, rfl⟩
          have hA' : acc ++ [((2 : Int), no, ind + tx.length - rest.length, K, false)] = A := hA
          rw [hA'] at HW5 HFIN HRL
          clear hR hA hA'
          have c3 : w5.cell? ⟨p, 3, none⟩ = some (.string ⟨R.toArray⟩) := HW5.out.lx.str.cell 3
          by_cases hr0 : R = []
          · have E := Lib.hid (HFIN.out.trans (by rw [LX.fin, if_pos hr0]))
            subst hr0
            go_wp2
            go_end0
            exact roe_yes E.out HW5.out.lx HW5.out.bl
          · have hrb : (R == []) = false := beq_eq_false_iff_ne.2 hr0
            have hrb2 : (R != []) = true := by simp [bne, hrb]
            have HTEXT := Lib.hid (text_any HW5.out.lx (HMX.out.bel HMB.out HW5.out.bl) HMB.out g0 g1 HTX.out HRL.out.1 HRL.out.2 hr0)
            have HOUT := Lib.hid (fun (e : Ending) (w' : World) => roe_text (w' := w') (e := e) (p := p) HFIN.out hr0 HW5.out.bl)
            go_wp2_with fail
            refine HTEXT.out.mono ?_
            rintro e w7 ht
            rcases HOUT.out _ _ ht with ⟨rfl, hro⟩ | ⟨kk, rfl, hro⟩
            · have HRO := Lib.hid hro
              clear hro ht HOUT HTEXT
              go_wp2
              go_end0
              exact HRO.out
            · exact ⟨rfl, hro⟩
end Go.Proofs.YtgfhabofhefaaaaGreatDoor
namespace Go.Proofs.YtgfhabofhefaaaaGreatDoor
open Go.RowKit
set_option maxHeartbeats 1000000 in
theorem lcatch_idle (p q r : Value) (w : World) :
    CallsD Tryz.prog 85 #[p, q, r] .returning w fun e u' w' => e = .returned (.tuple #[]) ∧ u' = .returning ∧ w' = w := by
  refine callsD_of_wpS Tryz.func85 rfl fun c₀ cs hu => ?_
  apply wpS_seq
  apply wpS_region
  simp [wpOpsS, go_sem, recoverD, hu, Tryz.ntmps85, Exit.thenS]
  refine wpS_of_wp ?_
  go_wp2
  cases c₀
  simp_all [bodyPostS, results, Tryz.results85]
theorem lassert_yes (k : Int) (w : World) : (Instr.typeAssert (.iface 135 (.agg #[.int .i64 k])) 20 135 true).run Tryz.prog w = .ok (.tuple #[.agg #[.int .i64 k], .bool true]) w := by kernel_rfl
theorem lframe (p q r v : Value) : #[p, q, r] ++ (Array.replicate 14 undef).setIfInBounds 3 v = #[p, q, r, undef, undef, undef, v, undef, undef, undef, undef, undef, undef, undef, undef, undef, undef] := rfl
set_option maxHeartbeats 2000000 in
theorem lcatch_panicking (k : Int) (a b c : Nat) (no ind : Int) (tx : List UInt8) (y f0 f1 : Value) (w : World) (ha : Str w a 105 #[.int .i64 no, .int .i64 ind, .string ⟨tx.toArray⟩]) (hb : Str w b 71 #[y]) (hc : Str w c 39 #[f0, f1]) :
    CallsD Tryz.prog 85 #[.pointer (some ⟨a, 0, none⟩), .pointer (some ⟨b, 0, none⟩), .pointer (some ⟨c, 0, none⟩)] (.panicking (gave k)) w fun e u' w' =>
      e = .returned (.tuple #[]) ∧ u' = .panicking (took k) ∧ Str w' b 71 #[.slice none 0 0] ∧ Str w' c 39 #[.int .i64 k, .int .i64 no] ∧ Kb w w' (some b) (some c) := by
  have hab : a ≠ b := ha.apart_str hb (by decide)
  have hac : a ≠ c := ha.apart_str hc (by decide)
  have hbc : b ≠ c := hb.apart_str hc (by decide)
  have BA := below_alloc w (.cells #[.int .i64 k] 135)
  have HA := Lib.hid (ha.below BA)
  have HB := Lib.hid (hb.below BA)
  have HC := Lib.hid (hc.below BA)
  have HN := Lib.hid (Str.new w 135 #[.int .i64 k])
  have HK := Lib.hid (Kb.of_below BA (some b) (some c))
  have asr := lassert_yes k
  clear ha hb hc BA
  refine callsD_of_wpS Tryz.func85 rfl fun c₀ cs hu => ?_
  apply wpS_seq
  apply wpS_region
  simp [wpOpsS, go_sem, recoverD, hu, gave, Tryz.ntmps85, Exit.thenS]
  refine wpS_of_wp ?_
  rw [lframe]
  go_wp2
  generalize w.alloc (.cells #[.int .i64 k] 135) = w1 at *
  generalize w.heap.size = P at *
  have k0 : w1.cell? ⟨P, 0, none⟩ = some (.int .i64 k) := HN.out.cell 0
  have a0 : w1.cell? ⟨a, 0, none⟩ = some (.int .i64 no) := HA.out.cell 0
  have b0 : w1.cell? ⟨b, 0, none⟩ = some y := HB.out.cell 0
  have bf := HB.out.frozen 0
  have c0 : w1.cell? ⟨c, 0, none⟩ = some f0 := HC.out.cell 0
  have c1 : w1.cell? ⟨c, 1, none⟩ = some f1 := HC.out.cell 1
  have cf0 := HC.out.frozen 0
  have cf1 := HC.out.frozen 1
  have hPb : P ≠ b := HN.out.apart_str HB.out (by decide)
  have hPc : P ≠ c := HN.out.apart_str HC.out (by decide)
  have kbb := Kb.set w1 b 0 (.slice none 0 0) none
  have SB1 := Lib.hid (HB.out.set 0 (.slice none 0 0))
  have SA1 := Lib.hid (HA.out.kb kbb (by simpa using hab) (by simp))
  have SN1 := Lib.hid (HN.out.kb kbb (by simpa using hPb) (by simp))
  have SC1 := Lib.hid (HC.out.kb kbb (by simpa using fun h => hbc h.symm) (by simp))
  have k0' : (w1.setCell ⟨b, 0, none⟩ (.slice none 0 0)).cell? ⟨P, 0, none⟩ = some (.int .i64 k) := SN1.out.cell 0
  have a0' : (w1.setCell ⟨b, 0, none⟩ (.slice none 0 0)).cell? ⟨a, 0, none⟩ = some (.int .i64 no) := SA1.out.cell 0
  have c0' : (w1.setCell ⟨b, 0, none⟩ (.slice none 0 0)).cell? ⟨c, 0, none⟩ = some f0 := SC1.out.cell 0
  have c1' : (w1.setCell ⟨b, 0, none⟩ (.slice none 0 0)).cell? ⟨c, 1, none⟩ = some f1 := SC1.out.cell 1
  have cf0' := SC1.out.frozen 0
  have cf1' := SC1.out.frozen 1
  have SF : Hid (Str _ c 39 #[.int .i64 k, .int .i64 no]) := (SC1.out.two' (.int .i64 k) (.int .i64 no)).below (below_drew _)
  have kcc := (Kb.set (w1.setCell ⟨b, 0, none⟩ (.slice none 0 0)) c 0 (.int .i64 k) none).trans (Kb.set _ c 1 (.int .i64 no) none)
  have SB : Hid (Str _ b 71 #[.slice none 0 0]) := (Str.kb (by simpa using SB1.out) kcc (by simpa using hbc) (by simp)).below (below_drew _)
  have KK : Hid (Kb w _ (some b) (some c)) := (((HK.out.trans (Kb.set w1 b 0 (.slice none 0 0) (some c))).trans ⟨kcc.os, kcc.tape, kcc.output, kcc.size, fun j hj h1 h2 => kcc.block j hj h2 (by simp)⟩).trans (Kb.of_below (below_drew _) (some b) (some c)))
  clear kbb kcc
  go_region
  exact ⟨rfl, _, rfl, .tuple #[], by simp [results, Tryz.results85], rfl, rfl, SB.out, SF.out, KK.out⟩
def RowE (w : World) (l : LX.Lz) (e : Ending) (w' : World) : Prop :=
  Below w.heap.size w w' ∧ ∃ v, e = .returned (.tuple #[v, .agg #[.int .i64 (LX.row l).1, .int .i64 (if (LX.row l).1 = 0 then 0 else l.1)]]) ∧ Ownp w' w.heap.size v (LX.row l).2
theorem lret_both {tmps : Array Value} {w : World} {p q : Nat} {x y z : Value} (hp : tmps.getD 2 undef = .pointer (some ⟨p, 0, none⟩)) (hq : tmps.getD 3 undef = .pointer (some ⟨q, 0, none⟩)) (h1 : Str w p 71 #[x]) (h2 : Str w q 39 #[y, z]) :
    (results Tryz.f56 tmps).run Tryz.prog w = .ok (.tuple #[x, .agg #[y, z]]) w := by
  have hs' : w.heap[q]? = some (.cells #[y, z] 39 (0, 0)) := h2
  have l2 := run_loadVar_row (P := Tryz.prog) w q 39 39 #[y, z] (0, 0) _ hs' Tryz.underlying39 rfl fault_size
  have c1 : w.cell? ⟨p, 0, none⟩ = some x := h1.cell 0
  have l1 : (loadVar 71 ⟨p, 0, none⟩).run Tryz.prog w = .ok x w := by
    simp [loadVar, isAgg, go_sem, c1]
  have hp' : (asAddr (tmps.getD 2 undef)).run Tryz.prog w = .ok ⟨p, 0, none⟩ w := by rw [hp]; simp [asAddr]
  have hq' : (asAddr (tmps.getD 3 undef)).run Tryz.prog w = .ok ⟨q, 0, none⟩ w := by rw [hq]; simp [asAddr]
  simp only [Array.getD_eq_getD_getElem?] at hp' hq'
  simp only [results, Tryz.results56]
  simp [Sem.run_bind, Result.andThen, hp', hq', l1, l2]
abbrev lDef (n : Nat) : List Deferred := [{ target := .fn (.func 85) #[.pointer (some ⟨n, 0, none⟩), .pointer (some ⟨n + 1, 0, none⟩), .pointer (some ⟨n + 2, 0, none⟩)], args := #[] }]
structure DoR (w wr : World) (l : LX.Lz) (x y z : Value) : Prop where
  bl : Below w.heap.size w wr
  a : Str wr w.heap.size 105 #[.int .i64 l.1, .int .i64 l.2.1, .string ⟨l.2.2.toArray⟩]
  b : Str wr (w.heap.size + 1) 71 #[x]
  c : Str wr (w.heap.size + 2) 39 #[y, z]
theorem ldoor_gave {w wr : World} {tmps : Array Value} {l : LX.Lz} {x y z : Value} {k : Int} (hp : tmps.getD 2 undef = .pointer (some ⟨w.heap.size + 1, 0, none⟩)) (hq : tmps.getD 3 undef = .pointer (some ⟨w.heap.size + 2, 0, none⟩)) (h : DoR w wr l x y z) (hr : LX.row l = (k, [])) (hk : k ≠ 0) :
    Leaves Tryz.prog Tryz.f56 tmps (RowE w l) (lDef w.heap.size) (.panicking (gave k)) wr := by
  refine leaves_cons (f := 85) (args := #[.pointer (some ⟨w.heap.size, 0, none⟩), .pointer (some ⟨w.heap.size + 1, 0, none⟩), .pointer (some ⟨w.heap.size + 2, 0, none⟩)]) (by simp) (by simp [go_sem]) ?_
  refine (lcatch_panicking k w.heap.size (w.heap.size + 1) (w.heap.size + 2) l.1 l.2.1 l.2.2 x y z wr h.a h.b h.c).mono ?_
  rintro e u' w' ⟨rfl, rfl, s1, s2, kb⟩
  refine ⟨_, lret_both hp hq s1 s2, ?_, .slice none 0 0, ?_, ?_⟩
  · exact h.bl.trans (kb.below h.bl.size (fun g hg => by have := Option.some.inj hg; omega) (fun g hg => by have := Option.some.inj hg; omega))
  · rw [hr, if_neg hk]
  · rw [hr]; exact Ownp.nil _ _
theorem ldoor_done {w wr : World} {tmps : Array Value} {l : LX.Lz} {x : Value} {ls : List LX.Pc} (hp : tmps.getD 2 undef = .pointer (some ⟨w.heap.size + 1, 0, none⟩)) (hq : tmps.getD 3 undef = .pointer (some ⟨w.heap.size + 2, 0, none⟩)) (h : DoR w wr l x (.int .i64 0) (.int .i64 0)) (hr : LX.row l = (0, ls)) (ho : Ownp wr w.heap.size x ls) :
    Leaves Tryz.prog Tryz.f56 tmps (RowE w l) (lDef w.heap.size) .returning wr := by
  refine leaves_cons (f := 85) (args := #[.pointer (some ⟨w.heap.size, 0, none⟩), .pointer (some ⟨w.heap.size + 1, 0, none⟩), .pointer (some ⟨w.heap.size + 2, 0, none⟩)]) (by simp) (by simp [go_sem]) ?_
  refine (lcatch_idle _ _ _ wr).mono ?_
  rintro e u' w' ⟨rfl, rfl, rfl⟩
  refine ⟨_, lret_both hp hq h.b h.c, h.bl, x, ?_, ?_⟩
  · rw [hr, if_pos rfl]
  · rw [hr]; exact ho
theorem DoR.far {w wr w' : World} {l : LX.Lz} {x y z : Value} (h : DoR w wr l x y z) (hb : Below (w.heap.size + 3) wr w') : DoR w w' l x y z :=
  ⟨h.bl.trans (hb.mono (by omega)), (hb.block _ (by omega)).trans h.a, (hb.block _ (by omega)).trans h.b, (hb.block _ (by omega)).trans h.c⟩
theorem DoR.laid {w wr : World} {l : LX.Lz} {x y z : Value} (h : DoR w wr l x y z) (v : Value) (f g : Value) :
    DoR w (((wr.setCell ⟨w.heap.size + 1, 0, none⟩ v).setCell ⟨w.heap.size + 2, 0, none⟩ f).setCell ⟨w.heap.size + 2, 1, none⟩ g) l v f g ∧ Kb wr (((wr.setCell ⟨w.heap.size + 1, 0, none⟩ v).setCell ⟨w.heap.size + 2, 0, none⟩ f).setCell ⟨w.heap.size + 2, 1, none⟩ g) (some (w.heap.size + 1)) (some (w.heap.size + 2)) := by
  have kb := Kb.set wr (w.heap.size + 1) 0 v none
  have kc := (Kb.set (wr.setCell ⟨w.heap.size + 1, 0, none⟩ v) (w.heap.size + 2) 0 f none).trans (Kb.set _ (w.heap.size + 2) 1 g none)
  have sb : Str (wr.setCell ⟨w.heap.size + 1, 0, none⟩ v) (w.heap.size + 1) 71 #[v] := by simpa using h.b.set 0 v
  have sc : Str (wr.setCell ⟨w.heap.size + 1, 0, none⟩ v) (w.heap.size + 2) 39 #[y, z] := h.c.kb kb (by simp) (by simp)
  have kk : Kb wr _ (some (w.heap.size + 1)) (some (w.heap.size + 2)) := (Kb.set wr (w.heap.size + 1) 0 v (some (w.heap.size + 2))).trans ⟨kc.os, kc.tape, kc.output, kc.size, fun j hj h1 h2 => kc.block j hj h2 (by simp)⟩
  refine ⟨⟨h.bl.trans (kk.below h.bl.size (fun g hg => by have := Option.some.inj hg; omega) (fun g hg => by have := Option.some.inj hg; omega)), (h.a.kb kb (by simp) (by simp)).kb kc (by simp) (by simp), sb.kb kc (by simp) (by simp), sc.two' f g⟩, kk⟩
theorem lex_start (w : World) (no ind : Int) (tx : List UInt8) (hm : MaxIs w) :
    Lxr ((((w.alloc (.cells #[.int .i64 no, .int .i64 ind, .string ⟨tx.toArray⟩] 105)).alloc (.cells #[.slice none 0 0] 71)).alloc (.cells #[.int .i64 0, .int .i64 0] 39)).alloc (.cells #[.int .i64 no, .int .i64 ind, .string ⟨tx.toArray⟩, .string ⟨tx.toArray⟩, .slice none 0 0] 137)) (w.heap.size + 1 + 1 + 1) (w.heap.size + 1 + 1 + 1) no ind tx tx (.slice none 0 0) [] ∧
    DoR w ((((w.alloc (.cells #[.int .i64 no, .int .i64 ind, .string ⟨tx.toArray⟩] 105)).alloc (.cells #[.slice none 0 0] 71)).alloc (.cells #[.int .i64 0, .int .i64 0] 39)).alloc (.cells #[.int .i64 no, .int .i64 ind, .string ⟨tx.toArray⟩, .string ⟨tx.toArray⟩, .slice none 0 0] 137)) (no, ind, tx) (.slice none 0 0) (.int .i64 0) (.int .i64 0) ∧
    MaxIs ((((w.alloc (.cells #[.int .i64 no, .int .i64 ind, .string ⟨tx.toArray⟩] 105)).alloc (.cells #[.slice none 0 0] 71)).alloc (.cells #[.int .i64 0, .int .i64 0] 39)).alloc (.cells #[.int .i64 no, .int .i64 ind, .string ⟨tx.toArray⟩, .string ⟨tx.toArray⟩, .slice none 0 0] 137)) := by
  obtain ⟨w1, h1⟩ : ∃ w1, w.alloc (.cells #[.int .i64 no, .int .i64 ind, .string ⟨tx.toArray⟩] 105) = w1 := ⟨_, rfl⟩
  have B1 := below_alloc w (.cells #[.int .i64 no, .int .i64 ind, .string ⟨tx.toArray⟩] 105)
  have s1 := Str.new w 105 #[.int .i64 no, .int .i64 ind, .string ⟨tx.toArray⟩]
  have z1 := bx_size w (.cells #[.int .i64 no, .int .i64 ind, .string ⟨tx.toArray⟩] 105)
  rw [h1] at B1 s1 z1 ⊢
  obtain ⟨w2, h2⟩ : ∃ w2, w1.alloc (.cells #[.slice none 0 0] 71) = w2 := ⟨_, rfl⟩
  have B2 := below_alloc w1 (.cells #[.slice none 0 0] 71)
  have s2 := Str.new w1 71 #[.slice none 0 0]
  have z2 := bx_size w1 (.cells #[.slice none 0 0] 71)
  rw [h2] at B2 s2 z2 ⊢
  obtain ⟨w3, h3⟩ : ∃ w3, w2.alloc (.cells #[.int .i64 0, .int .i64 0] 39) = w3 := ⟨_, rfl⟩
  have B3 := below_alloc w2 (.cells #[.int .i64 0, .int .i64 0] 39)
  have s3 := Str.new w2 39 #[.int .i64 0, .int .i64 0]
  have z3 := bx_size w2 (.cells #[.int .i64 0, .int .i64 0] 39)
  rw [h3] at B3 s3 z3 ⊢
  have B4 := below_alloc w3 (.cells #[.int .i64 no, .int .i64 ind, .string ⟨tx.toArray⟩, .string ⟨tx.toArray⟩, .slice none 0 0] 137)
  have s4 := Str.new w3 137 #[.int .i64 no, .int .i64 ind, .string ⟨tx.toArray⟩, .string ⟨tx.toArray⟩, .slice none 0 0]
  rw [z3, z2, z1] at s4
  rw [z2, z1] at s3
  rw [z1] at s2
  have BB := below_trans B1 (below_trans B2 (below_trans B3 B4))
  exact ⟨⟨Nat.le_refl _, s4, Ownp.nil _ _⟩, ⟨BB, s1.below (below_trans B2 (below_trans B3 B4)), s2.below (below_trans B3 B4), s3.below B4⟩, hm.below BB⟩
set_option maxHeartbeats 8000000 in
theorem lexRow_any (l : LX.Lz) (w : World) (hl : l.2.2.length ≤ 17000) (hm : MaxIs w) :
    Calls Tryz.prog 56 #[.agg #[.int .i64 l.1, .int .i64 l.2.1, .string ⟨l.2.2.toArray⟩]] w (RowE w l) := by
  have hmf : ∀ (fn : Fn) (first cap : Array Value) (w : World), (Instr.makeFunc fn first cap).run Tryz.prog w = .ok (.func fn first cap) w := fun _ _ _ _ => rfl
  obtain ⟨no, ind, tx⟩ := l
  simp only at hl ⊢
  have hs := lex_start w no ind tx hm
  have hB : 1 < w.heap.size + 1 + 1 + 1 := by
    obtain ⟨m, hc⟩ := hm
    have := cell_lt hc
    simp only at this
    omega
  have HR := Lib.hid (lrow_any hs.1 hs.2.2 hB hl)
  have HD := Lib.hid hs.2.1
  clear hs hm hB
  go_enter_defers Tryz.func56, Tryz.ntmps56
  go_wp2_with fail
  refine HR.out.mono ?_
  rintro e w1 ⟨hb, ⟨h1, rfl, rest, v', hl1⟩ | ⟨h1, rfl, h2⟩⟩
  · have HD1 := Lib.hid (HD.out.far hb)
    obtain ⟨ao, cp, rfl⟩ := hl1.own.slice
    have HO := Lib.hid hl1.own
    have p4 : w1.cell? ⟨w.heap.size + 1 + 1 + 1, 4, none⟩ = some (.slice ao (LX.row (no, ind, tx)).2.length cp) := hl1.str.cell 4
    have b0 : w1.cell? ⟨w.heap.size + 1, 0, none⟩ = some (.slice none 0 0) := HD1.out.b.cell 0
    have bf : w1.frozen? ⟨w.heap.size + 1, 0, none⟩ = false := HD1.out.b.frozen 0
    have hz := HD1.out.laid (.slice ao (LX.row (no, ind, tx)).2.length cp) (.int .i64 0) (.int .i64 0)
    have sc : Str (w1.setCell ⟨w.heap.size + 1, 0, none⟩ (.slice ao (LX.row (no, ind, tx)).2.length cp)) (w.heap.size + 2) 39 #[.int .i64 0, .int .i64 0] := HD1.out.c.kb (Kb.set w1 (w.heap.size + 1) 0 _ none) (by simp) (by simp)
    have c0 : (w1.setCell ⟨w.heap.size + 1, 0, none⟩ (.slice ao (LX.row (no, ind, tx)).2.length cp)).cell? ⟨w.heap.size + 1 + 1, 0, none⟩ = some (.int .i64 0) := sc.cell 0
    have c1 : (w1.setCell ⟨w.heap.size + 1, 0, none⟩ (.slice ao (LX.row (no, ind, tx)).2.length cp)).cell? ⟨w.heap.size + 1 + 1, 1, none⟩ = some (.int .i64 0) := sc.cell 1
    have cf0 : (w1.setCell ⟨w.heap.size + 1, 0, none⟩ (.slice ao (LX.row (no, ind, tx)).2.length cp)).frozen? ⟨w.heap.size + 1 + 1, 0, none⟩ = false := sc.frozen 0
    have cf1 : (w1.setCell ⟨w.heap.size + 1, 0, none⟩ (.slice ao (LX.row (no, ind, tx)).2.length cp)).frozen? ⟨w.heap.size + 1 + 1, 1, none⟩ = false := sc.frozen 1
    have HO2 : Hid (Ownp _ w.heap.size _ (LX.row (no, ind, tx)).2) := (HO.out.base (by omega)).kb hz.2 (HO.out.off HD1.out.b (by decide)) (HO.out.off HD1.out.c (by decide))
    have HZ := Lib.hid hz.1
    have ER := Lib.hid (show LX.row (no, ind, tx) = (0, (LX.row (no, ind, tx)).2) from Prod.ext h1 rfl)
    clear hb h1 hl1 hz sc HR HD
    go_wp2
    exact ldoor_done rfl rfl HZ.out ER.out HO2.out
  · exact ldoor_gave rfl rfl (HD.out.far hb) (Prod.ext rfl h2) h1
end Go.Proofs.YtgfhabofhefaaaaGreatDoor
