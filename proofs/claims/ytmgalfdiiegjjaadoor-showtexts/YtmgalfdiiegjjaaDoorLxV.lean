/- The walk of a lexer's row. -/
import Derived.Test.YtmgalfdiiegjjaaDoorLxT
namespace Go.Proofs.YtmgalfdiiegjjaaDoor
open Go.RowKit

/-- What row leaves, at its end. -/
def RoE (w : World) (B p : Nat) (no ind : Int) (tx : List UInt8) (o : LX.R) (e : Ending) (w' : World) : Prop :=
  Below B w w' ∧ ((o.1 = 0 ∧ e = .returned (.tuple #[]) ∧ ∃ rest v', Lxr w' B p no ind tx rest v' o.2) ∨ (o.1 ≠ 0 ∧ e = .panicked (gave o.1) ∧ o.2 = []))
theorem roe_no {w w' : World} {B p : Nat} {no ind : Int} {tx : List UInt8} {o : LX.R} {k : Int} (h : o = (k, [])) (hk : k ≠ 0) (hb : Below B w w') : RoE w B p no ind tx o (.panicked (gave k)) w' := by
  subst h
  exact ⟨hb, .inr ⟨hk, rfl, rfl⟩⟩
theorem roe_yes {w w' : World} {B p : Nat} {no ind : Int} {tx rest : List UInt8} {o : LX.R} {acc : List LX.Pc} {v' : Value} (h : o = (0, acc)) (hl : Lxr w' B p no ind tx rest v' acc) (hb : Below B w w') : RoE w B p no ind tx o (.returned (.tuple #[])) w' := by
  subst h
  exact ⟨hb, .inl ⟨rfl, rfl, rest, v', hl⟩⟩
/-- Behind text. -/
theorem roe_text {w wr w' : World} {B p : Nat} {no ind : Int} {tx rest : List UInt8} {o : LX.R} {acc : List LX.Pc} {e : Ending} (h : o = LX.fin no (ind + tx.length) acc rest) (hne : rest ≠ []) (hb : Below B w wr) (ht : TxE wr B p no ind tx rest acc (LX.txt rest) e w') :
    (e = .returned (.tuple #[]) ∧ RoE w B p no ind tx o (.returned (.tuple #[])) w') ∨ (∃ k, e = .panicked (gave k) ∧ RoE w B p no ind tx o (.panicked (gave k)) w') := by
  obtain ⟨b1, ⟨h1, h2, v', h3⟩ | ⟨h1, h2⟩⟩ := ht
  · refine .inl ⟨h2, roe_yes ?_ h3 (hb.trans b1)⟩
    rw [h, LX.fin, if_neg hne, if_pos h1]
  · refine .inr ⟨_, h2, roe_no ?_ h1 (hb.trans b1)⟩
    rw [h, LX.fin, if_neg hne, if_neg h1]
/-- Where row stands. -/
structure RW (w wr : World) (B p : Nat) (no ind : Int) (tx rest : List UInt8) (v : Value) (acc : List LX.Pc) : Prop where
  bl : Below B w wr
  lx : Lxr wr B p no ind tx rest v acc
theorem RW.step {w wr w' : World} {B p : Nat} {no ind : Int} {tx rest rest' : List UInt8} {v v' : Value} {acc acc' : List LX.Pc} (h : RW w wr B p no ind tx rest v acc) (hl : Lxr w' B p no ind tx rest' v' acc') (hb : Below B wr w') : RW w w' B p no ind tx rest' v' acc' := ⟨h.bl.trans hb, hl⟩
theorem RW.cut {w wr : World} {B p : Nat} {no ind : Int} {tx rest : List UInt8} {v : Value} {acc : List LX.Pc} (h : RW w wr B p no ind tx rest v acc) (r : List UInt8) : RW w (wr.setCell ⟨p, 3, none⟩ (.string ⟨r.toArray⟩)) B p no ind tx r v acc := ⟨h.bl.trans (h.lx.rest r).2, (h.lx.rest r).1⟩

set_option maxHeartbeats 16000000 in
theorem lrow_any {w : World} {B p : Nat} {no ind : Int} {tx : List UInt8} {v : Value} (h : Lxr w B p no ind tx tx v []) (hm : MaxIs w) (hB : 2 < B) (h2 : tx.length ≤ 17000) :
    Calls Tryd.prog 59 #[.pointer (some ⟨p, 0, none⟩)] w (RoE w B p no ind tx (LX.row (no, ind, tx))) := by
  have c1 : w.cell? ⟨p, 1, none⟩ = some (.int .i64 ind) := h.str.cell 1
  have HL0 := Lib.hid h
  obtain ⟨F, HF⟩ : ∃ F, Hid (F = LX.row (no, ind, tx)) := ⟨_, Lib.hid rfl⟩
  rw [← HF.out]
  have HMX := Lib.hid hm
  have HMB := Lib.hid hB
  have HTX := Lib.hid h2
  have HTT := Lib.hid (fun k x => lmust_true k x)
  have HFF := Lib.hid (fun k x => lmust_false k x)
  clear h hm hB
  by_cases hin : ind < 0
  · have E := Lib.hid (show F = (6, []) by rw [HF.out, LX.row, if_pos (.inl hin)])
    have g0 : ¬ 0 ≤ ind := by omega
    have g1 : decide (0 ≤ ind) = false := decide_eq_false g0
    go_enter Tryd.func59, Tryd.ntmps59
    go_wp2_with fail
    refine (HFF.out 6 _).mono ?_
    rintro e w1 ⟨rfl, rfl⟩
    exact ⟨rfl, roe_no E.out (by decide) (Below.refl _ _)⟩
  have g0 : 0 ≤ ind := by omega
  by_cases hin2 : 16384 < ind
  · have E := Lib.hid (show F = (6, []) by rw [HF.out, LX.row, if_pos (.inr hin2)])
    have g1 : ¬ ind ≤ 16384 := by omega
    have g2 : decide (ind ≤ 16384) = false := decide_eq_false g1
    go_enter Tryd.func59, Tryd.ntmps59
    go_wp2_with fail
    refine (HFF.out 6 _).mono ?_
    rintro e w1 ⟨rfl, rfl⟩
    exact ⟨rfl, roe_no E.out (by decide) (Below.refl _ _)⟩
  have g1 : ind ≤ 16384 := by omega
  have HG := Lib.hid (show F = LX.go no (ind + tx.length) (LX.tl tx).length [] (LX.tl tx) by rw [HF.out, LX.row, if_neg (by simp only; omega)])
  have HP0 := Lib.hid (passBlanks_any HL0.out)
  go_enter Tryd.func59, Tryd.ntmps59
  go_wp2_with fail
  refine (HTT.out 6 _).mono ?_
  rintro e w1 ⟨rfl, hw1⟩
  replace hw1 := hw1.symm
  subst hw1
  go_wp2_with fail
  refine HP0.out.mono ?_
  rintro e w1 ⟨rfl, hl1, b1⟩
  have HW1 : Hid (RW w w1 B p no ind tx (LX.tl tx) v []) := ⟨b1, hl1⟩
  clear hl1 b1 HP0 HL0 c1
  go_wp2
  go_loopg [] (LX.tl tx).length (fun g wx => ∃ rest v acc, Hid (rest.length ≤ g ∧ acc.length + rest.length ≤ tx.length) ∧ Hid (RW w wx B p no ind tx rest v acc) ∧ Hid (F = LX.go no (ind + tx.length) g acc rest))
  case atStart => exact ⟨LX.tl tx, v, [], ⟨Nat.le_refl _, by simpa using LX.tl_len tx⟩, HW1, HG⟩
  case round =>
    clear HW1 HG
    obtain ⟨rest, v, acc, HLN, HW, HE⟩ := hrel
    have c3 : wr.cell? ⟨p, 3, none⟩ = some (.string ⟨rest.toArray⟩) := HW.out.lx.str.cell 3
    have f3 := HW.out.lx.str.frozen 3
    have HD := Lib.hid (ldash_any rest wr)
    cases hd : LX.dash rest with
    | true =>
      have hpos := LX.dash_len hd
      obtain ⟨g, rfl⟩ : ∃ g, gk = g + 1 := ⟨gk - 1, by have := HLN.out; omega⟩
      have E := Lib.hid (HE.out.trans (LX.go_dash hd))
      rw [hd] at HD
      have HPUT := Lib.hid (put_any HW.out.lx 1 0 0 [] false g0 g1 (by have := HTX.out; omega) (by have := HLN.out; omega) (by have := HLN.out; have := HTX.out; omega))
      clear hd HE
      go_wp2_with fail
      refine HD.out.mono ?_
      rintro e w2 ⟨rfl, hw2⟩
      replace hw2 := hw2.symm
      subst hw2
      go_wp2_with fail
      refine HPUT.out.mono ?_
      rintro e w3 ⟨rfl, ⟨v3, hl3⟩, b3⟩
      have HW3 := Lib.hid (HW.out.step hl3 b3)
      clear hl3 b3 HPUT HD c3 f3 HW
      have d3 : w3.cell? ⟨p, 3, none⟩ = some (.string ⟨rest.toArray⟩) := HW3.out.lx.str.cell 3
      have e3 := HW3.out.lx.str.frozen 3
      have hsz := str_size rest
      obtain ⟨n, hn⟩ : ∃ n, rest.length = n := ⟨_, rfl⟩
      have x1 := lcut_back hn 1
      have HN := Lib.hid hn
      rw [hn] at hsz hpos
      have h1n : (1 : Int) ≤ (n : Int) := by omega
      have HW4 := Lib.hid (HW3.out.cut (rest.drop 1))
      have HPB := Lib.hid (passBlanks_any HW4.out.lx)
      obtain ⟨D, hD⟩ : ∃ D, rest.drop 1 = D := ⟨_, rfl⟩
      have HDL := Lib.hid hD
      rw [hD] at x1 HW4 HPB
      clear hn hD
      go_wp2_with fail
      refine HPB.out.mono ?_
      rintro e w5 ⟨rfl, hl5, b5⟩
      have HW5 := Lib.hid (HW4.out.step hl5 b5)
      clear hl5 b5 HPB HW4 HW3
      go_wp2
      go_roundg g
      case rel =>
        refine ⟨LX.tl D, v3, _, ⟨?_, ?_⟩, HW5, ?_⟩
        · have h1 := LX.tl_len D
          have h2 : D.length = rest.length - 1 := by rw [← HDL.out, List.length_drop]
          have := HLN.out
          omega
        · have h1 := LX.tl_len D
          have h2 : D.length = rest.length - 1 := by rw [← HDL.out, List.length_drop]
          have := HLN.out
          have := HN.out
          rw [List.length_append]; simp only [List.length_cons, List.length_nil]; omega
        · show _ = _
          rw [E.out, ← HDL.out]
      case measure => omega
    | false =>
      have HMID := Lib.hid (HE.out.trans (LX.go_mid hd))
      rw [hd] at HD
      have HK := Lib.hid (keySize_any rest wr (by have := HLN.out; have := HTX.out; omega))
      have hkl := LX.key_lt (l := rest)
      obtain ⟨k, hk⟩ : ∃ k, LX.key rest = k := ⟨_, rfl⟩
      have HKE := Lib.hid hk
      rw [hk] at HK hkl
      clear hd HE hk
      by_cases hk0 : k = 0
      · subst hk0
        have HFIN := Lib.hid (HMID.out.trans (by rw [LX.mid, if_pos HKE.out]))
        by_cases hr0 : rest = []
        · have E := Lib.hid (HFIN.out.trans (by rw [LX.fin, if_pos hr0]))
          subst hr0
          go_wp2_with fail
          refine HD.out.mono ?_
          rintro e w2 ⟨rfl, hw2⟩
          replace hw2 := hw2.symm
          subst hw2
          go_wp2_with fail
          refine HK.out.mono ?_
          rintro e w2 ⟨rfl, hw2⟩
          replace hw2 := hw2.symm
          subst hw2
          go_wp2
          go_end0
          exact roe_yes E.out HW.out.lx HW.out.bl
        · have hrb : (rest == []) = false := beq_eq_false_iff_ne.2 hr0
          have hrb2 : (rest != []) = true := by simp [bne, hrb]
          have HTEXT := Lib.hid (text_any HW.out.lx (HMX.out.bel HMB.out HW.out.bl) HMB.out g0 g1 HTX.out (by have := HLN.out; omega) (by have := HLN.out; have := HTX.out; omega) hr0)
          have HOUT := Lib.hid (fun (e : Ending) (w' : World) => roe_text (w' := w') (e := e) (p := p) HFIN.out hr0 HW.out.bl)
          go_wp2_with fail
          refine HD.out.mono ?_
          rintro e w2 ⟨rfl, hw2⟩
          replace hw2 := hw2.symm
          subst hw2
          go_wp2_with fail
          refine HK.out.mono ?_
          rintro e w2 ⟨rfl, hw2⟩
          replace hw2 := hw2.symm
          subst hw2
          go_wp2_with fail
          refine HTEXT.out.mono ?_
          rintro e w7 ht
          rcases HOUT.out _ _ ht with ⟨rfl, hro⟩ | ⟨kk, rfl, hro⟩
          · have HRO := Lib.hid hro
            clear hro ht HOUT HTEXT
            go_wp2
            go_end0
            exact HRO.out
          · exact ⟨rfl, hro⟩
      · have hkp : 0 < k := by omega
        have hkl2 := hkl hkp
        have gk0 : (0 : Int) < (k : Int) := by omega
        by_cases hk64 : 64 < k
        · have E := Lib.hid (show F = (5, []) by rw [HMID.out, LX.mid, if_neg (by rw [HKE.out]; exact hk0), if_pos (by rw [HKE.out]; exact hk64)])
          have g64 : ¬ (k : Int) ≤ 64 := by omega
          have g65 : decide ((k : Int) ≤ 64) = false := decide_eq_false g64
          go_wp2_with fail
          refine HD.out.mono ?_
          rintro e w2 ⟨rfl, hw2⟩
          replace hw2 := hw2.symm
          subst hw2
          go_wp2_with fail
          refine HK.out.mono ?_
          rintro e w2 ⟨rfl, hw2⟩
          replace hw2 := hw2.symm
          subst hw2
          go_wp2_with fail
          refine (HFF.out 5 _).mono ?_
          rintro e w2 ⟨rfl, rfl⟩
          exact ⟨rfl, roe_no E.out (by decide) HW.out.bl⟩
        · have g64 : (k : Int) ≤ 64 := by omega
          have HFIN := Lib.hid (show F = LX.fin no (ind + tx.length) (acc ++ [(2, no, ind + tx.length - rest.length, rest.take k, false)]) (LX.tl (rest.drop (k + 1))) by rw [HMID.out, LX.mid, if_neg (by rw [HKE.out]; exact hk0), if_neg (by rw [HKE.out]; exact hk64), HKE.out])
          have hsz := str_size rest
          obtain ⟨n, hn⟩ : ∃ n, rest.length = n := ⟨_, rfl⟩
          have x0 := lcut_front rest k
          have x1 := lcut_back hn (k + 1)
          have HN := Lib.hid hn
          have HPUT := Lib.hid (put_any HW.out.lx 2 0 0 (rest.take k) false g0 g1 (by have := HTX.out; omega) (by have := HLN.out; omega) (by have := HLN.out; have := HTX.out; omega))
          rw [hn] at hsz hkl2
          have hkn : (k : Int) ≤ (n : Int) := by omega
          have hkn1 : (k : Int) + 1 ≤ (n : Int) := by omega
          have hk9 : k ≤ 17000 := by have := HLN.out; have := HTX.out; have := HN.out; omega
          obtain ⟨D, hD⟩ : ∃ D, rest.drop (k + 1) = D := ⟨_, rfl⟩
          have HDL := Lib.hid hD
          rw [hD] at x1 HFIN
          obtain ⟨K, hK⟩ : ∃ K, rest.take k = K := ⟨_, rfl⟩
          rw [hK] at x0 HPUT HFIN
          clear hn hD hK hkl
          go_wp2_with fail
          refine HD.out.mono ?_
          rintro e w2 ⟨rfl, hw2⟩
          replace hw2 := hw2.symm
          subst hw2
          go_wp2_with fail
          refine HK.out.mono ?_
          rintro e w2 ⟨rfl, hw2⟩
          replace hw2 := hw2.symm
          subst hw2
          go_wp2_with fail
          refine (HTT.out 5 _).mono ?_
          rintro e w2 ⟨rfl, hw2⟩
          replace hw2 := hw2.symm
          subst hw2
          go_wp2_with fail
          refine HPUT.out.mono ?_
          rintro e w3 ⟨rfl, ⟨v3, hl3⟩, b3⟩
          have HW3 := Lib.hid (HW.out.step hl3 b3)
          clear hl3 b3 HPUT HD HK c3 f3 HW
          have d3 : w3.cell? ⟨p, 3, none⟩ = some (.string ⟨rest.toArray⟩) := HW3.out.lx.str.cell 3
          have e3 := HW3.out.lx.str.frozen 3
          have HW4 := Lib.hid (HW3.out.cut D)
          have HPB := Lib.hid (passBlanks_any HW4.out.lx)
          go_wp2_with fail
          refine HPB.out.mono ?_
          rintro e w5 ⟨rfl, hl5, b5⟩
          have HW5 := Lib.hid (HW4.out.step hl5 b5)
          clear hl5 b5 HPB HW4 HW3 x0 x1 d3 e3
          have HRL : Hid ((LX.tl D).length ≤ tx.length ∧ (acc ++ [(2, no, ind + tx.length - rest.length, K, false)]).length ≤ 20000) := by
            have h1 := LX.tl_len D
            have h2 : D.length = rest.length - (k + 1) := by rw [← HDL.out, List.length_drop]
            have := HLN.out
            have := HTX.out
            refine ⟨by omega, ?_⟩
            rw [List.length_append]; simp only [List.length_cons, List.length_nil]; omega
          obtain ⟨R, hR⟩ : ∃ R, LX.tl D = R := ⟨_, rfl⟩
          rw [hR] at HW5 HFIN HRL
          obtain ⟨A, hA⟩ : ∃ A, acc ++ [(2, no, ind + tx.length - rest.length, K, false)] = A := ⟨_, rfl⟩
          have hA' : acc ++ [((2 : Int), no, ind + tx.length - rest.length, K, false)] = A := hA
          rw [hA'] at HW5 HFIN HRL
          clear hR hA hA'
          have c3 : w5.cell? ⟨p, 3, none⟩ = some (.string ⟨R.toArray⟩) := HW5.out.lx.str.cell 3
          by_cases hr0 : R = []
          · have E := Lib.hid (HFIN.out.trans (by rw [LX.fin, if_pos hr0]))
            subst hr0
            go_wp2
            go_end0
            exact roe_yes E.out HW5.out.lx HW5.out.bl
          · have hrb : (R == []) = false := beq_eq_false_iff_ne.2 hr0
            have hrb2 : (R != []) = true := by simp [bne, hrb]
            have HTEXT := Lib.hid (text_any HW5.out.lx (HMX.out.bel HMB.out HW5.out.bl) HMB.out g0 g1 HTX.out HRL.out.1 HRL.out.2 hr0)
            have HOUT := Lib.hid (fun (e : Ending) (w' : World) => roe_text (w' := w') (e := e) (p := p) HFIN.out hr0 HW5.out.bl)
            go_wp2_with fail
            refine HTEXT.out.mono ?_
            rintro e w7 ht
            rcases HOUT.out _ _ ht with ⟨rfl, hro⟩ | ⟨kk, rfl, hro⟩
            · have HRO := Lib.hid hro
              clear hro ht HOUT HTEXT
              go_wp2
              go_end0
              exact HRO.out
            · exact ⟨rfl, hro⟩
end Go.Proofs.YtmgalfdiiegjjaaDoor
