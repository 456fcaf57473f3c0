/- A part of the proof. -/
import Derived.Test.YtgfhabofhefaaaaGreatDoorSB20
import Derived.BigQuiet
namespace Go.Proofs.YtgfhabofhefaaaaGreatDoor
open Go.RowKit
theorem dl_bad {c : CF.Cf} {seen : List CF.Do} {d : CF.Do} {r : List CF.Do} {n : Nat} (h : D.nm d.name = false ∨ seen.any (fun x => decide (x.name = d.name)) = true) : CF.dl c seen (d :: r) n = none := by rw [CF.dl, if_pos h]
def dlk (c : CF.Cf) (seen r : List CF.Do) : Option Nat → Option Nat
  | none => none
  | some m => CF.dl c seen r m
theorem dl_go {c : CF.Cf} {seen : List CF.Do} {d : CF.Do} {r : List CF.Do} {n : Nat} (h1 : D.nm d.name = true) (h2 : seen.any (fun x => decide (x.name = d.name)) = false) :
    CF.dl c seen (d :: r) n = dlk c (seen ++ [d]) r (CF.kf c 8 d.kids n seen.length (-1)) := by
  rw [CF.dl, if_neg (by rw [h1, h2]; simp)]
  unfold dlk
  cases CF.kf c 8 d.kids n seen.length (-1) <;> rfl
theorem chk_not {c : CF.Cf} (h : ¬ (1 ≤ c.doms.length ∧ c.doms.length ≤ 16 ∧ c.brs.length ≤ 500)) : CF.chk c = false := decide_eq_false fun h2 => h ⟨h2.1, h2.2.1, h2.2.2.1⟩
theorem chk_dl {c : CF.Cf} {O : Option Nat} (h : 1 ≤ c.doms.length ∧ c.doms.length ≤ 16 ∧ c.brs.length ≤ 500) (hO : CF.dl c [] c.doms 0 = O) : CF.chk c = decide (O = some c.brs.length) := by
  unfold CF.chk
  rw [hO]
  rw [Bool.eq_iff_iff]
  simp [h]
set_option maxRecDepth 10000 in
set_option maxHeartbeats 32000000 in
theorem cfcheck_any (c : CF.Cf) (vd vb : Value) (w : World) (hd : RdD w vd c.doms) (hb : RdB w vb c.brs) (hc : CfOk c) :
    Calls Tryz.prog 18 #[.agg #[vd, vb]] w fun e w' => e = .returned (.bool (CF.chk c)) ∧ Below w.heap.size w w' := by
  obtain ⟨ao, ca, rfl, hma⟩ := hd.slice
  obtain ⟨bo, cb, rfl, hmb⟩ := hb.slice
  unfold maxLen at hma hmb
  obtain ⟨K, HK⟩ : ∃ K, Hid (K = CF.chk c) := ⟨_, Lib.hid rfl⟩
  rw [← HK.out]
  have HC := Lib.hid hc
  have HD := Lib.hid hd
  have HBR := Lib.hid hb
  obtain ⟨N, hN⟩ : ∃ L, c.doms.length = L := ⟨_, rfl⟩
  obtain ⟨L, hL⟩ : ∃ L, c.brs.length = L := ⟨_, rfl⟩
  have HNL := Lib.hid hN
  have HL := Lib.hid hL
  rw [hN] at HD hma ⊢
  rw [hL] at HBR hmb ⊢
  have HB0 := Lib.hid (below_alloc w (.cells #[.slice ao N ca, .slice bo L cb] 33))
  have HS := Lib.hid (Str.new w 33 #[.slice ao N ca, .slice bo L cb])
  have g0 := HS.out.cell 0
  have g1 := HS.out.cell 1
  simp only [List.getElem?_toArray, List.getElem?_cons_zero, List.getElem?_cons_succ] at g0 g1
  clear hd hb hc hN hL
  by_cases h1 : N < 1
  · have E : K = false := by rw [HK.out]; exact chk_not (by have := HNL.out; omega)
    have h1i : (N : Int) < 1 := by omega
    subst E
    go_enter Tryz.func18, Tryz.ntmps18
    go_wp2
    go_ret
    exact ⟨rfl, HB0.out⟩
  have h1i : ¬ (N : Int) < 1 := by omega
  by_cases h2 : 16 < N
  · have E : K = false := by rw [HK.out]; exact chk_not (by have := HNL.out; omega)
    have h2i : (16 : Int) < (N : Int) := by omega
    subst E
    go_enter Tryz.func18, Tryz.ntmps18
    go_wp2
    go_ret
    exact ⟨rfl, HB0.out⟩
  have h2i : ¬ (16 : Int) < (N : Int) := by omega
  by_cases h3 : 500 < L
  · have E : K = false := by rw [HK.out]; exact chk_not (by have := HL.out; omega)
    have h3i : (500 : Int) < (L : Int) := by omega
    subst E
    go_enter Tryz.func18, Tryz.ntmps18
    go_wp2
    go_ret
    exact ⟨rfl, HB0.out⟩
  have h3i : ¬ (500 : Int) < (L : Int) := by omega
  have H5 := Lib.hid h3
  obtain ⟨A, HA⟩ : ∃ A, Hid (CF.dl c [] c.doms 0 = A) := ⟨_, Lib.hid rfl⟩
  have HKA : Hid (K = decide (A = some c.brs.length)) := by
    show K = _
    rw [HK.out]; exact chk_dl (by have := HNL.out; have := HL.out; omega) HA.out
  have HDL0 : Hid (A = CF.dl c (c.doms.take 0) (c.doms.drop 0) 0) := by show A = _; rw [List.take_zero, List.drop_zero]; exact HA.out.symm
  clear HK
  go_enter Tryz.func18, Tryz.ntmps18
  go_upto_region 3 with fail
  generalize w.alloc (.cells #[.slice ao N ca, .slice bo L cb] 33) = W at *
  clear g0 g1 h1i h2i h3i h1 h2 h3 HA
  go_wp2
  go_loopg [3, 4] N (fun g s3 s4 wx => ∃ (i m : Nat), i + g = N ∧ s3 = .int .i64 (m : Int) ∧ s4 = .int .i64 (i : Int) ∧ m ≤ L ∧ Hid (Below W.heap.size W wx) ∧ Hid (A = CF.dl c (c.doms.take i) (c.doms.drop i) m))
  case atStart => exact ⟨0, 0, by omega, rfl, rfl, by omega, Lib.hid (Below.refl _ _), HDL0⟩
  case round =>
    clear HDL0
    obtain ⟨i, m, hi, rfl, rfl, hm, HB1, HDL⟩ := hrel
    have g0 : wr.cell? ⟨w.heap.size, 0, none⟩ = some (.slice ao N ca) := (HS.out.below HB1.out).cell 0
    have g1 : wr.cell? ⟨w.heap.size, 1, none⟩ = some (.slice bo L cb) := (HS.out.below HB1.out).cell 1
    cases gk with
    | zero =>
      obtain rfl : i = N := by omega
      have hAm : A = some m := by
        rw [HDL.out, List.drop_eq_nil_of_le (by have := HNL.out; omega), CF.dl]
      by_cases hmL : m = L
      · have E : K = true := by rw [HKA.out, hAm, HL.out, hmL]; simp
        subst E hmL
        clear hAm
        go_wp2
        go_ret
        exact ⟨rfl, below_trans HB0.out HB1.out⟩
      · have E : K = false := by rw [HKA.out, hAm, HL.out]; simp [hmL]
        have hb1 : ((m : Int) == (L : Int)) = false := by simp; omega
        have hb2 : (m == L) = false := by simpa using hmL
        subst E
        clear hAm
        go_wp2
        go_ret
        exact ⟨rfl, below_trans HB0.out HB1.out⟩
    | succ g =>
      have hin : (i : Int) < (N : Int) := by omega
      have hi0 : (0 : Int) ≤ (i : Int) := by omega
      obtain ⟨x, hx⟩ : ∃ x, c.doms[i]? = some x := ⟨c.doms[i]'(by have := HNL.out; omega), List.getElem?_eq_getElem _⟩
      obtain ⟨b, off, cap2, ia, ic, hv, x0, x1, rk⟩ := (HD.out.below (below_trans HB0.out HB1.out)).at hx
      simp only [Value.slice.injEq] at hv
      obtain ⟨rfl, -, -⟩ := hv
      have HX := Lib.hid hx
      have hdr : c.doms.drop i = x :: c.doms.drop (i + 1) := by
        have h9 := List.getElem?_eq_some_iff.1 hx
        rw [List.drop_eq_getElem_cons h9.1, h9.2]
      have htk : c.doms.take (i + 1) = c.doms.take i ++ [x] := by rw [List.take_add_one, hx]; rfl
      have HTL : Hid ((c.doms.take i).length = i) := by show _ = _; rw [List.length_take]; have := HNL.out; omega
      have HDL2 : Hid (A = CF.dl c (c.doms.take i) (x :: c.doms.drop (i + 1)) m) := by show A = _; rw [HDL.out, hdr]
      have HTK := Lib.hid htk
      have HNM := Lib.hid (fun u => rname_any x.name (HC.out.nm x (List.mem_of_getElem? hx)) u)
      obtain ⟨nb, hnb⟩ : ∃ b, D.nm x.name = b := ⟨_, rfl⟩
      rw [hnb] at HNM
      have HNB := Lib.hid hnb
      have HBK := Lib.hid rk
      obtain ⟨BN, hBN⟩ : ∃ BN, x.kids.length = BN := ⟨_, rfl⟩
      rw [hBN] at HBK x1
      obtain ⟨xn, hxn⟩ : ∃ xn, x.name = xn := ⟨_, rfl⟩
      have HXN := Lib.hid hxn
      rw [hxn] at x0 HNM
      clear hx hdr htk hnb rk hBN HDL hxn
      cases nb with
      | false =>
        have E : K = false := by rw [HKA.out, HDL2.out, dl_bad (.inl HNB.out)]; rfl
        subst E
        go_wp2_with (go_at_call 40; refine (HNM.out _).mono ?_; rintro e w1 ⟨rfl, rfl⟩)
        go_ret
        exact ⟨rfl, below_trans HB0.out HB1.out⟩
      | true =>
        go_wp2_with (go_at_call 40; refine (HNM.out _).mono ?_; rintro e w1 ⟨rfl, hw1⟩; replace hw1 := hw1.symm; subst hw1)
        have HX0 := Lib.hid x0
        have HX1 := Lib.hid x1
        clear g0 g1 x0 x1 HNM
        obtain ⟨wo, rfl⟩ : ∃ wo, wo = wr := ⟨wr, rfl⟩
        go_loopg [5] i (fun g2 s5 wx => ∃ (j : Nat), j + g2 = i ∧ s5 = .int .i64 (j : Int) ∧ Hid (Below wo.heap.size wo wx) ∧ Hid ((c.doms.take j).any (fun y => decide (y.name = x.name)) = false))
        case atStart => exact ⟨0, by omega, rfl, Lib.hid (Below.refl _ _), Lib.hid (by simp)⟩
        case round =>
          obtain ⟨j, hj, rfl, HB3, HANY⟩ := hrel
          have B4 := below_trans HB0.out (below_trans HB1.out HB3.out)
          have HB4 := Lib.hid (below_trans HB1.out HB3.out)
          have g0 : wr.cell? ⟨w.heap.size, 0, none⟩ = some (.slice (some ⟨b, off, none⟩) N ca) := (HS.out.below HB4.out).cell 0
          have g1 : wr.cell? ⟨w.heap.size, 1, none⟩ = some (.slice bo L cb) := (HS.out.below HB4.out).cell 1
          have x0 := (HB3.out.cell (cell_lt HX0.out)).trans HX0.out
          have x1 := (HB3.out.cell (cell_lt HX1.out)).trans HX1.out
          cases gk with
          | succ g2 =>
            have hji : (j : Int) < (i : Int) := by omega
            have hjN : (j : Int) < (N : Int) := by omega
            have hj0 : (0 : Int) ≤ (j : Int) := by omega
            obtain ⟨y, hy⟩ : ∃ x, c.doms[j]? = some x := ⟨c.doms[j]'(by have := HNL.out; omega), List.getElem?_eq_getElem _⟩
            obtain ⟨b', off', cap3, ja, jc, hv, y0, -, -⟩ := (HD.out.below B4).at hy
            simp only [Value.slice.injEq, Option.some.injEq, Addr.mk.injEq, and_true] at hv
            obtain ⟨⟨rfl, rfl⟩, -, -⟩ := hv
            have HY := Lib.hid hy
            obtain ⟨yn, hyn⟩ : ∃ yn, y.name = yn := ⟨_, rfl⟩
            have HYN := Lib.hid hyn
            rw [hyn] at y0
            clear hy hyn B4
            by_cases hxy : yn = xn
            · have E : K = false := by
                rw [HKA.out, HDL2.out, dl_bad (.inr (List.any_eq_true.2 ⟨y, List.mem_of_getElem? (i := j) (by rw [List.getElem?_take, if_pos (by omega)]; exact HY.out), by simp [HYN.out, HXN.out, hxy]⟩))]; rfl
              subst E hxy
              go_wp2
              go_quiet (fail)
              go_wp2
              go_ret
              exact ⟨rfl, below_trans HB0.out (below_trans HB4.out (below_drewN _ _))⟩
            · have hxb : (yn == xn) = false := by simpa using hxy
              have HA3 : Hid ((c.doms.take (j + 1)).any (fun y => decide (y.name = x.name)) = false) := any_take HANY.out HY.out (by simp [HYN.out, HXN.out, hxy])
              go_wp2
              go_quiet (fail)
              go_wp2
              go_roundg g2
              case rel => exact ⟨j + 1, by omega, by first | rfl | (simp; done), Lib.hid (below_trans HB3.out (below_drewN _ _)), HA3⟩
              case measure => omega
          | zero =>
            obtain rfl : j = i := by omega
            have HW := Lib.hid (kidsFit_all 8 c (.slice (some ⟨b, off, none⟩) N ca) (.slice bo L cb) (.slice ia BN ic) x.kids m 1 (j : Int) (-1) wr.drew (HD.out.below (below_trans B4 (below_drew _))) (HBR.out.below (below_trans B4 (below_drew _))) (HBK.out.below (below_trans HB3.out (below_drew _))) HC.out (by have := HL.out; have := H5.out; omega) (by have := HL.out; omega) rfl)
            obtain ⟨O, hO⟩ : ∃ O, CF.kf c 8 x.kids m (j : Int) (-1) = O := ⟨_, rfl⟩
            have HO := Lib.hid hO
            rw [hO, show ((1 : Nat) : Int) = 1 from rfl] at HW
            have HDL3 : Hid (A = dlk c (c.doms.take (j + 1)) (c.doms.drop (j + 1)) O) := by
              show A = _
              rw [HDL2.out, dl_go HNB.out HANY.out, HTL.out, HO.out, HTK.out]
            clear hO B4
            cases O with
            | none =>
              simp only [wv] at HW
              have E : K = false := by rw [HKA.out, HDL3.out]; rfl
              subst E
              go_wp2
              go_region_with (go_at_call 41; refine HW.out.mono ?_; rintro e w5 ⟨rfl, b5⟩; have HB6 := Lib.hid (below_trans HB4.out (below_trans (below_drew _) b5)); clear b5)
              all_goals
                go_wp2
                go_ret
                exact ⟨rfl, below_trans HB0.out HB6.out⟩
            | some m2 =>
              simp only [wv] at HW
              have hm2 := CF.kf_le 8 x.kids m j (-1) m2 HO.out (by rw [HL.out]; omega)
              have HML : Hid (m2 ≤ L) := by show _ ≤ _; rw [← HL.out]; exact hm2.2
              obtain ⟨Z, hZ⟩ : ∃ Z : Int, (m2 : Int) = Z := ⟨_, rfl⟩
              have hn0 : decide (Z < 0) = false := decide_eq_false (by omega)
              have HZZ := Lib.hid hZ
              rw [hZ] at HW
              clear hm2 hZ
              go_wp2
              go_region_with (go_at_call 41; refine HW.out.mono ?_; rintro e w5 ⟨rfl, b5⟩; have HB6 := Lib.hid (below_trans HB4.out (below_trans (below_drew _) b5)); clear b5)
              all_goals
                go_wp2
                go_roundg g
                case rel => exact ⟨j + 1, m2, by omega, by rw [HZZ.out], by first | rfl | (simp; done), HML.out, HB6, HDL3⟩
                case measure => omega
end Go.Proofs.YtgfhabofhefaaaaGreatDoor
