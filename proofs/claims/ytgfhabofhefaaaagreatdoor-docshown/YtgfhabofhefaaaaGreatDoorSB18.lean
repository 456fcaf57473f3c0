/- A part of the proof. -/
import Derived.Test.YtgfhabofhefaaaaGreatDoorSB03
import Derived.Test.YtgfhabofhefaaaaGreatDoorSB16
import Derived.Test.YtgfhabofhefaaaaGreatDoorSB17
import Derived.Deep.LoopGhost
namespace Go.Proofs.YtgfhabofhefaaaaGreatDoor
open Go.RowKit
namespace SH
open LX (B Pc Lz)
theorem row_one {l : B} {p : Pc} (hr : (LX.row (0, 0, l)).1 = 0) (hp : (LX.row (0, 0, l)).2 = [p]) (h3 : p.1 = 3) (ht : p.2.2.2.1 = l) (hq : p.2.2.2.2 = false) : p = (3, 0, 0, l, false) := by
  unfold LX.row at hr hp
  simp only at hr hp
  rw [if_neg (by omega)] at hr hp
  have hd : LX.dash (LX.tl l) = false := by
    cases hd : LX.dash (LX.tl l) with
    | false => rfl
    | true =>
      have hl := LX.dash_len hd
      obtain ⟨n, hn⟩ : ∃ n, (LX.tl l).length = n + 1 := ⟨(LX.tl l).length - 1, by omega⟩
      rw [hn, LX.go_dash hd] at hr hp
      obtain ⟨L, hL⟩ := go_pre hr
      rw [hp] at hL
      simp only [List.nil_append, List.cons_append, List.cons.injEq] at hL
      rw [hL.1] at h3
      exact absurd h3 (by simp)
  rw [LX.go_mid hd] at hr hp
  unfold LX.mid at hr hp
  by_cases hk : LX.key (LX.tl l) = 0
  · rw [if_pos hk] at hr hp
    unfold LX.fin at hr hp
    by_cases hne : LX.tl l = []
    · rw [if_pos hne] at hp
      simp at hp
    · rw [if_neg hne] at hr hp
      by_cases hx : (LX.txt (LX.tl l)).1 = 0
      · rw [if_pos hx] at hp
        simp only [List.nil_append, List.cons.injEq, and_true] at hp
        subst hp
        simp only at ht hq
        have htx : LX.txt (LX.tl l) = (0, l, false) := Prod.ext hx (Prod.ext ht hq)
        have h1 := txt_plain htx
        rw [← h1] at htx ⊢
        rw [htx]
        simp
      · rw [if_neg hx] at hr
        exact absurd hr hx
  · rw [if_neg hk] at hr hp
    by_cases h64 : 64 < LX.key (LX.tl l)
    · rw [if_pos h64] at hr
      cases hr
    · rw [if_neg h64] at hr hp
      obtain ⟨L, hL⟩ := fin_pre hr
      rw [hp] at hL
      simp only [List.nil_append, List.cons_append, List.cons.injEq] at hL
      rw [hL.1] at h3
      exact absurd h3 (by simp)
theorem pl_strip {l : B} (h : LN.strip l ≠ some l) : plainb l = false := by
  unfold plainb
  rw [decide_eq_false h]; simp
theorem pl_row {l : B} (h : (LX.row (0, 0, l)).1 ≠ 0) : plainb l = false := by
  unfold plainb
  rw [decide_eq_false h]; simp
theorem pl_two {l : B} (h : (LX.row (0, 0, l)).2 ≠ [(3, 0, 0, l, false)]) : plainb l = false := by
  unfold plainb
  rw [decide_eq_false h]; simp
theorem pl_bad {l : B} (h : LN.bad l = true) : plainb l = false := by
  unfold plainb
  rw [h]; simp
theorem pl_yes {l : B} (h0 : l ≠ []) (h1 : l.length ≤ 200) (h2 : LN.bad l = false) (h3 : LN.strip l = some l) (h4 : (LX.row (0, 0, l)).1 = 0) (h5 : (LX.row (0, 0, l)).2 = [(3, 0, 0, l, false)]) : plainb l = true := by
  unfold plainb
  rw [decide_eq_true ⟨h0, h1⟩, h2, decide_eq_true h3, decide_eq_true h4, decide_eq_true h5]; rfl
theorem st_some {l : B} (hb : stB l = true) (hs : stS l = l) : LN.strip l = some l := by
  unfold stB at hb
  unfold stS at hs
  cases h : LN.strip l with
  | none => rw [h] at hb; cases hb
  | some s => rw [h] at hs; exact congrArg some hs
end SH
set_option maxRecDepth 10000 in
set_option maxHeartbeats 16000000 in
theorem rplain_any (l : List UInt8) (w : World) (hl : l.length ≤ 200) :
    Calls Tryz.prog 108 #[.string ⟨l.toArray⟩] w fun e w' => e = .returned (.bool (SH.plainb l)) ∧ Below w.heap.size w w' := by
  by_cases h0 : l = []
  · subst h0
    rw [show SH.plainb [] = false from rfl]
    clear hl
    go_enter Tryz.func108, Tryz.ntmps108
    go_wp2
    go_ret
    exact ⟨rfl, Below.refl _ _⟩
  have hb0 : (l == []) = false := by simpa using h0
  have hsz := str_size l
  have HST := Lib.hid (rstrip_any l (by omega))
  obtain ⟨R, hR⟩ : ∃ R, (LX.row (0, 0, l)).1 = R := ⟨_, rfl⟩
  obtain ⟨P, hP⟩ : ∃ P, (LX.row (0, 0, l)).2 = P := ⟨_, rfl⟩
  have HRO := Lib.hid (fun (u : World) => show Calls Tryz.prog 61 #[.agg #[.int .i64 0, .int .i64 0, .string ⟨l.toArray⟩]] u (fun e w' => ∃ a c, e = .returned (.tuple #[.slice a P.length c, .agg #[.int .i64 R, .int .i64 0]]) ∧ Rdp w' (.slice a P.length c) P ∧ Below u.heap.size u w') from by
    refine (rrow_any (0, 0, l) u (by show l.length ≤ _; omega)).mono ?_
    rintro e w' ⟨hb, v, rfl, ho⟩
    rw [hP] at ho
    obtain ⟨a, c, rfl⟩ := ho.slice
    refine ⟨a, c, ?_, ho.rd, hb⟩
    rw [hR]
    simp)
  have HR := Lib.hid hR
  have HP := Lib.hid hP
  obtain ⟨n, hn⟩ : ∃ n, l.length = n := ⟨_, rfl⟩
  have HL := Lib.hid hn
  have H0 := Lib.hid h0
  obtain ⟨K, HK⟩ : ∃ K, Hid (K = SH.plainb l) := ⟨_, Lib.hid rfl⟩
  rw [← HK.out]
  have H2 := Lib.hid hl
  rw [hn] at hsz hl
  have h2 : ¬ (200 : Int) < (n : Int) := by omega
  clear hn h0 hR hP
  go_enter Tryz.func108, Tryz.ntmps108
  go_wp2
  go_loopg [3] n (fun g s3 wx => ∃ k : Nat, k + g = n ∧ s3 = .int .i64 (k : Int) ∧ wx = w ∧ Hid (LN.bad (l.take k) = false))
  case atStart => exact ⟨0, by omega, rfl, rfl, Lib.hid (by simp [LN.bad])⟩
  case round =>
    obtain ⟨k, hk, rfl, rfl, HB⟩ := hrel
    cases gk with
    | succ g =>
      have hlt : (k : Int) < (n : Int) := by omega
      have hnle : ¬ (n : Int) ≤ (k : Int) := by omega
      have hnl2 : decide (n ≤ k) = false := decide_eq_false (by omega)
      obtain ⟨c, hc⟩ : ∃ c, l[k]? = some c := ⟨l[k]'(by have := HL.out; omega), List.getElem?_eq_getElem _⟩
      have hkl : k < (⟨l.toArray⟩ : ByteArray).size := by omega
      have hub := c.toNat_lt
      obtain ⟨z, hz⟩ : ∃ z : Int, (c.toNat : Int) = z := ⟨_, rfl⟩
      have hi := at_z hc hz hkl
      have hz0 : 0 ≤ z := by omega
      have hz1 : z < 256 := by omega
      have HTK : Hid (l.take (k + 1) = l.take k ++ [c]) := by
        show _ = _
        have h1 := List.getElem?_eq_some_iff.1 hc
        rw [List.take_succ_eq_append_getElem h1.1, h1.2]
      have HBL : Hid (LN.bad [c] = true → K = false) := fun hbc => by
        rw [HK.out]
        apply SH.pl_bad
        rw [← List.take_append_drop (k + 1) l, HTK.out, SH.bad_app, SH.bad_app, hbc]
        simp
      have hbc : LN.bad [c] = (decide (z < 32) || decide (z = 127)) := by
        have e1 : decide (c.toNat < 32) = decide (z < 32) := decide_eq_decide.2 (by omega)
        have e2 : decide (c.toNat = 127) = decide (z = 127) := decide_eq_decide.2 (by omega)
        unfold LN.bad
        simp only [List.any_cons, List.any_nil, Bool.or_false]
        rw [e1, e2]
      have HBC := Lib.hid hbc
      clear hc hz hub hbc
      by_cases h32 : z < 32
      · have E : K = false := HBL.out (by rw [HBC.out, decide_eq_true h32]; rfl)
        subst E
        go_wp2
        go_ret
        exact ⟨rfl, Below.refl _ _⟩
      · by_cases h127 : z = 127
        · have E : K = false := HBL.out (by rw [HBC.out, decide_eq_true h127]; simp)
          subst E h127
          go_wp2
          go_ret
          exact ⟨rfl, Below.refl _ _⟩
        · have h127b : (z == 127) = false := by simpa using h127
          have E : Hid (LN.bad (l.take (k + 1)) = false) := by
            show _ = _
            rw [HTK.out, SH.bad_app, HB.out, HBC.out, decide_eq_false h32, decide_eq_false h127]; rfl
          go_wp2
          go_roundg g
          case rel => exact ⟨k + 1, by omega, by first | rfl | (simp; done), rfl, E⟩
          case measure => omega
    | zero =>
      obtain rfl : k = n := by omega
      have HBD : Hid (LN.bad l = false) := by
        show _ = _
        have h1 := HB.out
        rwa [List.take_of_length_le (by have := HL.out; omega)] at h1
      obtain ⟨T, hT⟩ : ∃ T, stS l = T := ⟨_, rfl⟩
      obtain ⟨B, hB⟩ : ∃ B, stB l = B := ⟨_, rfl⟩
      rw [hT, hB] at HST
      have HT := Lib.hid hT
      have HBB := Lib.hid hB
      clear hT hB HB hk
      go_upto_region 10 with (first
        | (go_at_call 60; refine (HST.out _).mono ?_; rintro e w1 ⟨rfl, hw1⟩; replace hw1 := hw1.symm; subst hw1)
        | (go_at_call 61; refine (HRO.out _).mono ?_; rintro e w2 ⟨a, c, rfl, hrd, hb2⟩))
      have BX := below_alloc w2 (.cells #[.int .i64 R, .int .i64 0] 39)
      have HBE := Lib.hid (below_trans hb2 BX)
      have r0 := (Str.new w2 39 #[.int .i64 R, .int .i64 0]).cell 0
      have HRD := Lib.hid (hrd.below BX)
      obtain ⟨q, hq⟩ : ∃ q, w2.heap.size = q := ⟨_, rfl⟩
      rw [hq] at r0 ⊢
      simp only [List.getElem?_toArray, List.getElem?_cons_zero] at r0
      clear BX hb2 hrd
      generalize w2.alloc (.cells #[.int .i64 R, .int .i64 0] 39) = W at *
      clear hq
      obtain ⟨N, hN⟩ : ∃ N, P.length = N := ⟨_, rfl⟩
      have HN := Lib.hid hN
      rw [hN] at HRD ⊢
      clear hN
      cases B with
      | false =>
        have E : K = false := by
          rw [HK.out]
          apply SH.pl_strip
          intro h
          have := HBB.out
          unfold stB at this
          rw [h] at this
          cases this
        subst E
        go_wp2
        go_ret
        exact ⟨rfl, HBE.out⟩
      | true =>
        by_cases hTl : T = l
        · subst hTl
          have HSS := Lib.hid (SH.st_some HBB.out HT.out)
          by_cases hR : R = 0
          · subst hR
            by_cases h1 : N = 1
            · subst h1
              obtain ⟨p, hp⟩ : ∃ p, P = [p] := List.length_eq_one_iff.1 HN.out
              subst hp
              obtain ⟨ao, cc, hv, _, _, _, h4⟩ := HRD.out
              obtain ⟨b, off, rfl, c5⟩ := h4 0 p rfl
              simp only [Value.slice.injEq] at hv
              obtain ⟨rfl, -, -⟩ := hv
              obtain ⟨d0, d1, d2, d3, d4⟩ := c5
              obtain ⟨pk, pn, pc, pt, pq⟩ := p
              simp only [Nat.zero_mul, Nat.add_zero] at d0 d3 d4
              clear h4 d1 d2
              by_cases h3 : pk = 3
              · subst h3
                by_cases ht : pt = T
                · subst ht
                  cases pq with
                  | false =>
                    have E : K = true := by
                      rw [HK.out]
                      have h5 := SH.row_one HR.out HP.out rfl rfl rfl
                      exact SH.pl_yes H0.out H2.out HBD.out HSS.out HR.out (by rw [HP.out, h5])
                    subst E
                    go_wp2
                    go_ret
                    exact ⟨rfl, HBE.out⟩
                  | true =>
                    have E : K = false := by
                      rw [HK.out]
                      apply SH.pl_two
                      rw [HP.out]; simp
                    subst E
                    go_wp2
                    go_ret
                    exact ⟨rfl, HBE.out⟩
                · have htb : (pt == T) = false := by simpa using ht
                  have E : K = false := by
                    rw [HK.out]
                    apply SH.pl_two
                    rw [HP.out]; simp [ht]
                  subst E
                  go_wp2
                  go_ret
                  exact ⟨rfl, HBE.out⟩
              · have h3b : (pk == 3) = false := by simpa using h3
                have E : K = false := by
                  rw [HK.out]
                  apply SH.pl_two
                  rw [HP.out]; simp [h3]
                subst E
                go_wp2
                go_ret
                exact ⟨rfl, HBE.out⟩
            · have h1b : (N == 1) = false := by simpa using h1
              have h1c : ((N : Int) == 1) = false := by simp; omega
              have h1d : ¬ (N : Int) = 1 := by omega
              have E : K = false := by
                rw [HK.out]
                apply SH.pl_two
                intro h
                rw [HP.out] at h
                have := HN.out
                rw [h] at this
                exact h1 this.symm
              subst E
              go_wp2
              go_ret
              exact ⟨rfl, HBE.out⟩
          · have hRb : (R == 0) = false := by simpa using hR
            have E : K = false := by
              rw [HK.out]
              apply SH.pl_row
              rw [HR.out]; exact hR
            subst E
            go_wp2
            go_ret
            exact ⟨rfl, HBE.out⟩
        · have hTb : (T == l) = false := by simpa using hTl
          have E : K = false := by
            rw [HK.out]
            apply SH.pl_strip
            intro h
            apply hTl
            rw [← HT.out]
            unfold stS
            rw [h]; rfl
          subst E
          go_wp2
          go_ret
          exact ⟨rfl, HBE.out⟩
end Go.Proofs.YtgfhabofhefaaaaGreatDoor
