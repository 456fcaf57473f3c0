/- The walk of show.mayBe. -/
import Derived.Test.YtmgalfdiiegjjaaGreatDoorShW4
import Derived.Test.YtmgalfdiiegjjaaGreatDoorSeg26
namespace Go.Proofs.YtmgalfdiiegjjaaGreatDoor
open Go.RowKit

set_option maxRecDepth 10000 in
set_option maxHeartbeats 16000000 in
theorem mayBe_any (kd ln : Int) (tx : LX.B) (q : Bool) (ks : List LX.B) (is : List Int) (va vi : Value) (w : World) (hk : Rdv w va (sv ks)) (hi : Rdv w vi (ints is)) (ht : tx.length ≤ 9223372036854775807) (hs : ∀ x ∈ ks, x.length ≤ 15000) (hc : ks.length ≤ 20000) (hm : MaxIs w) :
    Calls Tryz.prog 68 #[.agg #[.int .i64 kd, .int .i64 ln, .string ⟨tx.toArray⟩, .bool q, va, vi]] w fun e w' => e = .returned (.bool (SH.fits ⟨kd, ln, tx, q, ks, is⟩)) ∧ Below w.heap.size w w' := by
  obtain ⟨ka, kc, hva⟩ := hk.slice
  obtain ⟨ia, ic, hvi⟩ := hi.slice
  subst hva hvi
  have hkm := hk.len_le
  have him := hi.len_le
  unfold maxLen at hkm him
  rw [sv_len] at hkm hk ⊢
  rw [ints_len] at him hi ⊢
  have BX := fun (o : Obj) => below_alloc w o
  have HKY := Lib.hid (fun (u : World) (hb : Below w.heap.size w u) => areKeys_any _ ks u (hk.below hb) hs hc (hm.below hb))
  have HM := Lib.hid hm
  obtain ⟨kn, hkn⟩ : ∃ n, ks.length = n := ⟨_, rfl⟩
  obtain ⟨ki, hki⟩ : ∃ n, is.length = n := ⟨_, rfl⟩
  obtain ⟨tn, htn⟩ : ∃ n, tx.length = n := ⟨_, rfl⟩
  have hsz := str_size tx
  rw [htn] at hsz ht
  rw [hkn] at hkm HKY ⊢
  rw [hki] at him ⊢
  have hkm' : (kn : Int) ≤ 9223372036854775807 := by omega
  have him' : (ki : Int) ≤ 9223372036854775807 := by omega
  have htm' : (tn : Int) ≤ 9223372036854775807 := by omega
  have HB := Lib.hid (BX (.cells #[.int .i64 kd, .int .i64 ln, .string ⟨tx.toArray⟩, .bool q, .slice ka kn kc, .slice ia ki ic] 50))
  clear BX hk hi hs hkm him hm hc
  by_cases h1 : kd = 1
  · subst h1
    by_cases hK : kn = 0
    · subst hK
      have hk0 := len_nil hkn
      by_cases hI : ki = 0
      · subst hI
        have hi0 := len_nil hki
        by_cases hT : tn ≤ 200
        · have hTi : (tn : Int) ≤ 200 := by omega
          cases q with
          | true =>
            have E : SH.fits ⟨1, ln, tx, true, ks, is⟩ = true := by rw [SH.fits_1, decide_eq_true ⟨hk0, hi0, by omega⟩]; rfl
            rw [E]
            clear E
            go_enter Tryz.func68, Tryz.ntmps68
            go_wp2
            go_ret
            exact ⟨rfl, HB.out⟩
          | false =>
            have E : SH.fits ⟨1, ln, tx, false, ks, is⟩ = SH.plainb tx := by rw [SH.fits_1, decide_eq_true ⟨hk0, hi0, by omega⟩]; rfl
            rw [E]
            clear E
            go_enter Tryz.func68, Tryz.ntmps68
            go_wp2_with (go_at_call 102; refine (isPlain_any tx _ (by omega) (HM.out.below HB.out)).mono ?_; rintro e w2 ⟨rfl, b2⟩)
            go_ret
            exact ⟨rfl, below_trans HB.out b2⟩
        · have hTi : ¬ (tn : Int) ≤ 200 := by omega
          have E : SH.fits ⟨1, ln, tx, q, ks, is⟩ = false := by rw [SH.fits_1, decide_eq_false (fun h => hT (by rw [← htn]; exact h.2.2))]; rfl
          rw [E]
          clear E
          go_enter Tryz.func68, Tryz.ntmps68
          go_wp2
          go_ret
          exact ⟨rfl, HB.out⟩
      · have z2 : ((ki : Int) == 0) = false := by simpa using (show ¬ (ki : Int) = 0 by omega)
        have z3 : (ki == 0) = false := by simpa using hI
        have z4 : ¬ (ki : Int) = 0 := by omega
        have E : SH.fits ⟨1, ln, tx, q, ks, is⟩ = false := by rw [SH.fits_1, decide_eq_false (fun h => len_ne hki hI h.2.1)]; rfl
        rw [E]
        clear E
        go_enter Tryz.func68, Tryz.ntmps68
        go_wp2
        go_ret
        exact ⟨rfl, HB.out⟩
    · have z2 : ((kn : Int) == 0) = false := by simpa using (show ¬ (kn : Int) = 0 by omega)
      have z3 : (kn == 0) = false := by simpa using hK
      have z4 : ¬ (kn : Int) = 0 := by omega
      have E : SH.fits ⟨1, ln, tx, q, ks, is⟩ = false := by rw [SH.fits_1, decide_eq_false (fun h => len_ne hkn hK h.1)]; rfl
      rw [E]
      clear E
      go_enter Tryz.func68, Tryz.ntmps68
      go_wp2
      go_ret
      exact ⟨rfl, HB.out⟩
  have k1 : (kd == 1) = false := by simpa using h1
  by_cases h2 : kd = 2
  · subst h2
    clear k1
    by_cases hK : kn = 0
    · subst hK
      have hk0 := len_nil hkn
      by_cases hI : ki = 0
      · subst hI
        have E : SH.fits ⟨2, ln, tx, q, ks, is⟩ = false := by rw [SH.fits_2, decide_eq_false (fun h => h.2.1 (len_nil hki))]
        rw [E]
        clear E
        go_enter Tryz.func68, Tryz.ntmps68
        go_wp2
        go_ret
        exact ⟨rfl, HB.out⟩
      · have z5 : (0 : Int) < (ki : Int) := by omega
        have z6 : 0 < ki := by omega
        by_cases hT : tx = []
        · subst hT
          cases q with
          | true =>
            have E : SH.fits ⟨2, ln, [], true, ks, is⟩ = false := by rw [SH.fits_2, decide_eq_false (fun h => by cases h.2.2.2)]
            rw [E]
            clear E
            go_enter Tryz.func68, Tryz.ntmps68
            go_wp2
            go_ret
            exact ⟨rfl, HB.out⟩
          | false =>
            have E : SH.fits ⟨2, ln, [], false, ks, is⟩ = true := by rw [SH.fits_2, decide_eq_true ⟨hk0, len_ne hki hI, rfl, rfl⟩]
            rw [E]
            clear E
            go_enter Tryz.func68, Tryz.ntmps68
            go_wp2
            go_ret
            exact ⟨rfl, HB.out⟩
        · have zt : (tx == []) = false := by simpa using hT
          have E : SH.fits ⟨2, ln, tx, q, ks, is⟩ = false := by rw [SH.fits_2, decide_eq_false (fun h => hT h.2.2.1)]
          rw [E]
          clear E
          go_enter Tryz.func68, Tryz.ntmps68
          go_wp2
          go_ret
          exact ⟨rfl, HB.out⟩
    · have z2 : ((kn : Int) == 0) = false := by simpa using (show ¬ (kn : Int) = 0 by omega)
      have z3 : (kn == 0) = false := by simpa using hK
      have z4 : ¬ (kn : Int) = 0 := by omega
      have E : SH.fits ⟨2, ln, tx, q, ks, is⟩ = false := by rw [SH.fits_2, decide_eq_false (fun h => len_ne hkn hK h.1)]
      rw [E]
      clear E
      go_enter Tryz.func68, Tryz.ntmps68
      go_wp2
      go_ret
      exact ⟨rfl, HB.out⟩
  have k2 : (kd == 2) = false := by simpa using h2
  by_cases h3 : kd = 3
  · subst h3
    clear k1 k2
    by_cases hK : kn = ki
    · subst hK
      by_cases hI : kn = 0
      · subst hI
        have E : SH.fits ⟨3, ln, tx, q, ks, is⟩ = false := by rw [SH.fits_3, decide_eq_false (fun h => h.2.1 (len_nil hki))]; rfl
        rw [E]
        clear E
        go_enter Tryz.func68, Tryz.ntmps68
        go_wp2
        go_ret
        exact ⟨rfl, HB.out⟩
      · have z5 : (0 : Int) < (kn : Int) := by omega
        have z6 : 0 < kn := by omega
        have HST := Lib.hid (Str.new w 50 #[.int .i64 3, .int .i64 ln, .string ⟨tx.toArray⟩, .bool q, .slice ka kn kc, .slice ia kn ic])
        obtain ⟨KB, hKB⟩ : ∃ KB, (decide ks.Nodup && ks.all SH.keyb) = KB := ⟨_, rfl⟩
        rw [hKB] at HKY
        cases KB with
        | false =>
          have E : SH.fits ⟨3, ln, tx, q, ks, is⟩ = false := by
            rw [SH.fits_3, Bool.and_eq_false_iff]
            by_cases hn : ks.Nodup
            · rw [decide_eq_true hn, Bool.true_and] at hKB
              exact .inr hKB
            · exact .inl (decide_eq_false (fun h => hn h.2.2.2.2))
          clear hKB
          rw [E]
          clear E
          go_enter Tryz.func68, Tryz.ntmps68
          go_wp2_with (go_at_call 103; refine (HKY.out _ HB.out).mono ?_; rintro e w2 ⟨rfl, b2⟩)
          go_ret
          exact ⟨rfl, below_trans HB.out b2⟩
        | true =>
          simp only [Bool.and_eq_true, decide_eq_true_eq] at hKB
          by_cases hT : tx = []
          · subst hT
            cases q with
            | true =>
              have E : SH.fits ⟨3, ln, [], true, ks, is⟩ = false := by rw [SH.fits_3, decide_eq_false (fun h => by cases h.2.2.2.1)]; rfl
              clear hKB
              rw [E]
              clear E
              go_enter Tryz.func68, Tryz.ntmps68
              go_wp2_with (go_at_call 103; refine (HKY.out _ HB.out).mono ?_; rintro e w2 ⟨rfl, b2⟩; have f2 : w2.cell? ⟨w.heap.size, 2, none⟩ = some (.string ⟨([] : List UInt8).toArray⟩) := (HST.out.below b2).cell 2; have f3 : w2.cell? ⟨w.heap.size, 3, none⟩ = some (.bool true) := (HST.out.below b2).cell 3)
              go_ret
              exact ⟨rfl, below_trans HB.out b2⟩
            | false =>
              have E : SH.fits ⟨3, ln, [], false, ks, is⟩ = true := by
                rw [SH.fits_3, Bool.and_eq_true, decide_eq_true_eq]
                exact ⟨⟨by omega, len_ne hki hI, rfl, rfl, hKB.1⟩, hKB.2⟩
              clear hKB
              rw [E]
              clear E
              go_enter Tryz.func68, Tryz.ntmps68
              go_wp2_with (go_at_call 103; refine (HKY.out _ HB.out).mono ?_; rintro e w2 ⟨rfl, b2⟩; have f2 : w2.cell? ⟨w.heap.size, 2, none⟩ = some (.string ⟨([] : List UInt8).toArray⟩) := (HST.out.below b2).cell 2; have f3 : w2.cell? ⟨w.heap.size, 3, none⟩ = some (.bool false) := (HST.out.below b2).cell 3)
              go_ret
              exact ⟨rfl, below_trans HB.out b2⟩
          · have zt : (tx == []) = false := by simpa using hT
            have E : SH.fits ⟨3, ln, tx, q, ks, is⟩ = false := by rw [SH.fits_3, decide_eq_false (fun h => hT h.2.2.1)]; rfl
            clear hKB
            rw [E]
            clear E
            go_enter Tryz.func68, Tryz.ntmps68
            go_wp2_with (go_at_call 103; refine (HKY.out _ HB.out).mono ?_; rintro e w2 ⟨rfl, b2⟩; have f2 : w2.cell? ⟨w.heap.size, 2, none⟩ = some (.string ⟨tx.toArray⟩) := (HST.out.below b2).cell 2; have f3 : w2.cell? ⟨w.heap.size, 3, none⟩ = some (.bool q) := (HST.out.below b2).cell 3)
            go_ret
            exact ⟨rfl, below_trans HB.out b2⟩
    · have z2 : ((kn : Int) == (ki : Int)) = false := by simpa using (show ¬ (kn : Int) = (ki : Int) by omega)
      have z3 : (kn == ki) = false := by simpa using hK
      have z4 : ¬ (kn : Int) = (ki : Int) := by omega
      have E : SH.fits ⟨3, ln, tx, q, ks, is⟩ = false := by rw [SH.fits_3, decide_eq_false (fun h => hK (by have := h.1; omega))]; rfl
      rw [E]
      clear E
      go_enter Tryz.func68, Tryz.ntmps68
      go_wp2
      go_ret
      exact ⟨rfl, HB.out⟩
  have k3 : (kd == 3) = false := by simpa using h3
  have E : SH.fits ⟨kd, ln, tx, q, ks, is⟩ = false := SH.fits_0 h1 h2 h3
  rw [E]
  clear E
  go_enter Tryz.func68, Tryz.ntmps68
  go_wp2
  go_ret
  exact ⟨rfl, HB.out⟩
end Go.Proofs.YtmgalfdiiegjjaaGreatDoor
