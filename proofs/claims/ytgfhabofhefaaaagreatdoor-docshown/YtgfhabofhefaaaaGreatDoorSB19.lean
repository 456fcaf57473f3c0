/- A part of the proof. -/
import Derived.Test.YtgfhabofhefaaaaGreatDoorSB13
import Derived.Test.YtgfhabofhefaaaaGreatDoorSB18
import Derived.Test.YtgfhabofhefaaaaGreatDoorSB11
import Derived.BigQuiet
import Derived.Deep.LoopGhost
import Derived.Test.YtgfhabofhefaaaaGreatDoorSB10
namespace Go.Proofs.YtgfhabofhefaaaaGreatDoor
open Go.RowKit
theorem nodup_add {l : List LX.B} {x : LX.B} (h : l.Nodup) (hx : x ∉ l) : (l ++ [x]).Nodup := by
  rw [List.nodup_append]
  refine ⟨h, by simp, ?_⟩
  intro a ha b hb
  rw [List.mem_singleton.1 hb]
  exact fun e => hx (e ▸ ha)
theorem nodup_no {l : List LX.B} {x : LX.B} {i j : Nat} (h : l.Nodup) (hj : j < i) (h1 : l[j]? = some x) (h2 : l[i]? = some x) : False := by
  have e1 := List.getElem?_eq_some_iff.1 h1
  have e2 := List.getElem?_eq_some_iff.1 h2
  exact List.pairwise_iff_getElem.1 h j i e1.1 e2.1 hj (e1.2.trans e2.2.symm)
set_option maxRecDepth 10000 in
set_option maxHeartbeats 16000000 in
theorem rkeys_any (v : Value) (ks : List LX.B) (w : World) (hr : Rdv w v (sv ks)) (hs : ∀ x ∈ ks, x.length ≤ 9223372036854775807) :
    Calls Tryz.prog 109 #[v] w fun e w' => e = .returned (.bool (decide ks.Nodup && ks.all SH.keyb)) ∧ Below w.heap.size w w' := by
  have HRD := Lib.hid hr
  have hlm := hr.len_le
  rw [sv_len] at hlm
  unfold maxLen at hlm
  obtain ⟨ao, cap, hv⟩ := hr.slice
  subst hv
  rw [sv_len] at HRD ⊢
  obtain ⟨n, hn⟩ : ∃ n, ks.length = n := ⟨_, rfl⟩
  have HL := Lib.hid hn
  rw [hn] at HRD hlm ⊢
  have hnm : (n : Int) ≤ 9223372036854775807 := by omega
  have HSZ := Lib.hid hs
  obtain ⟨K, HK⟩ : ∃ K, Hid (K = (decide ks.Nodup && ks.all SH.keyb)) := ⟨_, Lib.hid rfl⟩
  rw [← HK.out]
  have HB0 : Hid (Below w.heap.size w w) := Lib.hid (Below.refl _ _)
  clear hn hs hr hlm
  go_enter Tryz.func109, Tryz.ntmps109
  go_wp2
  go_loopg [3, 4] n (fun g s3 _ wx => ∃ i : Nat, i + g = n ∧ s3 = .int .i64 (i : Int) ∧ Hid (Below w.heap.size w wx) ∧ Hid ((ks.take i).Nodup ∧ ∀ x ∈ ks.take i, SH.keyb x = true))
  case atStart => exact ⟨0, by omega, rfl, HB0, Lib.hid ⟨by simp, by simp⟩⟩
  case round =>
    clear HB0
    obtain ⟨i, hi, rfl, HB, HG⟩ := hrel
    cases gk with
    | zero =>
      obtain rfl : i = n := by omega
      have E : K = true := by
        have h := HG.out
        rw [List.take_of_length_le (by have := HL.out; omega)] at h
        rw [HK.out, decide_eq_true h.1, Bool.true_and, List.all_eq_true]
        exact h.2
      subst E
      go_wp2
      go_ret
      exact ⟨rfl, HB.out⟩
    | succ g =>
      have hin : (i : Int) < (n : Int) := by omega
      have hi0 : (0 : Int) ≤ (i : Int) := by omega
      obtain ⟨x, hx⟩ : ∃ x, ks[i]? = some x := ⟨ks[i]'(by have := HL.out; omega), List.getElem?_eq_getElem _⟩
      have hxs : (sv ks)[i]? = some (.string ⟨x.toArray⟩) := by simp [sv, hx]
      obtain ⟨b, off, cc, e1, u1⟩ := (HRD.out.below HB.out).atv hxs
      simp only [Value.slice.injEq] at e1
      obtain ⟨rfl, -, -⟩ := e1
      have HX := Lib.hid hx
      have HKE := Lib.hid (rkey_any x wr (HSZ.out x (List.mem_of_getElem? hx)))
      have HTK : Hid (ks.take (i + 1) = ks.take i ++ [x]) := by
        show _ = _
        have h1 := List.getElem?_eq_some_iff.1 hx
        rw [List.take_succ_eq_append_getElem h1.1, h1.2]
      clear hx hxs
      cases hk : SH.keyb x with
      | false =>
        have E : K = false := by
          rw [HK.out, Bool.and_eq_false_iff]
          right
          rw [List.all_eq_false]
          exact ⟨x, List.mem_of_getElem? HX.out, by rw [hk]; simp⟩
        subst E
        rw [hk] at HKE
        clear hk
        go_wp2_with (go_at_call 139; refine HKE.out.mono ?_; rintro e w1 ⟨rfl, hw1⟩; replace hw1 := hw1.symm; subst hw1)
        go_ret
        exact ⟨rfl, HB.out⟩
      | true =>
        have HKX := Lib.hid hk
        rw [hk] at HKE
        clear hk
        go_wp2_with (go_at_call 139; refine HKE.out.mono ?_; rintro e w1 ⟨rfl, hw1⟩; replace hw1 := hw1.symm; subst hw1)
        clear u1
        go_loopg [4] i (fun g s4 wx => ∃ j : Nat, j + g = i ∧ s4 = .int .i64 (j : Int) ∧ Hid (Below w.heap.size w wx) ∧ Hid (¬ x ∈ ks.take j))
        case atStart => exact ⟨0, by omega, rfl, HB, Lib.hid (by simp)⟩
        case round =>
          clear HB
          obtain ⟨j, hj, rfl, HB, HN⟩ := hrel
          cases gk with
          | zero =>
            obtain rfl : j = i := by omega
            have E : Hid ((ks.take (j + 1)).Nodup ∧ ∀ y ∈ ks.take (j + 1), SH.keyb y = true) := by
              show _ ∧ _
              rw [HTK.out]
              refine ⟨nodup_add HG.out.1 HN.out, fun y hy => ?_⟩
              rcases List.mem_append.1 hy with hy | hy
              · exact HG.out.2 y hy
              · rw [List.mem_singleton.1 hy]; exact HKX.out
            go_wp2
            go_roundg g
            case rel => exact ⟨j + 1, by omega, by first | rfl | (simp; done), HB, E⟩
            case measure => omega
          | succ g2 =>
            have hji : (j : Int) < (i : Int) := by omega
            have hjn : (j : Int) < (n : Int) := by omega
            have hj0 : (0 : Int) ≤ (j : Int) := by omega
            obtain ⟨y, hy⟩ : ∃ y, ks[j]? = some y := ⟨ks[j]'(by have := HL.out; omega), List.getElem?_eq_getElem _⟩
            have hys : (sv ks)[j]? = some (.string ⟨y.toArray⟩) := by simp [sv, hy]
            have hxs : (sv ks)[i]? = some (.string ⟨x.toArray⟩) := by simp [sv, HX.out]
            obtain ⟨b1, o1, c1, e1, u1⟩ := (HRD.out.below HB.out).atv hys
            obtain ⟨b2, o2, c2, e2, u2⟩ := (HRD.out.below HB.out).atv hxs
            simp only [Value.slice.injEq, Option.some.injEq, Addr.mk.injEq, and_true] at e1 e2
            obtain ⟨⟨rfl, rfl⟩, -, -⟩ := e1
            obtain ⟨⟨rfl, rfl⟩, -, -⟩ := e2
            have HTJ : Hid (ks.take (j + 1) = ks.take j ++ [y]) := by
              show _ = _
              have h1 := List.getElem?_eq_some_iff.1 hy
              rw [List.take_succ_eq_append_getElem h1.1, h1.2]
            have HY := Lib.hid hy
            clear hy hys hxs
            by_cases hyx : y = x
            · subst hyx
              have E : K = false := by
                rw [HK.out, Bool.and_eq_false_iff]
                left
                exact decide_eq_false fun h => nodup_no h (by omega) HY.out HX.out
              subst E
              go_wp2
              go_quiet (fail)
              go_wp2
              go_ret
              exact ⟨rfl, below_trans HB.out (below_drewN _ _)⟩
            · have hyb : (y == x) = false := by simpa using hyx
              have E : Hid (¬ x ∈ ks.take (j + 1)) := by
                show ¬ _
                rw [HTJ.out, List.mem_append, List.mem_singleton]
                exact fun h => h.elim HN.out fun h => hyx h.symm
              go_wp2
              go_quiet (fail)
              go_wp2
              go_roundg g2
              case rel => exact ⟨j + 1, by omega, by first | rfl | (simp; done), Lib.hid (below_trans HB.out (below_drewN _ _)), E⟩
              case measure => omega
end Go.Proofs.YtgfhabofhefaaaaGreatDoor
namespace Go.Proofs.YtgfhabofhefaaaaGreatDoor
open Go.RowKit
namespace SH
open DC (Nd)
theorem fits_1 {ln : Int} {tx : LX.B} {q : Bool} {ks : List LX.B} {is : List Int} : fits ⟨1, ln, tx, q, ks, is⟩ = (decide (ks = [] ∧ is = [] ∧ tx.length ≤ 200) && (q || plainb tx)) := by
  unfold fits; simp only; rw [if_pos trivial]
theorem fits_2 {ln : Int} {tx : LX.B} {q : Bool} {ks : List LX.B} {is : List Int} : fits ⟨2, ln, tx, q, ks, is⟩ = decide (ks = [] ∧ is ≠ [] ∧ tx = [] ∧ q = false) := by
  unfold fits; simp only; rw [if_neg (by decide), if_pos trivial]
theorem fits_3 {ln : Int} {tx : LX.B} {q : Bool} {ks : List LX.B} {is : List Int} : fits ⟨3, ln, tx, q, ks, is⟩ = (decide (ks.length = is.length ∧ is ≠ [] ∧ tx = [] ∧ q = false ∧ ks.Nodup) && ks.all keyb) := by
  unfold fits; simp only; rw [if_neg (by decide), if_neg (by decide), if_pos trivial]
theorem fits_0 {kd ln : Int} {tx : LX.B} {q : Bool} {ks : List LX.B} {is : List Int} (h1 : kd ≠ 1) (h2 : kd ≠ 2) (h3 : kd ≠ 3) : fits ⟨kd, ln, tx, q, ks, is⟩ = false := by
  unfold fits; simp only; rw [if_neg h1, if_neg h2, if_neg h3]
end SH
def ints (l : List Int) : List Value := l.map fun n => .int .i64 n
theorem ints_len (l : List Int) : (ints l).length = l.length := by simp [ints]
theorem len_ne {α : Type} {l : List α} {n : Nat} (h : l.length = n) (hn : n ≠ 0) : l ≠ [] := by
  rintro rfl
  exact hn h.symm
theorem len_nil {α : Type} {l : List α} (h : l.length = 0) : l = [] := List.length_eq_zero_iff.1 h
set_option maxRecDepth 10000 in
set_option maxHeartbeats 16000000 in
theorem rfits_any (kd ln : Int) (tx : LX.B) (q : Bool) (ks : List LX.B) (is : List Int) (va vi : Value) (w : World) (hk : Rdv w va (sv ks)) (hi : Rdv w vi (ints is)) (ht : tx.length ≤ 9223372036854775807) (hs : ∀ x ∈ ks, x.length ≤ 9223372036854775807) :
    Calls Tryz.prog 79 #[.agg #[.int .i64 kd, .int .i64 ln, .string ⟨tx.toArray⟩, .bool q, va, vi]] w fun e w' => e = .returned (.bool (SH.fits ⟨kd, ln, tx, q, ks, is⟩)) ∧ Below w.heap.size w w' := by
  obtain ⟨ka, kc, hva⟩ := hk.slice
  obtain ⟨ia, ic, hvi⟩ := hi.slice
  subst hva hvi
  have hkm := hk.len_le
  have him := hi.len_le
  unfold maxLen at hkm him
  rw [sv_len] at hkm hk ⊢
  rw [ints_len] at him hi ⊢
  have BX := fun (o : Obj) => below_alloc w o
  have HKY := Lib.hid (fun (u : World) (hb : Below w.heap.size w u) => rkeys_any _ ks u (hk.below hb) hs)
  obtain ⟨kn, hkn⟩ : ∃ n, ks.length = n := ⟨_, rfl⟩
  obtain ⟨ki, hki⟩ : ∃ n, is.length = n := ⟨_, rfl⟩
  obtain ⟨tn, htn⟩ : ∃ n, tx.length = n := ⟨_, rfl⟩
  have hsz := str_size tx
  rw [htn] at hsz ht
  rw [hkn] at hkm HKY ⊢
  rw [hki] at him ⊢
  have hkm' : (kn : Int) ≤ 9223372036854775807 := by omega
  have him' : (ki : Int) ≤ 9223372036854775807 := by omega
  have htm' : (tn : Int) ≤ 9223372036854775807 := by omega
  have HB := Lib.hid (BX (.cells #[.int .i64 kd, .int .i64 ln, .string ⟨tx.toArray⟩, .bool q, .slice ka kn kc, .slice ia ki ic] 48))
  clear BX hk hi hs hkm him
  by_cases h1 : kd = 1
  · subst h1
    by_cases hK : kn = 0
    · subst hK
      have hk0 := len_nil hkn
      by_cases hI : ki = 0
      · subst hI
        have hi0 := len_nil hki
        by_cases hT : tn ≤ 200
        · have hTi : (tn : Int) ≤ 200 := by omega
          cases q with
          | true =>
            have E : SH.fits ⟨1, ln, tx, true, ks, is⟩ = true := by rw [SH.fits_1, decide_eq_true ⟨hk0, hi0, by omega⟩]; rfl
            rw [E]
            clear E
            go_enter Tryz.func79, Tryz.ntmps79
            go_wp2
            go_ret
            exact ⟨rfl, HB.out⟩
          | false =>
            have E : SH.fits ⟨1, ln, tx, false, ks, is⟩ = SH.plainb tx := by rw [SH.fits_1, decide_eq_true ⟨hk0, hi0, by omega⟩]; rfl
            rw [E]
            clear E
            go_enter Tryz.func79, Tryz.ntmps79
            go_wp2_with (go_at_call 108; refine (rplain_any tx _ (by omega)).mono ?_; rintro e w2 ⟨rfl, b2⟩)
            go_ret
            exact ⟨rfl, below_trans HB.out b2⟩
        · have hTi : ¬ (tn : Int) ≤ 200 := by omega
          have E : SH.fits ⟨1, ln, tx, q, ks, is⟩ = false := by rw [SH.fits_1, decide_eq_false (fun h => hT (by rw [← htn]; exact h.2.2))]; rfl
          rw [E]
          clear E
          go_enter Tryz.func79, Tryz.ntmps79
          go_wp2
          go_ret
          exact ⟨rfl, HB.out⟩
      · have z2 : ((ki : Int) == 0) = false := by simpa using (show ¬ (ki : Int) = 0 by omega)
        have z3 : (ki == 0) = false := by simpa using hI
        have z4 : ¬ (ki : Int) = 0 := by omega
        have E : SH.fits ⟨1, ln, tx, q, ks, is⟩ = false := by rw [SH.fits_1, decide_eq_false (fun h => len_ne hki hI h.2.1)]; rfl
        rw [E]
        clear E
        go_enter Tryz.func79, Tryz.ntmps79
        go_wp2
        go_ret
        exact ⟨rfl, HB.out⟩
    · have z2 : ((kn : Int) == 0) = false := by simpa using (show ¬ (kn : Int) = 0 by omega)
      have z3 : (kn == 0) = false := by simpa using hK
      have z4 : ¬ (kn : Int) = 0 := by omega
      have E : SH.fits ⟨1, ln, tx, q, ks, is⟩ = false := by rw [SH.fits_1, decide_eq_false (fun h => len_ne hkn hK h.1)]; rfl
      rw [E]
      clear E
      go_enter Tryz.func79, Tryz.ntmps79
      go_wp2
      go_ret
      exact ⟨rfl, HB.out⟩
  have k1 : (kd == 1) = false := by simpa using h1
  by_cases h2 : kd = 2
  · subst h2
    clear k1
    by_cases hK : kn = 0
    · subst hK
      have hk0 := len_nil hkn
      by_cases hI : ki = 0
      · subst hI
        have E : SH.fits ⟨2, ln, tx, q, ks, is⟩ = false := by rw [SH.fits_2, decide_eq_false (fun h => h.2.1 (len_nil hki))]
        rw [E]
        clear E
        go_enter Tryz.func79, Tryz.ntmps79
        go_wp2
        go_ret
        exact ⟨rfl, HB.out⟩
      · have z5 : (0 : Int) < (ki : Int) := by omega
        have z6 : 0 < ki := by omega
        by_cases hT : tx = []
        · subst hT
          cases q with
          | true =>
            have E : SH.fits ⟨2, ln, [], true, ks, is⟩ = false := by rw [SH.fits_2, decide_eq_false (fun h => by cases h.2.2.2)]
            rw [E]
            clear E
            go_enter Tryz.func79, Tryz.ntmps79
            go_wp2
            go_ret
            exact ⟨rfl, HB.out⟩
          | false =>
            have E : SH.fits ⟨2, ln, [], false, ks, is⟩ = true := by rw [SH.fits_2, decide_eq_true ⟨hk0, len_ne hki hI, rfl, rfl⟩]
            rw [E]
            clear E
            go_enter Tryz.func79, Tryz.ntmps79
            go_wp2
            go_ret
            exact ⟨rfl, HB.out⟩
        · have zt : (tx == []) = false := by simpa using hT
          have E : SH.fits ⟨2, ln, tx, q, ks, is⟩ = false := by rw [SH.fits_2, decide_eq_false (fun h => hT h.2.2.1)]
          rw [E]
          clear E
          go_enter Tryz.func79, Tryz.ntmps79
          go_wp2
          go_ret
          exact ⟨rfl, HB.out⟩
    · have z2 : ((kn : Int) == 0) = false := by simpa using (show ¬ (kn : Int) = 0 by omega)
      have z3 : (kn == 0) = false := by simpa using hK
      have z4 : ¬ (kn : Int) = 0 := by omega
      have E : SH.fits ⟨2, ln, tx, q, ks, is⟩ = false := by rw [SH.fits_2, decide_eq_false (fun h => len_ne hkn hK h.1)]
      rw [E]
      clear E
      go_enter Tryz.func79, Tryz.ntmps79
      go_wp2
      go_ret
      exact ⟨rfl, HB.out⟩
  have k2 : (kd == 2) = false := by simpa using h2
  by_cases h3 : kd = 3
  · subst h3
    clear k1 k2
    by_cases hK : kn = ki
    · subst hK
      by_cases hI : kn = 0
      · subst hI
        have E : SH.fits ⟨3, ln, tx, q, ks, is⟩ = false := by rw [SH.fits_3, decide_eq_false (fun h => h.2.1 (len_nil hki))]; rfl
        rw [E]
        clear E
        go_enter Tryz.func79, Tryz.ntmps79
        go_wp2
        go_ret
        exact ⟨rfl, HB.out⟩
      · have z5 : (0 : Int) < (kn : Int) := by omega
        have z6 : 0 < kn := by omega
        by_cases hT : tx = []
        · subst hT
          cases q with
          | true =>
            have E : SH.fits ⟨3, ln, [], true, ks, is⟩ = false := by rw [SH.fits_3, decide_eq_false (fun h => by cases h.2.2.2.1)]; rfl
            rw [E]
            clear E
            go_enter Tryz.func79, Tryz.ntmps79
            go_wp2
            go_ret
            exact ⟨rfl, HB.out⟩
          | false =>
            have E : SH.fits ⟨3, ln, [], false, ks, is⟩ = (decide ks.Nodup && ks.all SH.keyb) := by
              rw [SH.fits_3]
              congr 1
              exact decide_eq_decide.2 ⟨fun h => h.2.2.2.2, fun h => ⟨by omega, len_ne hki hI, rfl, rfl, h⟩⟩
            rw [E]
            clear E
            go_enter Tryz.func79, Tryz.ntmps79
            go_wp2_with (go_at_call 109; refine (HKY.out _ HB.out).mono ?_; rintro e w2 ⟨rfl, b2⟩)
            go_ret
            exact ⟨rfl, below_trans HB.out b2⟩
        · have zt : (tx == []) = false := by simpa using hT
          have E : SH.fits ⟨3, ln, tx, q, ks, is⟩ = false := by rw [SH.fits_3, decide_eq_false (fun h => hT h.2.2.1)]; rfl
          rw [E]
          clear E
          go_enter Tryz.func79, Tryz.ntmps79
          go_wp2
          go_ret
          exact ⟨rfl, HB.out⟩
    · have z2 : ((kn : Int) == (ki : Int)) = false := by simpa using (show ¬ (kn : Int) = (ki : Int) by omega)
      have z3 : (kn == ki) = false := by simpa using hK
      have z4 : ¬ (kn : Int) = (ki : Int) := by omega
      have E : SH.fits ⟨3, ln, tx, q, ks, is⟩ = false := by rw [SH.fits_3, decide_eq_false (fun h => hK (by have := h.1; omega))]; rfl
      rw [E]
      clear E
      go_enter Tryz.func79, Tryz.ntmps79
      go_wp2
      go_ret
      exact ⟨rfl, HB.out⟩
  have k3 : (kd == 3) = false := by simpa using h3
  have E : SH.fits ⟨kd, ln, tx, q, ks, is⟩ = false := SH.fits_0 h1 h2 h3
  rw [E]
  clear E
  go_enter Tryz.func79, Tryz.ntmps79
  go_wp2
  go_ret
  exact ⟨rfl, HB.out⟩
end Go.Proofs.YtgfhabofhefaaaaGreatDoor
namespace Go.Proofs.YtgfhabofhefaaaaGreatDoor
open Go.RowKit
abbrev Niv := SH.Ni × Value × Value
structure At6i (w : World) (b o : Nat) (x : Niv) : Prop where
  c0 : w.cell? ⟨b, o, none⟩ = some (.int .i64 x.1.kind)
  c1 : w.cell? ⟨b, o + 1, none⟩ = some (.int .i64 x.1.line)
  c2 : w.cell? ⟨b, o + 2, none⟩ = some (.string ⟨x.1.text.toArray⟩)
  c3 : w.cell? ⟨b, o + 3, none⟩ = some (.bool x.1.quoted)
  c4 : w.cell? ⟨b, o + 4, none⟩ = some x.2.1
  c5 : w.cell? ⟨b, o + 5, none⟩ = some x.2.2
theorem At6i.below {w w' : World} {b o : Nat} {x : Niv} (h : At6i w b o x) (hb : Below w.heap.size w w') : At6i w' b o x :=
  ⟨(hb.cell (cell_lt h.c0)).trans h.c0, (hb.cell (cell_lt h.c1)).trans h.c1, (hb.cell (cell_lt h.c2)).trans h.c2, (hb.cell (cell_lt h.c3)).trans h.c3, (hb.cell (cell_lt h.c4)).trans h.c4, (hb.cell (cell_lt h.c5)).trans h.c5⟩
structure Rdi (w : World) (v : Value) (ns : List SH.Ni) : Prop where
  row : ∃ (vs : List Niv) (ao : Option Addr) (cap : Nat), vs.map (·.1) = ns ∧ v = .slice ao ns.length cap ∧ ns.length ≤ cap ∧ cap ≤ maxLen ∧ (ao = none → cap = 0) ∧ (∀ j x, vs[j]? = some x → ∃ b off, ao = some ⟨b, off, none⟩ ∧ At6i w b (off + j * 6) x) ∧ ∀ a ∈ vs, Rdv w a.2.1 (sv a.1.keys) ∧ Rdv w a.2.2 (ints a.1.kids)
theorem Rdi.below {w w' : World} {v : Value} {ns : List SH.Ni} (h : Rdi w v ns) (hb : Below w.heap.size w w') : Rdi w' v ns := by
  obtain ⟨vs, ao, cap, h1, h2, h3, h4, h5, h6, h7⟩ := h.row
  refine ⟨vs, ao, cap, h1, h2, h3, h4, h5, fun j x hx => ?_, fun a ha => ⟨(h7 a ha).1.below hb, (h7 a ha).2.below hb⟩⟩
  obtain ⟨b, off, e, c⟩ := h6 j x hx
  exact ⟨b, off, e, c.below hb⟩
theorem Rdi.slice {w : World} {v : Value} {ns : List SH.Ni} (h : Rdi w v ns) : ∃ ao cap, v = .slice ao ns.length cap ∧ ns.length ≤ maxLen := by
  obtain ⟨vs, ao, cap, h1, h2, h3, h4, _⟩ := h.row
  exact ⟨ao, cap, h2, by omega⟩
theorem Rdi.at {w : World} {v : Value} {ns : List SH.Ni} (h : Rdi w v ns) {j : Nat} {x : SH.Ni} (hx : ns[j]? = some x) :
    ∃ b off cap ka kc ia ic, v = .slice (some ⟨b, off, none⟩) ns.length cap ∧ At6i w b (off + j * 6) (x, .slice ka x.keys.length kc, .slice ia x.kids.length ic) ∧ Rdv w (.slice ka x.keys.length kc) (sv x.keys) ∧ Rdv w (.slice ia x.kids.length ic) (ints x.kids) := by
  obtain ⟨vs, ao, cap, h1, h2, h3, h4, h5, h6, h7⟩ := h.row
  rw [← h1, List.getElem?_map] at hx
  obtain ⟨y, hy, rfl⟩ := Option.map_eq_some_iff.1 hx
  obtain ⟨b, off, rfl, c⟩ := h6 j y hy
  obtain ⟨k1, k2⟩ := h7 y (List.mem_of_getElem? hy)
  obtain ⟨x, va, vi⟩ := y
  obtain ⟨ka, kc, e1⟩ := k1.slice
  obtain ⟨ia, ic, e2⟩ := k2.slice
  simp only at e1 e2 k1 k2
  rw [sv_len] at e1
  rw [ints_len] at e2
  subst e1 e2
  exact ⟨b, off, cap, ka, kc, ia, ic, h2, c, k1, k2⟩
def Lens (ns : List SH.Ni) : Prop := ∀ x ∈ ns, x.text.length ≤ 9223372036854775807 ∧ ∀ k ∈ x.keys, k.length ≤ 9223372036854775807
def wv (o : Option Nat) : Int := match o with
  | none => -1
  | some m => m
theorem at_le {ns : List SH.Ni} {n : Nat} {l : List DC.Nd} (h : SH.At ns n l) (hl : l ≠ []) : n + l.length ≤ ns.length := by
  have hp := List.length_pos_iff.2 hl
  have h1 := h (l.length - 1) _ (List.getElem?_eq_getElem (by omega))
  obtain ⟨y, hy, _⟩ := Option.map_eq_some_iff.1 h1
  have := (List.getElem?_eq_some_iff.1 hy).1
  omega
theorem wk_le {ns : List SH.Ni} {f n d m : Nat} (h : SH.wk ns f n d = some m) : m ≤ ns.length := by
  obtain ⟨t, _, _, _, h4, h5⟩ := SH.wk_tree ns f _ _ _ h
  have h6 := at_le h5 (by cases t <;> simp [SH.flatT])
  rw [SH.flatT_len] at h6
  omega
def WkC (f : Nat) : Prop := ∀ (v : Value) (ns : List SH.Ni) (n d : Nat) (w : World), Rdi w v ns → Lens ns → f + d = 26 → n ≤ ns.length →
  Calls Tryz.prog 46 #[.agg #[v], .int .i64 (n : Int), .int .i64 (d : Int)] w fun e w' => e = .returned (.int .i64 (wv (SH.wk ns f n d))) ∧ Below w.heap.size w w'
set_option maxRecDepth 10000 in
set_option maxHeartbeats 16000000 in
theorem rwalk_all : ∀ f, WkC f := by
  intro f
  induction f with
  | zero =>
    intro v ns n d w hr hl hf hn
    obtain rfl : d = 26 := by omega
    obtain ⟨ao, cap, rfl, hm⟩ := hr.slice
    unfold maxLen at hm
    have HB := Lib.hid (below_alloc w (.cells #[.slice ao ns.length cap] 26))
    have s0 := (Str.new w 26 #[.slice ao ns.length cap]).cell 0
    rw [show wv (SH.wk ns 0 n 26) = -1 from rfl]
    obtain ⟨L, hL⟩ : ∃ L, ns.length = L := ⟨_, rfl⟩
    rw [hL] at hm hn HB s0 ⊢
    by_cases hnl : n < L
    · have h1 : ¬ (L : Int) ≤ (n : Int) := by omega
      clear hr hl hf hL hn
      go_enter Tryz.func46, Tryz.ntmps46
      go_wp2
      go_ret
      exact ⟨rfl, HB.out⟩
    · have h1 : (L : Int) ≤ (n : Int) := by omega
      clear hr hl hf hL hn
      go_enter Tryz.func46, Tryz.ntmps46
      go_wp2
      go_ret
      exact ⟨rfl, HB.out⟩
  | succ f ih =>
    intro v ns n d w hr hl hf hn
    have B1 := below_alloc w (.cells #[v] 26)
    have HB := Lib.hid B1
    have HS := Lib.hid (Str.new w 26 #[v])
    have HR := Lib.hid (hr.below B1)
    have HLN := Lib.hid hl
    have HIH := Lib.hid ih
    have HF := Lib.hid hf
    obtain ⟨A, HA⟩ : ∃ A, Hid (A = SH.wk ns (f + 1) n d) := ⟨_, Lib.hid rfl⟩
    rw [← HA.out]
    obtain ⟨RV, HRV⟩ : ∃ RV : Int, Hid (RV = wv A) := ⟨_, Lib.hid rfl⟩
    rw [← HRV.out]
    obtain ⟨ao, cap, hv, hm⟩ := hr.slice
    subst hv
    unfold maxLen at hm
    obtain ⟨L, hL⟩ : ∃ L, ns.length = L := ⟨_, rfl⟩
    have HL := Lib.hid hL
    rw [hL] at hm hn HB HS HR ⊢
    have s0 : (w.alloc (.cells #[.slice ao L cap] 26)).cell? ⟨w.heap.size, 0, none⟩ = some (.slice ao L cap) := HS.out.cell 0
    have hn9 : (n : Int) ≤ 9223372036854775807 := by omega
    clear B1 hr hl ih hL
    by_cases hnl : n < L
    · have h1 : ¬ (L : Int) ≤ (n : Int) := by omega
      have h1b : (n : Int) < (L : Int) := by omega
      have h10 : (0 : Int) ≤ (n : Int) := by omega
      have hn8 : (n : Int) + 1 ≤ 9223372036854775807 := by omega
      obtain ⟨x, hx⟩ : ∃ x, ns[n]? = some x := ⟨ns[n]'(by have := HL.out; omega), List.getElem?_eq_getElem _⟩
      by_cases hd : d ≤ 24
      · have h2 : ¬ (24 : Int) < (d : Int) := by omega
        obtain ⟨b, off, cap2, ka, kc, ia, ic, hv2, c6, k1, k2⟩ := HR.out.at hx
        simp only [Value.slice.injEq] at hv2
        obtain ⟨rfl, -, -⟩ := hv2
        have hlx := HLN.out x (List.mem_of_getElem? hx)
        have HX := Lib.hid hx
        obtain ⟨kd, ln, tx, q, ks, is⟩ := x
        simp only at c6 k1 k2 hlx
        have HFI := Lib.hid (rfits_any kd ln tx q ks is _ _ _ k1 k2 hlx.1 hlx.2)
        have HC6 := Lib.hid c6
        have HK2 := Lib.hid k2
        obtain ⟨FB, hFB⟩ : ∃ FB, SH.fits ⟨kd, ln, tx, q, ks, is⟩ = FB := ⟨_, rfl⟩
        rw [hFB] at HFI
        have HFB := Lib.hid hFB
        obtain ⟨d0, d1, d2, d3, d4, d5⟩ := c6
        simp only at d0 d1 d2 d3 d4 d5
        have him : is.length ≤ 9223372036854775807 := by have := k2.len_le; rw [ints_len] at this; unfold maxLen at this; omega
        clear k1 k2 hlx hx hFB hnl hd
        cases FB with
        | false =>
          have E : RV = -1 := by
            rw [HRV.out]
            rw [HA.out, SH.wk, HX.out]
            simp only
            rw [if_neg (fun h => by rw [HFB.out] at h; cases h.2)]
            rfl
          subst E
          go_enter Tryz.func46, Tryz.ntmps46
          go_wp2_with (go_at_call 79; refine HFI.out.mono ?_; rintro e w1 ⟨rfl, b1⟩)
          go_ret
          exact ⟨rfl, below_trans HB.out b1⟩
        | true =>
          have HFO : Hid (A = is.foldlM (SH.step ns f d) (n + 1)) := by
            show A = _
            rw [HA.out, SH.wk, HX.out]
            simp only
            rw [if_pos ⟨by omega, HFB.out⟩]
          obtain ⟨kn, hkn⟩ : ∃ kn, is.length = kn := ⟨_, rfl⟩
          have HKN := Lib.hid hkn
          rw [hkn] at him d5 HC6 HK2 HFI
          go_enter Tryz.func46, Tryz.ntmps46
          go_upto_region 3 with (go_at_call 79; refine HFI.out.mono ?_; rintro e w1 ⟨rfl, b1⟩)
          have HB1 := Lib.hid b1
          clear b1 d0 d1 d2 d3 d4 d5 s0 HFI
          generalize w.alloc (.cells #[.slice (some ⟨b, off, none⟩) L cap] 26) = W at *
          go_wp2
          go_loopg [7, 8] kn (fun g s7 s8 wx => ∃ (i m : Nat), i + g = kn ∧ s7 = .int .i64 (m : Int) ∧ s8 = .int .i64 (i : Int) ∧ m ≤ L ∧ Hid (Below W.heap.size W wx) ∧ Hid (A = (is.drop i).foldlM (SH.step ns f d) m))
          case atStart => exact ⟨0, n + 1, by omega, rfl, rfl, by omega, HB1, by rw [List.drop_zero]; exact HFO⟩
          case round =>
            clear HB1 HFO
            obtain ⟨i, m, hi, rfl, rfl, hmL, HB1, HFO⟩ := hrel
            have e0 : wr.cell? ⟨w.heap.size, 0, none⟩ = some (.slice (some ⟨b, off, none⟩) L cap) := (HS.out.below HB1.out).cell 0
            have e5 : wr.cell? ⟨b, off + n * 6 + 5, none⟩ = some (.slice ia kn ic) := (HC6.out.below HB1.out).c5
            cases gk with
            | zero =>
              obtain rfl : i = kn := by omega
              have E : RV = (m : Int) := by
                rw [HRV.out]
                rw [HFO.out, List.drop_eq_nil_of_le (by have := HKN.out; omega)]; rfl
              subst E
              go_wp2
              go_ret
              exact ⟨rfl, below_trans HB.out HB1.out⟩
            | succ g =>
              have hik : (i : Int) < (kn : Int) := by omega
              have hi0 : (0 : Int) ≤ (i : Int) := by omega
              obtain ⟨k, hk⟩ : ∃ k, is[i]? = some k := ⟨is[i]'(by have := HKN.out; omega), List.getElem?_eq_getElem _⟩
              have hki : (ints is)[i]? = some (.int .i64 k) := by simp [ints, hk]
              obtain ⟨b3, o3, c3, e3, u3⟩ := (HK2.out.below HB1.out).atv hki
              simp only [Value.slice.injEq] at e3
              obtain ⟨rfl, -, -⟩ := e3
              have hdr : is.drop i = k :: is.drop (i + 1) := by
                have h9 := List.getElem?_eq_some_iff.1 hk
                rw [List.drop_eq_getElem_cons h9.1, h9.2]
              have HF2 : Hid (A = (SH.step ns f d m k).bind fun m2 => (is.drop (i + 1)).foldlM (SH.step ns f d) m2) := by
                show A = _
                rw [HFO.out, hdr, List.foldlM_cons]; rfl
              clear hk hki hdr HFO
              by_cases hkm : k = (m : Int)
              · subst hkm
                obtain ⟨O, hO⟩ : ∃ O, SH.wk ns f m (d + 1) = O := ⟨_, rfl⟩
                have HO := Lib.hid hO
                have HW := Lib.hid (HIH.out _ ns m (d + 1) wr (HR.out.below HB1.out) HLN.out (by have := HF.out; omega) (by have := HL.out; omega))
                rw [hO] at HW
                have hdi : ((d + 1 : Nat) : Int) = (d : Int) + 1 := rfl
                rw [hdi] at HW
                have hdm : (d : Int) + 1 ≤ 9223372036854775807 := by have := HF.out; omega
                clear hO hdi
                cases O with
                | none =>
                  simp only [wv] at HW
                  have E : RV = -1 := by
                    rw [HRV.out]
                    rw [HF2.out]; unfold SH.step; rw [if_pos rfl, HO.out]; rfl
                  subst E
                  go_wp2_with (go_at_call 46; refine HW.out.mono ?_; rintro e w2 ⟨rfl, b2⟩)
                  go_ret
                  exact ⟨rfl, below_trans HB.out (below_trans HB1.out b2)⟩
                | some m2 =>
                  simp only [wv] at HW
                  have hm2 := wk_le HO.out
                  have HML := Lib.hid hm2
                  have E : Hid (A = (is.drop (i + 1)).foldlM (SH.step ns f d) m2) := by
                    show A = _
                    rw [HF2.out]; unfold SH.step; rw [if_pos rfl, HO.out]; rfl
                  obtain ⟨Z, hZ⟩ : ∃ Z : Int, (m2 : Int) = Z := ⟨_, rfl⟩
                  have hn0 : decide (Z < 0) = false := decide_eq_false (by omega)
                  have HZZ := Lib.hid hZ
                  rw [hZ] at HW
                  clear hm2 hZ
                  go_wp2_with (go_at_call 46; refine HW.out.mono ?_; rintro e w2 ⟨rfl, b2⟩; have HB2 := Lib.hid (below_trans HB1.out b2); clear b2)
                  go_roundg g
                  case rel => exact ⟨i + 1, m2, by omega, by rw [HZZ.out], by first | rfl | (simp; done), by have := HML.out; have := HL.out; omega, HB2, E⟩
                  case measure => omega
              · have hkb : (k != (m : Int)) = true := by simpa using hkm
                have E : RV = -1 := by
                  rw [HRV.out]
                  rw [HF2.out]; unfold SH.step; rw [if_neg hkm]; rfl
                subst E
                go_wp2
                go_ret
                exact ⟨rfl, below_trans HB.out HB1.out⟩
      · have h2 : (24 : Int) < (d : Int) := by omega
        have E : RV = -1 := by
          rw [HRV.out]
          rw [HA.out, SH.wk, hx]
          simp only
          rw [if_neg (fun h => hd h.1)]
          rfl
        subst E
        clear hx
        go_enter Tryz.func46, Tryz.ntmps46
        go_wp2
        go_ret
        exact ⟨rfl, HB.out⟩
    · have h1 : (L : Int) ≤ (n : Int) := by omega
      have E : RV = -1 := by
        rw [HRV.out]
        rw [HA.out, SH.wk, List.getElem?_eq_none (by have := HL.out; omega)]
        rfl
      subst E
      go_enter Tryz.func46, Tryz.ntmps46
      go_wp2
      go_ret
      exact ⟨rfl, HB.out⟩
end Go.Proofs.YtgfhabofhefaaaaGreatDoor
namespace Go.Proofs.YtgfhabofhefaaaaGreatDoor
open Go.RowKit
@[go_sem] theorem run_store_float (P : Program) (w : World) (a : Addr) (m : Mode) (k : FloatKind) (x : Nat) : (store a (.float k x) m).run P w = stored P w a (.float k x) m := run_store P w a _ m rfl
def RdF (w : World) (k : Nat) (v : Value) (es : List (List Value)) : Prop :=
  ∃ ao cap, v = .slice ao es.length cap ∧ es.length ≤ cap ∧ cap ≤ maxLen ∧ (ao = none → cap = 0) ∧ ∀ j x, es[j]? = some x → ∃ b off, ao = some ⟨b, off, none⟩ ∧ ∀ i u, x[i]? = some u → w.cell? ⟨b, off + j * k + i, none⟩ = some u
theorem RdF.below {w w' : World} {k : Nat} {v : Value} {es : List (List Value)} (h : RdF w k v es) (hb : Below w.heap.size w w') : RdF w' k v es := by
  obtain ⟨ao, cap, h2, h3, h4, h5, h6⟩ := h
  refine ⟨ao, cap, h2, h3, h4, h5, fun j x hx => ?_⟩
  obtain ⟨b, off, e, c⟩ := h6 j x hx
  exact ⟨b, off, e, fun i u hu => (hb.cell (cell_lt (c i u hu))).trans (c i u hu)⟩
theorem RdF.slice {w : World} {k : Nat} {v : Value} {es : List (List Value)} (h : RdF w k v es) : ∃ ao cap, v = .slice ao es.length cap ∧ es.length ≤ maxLen := by
  obtain ⟨ao, cap, h2, h3, h4, _⟩ := h
  exact ⟨ao, cap, h2, by omega⟩
theorem RdF.nil (w : World) (k : Nat) : RdF w k (.slice none 0 0) [] := ⟨none, 0, rfl, by simp, by simp [maxLen], fun _ => rfl, by simp⟩
def doL (d : CF.Do) (kv : Value) : List Value := [.string ⟨d.name.toArray⟩, kv]
def brL (b : CF.Br) (kv : Value) : List Value := (brA b kv).toList
def RdD (w : World) (v : Value) (ds : List CF.Do) : Prop := ∃ vs : List (CF.Do × Value), vs.map (·.1) = ds ∧ RdF w 2 v (vs.map fun a => doL a.1 a.2) ∧ ∀ a ∈ vs, Rdv w a.2 (ints a.1.kids)
def RdB (w : World) (v : Value) (bs : List CF.Br) : Prop := ∃ vs : List (CF.Br × Value), vs.map (·.1) = bs ∧ RdF w 13 v (vs.map fun a => brL a.1 a.2) ∧ ∀ a ∈ vs, Rdv w a.2 (ints a.1.kids)
theorem RdD.below {w w' : World} {v : Value} {ds : List CF.Do} (h : RdD w v ds) (hb : Below w.heap.size w w') : RdD w' v ds := by
  obtain ⟨vs, h1, h2, h3⟩ := h
  exact ⟨vs, h1, h2.below hb, fun a ha => (h3 a ha).below hb⟩
theorem RdB.below {w w' : World} {v : Value} {bs : List CF.Br} (h : RdB w v bs) (hb : Below w.heap.size w w') : RdB w' v bs := by
  obtain ⟨vs, h1, h2, h3⟩ := h
  exact ⟨vs, h1, h2.below hb, fun a ha => (h3 a ha).below hb⟩
theorem RdD.slice {w : World} {v : Value} {ds : List CF.Do} (h : RdD w v ds) : ∃ ao cap, v = .slice ao ds.length cap ∧ ds.length ≤ maxLen := by
  obtain ⟨vs, h1, h2, -⟩ := h
  obtain ⟨ao, cap, e, hl⟩ := h2.slice
  rw [List.length_map] at e hl
  rw [← h1, List.length_map]
  exact ⟨ao, cap, e, hl⟩
theorem RdB.slice {w : World} {v : Value} {bs : List CF.Br} (h : RdB w v bs) : ∃ ao cap, v = .slice ao bs.length cap ∧ bs.length ≤ maxLen := by
  obtain ⟨vs, h1, h2, -⟩ := h
  obtain ⟨ao, cap, e, hl⟩ := h2.slice
  rw [List.length_map] at e hl
  rw [← h1, List.length_map]
  exact ⟨ao, cap, e, hl⟩
structure At13 (w : World) (b o : Nat) (x : CF.Br) (kv : Value) : Prop where
  c0 : w.cell? ⟨b, o, none⟩ = some (.string ⟨x.key.toArray⟩)
  c1 : w.cell? ⟨b, o + 1, none⟩ = some (.string ⟨x.val.toArray⟩)
  c2 : w.cell? ⟨b, o + 2, none⟩ = some (.bool x.any)
  c3 : w.cell? ⟨b, o + 3, none⟩ = some (.int .i64 x.dom)
  c4 : w.cell? ⟨b, o + 4, none⟩ = some (.int .i64 x.up)
  c5 : w.cell? ⟨b, o + 5, none⟩ = some (.bool x.has)
  c6 : w.cell? ⟨b, o + 6, none⟩ = some (.string ⟨x.rule.name.toArray⟩)
  c7 : w.cell? ⟨b, o + 7, none⟩ = some (.int .i64 x.rule.unit)
  c8 : w.cell? ⟨b, o + 8, none⟩ = some (.int .i64 x.rule.limit)
  c9 : w.cell? ⟨b, o + 9, none⟩ = some (.float .f64 x.rule.near)
  c10 : w.cell? ⟨b, o + 10, none⟩ = some (.bool x.rule.shadow)
  c11 : w.cell? ⟨b, o + 11, none⟩ = some (.bool x.rule.unl)
  c12 : w.cell? ⟨b, o + 12, none⟩ = some kv
theorem RdB.at {w : World} {v : Value} {bs : List CF.Br} (h : RdB w v bs) {j : Nat} {x : CF.Br} (hx : bs[j]? = some x) :
    ∃ b off cap ia ic, v = .slice (some ⟨b, off, none⟩) bs.length cap ∧ At13 w b (off + j * 13) x (.slice ia x.kids.length ic) ∧ Rdv w (.slice ia x.kids.length ic) (ints x.kids) := by
  obtain ⟨vs, h1, ⟨ao, cap, h2, h3, h4, h5, h6⟩, h7⟩ := h
  rw [← h1, List.getElem?_map] at hx
  obtain ⟨y, hy, rfl⟩ := Option.map_eq_some_iff.1 hx
  obtain ⟨b, off, rfl, c⟩ := h6 j (brL y.1 y.2) (by rw [List.getElem?_map, hy]; rfl)
  have k2 := h7 y (List.mem_of_getElem? hy)
  obtain ⟨x, vi⟩ := y
  obtain ⟨ia, ic, e2⟩ := k2.slice
  simp only at e2 k2
  rw [ints_len] at e2
  subst e2
  refine ⟨b, off, cap, ia, ic, by rw [h2, ← h1]; simp, ⟨?_, ?_, ?_, ?_, ?_, ?_, ?_, ?_, ?_, ?_, ?_, ?_, ?_⟩, k2⟩
  · exact c 0 _ rfl
  · exact c 1 _ rfl
  · exact c 2 _ rfl
  · exact c 3 _ rfl
  · exact c 4 _ rfl
  · exact c 5 _ rfl
  · exact c 6 _ rfl
  · exact c 7 _ rfl
  · exact c 8 _ rfl
  · exact c 9 _ rfl
  · exact c 10 _ rfl
  · exact c 11 _ rfl
  · exact c 12 _ rfl
theorem RdD.at {w : World} {v : Value} {ds : List CF.Do} (h : RdD w v ds) {j : Nat} {x : CF.Do} (hx : ds[j]? = some x) :
    ∃ b off cap ia ic, v = .slice (some ⟨b, off, none⟩) ds.length cap ∧ w.cell? ⟨b, off + j * 2, none⟩ = some (.string ⟨x.name.toArray⟩) ∧ w.cell? ⟨b, off + j * 2 + 1, none⟩ = some (.slice ia x.kids.length ic) ∧ Rdv w (.slice ia x.kids.length ic) (ints x.kids) := by
  obtain ⟨vs, h1, ⟨ao, cap, h2, h3, h4, h5, h6⟩, h7⟩ := h
  rw [← h1, List.getElem?_map] at hx
  obtain ⟨y, hy, rfl⟩ := Option.map_eq_some_iff.1 hx
  obtain ⟨b, off, rfl, c⟩ := h6 j (doL y.1 y.2) (by rw [List.getElem?_map, hy]; rfl)
  have k2 := h7 y (List.mem_of_getElem? hy)
  obtain ⟨x, vi⟩ := y
  obtain ⟨ia, ic, e2⟩ := k2.slice
  simp only at e2 k2
  rw [ints_len] at e2
  subst e2
  exact ⟨b, off, cap, ia, ic, by rw [h2, ← h1]; simp, c 0 _ rfl, c 1 _ rfl, k2⟩
structure CfOk (c : CF.Cf) : Prop where
  nm : ∀ d ∈ c.doms, d.name.length ≤ maxLen
  br : ∀ b ∈ c.brs, BrOk b
end Go.Proofs.YtgfhabofhefaaaaGreatDoor
