/- Several texts in one. -/
import Derived.Test.YtmgalfdiiegjjaaDoorSeg35
import Derived.Test.YtmgalfdiiegjjaaDoorLnS
import Derived.Test.YtmgalfdiiegjjaaDoorSeg37
import Derived.Test.YtmgalfdiiegjjaaDoorSeg20
import Derived.Deep.LoopGhost
namespace Go.Proofs.YtmgalfdiiegjjaaDoor
open Go.RowKit

namespace SH
theorem pl_long {l : LX.B} (h0 : l ≠ []) (h1 : l.length ≤ 200) (h2 : LN.bad l = false) (h3 : LN.strip l = some l) : plainb l = rdb l (3, 0, 0, l, false) := by
  unfold plainb rdb
  rw [decide_eq_true ⟨h0, h1⟩, h2, decide_eq_true h3]; rfl
theorem pl_not {l : LX.B} (h : LN.strip l ≠ some l) : plainb l = false := by
  unfold plainb
  rw [decide_eq_false h]; simp
theorem pl_wrong {l : LX.B} (h : LN.bad l = true) : plainb l = false := by
  unfold plainb
  rw [h]; simp
theorem st_yes {l : LX.B} (hb : stB l = true) (hs : stS l = l) : LN.strip l = some l := by
  unfold stB at hb
  unfold stS at hs
  cases h : LN.strip l with
  | none => rw [h] at hb; cases hb
  | some s => rw [h] at hs; exact congrArg some hs
theorem rd_nil : rdb [] (3, 0, 0, [], false) = false := by decide +kernel
theorem pl_nil : plainb [] = false := rfl
theorem key_rd (k : LX.B) : rdb (k ++ [58]) (2, 0, 0, k, false) = keyb k := by
  cases h : keyb k with
  | true =>
    obtain ⟨h1, h2⟩ := key_row.2 h
    unfold rdb
    rw [decide_eq_true h1, decide_eq_true h2]; rfl
  | false =>
    unfold rdb
    by_cases h1 : (LX.row (0, 0, k ++ [58])).1 = 0
    · by_cases h2 : (LX.row (0, 0, k ++ [58])).2 = [(2, 0, 0, k, false)]
      · rw [key_row.1 ⟨h1, h2⟩] at h; cases h
      · rw [decide_eq_false h2]; simp
    · rw [decide_eq_false h1]; rfl
end SH
theorem esb_bad {c : UInt8} {z : Int} (h : (c.toNat : Int) = z) : LN.bad [c] = esb z := by
  have e1 : decide (c.toNat < 32) = decide (z < 32) := decide_eq_decide.2 (by omega)
  have e2 : decide (c.toNat = 127) = decide (z = 127) := decide_eq_decide.2 (by omega)
  unfold LN.bad esb
  simp only [List.any_cons, List.any_nil, Bool.or_false]
  rw [e1, e2]
set_option maxRecDepth 10000 in
set_option maxHeartbeats 16000000 in
theorem isPlain_any (l : List UInt8) (w : World) (hl : l.length ≤ 200) (hm : MaxIs w) :
    Calls Tryd.prog 32 #[.string ⟨l.toArray⟩] w fun e w' => e = .returned (.bool (SH.plainb l)) ∧ Below w.heap.size w w' := by
  have hsz := str_size l
  have HST := Lib.hid (strip_any l (by omega))
  have HRO := Lib.hid (isRead_any l (3, 0, 0, l, false) w (by omega) hm)
  obtain ⟨n, hn⟩ : ∃ n, l.length = n := ⟨_, rfl⟩
  have HL := Lib.hid hn
  obtain ⟨K, HK⟩ : ∃ K, Hid (K = SH.plainb l) := ⟨_, Lib.hid rfl⟩
  rw [← HK.out]
  obtain ⟨RB, hRB⟩ : ∃ RB, rdb l (3, 0, 0, l, false) = RB := ⟨_, rfl⟩
  rw [hRB] at HRO
  have HRB := Lib.hid hRB
  have H2 := Lib.hid hl
  rw [hn] at hsz hl
  clear hn hRB hm
  simp only at HRO
  go_enter Tryd.func32, Tryd.ntmps32
  go_wp2
  go_loopg [8] n (fun g s8 wx => ∃ k : Nat, k + g = n ∧ s8 = .int .i64 (k : Int) ∧ wx = w ∧ Hid (LN.bad (l.take k) = false))
  case atStart => exact ⟨0, by omega, rfl, rfl, Lib.hid (by simp [LN.bad])⟩
  case round =>
    obtain ⟨k, hk, rfl, rfl, HB⟩ := hrel
    cases gk with
    | succ g =>
      have hlt : (k : Int) < (n : Int) := by omega
      obtain ⟨c, hc⟩ : ∃ c, l[k]? = some c := ⟨l[k]'(by have := HL.out; omega), List.getElem?_eq_getElem _⟩
      have hkl : k < (⟨l.toArray⟩ : ByteArray).size := by omega
      have hub := c.toNat_lt
      obtain ⟨z, hz⟩ : ∃ z : Int, (c.toNat : Int) = z := ⟨_, rfl⟩
      have hi := at_z hc hz hkl
      have HTK : Hid (l.take (k + 1) = l.take k ++ [c]) := by
        show _ = _
        have h1 := List.getElem?_eq_some_iff.1 hc
        rw [List.take_succ_eq_append_getElem h1.1, h1.2]
      have HBL : Hid (LN.bad [c] = true → K = false) := fun hbc => by
        rw [HK.out]
        apply SH.pl_wrong
        rw [← List.take_append_drop (k + 1) l, HTK.out, SH.bad_app, SH.bad_app, hbc]
        simp
      have HBC := Lib.hid (esb_bad hz)
      have HES := Lib.hid (escapes_any z wr)
      clear hc hz hub
      cases hes : esb z with
      | true =>
        have E : K = false := HBL.out (by rw [HBC.out, hes])
        subst E
        rw [hes] at HES
        clear hes
        go_wp2_with (go_at_call 37; refine HES.out.mono ?_; rintro e w1 ⟨rfl, hw1⟩; replace hw1 := hw1.symm; subst hw1)
        go_ret
        exact ⟨rfl, Below.refl _ _⟩
      | false =>
        have E : Hid (LN.bad (l.take (k + 1)) = false) := by
          show _ = _
          rw [HTK.out, SH.bad_app, HB.out, HBC.out, hes]; rfl
        rw [hes] at HES
        clear hes
        go_wp2_with (go_at_call 37; refine HES.out.mono ?_; rintro e w1 ⟨rfl, hw1⟩; replace hw1 := hw1.symm; subst hw1)
        go_roundg g
        case rel => exact ⟨k + 1, by omega, by first | rfl | (simp; done), rfl, E⟩
        case measure => omega
    | zero =>
      obtain rfl : k = n := by omega
      have HBD : Hid (LN.bad l = false) := by
        show _ = _
        have h1 := HB.out
        rwa [List.take_of_length_le (by have := HL.out; omega)] at h1
      obtain ⟨T, hT⟩ : ∃ T, stS l = T := ⟨_, rfl⟩
      obtain ⟨B, hB⟩ : ∃ B, stB l = B := ⟨_, rfl⟩
      rw [hT, hB] at HST
      have HT := Lib.hid hT
      have HBB := Lib.hid hB
      clear hT hB HB hk
      cases B with
      | false =>
        have E : K = false := by
          rw [HK.out]
          apply SH.pl_not
          intro h
          have := HBB.out
          unfold stB at this
          rw [h] at this
          cases this
        subst E
        go_wp2_with (go_at_call 38; refine (HST.out _).mono ?_; rintro e w1 ⟨rfl, hw1⟩; replace hw1 := hw1.symm; subst hw1)
        go_ret
        exact ⟨rfl, Below.refl _ _⟩
      | true =>
        by_cases hTl : T = l
        · subst hTl
          have HSS := Lib.hid (SH.st_yes HBB.out HT.out)
          have E : RB = K := by
            rw [HK.out, ← HRB.out]
            by_cases h0 : T = []
            · subst h0
              rw [SH.rd_nil, SH.pl_nil]
            · exact (SH.pl_long h0 H2.out HBD.out HSS.out).symm
          rw [E] at HRO
          clear E
          go_wp2_with (first
            | (go_at_call 38; refine (HST.out _).mono ?_; rintro e w1 ⟨rfl, hw1⟩; replace hw1 := hw1.symm; subst hw1)
            | (go_at_call 39; refine HRO.out.mono ?_; rintro e w2 ⟨rfl, b2⟩; have B2 := Lib.hid b2; clear b2))
          go_ret
          exact ⟨rfl, B2.out⟩
        · have hTb : (T == l) = false := by simpa using hTl
          have E : K = false := by
            rw [HK.out]
            apply SH.pl_not
            intro h
            apply hTl
            rw [← HT.out]
            unfold stS
            rw [h]; rfl
          subst E
          go_wp2_with (go_at_call 38; refine (HST.out _).mono ?_; rintro e w1 ⟨rfl, hw1⟩; replace hw1 := hw1.symm; subst hw1)
          go_ret
          exact ⟨rfl, Below.refl _ _⟩
end Go.Proofs.YtmgalfdiiegjjaaDoor

/- The walk of show.areKeys. -/
namespace Go.Proofs.YtmgalfdiiegjjaaDoor
open Go.RowKit

theorem nodup_snoc {l : List LX.B} {x : LX.B} (h : l.Nodup) (hx : x ∉ l) : (l ++ [x]).Nodup := by
  rw [List.nodup_append]
  refine ⟨h, by simp, ?_⟩
  intro a ha b hb
  rw [List.mem_singleton.1 hb]
  exact fun e => hx (e ▸ ha)
theorem Below.of_grown {w w' : World} {b base : Nat} (h : w.grownBy w' (some b)) (hb : base ≤ b) (hs : base ≤ w.heap.size) : Below base w w' :=
  (Kb.of_grown h none).below hs (by simp) (by intro g hg; cases hg; exact hb)
set_option maxRecDepth 10000 in
set_option maxHeartbeats 16000000 in
theorem areKeys_any (v : Value) (ks : List LX.B) (w : World) (hr : Rdv w v (sv ks)) (hs : ∀ x ∈ ks, x.length ≤ 15000) (hn : ks.length ≤ 20000) (hm : MaxIs w) :
    Calls Tryd.prog 33 #[v] w fun e w' => e = .returned (.bool (decide ks.Nodup && ks.all SH.keyb)) ∧ Below w.heap.size w w' := by
  have HRD := Lib.hid hr
  obtain ⟨ao, cap, hv⟩ := hr.slice
  subst hv
  rw [sv_len] at HRD ⊢
  obtain ⟨n, hN⟩ : ∃ n, ks.length = n := ⟨_, rfl⟩
  have HL := Lib.hid hN
  rw [hN] at HRD hn ⊢
  have hnm : (n : Int) ≤ 20000 := by omega
  have HSZ := Lib.hid hs
  have HM := Lib.hid hm
  obtain ⟨K, HK⟩ : ∃ K, Hid (K = (decide ks.Nodup && ks.all SH.keyb)) := ⟨_, Lib.hid rfl⟩
  rw [← HK.out]
  have HB0 : Hid (Below w.heap.size w (w.alloc (.map #[] 0))) := Lib.hid (below_alloc _ _)
  have HS0 : Hid (Seen (w.alloc (.map #[] 0)) w.heap.size []) := Lib.hid (Seen.new w)
  clear hN hs hr hm
  go_enter Tryd.func33, Tryd.ntmps33
  have hmm := @run_makeMap Tryd.prog
  go_wp2
  clear hmm
  go_loopg [9] n (fun g s9 wx => ∃ i : Nat, i + g = n ∧ s9 = .int .i64 (i : Int) ∧ Hid (Below w.heap.size w wx) ∧ Hid (Seen wx w.heap.size (ks.take i)) ∧ Hid ((ks.take i).Nodup ∧ ∀ x ∈ ks.take i, SH.keyb x = true))
  case atStart => exact ⟨0, by omega, rfl, HB0, HS0, Lib.hid ⟨by simp, by simp⟩⟩
  case round =>
    clear HB0 HS0
    obtain ⟨i, hi, rfl, HB, HS, HG⟩ := hrel
    cases gk with
    | zero =>
      obtain rfl : i = n := by omega
      have E : K = true := by
        have h := HG.out
        rw [List.take_of_length_le (by have := HL.out; omega)] at h
        rw [HK.out, decide_eq_true h.1, Bool.true_and, List.all_eq_true]
        exact h.2
      subst E
      go_wp2
      go_ret
      exact ⟨rfl, HB.out⟩
    | succ g =>
      have hin : (i : Int) < (n : Int) := by omega
      have hi0 : (0 : Int) ≤ (i : Int) := by omega
      obtain ⟨x, hx⟩ : ∃ x, ks[i]? = some x := ⟨ks[i]'(by have := HL.out; omega), List.getElem?_eq_getElem _⟩
      have hxs : (sv ks)[i]? = some (.string ⟨x.toArray⟩) := by simp [sv, hx]
      obtain ⟨b, off, cc, e1, u1⟩ := (HRD.out.below HB.out).atv hxs
      simp only [Value.slice.injEq] at e1
      obtain ⟨rfl, -, -⟩ := e1
      have HX := Lib.hid hx
      have hxl := HSZ.out x (List.mem_of_getElem? hx)
      have HXL := Lib.hid hxl
      have HTL : Hid ((ks.take i).length ≤ 20000) := by show _ ≤ _; rw [List.length_take]; have := HL.out; omega
      have hsz : ¬ 9223372036854775807 < (⟨x.toArray⟩ : ByteArray).size + 1 := by rw [str_size]; omega
      have HKE := Lib.hid (isRead_any (x ++ [58]) (2, 0, 0, x, false) wr (by simp; omega) (HM.out.below HB.out))
      rw [SH.key_rd, ← str_app] at HKE
      simp only at HKE
      have HTK : Hid (ks.take (i + 1) = ks.take i ++ [x]) := by
        show _ = _
        have h1 := List.getElem?_eq_some_iff.1 hx
        rw [List.take_succ_eq_append_getElem h1.1, h1.2]
      clear hx hxs hxl
      by_cases hmem : x ∈ ks.take i
      · have E : K = false := by
          rw [HK.out, Bool.and_eq_false_iff]
          left
          refine decide_eq_false fun h => ?_
          have h2 : (ks.take (i + 1)).Nodup := List.Nodup.sublist (List.take_sublist _ _) h
          rw [HTK.out, List.nodup_append] at h2
          exact h2.2.2 x hmem x (by simp) rfl
        subst E
        have HD := Lib.hid (decide_eq_true hmem)
        clear hmem
        go_wp2_with (at_lookup; refine wpList_lookup_seen rfl _ _ rfl w.heap.size (ks.take i) (by rfl) HS.out x (by rfl) (by have := HXL.out; omega) true HD.out ?_)
        go_ret
        exact ⟨rfl, HB.out⟩
      · have HD := Lib.hid (decide_eq_false hmem)
        have HNM := Lib.hid hmem
        clear hmem
        cases hk : SH.keyb x with
        | false =>
          have E : K = false := by
            rw [HK.out, Bool.and_eq_false_iff]
            right
            rw [List.all_eq_false]
            exact ⟨x, List.mem_of_getElem? HX.out, by rw [hk]; simp⟩
          subst E
          rw [hk] at HKE
          clear hk
          go_wp2_with (first
            | (at_lookup; refine wpList_lookup_seen rfl _ _ rfl w.heap.size (ks.take i) (by rfl) HS.out x (by rfl) (by have := HXL.out; omega) false HD.out ?_)
            | (go_at_call 39; refine HKE.out.mono ?_; rintro e w1 ⟨rfl, b1⟩; have B1 := Lib.hid (below_trans HB.out b1); clear b1))
          go_ret
          exact ⟨rfl, B1.out⟩
        | true =>
          have E : Hid ((ks.take (i + 1)).Nodup ∧ ∀ y ∈ ks.take (i + 1), SH.keyb y = true) := by
            show _ ∧ _
            rw [HTK.out]
            refine ⟨nodup_snoc HG.out.1 HNM.out, fun y hy => ?_⟩
            rcases List.mem_append.1 hy with hy | hy
            · exact HG.out.2 y hy
            · rw [List.mem_singleton.1 hy]; exact hk
          rw [hk] at HKE
          clear hk
          go_wp2_with (first
            | (at_lookup; refine wpList_lookup_seen rfl _ _ rfl w.heap.size (ks.take i) (by rfl) HS.out x (by rfl) (by have := HXL.out; omega) false HD.out ?_)
            | (go_at_call 39; refine HKE.out.mono ?_; rintro e w1 ⟨rfl, b1⟩; have B1 := Lib.hid (below_trans HB.out b1); have S1 := Lib.hid (HS.out.below b1); clear b1)
            | (at_mapUpdate; refine wpList_store_seen rfl _ _ _ rfl w.heap.size (ks.take i) (by rfl) S1.out x (by rfl) (by have := HXL.out; omega) HTL.out (by rfl) ?_; intro w2 s2 g2; have B2 := Lib.hid (B1.out.trans (Below.of_grown g2 (Nat.le_refl _) B1.out.size)); have S2 := Lib.hid s2; clear s2 g2))
          go_roundg g
          case rel => exact ⟨i + 1, by omega, by first | rfl | (simp; done), B2, by show Seen _ _ _; rw [HTK.out]; exact S2.out, E⟩
          case measure => omega
end Go.Proofs.YtmgalfdiiegjjaaDoor
