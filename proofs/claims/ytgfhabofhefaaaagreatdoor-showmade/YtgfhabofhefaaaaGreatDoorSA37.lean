/- A part of the proof. -/
import Derived.Test.YtgfhabofhefaaaaGreatDoorSA36
import Derived.Test.YtgfhabofhefaaaaGreatDoorSA20
namespace Go.Proofs.YtgfhabofhefaaaaGreatDoor
open Go.RowKit
theorem nodup_snoc {l : List LX.B} {x : LX.B} (h : l.Nodup) (hx : x ∉ l) : (l ++ [x]).Nodup := by
  rw [List.nodup_append]
  refine ⟨h, by simp, ?_⟩
  intro a ha b hb
  rw [List.mem_singleton.1 hb]
  exact fun e => hx (e ▸ ha)
theorem Below.of_grown {w w' : World} {b base : Nat} (h : w.grownBy w' (some b)) (hb : base ≤ b) (hs : base ≤ w.heap.size) : Below base w w' :=
  (Kb.of_grown h none).below hs (by simp) (by intro g hg; cases hg; exact hb)
set_option maxRecDepth 10000 in
set_option maxHeartbeats 16000000 in
theorem areKeys_any (v : Value) (ks : List LX.B) (w : World) (hr : Rdv w v (sv ks)) (hs : ∀ x ∈ ks, x.length ≤ 15000) (hn : ks.length ≤ 20000) (hm : MaxIs w) :
    Calls Tryz.prog 98 #[v] w fun e w' => e = .returned (.bool (decide ks.Nodup && ks.all SH.keyb)) ∧ Below w.heap.size w w' := by
  have HRD := Lib.hid hr
  obtain ⟨ao, cap, hv⟩ := hr.slice
  subst hv
  rw [sv_len] at HRD ⊢
  obtain ⟨n, hN⟩ : ∃ n, ks.length = n := ⟨_, rfl⟩
  have HL := Lib.hid hN
  rw [hN] at HRD hn ⊢
  have hnm : (n : Int) ≤ 20000 := by omega
  have HSZ := Lib.hid hs
  have HM := Lib.hid hm
  obtain ⟨K, HK⟩ : ∃ K, Hid (K = (decide ks.Nodup && ks.all SH.keyb)) := ⟨_, Lib.hid rfl⟩
  rw [← HK.out]
  have HB0 : Hid (Below w.heap.size w (w.alloc (.map #[] 0))) := Lib.hid (below_alloc _ _)
  have HS0 : Hid (Seen (w.alloc (.map #[] 0)) w.heap.size []) := Lib.hid (Seen.new w)
  clear hN hs hr hm
  go_enter Tryz.func98, Tryz.ntmps98
  have hmm := @run_makeMap Tryz.prog
  go_wp2
  clear hmm
  go_loopg [9] n (fun g s9 wx => ∃ i : Nat, i + g = n ∧ s9 = .int .i64 (i : Int) ∧ Hid (Below w.heap.size w wx) ∧ Hid (Seen wx w.heap.size (ks.take i)) ∧ Hid ((ks.take i).Nodup ∧ ∀ x ∈ ks.take i, SH.keyb x = true))
  case atStart => exact ⟨0, by omega, rfl, HB0, HS0, Lib.hid ⟨by simp, by simp⟩⟩
  case round =>
    clear HB0 HS0
    obtain ⟨i, hi, rfl, HB, HS, HG⟩ := hrel
    cases gk with
    | zero =>
      obtain rfl : i = n := by omega
      have E : K = true := by
        have h := HG.out
        rw [List.take_of_length_le (by have := HL.out; omega)] at h
        rw [HK.out, decide_eq_true h.1, Bool.true_and, List.all_eq_true]
        exact h.2
      subst E
      go_wp2
      go_ret
      exact ⟨rfl, HB.out⟩
    | succ g =>
      have hin : (i : Int) < (n : Int) := by omega
      have hi0 : (0 : Int) ≤ (i : Int) := by omega
      obtain ⟨x, hx⟩ : ∃ x, ks[i]? = some x := ⟨ks[i]'(by have := HL.out; omega), List.getElem?_eq_getElem _⟩
      have hxs : (sv ks)[i]? = some (.string ⟨x.toArray⟩) := by simp [sv, hx]
      obtain ⟨b, off, cc, e1, u1⟩ := (HRD.out.below HB.out).atv hxs
      simp only [Value.slice.injEq] at e1
      obtain ⟨rfl, -, -⟩ := e1
      have HX := Lib.hid hx
      have hxl := HSZ.out x (List.mem_of_getElem? hx)
      have HXL := Lib.hid hxl
      have HTL : Hid ((ks.take i).length ≤ 20000) := by show _ ≤ _; rw [List.length_take]; have := HL.out; omega
      have hsz : ¬ 9223372036854775807 < (⟨x.toArray⟩ : ByteArray).size + 1 := by rw [str_size]; omega
      have HKE := Lib.hid (isRead_any (x ++ [58]) (2, 0, 0, x, false) wr (by simp; omega) (HM.out.below HB.out))
      rw [SH.key_rd, ← str_app] at HKE
      simp only at HKE
      have HTK : Hid (ks.take (i + 1) = ks.take i ++ [x]) := by
        show _ = _
        have h1 := List.getElem?_eq_some_iff.1 hx
        rw [List.take_succ_eq_append_getElem h1.1, h1.2]
      clear hx hxs hxl
      by_cases hmem : x ∈ ks.take i
      · have E : K = false := by
          rw [HK.out, Bool.and_eq_false_iff]
          left
          refine decide_eq_false fun h => ?_
          have h2 : (ks.take (i + 1)).Nodup := List.Nodup.sublist (List.take_sublist _ _) h
          rw [HTK.out, List.nodup_append] at h2
          exact h2.2.2 x hmem x (by simp) rfl
        subst E
        have HD := Lib.hid (decide_eq_true hmem)
        clear hmem
        go_wp2_with (at_lookup; refine wpList_lookup_seen rfl _ _ rfl w.heap.size (ks.take i) (by rfl) HS.out x (by rfl) (by have := HXL.out; omega) true HD.out ?_)
        go_ret
        exact ⟨rfl, HB.out⟩
      · have HD := Lib.hid (decide_eq_false hmem)
        have HNM := Lib.hid hmem
        clear hmem
        cases hk : SH.keyb x with
        | false =>
          have E : K = false := by
            rw [HK.out, Bool.and_eq_false_iff]
            right
            rw [List.all_eq_false]
            exact ⟨x, List.mem_of_getElem? HX.out, by rw [hk]; simp⟩
          subst E
          rw [hk] at HKE
          clear hk
          go_wp2_with (first
            | (at_lookup; refine wpList_lookup_seen rfl _ _ rfl w.heap.size (ks.take i) (by rfl) HS.out x (by rfl) (by have := HXL.out; omega) false HD.out ?_)
            | (go_at_call 132; refine HKE.out.mono ?_; rintro e w1 ⟨rfl, b1⟩; have B1 := Lib.hid (below_trans HB.out b1); clear b1))
          go_ret
          exact ⟨rfl, B1.out⟩
        | true =>
          have E : Hid ((ks.take (i + 1)).Nodup ∧ ∀ y ∈ ks.take (i + 1), SH.keyb y = true) := by
            show _ ∧ _
            rw [HTK.out]
            refine ⟨nodup_snoc HG.out.1 HNM.out, fun y hy => ?_⟩
            rcases List.mem_append.1 hy with hy | hy
            · exact HG.out.2 y hy
            · rw [List.mem_singleton.1 hy]; exact hk
          rw [hk] at HKE
          clear hk
          go_wp2_with (first
            | (at_lookup; refine wpList_lookup_seen rfl _ _ rfl w.heap.size (ks.take i) (by rfl) HS.out x (by rfl) (by have := HXL.out; omega) false HD.out ?_)
            | (go_at_call 132; refine HKE.out.mono ?_; rintro e w1 ⟨rfl, b1⟩; have B1 := Lib.hid (below_trans HB.out b1); have S1 := Lib.hid (HS.out.below b1); clear b1)
            | (at_mapUpdate; refine wpList_store_seen rfl _ _ _ rfl w.heap.size (ks.take i) (by rfl) S1.out x (by rfl) (by have := HXL.out; omega) HTL.out (by rfl) ?_; intro w2 s2 g2; have B2 := Lib.hid (B1.out.trans (Below.of_grown g2 (Nat.le_refl _) B1.out.size)); have S2 := Lib.hid s2; clear s2 g2))
          go_roundg g
          case rel => exact ⟨i + 1, by omega, by first | rfl | (simp; done), B2, by show Seen _ _ _; rw [HTK.out]; exact S2.out, E⟩
          case measure => omega
end Go.Proofs.YtgfhabofhefaaaaGreatDoor
namespace Go.Proofs.YtgfhabofhefaaaaGreatDoor
open Go.RowKit
set_option maxRecDepth 10000 in
set_option maxHeartbeats 16000000 in
theorem mayBe_any (kd ln : Int) (tx : LX.B) (q : Bool) (ks : List LX.B) (is : List Int) (va vi : Value) (w : World) (hk : Rdv w va (sv ks)) (hi : Rdv w vi (ints is)) (ht : tx.length ≤ 9223372036854775807) (hs : ∀ x ∈ ks, x.length ≤ 15000) (hc : ks.length ≤ 20000) (hm : MaxIs w) :
    Calls Tryz.prog 64 #[.agg #[.int .i64 kd, .int .i64 ln, .string ⟨tx.toArray⟩, .bool q, va, vi]] w fun e w' => e = .returned (.bool (SH.fits ⟨kd, ln, tx, q, ks, is⟩)) ∧ Below w.heap.size w w' := by
  obtain ⟨ka, kc, hva⟩ := hk.slice
  obtain ⟨ia, ic, hvi⟩ := hi.slice
  subst hva hvi
  have hkm := hk.len_le
  have him := hi.len_le
  unfold maxLen at hkm him
  rw [sv_len] at hkm hk ⊢
  rw [ints_len] at him hi ⊢
  have BX := fun (o : Obj) => below_alloc w o
  have HKY := Lib.hid (fun (u : World) (hb : Below w.heap.size w u) => areKeys_any _ ks u (hk.below hb) hs hc (hm.below hb))
  have HM := Lib.hid hm
  obtain ⟨kn, hkn⟩ : ∃ n, ks.length = n := ⟨_, rfl⟩
  obtain ⟨ki, hki⟩ : ∃ n, is.length = n := ⟨_, rfl⟩
  obtain ⟨tn, htn⟩ : ∃ n, tx.length = n := ⟨_, rfl⟩
  have hsz := str_size tx
  rw [htn] at hsz ht
  rw [hkn] at hkm HKY ⊢
  rw [hki] at him ⊢
  have hkm' : (kn : Int) ≤ 9223372036854775807 := by omega
  have him' : (ki : Int) ≤ 9223372036854775807 := by omega
  have htm' : (tn : Int) ≤ 9223372036854775807 := by omega
  have HB := Lib.hid (BX (.cells #[.int .i64 kd, .int .i64 ln, .string ⟨tx.toArray⟩, .bool q, .slice ka kn kc, .slice ia ki ic] 48))
  clear BX hk hi hs hkm him hm hc
  by_cases h1 : kd = 1
  · subst h1
    by_cases hK : kn = 0
    · subst hK
      have hk0 := len_nil hkn
      by_cases hI : ki = 0
      · subst hI
        have hi0 := len_nil hki
        by_cases hT : tn ≤ 200
        · have hTi : (tn : Int) ≤ 200 := by omega
          cases q with
          | true =>
            have E : SH.fits ⟨1, ln, tx, true, ks, is⟩ = true := by rw [SH.fits_1, decide_eq_true ⟨hk0, hi0, by omega⟩]; rfl
            rw [E]
            clear E
            go_enter Tryz.func64, Tryz.ntmps64
            go_wp2
            go_ret
            exact ⟨rfl, HB.out⟩
          | false =>
            have E : SH.fits ⟨1, ln, tx, false, ks, is⟩ = SH.plainb tx := by rw [SH.fits_1, decide_eq_true ⟨hk0, hi0, by omega⟩]; rfl
            rw [E]
            clear E
            go_enter Tryz.func64, Tryz.ntmps64
            go_wp2_with (go_at_call 97; refine (isPlain_any tx _ (by omega) (HM.out.below HB.out)).mono ?_; rintro e w2 ⟨rfl, b2⟩)
            go_ret
            exact ⟨rfl, below_trans HB.out b2⟩
        · have hTi : ¬ (tn : Int) ≤ 200 := by omega
          have E : SH.fits ⟨1, ln, tx, q, ks, is⟩ = false := by rw [SH.fits_1, decide_eq_false (fun h => hT (by rw [← htn]; exact h.2.2))]; rfl
          rw [E]
          clear E
          go_enter Tryz.func64, Tryz.ntmps64
          go_wp2
          go_ret
          exact ⟨rfl, HB.out⟩
      · have z2 : ((ki : Int) == 0) = false := by simpa using (show ¬ (ki : Int) = 0 by omega)
        have z3 : (ki == 0) = false := by simpa using hI
        have z4 : ¬ (ki : Int) = 0 := by omega
        have E : SH.fits ⟨1, ln, tx, q, ks, is⟩ = false := by rw [SH.fits_1, decide_eq_false (fun h => len_ne hki hI h.2.1)]; rfl
        rw [E]
        clear E
        go_enter Tryz.func64, Tryz.ntmps64
        go_wp2
        go_ret
        exact ⟨rfl, HB.out⟩
    · have z2 : ((kn : Int) == 0) = false := by simpa using (show ¬ (kn : Int) = 0 by omega)
      have z3 : (kn == 0) = false := by simpa using hK
      have z4 : ¬ (kn : Int) = 0 := by omega
      have E : SH.fits ⟨1, ln, tx, q, ks, is⟩ = false := by rw [SH.fits_1, decide_eq_false (fun h => len_ne hkn hK h.1)]; rfl
      rw [E]
      clear E
      go_enter Tryz.func64, Tryz.ntmps64
      go_wp2
      go_ret
      exact ⟨rfl, HB.out⟩
  have k1 : (kd == 1) = false := by simpa using h1
  by_cases h2 : kd = 2
  · subst h2
    clear k1
    by_cases hK : kn = 0
    · subst hK
      have hk0 := len_nil hkn
      by_cases hI : ki = 0
      · subst hI
        have E : SH.fits ⟨2, ln, tx, q, ks, is⟩ = false := by rw [SH.fits_2, decide_eq_false (fun h => h.2.1 (len_nil hki))]
        rw [E]
        clear E
        go_enter Tryz.func64, Tryz.ntmps64
        go_wp2
        go_ret
        exact ⟨rfl, HB.out⟩
      · have z5 : (0 : Int) < (ki : Int) := by omega
        have z6 : 0 < ki := by omega
        by_cases hT : tx = []
        · subst hT
          cases q with
          | true =>
            have E : SH.fits ⟨2, ln, [], true, ks, is⟩ = false := by rw [SH.fits_2, decide_eq_false (fun h => by cases h.2.2.2)]
            rw [E]
            clear E
            go_enter Tryz.func64, Tryz.ntmps64
            go_wp2
            go_ret
            exact ⟨rfl, HB.out⟩
          | false =>
            have E : SH.fits ⟨2, ln, [], false, ks, is⟩ = true := by rw [SH.fits_2, decide_eq_true ⟨hk0, len_ne hki hI, rfl, rfl⟩]
            rw [E]
            clear E
            go_enter Tryz.func64, Tryz.ntmps64
            go_wp2
            go_ret
            exact ⟨rfl, HB.out⟩
        · have zt : (tx == []) = false := by simpa using hT
          have E : SH.fits ⟨2, ln, tx, q, ks, is⟩ = false := by rw [SH.fits_2, decide_eq_false (fun h => hT h.2.2.1)]
          rw [E]
          clear E
          go_enter Tryz.func64, Tryz.ntmps64
          go_wp2
          go_ret
          exact ⟨rfl, HB.out⟩
    · have z2 : ((kn : Int) == 0) = false := by simpa using (show ¬ (kn : Int) = 0 by omega)
      have z3 : (kn == 0) = false := by simpa using hK
      have z4 : ¬ (kn : Int) = 0 := by omega
      have E : SH.fits ⟨2, ln, tx, q, ks, is⟩ = false := by rw [SH.fits_2, decide_eq_false (fun h => len_ne hkn hK h.1)]
      rw [E]
      clear E
      go_enter Tryz.func64, Tryz.ntmps64
      go_wp2
      go_ret
      exact ⟨rfl, HB.out⟩
  have k2 : (kd == 2) = false := by simpa using h2
  by_cases h3 : kd = 3
  · subst h3
    clear k1 k2
    by_cases hK : kn = ki
    · subst hK
      by_cases hI : kn = 0
      · subst hI
        have E : SH.fits ⟨3, ln, tx, q, ks, is⟩ = false := by rw [SH.fits_3, decide_eq_false (fun h => h.2.1 (len_nil hki))]; rfl
        rw [E]
        clear E
        go_enter Tryz.func64, Tryz.ntmps64
        go_wp2
        go_ret
        exact ⟨rfl, HB.out⟩
      · have z5 : (0 : Int) < (kn : Int) := by omega
        have z6 : 0 < kn := by omega
        have HST := Lib.hid (Str.new w 48 #[.int .i64 3, .int .i64 ln, .string ⟨tx.toArray⟩, .bool q, .slice ka kn kc, .slice ia kn ic])
        obtain ⟨KB, hKB⟩ : ∃ KB, (decide ks.Nodup && ks.all SH.keyb) = KB := ⟨_, rfl⟩
        rw [hKB] at HKY
        cases KB with
        | false =>
          have E : SH.fits ⟨3, ln, tx, q, ks, is⟩ = false := by
            rw [SH.fits_3, Bool.and_eq_false_iff]
            by_cases hn : ks.Nodup
            · rw [decide_eq_true hn, Bool.true_and] at hKB
              exact .inr hKB
            · exact .inl (decide_eq_false (fun h => hn h.2.2.2.2))
          clear hKB
          rw [E]
          clear E
          go_enter Tryz.func64, Tryz.ntmps64
          go_wp2_with (go_at_call 98; refine (HKY.out _ HB.out).mono ?_; rintro e w2 ⟨rfl, b2⟩)
          go_ret
          exact ⟨rfl, below_trans HB.out b2⟩
        | true =>
          simp only [Bool.and_eq_true, decide_eq_true_eq] at hKB
          by_cases hT : tx = []
          · subst hT
            cases q with
            | true =>
              have E : SH.fits ⟨3, ln, [], true, ks, is⟩ = false := by rw [SH.fits_3, decide_eq_false (fun h => by cases h.2.2.2.1)]; rfl
              clear hKB
              rw [E]
              clear E
              go_enter Tryz.func64, Tryz.ntmps64
              go_wp2_with (go_at_call 98; refine (HKY.out _ HB.out).mono ?_; rintro e w2 ⟨rfl, b2⟩; have f2 : w2.cell? ⟨w.heap.size, 2, none⟩ = some (.string ⟨([] : List UInt8).toArray⟩) := (HST.out.below b2).cell 2; have f3 : w2.cell? ⟨w.heap.size, 3, none⟩ = some (.bool true) := (HST.out.below b2).cell 3)
              go_ret
              exact ⟨rfl, below_trans HB.out b2⟩
            | false =>
              have E : SH.fits ⟨3, ln, [], false, ks, is⟩ = true := by
                rw [SH.fits_3, Bool.and_eq_true, decide_eq_true_eq]
                exact ⟨⟨by omega, len_ne hki hI, rfl, rfl, hKB.1⟩, hKB.2⟩
              clear hKB
              rw [E]
              clear E
              go_enter Tryz.func64, Tryz.ntmps64
              go_wp2_with (go_at_call 98; refine (HKY.out _ HB.out).mono ?_; rintro e w2 ⟨rfl, b2⟩; have f2 : w2.cell? ⟨w.heap.size, 2, none⟩ = some (.string ⟨([] : List UInt8).toArray⟩) := (HST.out.below b2).cell 2; have f3 : w2.cell? ⟨w.heap.size, 3, none⟩ = some (.bool false) := (HST.out.below b2).cell 3)
              go_ret
              exact ⟨rfl, below_trans HB.out b2⟩
          · have zt : (tx == []) = false := by simpa using hT
            have E : SH.fits ⟨3, ln, tx, q, ks, is⟩ = false := by rw [SH.fits_3, decide_eq_false (fun h => hT h.2.2.1)]; rfl
            clear hKB
            rw [E]
            clear E
            go_enter Tryz.func64, Tryz.ntmps64
            go_wp2_with (go_at_call 98; refine (HKY.out _ HB.out).mono ?_; rintro e w2 ⟨rfl, b2⟩; have f2 : w2.cell? ⟨w.heap.size, 2, none⟩ = some (.string ⟨tx.toArray⟩) := (HST.out.below b2).cell 2; have f3 : w2.cell? ⟨w.heap.size, 3, none⟩ = some (.bool q) := (HST.out.below b2).cell 3)
            go_ret
            exact ⟨rfl, below_trans HB.out b2⟩
    · have z2 : ((kn : Int) == (ki : Int)) = false := by simpa using (show ¬ (kn : Int) = (ki : Int) by omega)
      have z3 : (kn == ki) = false := by simpa using hK
      have z4 : ¬ (kn : Int) = (ki : Int) := by omega
      have E : SH.fits ⟨3, ln, tx, q, ks, is⟩ = false := by rw [SH.fits_3, decide_eq_false (fun h => hK (by have := h.1; omega))]; rfl
      rw [E]
      clear E
      go_enter Tryz.func64, Tryz.ntmps64
      go_wp2
      go_ret
      exact ⟨rfl, HB.out⟩
  have k3 : (kd == 3) = false := by simpa using h3
  have E : SH.fits ⟨kd, ln, tx, q, ks, is⟩ = false := SH.fits_0 h1 h2 h3
  rw [E]
  clear E
  go_enter Tryz.func64, Tryz.ntmps64
  go_wp2
  go_ret
  exact ⟨rfl, HB.out⟩
end Go.Proofs.YtgfhabofhefaaaaGreatDoor
namespace Go.Proofs.YtgfhabofhefaaaaGreatDoor
open Go.RowKit
def Lens2 (ns : List SH.Ni) : Prop := ∀ x ∈ ns, x.text.length ≤ 9223372036854775807 ∧ (∀ k ∈ x.keys, k.length ≤ 15000) ∧ x.keys.length ≤ 20000
theorem Lens2.one {ns : List SH.Ni} (h : Lens2 ns) : Lens ns := fun x hx => ⟨(h x hx).1, fun k hk => by have := (h x hx).2.1 k hk; omega⟩
def bkr (ns : List SH.Ni) (f n d : Nat) (k : Int) : Option Nat := if k = (n : Int) then SH.wk ns f n d else none
structure Wst (w0 w : World) (p : Nat) (v : Value) (m : Int) : Prop where
  bl : Below w0.heap.size w0 w
  st : Str w p 77 #[v, .int .i64 m]
  lo : w0.heap.size ≤ p
theorem Wst.calm {w0 w w' : World} {p : Nat} {v : Value} {m : Int} (h : Wst w0 w p v m) (hb : Below w.heap.size w w') : Wst w0 w' p v m :=
  ⟨h.bl.trans (hb.mono h.bl.size), h.st.below hb, h.lo⟩
theorem Wst.put {w0 w : World} {p : Nat} {v : Value} {m : Int} (h : Wst w0 w p v m) (k : Int) : Wst w0 (w.setCell ⟨p, 1, none⟩ (.int .i64 k)) p v k :=
  ⟨h.bl.trans ((Kb.set w p 1 (.int .i64 k) none).below h.bl.size (by intro g hg; cases hg; exact h.lo) (by simp)), by
    have := h.st.set 1 (.int .i64 k)
    simpa using this, h.lo⟩
def BkE (w0 : World) (p : Nat) (v : Value) (O : Option Nat) (e : Ending) (w' : World) : Prop := ∃ m : Int, e = .returned (.bool O.isSome) ∧ Wst w0 w' p v m ∧ ∀ r : Nat, O = some r → m = (r : Int)
theorem BkE.no {w0 w' : World} {p : Nat} {v : Value} {m : Int} (h : Wst w0 w' p v m) : BkE w0 p v none (.returned (.bool false)) w' := ⟨m, rfl, h, fun r hr => by cases hr⟩
theorem BkE.yes {w0 w' : World} {p : Nat} {v : Value} {m : Nat} (h : Wst w0 w' p v (m : Int)) : BkE w0 p v (some m) (.returned (.bool true)) w' := ⟨m, rfl, h, fun r hr => by rw [Option.some.inj hr]⟩
def BkC (f : Nat) : Prop := ∀ (v : Value) (ns : List SH.Ni) (n d p : Nat) (k : Int) (w0 w : World), Rdi w0 v ns → Lens2 ns → MaxIs w0 → Wst w0 w p v (n : Int) → f + d = 26 → n ≤ ns.length →
  Calls Tryz.prog 35 #[.pointer (some ⟨p, 0, none⟩), .int .i64 k, .int .i64 (d : Int)] w (BkE w0 p v (bkr ns f n d k))
set_option maxRecDepth 10000 in
set_option maxHeartbeats 16000000 in
theorem shblock_all : ∀ f, BkC f := by
  intro f
  induction f with
  | zero =>
    intro v ns n d p k w0 w hr hl hmx hs hf hn
    obtain rfl : d = 26 := by omega
    obtain ⟨ao, cap, rfl, hm⟩ := hr.slice
    unfold maxLen at hm
    have E0 : bkr ns 0 n 26 k = none := by unfold bkr; split <;> rfl
    rw [E0]
    have HS := Lib.hid hs
    have c0 := hs.st.cell 0
    have c1 := hs.st.cell 1
    simp only [List.getElem?_toArray, List.getElem?_cons_zero, List.getElem?_cons_succ] at c0 c1
    obtain ⟨L, hL⟩ : ∃ L, ns.length = L := ⟨_, rfl⟩
    rw [hL] at hm hn HS c0 ⊢
    clear hr hl hf hL hs hmx E0
    by_cases hk : k = (n : Int)
    · subst hk
      by_cases hnl : n < L
      · have h1 : ¬ (L : Int) ≤ (n : Int) := by omega
        go_enter Tryz.func35, Tryz.ntmps35
        go_wp2
        go_ret
        exact BkE.no HS.out
      · have h1 : (L : Int) ≤ (n : Int) := by omega
        go_enter Tryz.func35, Tryz.ntmps35
        go_wp2
        go_ret
        exact BkE.no HS.out
    · have hkb : (k != (n : Int)) = true := by simpa using hk
      go_enter Tryz.func35, Tryz.ntmps35
      go_wp2
      go_ret
      exact BkE.no HS.out
  | succ f ih =>
    intro v ns n d p k w0 w hr hl hmx hs hf hn
    have HR := Lib.hid hr
    have HLN := Lib.hid hl
    have HIH := Lib.hid ih
    have HF := Lib.hid hf
    have HMX := Lib.hid hmx
    have HS := Lib.hid hs
    obtain ⟨A, HA⟩ : ∃ A, Hid (A = bkr ns (f + 1) n d k) := ⟨_, Lib.hid rfl⟩
    rw [← HA.out]
    obtain ⟨ao, cap, hv, hm⟩ := hr.slice
    subst hv
    unfold maxLen at hm
    have c0 := hs.st.cell 0
    have c1 := hs.st.cell 1
    have fz := hs.st.frozen 1
    simp only [List.getElem?_toArray, List.getElem?_cons_zero, List.getElem?_cons_succ] at c0 c1
    obtain ⟨L, hL⟩ : ∃ L, ns.length = L := ⟨_, rfl⟩
    have HL := Lib.hid hL
    rw [hL] at hm hn HS HR c0 ⊢
    clear hr hl ih hL hs hmx hf
    by_cases hk : k = (n : Int)
    · subst hk
      have HA2 : Hid (A = SH.wk ns (f + 1) n d) := by
        show A = _
        rw [HA.out]; unfold bkr; rw [if_pos rfl]
      by_cases hnl : n < L
      · have h1 : ¬ (L : Int) ≤ (n : Int) := by omega
        have h1b : (n : Int) < (L : Int) := by omega
        have h10 : (0 : Int) ≤ (n : Int) := by omega
        have hn8 : (n : Int) + 1 ≤ 9223372036854775807 := by omega
        obtain ⟨x, hx⟩ : ∃ x, ns[n]? = some x := ⟨ns[n]'(by have := HL.out; omega), List.getElem?_eq_getElem _⟩
        by_cases hd : d ≤ 24
        · have h2 : ¬ (24 : Int) < (d : Int) := by omega
          have HSP := Lib.hid (HS.out.put ((n : Int) + 1))
          obtain ⟨b, off, cap2, ka, kc, ia, ic, hv2, c6, k1, k2⟩ := HR.out.at hx
          simp only [Value.slice.injEq] at hv2
          obtain ⟨rfl, -, -⟩ := hv2
          have hlx := HLN.out x (List.mem_of_getElem? hx)
          have HX := Lib.hid hx
          obtain ⟨kd, ln, tx, q, ks, is⟩ := x
          simp only at c6 k1 k2 hlx
          have e0 := HSP.out.st.cell 0
          simp only [List.getElem?_toArray, List.getElem?_cons_zero] at e0
          have HK1 := Lib.hid k1
          have HK2 := Lib.hid k2
          obtain ⟨d0, d1, d2, d3, d4, d5⟩ := c6.below HSP.out.bl
          simp only at d0 d1 d2 d3 d4 d5
          have him := k2.len_le
          unfold maxLen at him
          rw [ints_len] at him
          obtain ⟨FB, hFB⟩ : ∃ FB, SH.fits ⟨kd, ln, tx, q, ks, is⟩ = FB := ⟨_, rfl⟩
          have HFB := Lib.hid hFB
          have HLX := Lib.hid hlx
          clear hFB hlx hx k1 k2
          go_enter Tryz.func35, Tryz.ntmps35
          go_upto_region 4 with fail
          generalize w.setCell ⟨p, 1, none⟩ (.int .i64 ((n : Int) + 1)) = W1 at *
          have BX := below_alloc W1 (.cells #[.int .i64 kd, .int .i64 ln, .string ⟨tx.toArray⟩, .bool q, .slice ka ks.length kc, .slice ia is.length ic] 48)
          have HSX := Lib.hid (HSP.out.calm BX)
          have HFI := Lib.hid (mayBe_any kd ln tx q ks is _ _ _ (HK1.out.below HSX.out.bl) (HK2.out.below HSX.out.bl) HLX.out.1 HLX.out.2.1 HLX.out.2.2 (HMX.out.below HSX.out.bl))
          rw [HFB.out] at HFI
          have HN0 := Lib.hid (Str.new W1 48 #[.int .i64 kd, .int .i64 ln, .string ⟨tx.toArray⟩, .bool q, .slice ka ks.length kc, .slice ia is.length ic])
          clear BX
          cases FB with
          | false =>
            have E : A = none := by
              rw [HA2.out, SH.wk, HX.out]
              simp only
              rw [if_neg (fun h => by rw [HFB.out] at h; cases h.2)]
            subst E
            go_wp2_with (go_at_call 64; refine HFI.out.mono ?_; rintro e w1 ⟨rfl, b1⟩; have S1 := Lib.hid (HSX.out.calm b1); clear b1)
            go_ret
            exact BkE.no S1.out
          | true =>
            have HFO : Hid (A = is.foldlM (SH.step ns f d) (n + 1)) := by
              show A = _
              rw [HA2.out, SH.wk, HX.out]
              simp only
              rw [if_pos ⟨by omega, HFB.out⟩]
            obtain ⟨kn, hkn⟩ : ∃ kn, is.length = kn := ⟨_, rfl⟩
            have HKN := Lib.hid hkn
            rw [hkn] at him d5 HK2 HFI HN0 HSX
            have hki : (kn : Int) ≤ 9223372036854775807 := by omega
            have hdm : (d : Int) + 1 ≤ 9223372036854775807 := by have := HF.out; omega
            go_upto_region 7 with (go_at_call 64; refine HFI.out.mono ?_; rintro e w1 ⟨rfl, b1⟩)
            have e5 : w1.cell? ⟨W1.heap.size, 5, none⟩ = some (.slice ia kn ic) := (HN0.out.below b1).cell 5
            have HS1 := Lib.hid (HSX.out.calm b1)
            clear b1 d0 d1 d2 d3 d4 d5 e0 HFI
            go_wp2
            clear e5
            go_loopg [49] kn (fun g s49 wx => ∃ (i m : Nat), i + g = kn ∧ s49 = .int .i64 (i : Int) ∧ m ≤ L ∧ Hid (Wst w0 wx p (.slice (some ⟨b, off, none⟩) L cap) (m : Int)) ∧ Hid (A = (is.drop i).foldlM (SH.step ns f d) m))
            case atStart => exact ⟨0, n + 1, by omega, rfl, by omega, HS1, by rw [List.drop_zero]; exact HFO⟩
            case round =>
              clear HS1 HFO
              obtain ⟨i, m, hi, rfl, hmL, HS1, HFO⟩ := hrel
              cases gk with
              | zero =>
                obtain rfl : i = kn := by omega
                have E : A = some m := by
                  rw [HFO.out, List.drop_eq_nil_of_le (by have := HKN.out; omega)]; rfl
                subst E
                go_wp2
                go_ret
                exact BkE.yes HS1.out
              | succ g =>
                have hik : (i : Int) < (kn : Int) := by omega
                have hi0 : (0 : Int) ≤ (i : Int) := by omega
                obtain ⟨k, hk⟩ : ∃ k, is[i]? = some k := ⟨is[i]'(by have := HKN.out; omega), List.getElem?_eq_getElem _⟩
                have hki2 : (ints is)[i]? = some (.int .i64 k) := by simp [ints, hk]
                obtain ⟨b3, o3, c3, e3, u3⟩ := (HK2.out.below HS1.out.bl).atv hki2
                simp only [Value.slice.injEq] at e3
                obtain ⟨rfl, -, -⟩ := e3
                have hdr : is.drop i = k :: is.drop (i + 1) := by
                  have h9 := List.getElem?_eq_some_iff.1 hk
                  rw [List.drop_eq_getElem_cons h9.1, h9.2]
                have HF2 : Hid (A = (bkr ns f m (d + 1) k).bind fun m2 => (is.drop (i + 1)).foldlM (SH.step ns f d) m2) := by
                  show A = _
                  rw [HFO.out, hdr, List.foldlM_cons]; rfl
                clear hk hki2 hdr HFO
                obtain ⟨O, hO⟩ : ∃ O, bkr ns f m (d + 1) k = O := ⟨_, rfl⟩
                have HO := Lib.hid hO
                have HW := Lib.hid (HIH.out _ ns m (d + 1) p k w0 wr HR.out HLN.out HMX.out HS1.out (by have := HF.out; omega) (by have := HL.out; omega))
                rw [hO] at HW
                have hdi : ((d + 1 : Nat) : Int) = (d : Int) + 1 := rfl
                rw [hdi] at HW
                clear hO hdi
                cases O with
                | none =>
                  have E : A = none := by rw [HF2.out, HO.out]; rfl
                  subst E
                  go_wp2_with (go_at_call 35; refine HW.out.mono ?_; rintro e w2 ⟨m9, rfl, s2, -⟩; have S2 := Lib.hid s2; clear s2)
                  go_ret
                  exact BkE.no S2.out
                | some m2 =>
                  have E : Hid (A = (is.drop (i + 1)).foldlM (SH.step ns f d) m2) := by
                    show A = _
                    rw [HF2.out, HO.out]; rfl
                  have HML : Hid (m2 ≤ ns.length) := by
                    have h9 := HO.out
                    unfold bkr at h9
                    split at h9
                    · exact wk_le h9
                    · cases h9
                  go_wp2_with (go_at_call 35; refine HW.out.mono ?_; rintro e w2 ⟨m9, rfl, s2, h9⟩; have S2 := Lib.hid s2; have H9 := Lib.hid (h9 m2 rfl); clear s2 h9)
                  go_roundg g
                  case rel => exact ⟨i + 1, m2, by omega, by first | rfl | (simp; done), by have := HML.out; have := HL.out; omega, by rw [← H9.out]; exact S2, E⟩
                  case measure => omega
        · have h2 : (24 : Int) < (d : Int) := by omega
          have E : A = none := by
            rw [HA2.out, SH.wk, hx]
            simp only
            rw [if_neg (fun h => hd h.1)]
          subst E
          clear hx
          go_enter Tryz.func35, Tryz.ntmps35
          go_wp2
          go_ret
          exact BkE.no HS.out
      · have h1 : (L : Int) ≤ (n : Int) := by omega
        have E : A = none := by
          rw [HA2.out, SH.wk, List.getElem?_eq_none (by have := HL.out; omega)]
        subst E
        go_enter Tryz.func35, Tryz.ntmps35
        go_wp2
        go_ret
        exact BkE.no HS.out
    · have hkb : (k != (n : Int)) = true := by simpa using hk
      have E : A = none := by rw [HA.out]; unfold bkr; rw [if_neg hk]
      subst E
      go_enter Tryz.func35, Tryz.ntmps35
      go_wp2
      go_ret
      exact BkE.no HS.out
end Go.Proofs.YtgfhabofhefaaaaGreatDoor
