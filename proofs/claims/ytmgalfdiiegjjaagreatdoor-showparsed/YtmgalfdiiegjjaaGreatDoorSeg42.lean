/- Several texts in one. -/
import Derived.Test.YtmgalfdiiegjjaaGreatDoorSeg31
import Derived.Test.YtmgalfdiiegjjaaGreatDoorSeg32
import Derived.Test.YtmgalfdiiegjjaaGreatDoorShS4
import Derived.Test.YtmgalfdiiegjjaaGreatDoorSeg34
import Derived.Test.YtmgalfdiiegjjaaGreatDoorSeg41
import Derived.Test.YtmgalfdiiegjjaaGreatDoorSeg24
import Derived.Test.YtmgalfdiiegjjaaGreatDoorShW5
import Derived.ProofKit
import Derived.OpenShut
import Derived.ChangeOld
import Derived.SizedLaws
import Derived.Deep.SlicePairs
import Derived.Lib.SmallJoins
namespace Go.Proofs.YtmgalfdiiegjjaaGreatDoor
open Go.RowKit

set_option maxRecDepth 10000 in
set_option maxHeartbeats 32000000 in
theorem showRead_walk (va : Value) (xs : List SH.Ni) (w : World) (h1 : Rdi w va xs) (f1 : Lens xs) (hm : MaxIs w) :
    Calls Tryz.prog 4 #[.agg #[va]] w fun e w' => e = .returned (.bool true) ∧ Below w.heap.size w w' := by
  have hq1 := eq_fault 0 0
  have hg2 := fault_guard
  obtain ⟨ao, cap, rfl, -⟩ := h1.slice
  have B0 := below_alloc w (.cells #[.slice ao xs.length cap] 26)
  have HB := Lib.hid B0
  have HS0 := Lib.hid (Str.new w 26 #[.slice ao xs.length cap])
  have H1 := Lib.hid (h1.below B0)
  have HM := Lib.hid (hm.below B0)
  have HF1 := Lib.hid f1
  obtain ⟨L, hL⟩ : ∃ L, xs.length = L := ⟨_, rfl⟩
  rw [hL] at HB HS0 H1 HM ⊢
  have g0 := HS0.out.cell 0
  simp only [List.getElem?_toArray, List.getElem?_cons_zero] at g0
  clear h1 hm f1 B0 hL
  go_enter Tryz.func4, Tryz.ntmps4
  go_upto_region 1 with fail
  generalize w.alloc (.cells #[.slice ao L cap] 26) = W at *
  have HAW := Lib.hid (fun (u : World) (hu : Below W.heap.size W u) => awake13 u (HM.out.below hu))
  have HH1 := Lib.hid (shheavy_any _ xs W H1.out HF1.out)
  clear HS0
  go_wp2_with fail
  refine HH1.out.mono ?_
  rintro e w1 ⟨b1, rfl, hb1, hx1⟩
  have B1 := Lib.hid hb1
  have p0 := (hb1.cell (cell_lt g0)).trans g0
  have HX1 := Lib.hid hx1
  clear hb1 hx1
  cases b1 with
  | true =>
    go_wp2_with (go_at_call 14; refine (HAW.out _ B1.out).mono ?_; rintro e w9 ⟨rfl, b9⟩; have B9 := Lib.hid (below_trans B1.out b9); clear b9)
    go_ret
    exact ⟨rfl, below_trans HB.out B9.out⟩
  | false =>
    obtain ⟨hn1, hl1⟩ := HX1.out (by first | trivial | rfl)
    have hL2 : Lens2 xs := fun x hx => by
      obtain ⟨a1, a2, a3, a4⟩ := hl1 x hx
      exact ⟨by omega, fun k hk => by have := a4 k hk; omega, by omega⟩
    obtain ⟨code, T, ht⟩ := SH.tx_some xs
    have HT1 := Lib.hid (shtext_any _ xs code T _ (H1.out.below B1.out) hL2 (HM.out.below B1.out) ht)
    have HC2 := Lib.hid (fun (u : World) (hu : Below W.heap.size W u) => rcheck_any _ xs u (H1.out.below hu) hL2.one)
    clear hn1 hl1 hL2 HX1
    rcases ht with ⟨hk, rfl, rfl⟩ | ⟨hk, t, ho, ⟨h6, rfl, rfl⟩ | ⟨h6, rfl, rfl⟩⟩
    · rw [hk] at HC2
      clear hk
      go_wp2_with (first
        | (go_at_call 14; refine (HAW.out _ B4.out).mono ?_; rintro e w9 ⟨rfl, b9⟩; have B9 := Lib.hid (below_trans B4.out b9); clear b9)
        | (go_at_call 16; refine (HC2.out _ B3.out).mono ?_; rintro e w4 ⟨rfl, b4⟩; have B4 := Lib.hid (below_trans B3.out b4); clear b4)
        | (go_at_call 15; refine HT1.out.mono ?_; rintro e w3 ⟨v3, rfl, r3, b3⟩; obtain ⟨ao3, cp3, rfl, -⟩ := r3; have B3 := Lib.hid (below_trans B1.out b3); have p3 := (B3.out.cell (cell_lt g0)).trans g0; clear b3))
      go_ret
      exact ⟨rfl, below_trans HB.out B9.out⟩
    · rw [hk] at HC2
      clear hk ho h6
      go_wp2_with (first
        | (go_at_call 14; refine (HAW.out _ B4.out).mono ?_; rintro e w9 ⟨rfl, b9⟩; have B9 := Lib.hid (below_trans B4.out b9); clear b9)
        | (go_at_call 16; refine (HC2.out _ B3.out).mono ?_; rintro e w4 ⟨rfl, b4⟩; have B4 := Lib.hid (below_trans B3.out b4); clear b4)
        | (go_at_call 15; refine HT1.out.mono ?_; rintro e w3 ⟨v3, rfl, r3, b3⟩; obtain ⟨ao3, cp3, rfl, -⟩ := r3; have B3 := Lib.hid (below_trans B1.out b3); have p3 := (B3.out.cell (cell_lt g0)).trans g0; clear b3))
      go_ret
      exact ⟨rfl, below_trans HB.out B9.out⟩
    · have HO := Lib.hid ho
      obtain ⟨T, hT⟩ : ∃ T, SH.showT t 0 = T := ⟨_, rfl⟩
      have HTT := Lib.hid hT
      rw [hT] at HT1 h6
      obtain ⟨m, hm⟩ : ∃ m, T.length = m := ⟨_, rfl⟩
      have HMM := Lib.hid hm
      rw [hm] at h6
      clear hk ho hT hm HC2
      by_cases h16 : 16384 < m
      · have h16i : (16384 : Int) < (m : Int) := by omega
        go_wp2_with (first
          | (go_at_call 14; refine (HAW.out _ B3.out).mono ?_; rintro e w9 ⟨rfl, b9⟩; have B9 := Lib.hid (below_trans B3.out b9); clear b9)
          | (go_at_call 15; refine HT1.out.mono ?_; rintro e w3 ⟨v3, rfl, r3, b3⟩; obtain ⟨ao3, cp3, hv3, -⟩ := r3; rw [bv_len, HMM.out] at hv3; subst hv3; have B3 := Lib.hid (below_trans B1.out b3); have p3 := (B3.out.cell (cell_lt g0)).trans g0; clear b3))
        go_ret
        exact ⟨rfl, below_trans HB.out B9.out⟩
      · have h16i : ¬ (16384 : Int) < (m : Int) := by omega
        obtain ⟨ms, hp1, hp2⟩ := SH.parse_shown ⟨HO.out.ok, HO.out.god, HO.out.dep, HO.out.size, HO.out.eq⟩ (by rw [HTT.out, HMM.out]; omega)
        rw [HTT.out] at hp1
        have HSB : Hid (SH.sameb (ms.map SH.up) xs = true) := decide_eq_true hp2
        have HPA : Hid (∀ (u : World) (v : Value), Rdv u v (bv T) → MaxIs u → Calls Tryz.prog 11 #[v] u fun e w' => ∃ v2, e = .returned (.tuple #[.agg #[v2], .agg #[.int .i64 0, .int .i64 0]]) ∧ Rdi w' v2 (ms.map SH.up) ∧ Below u.heap.size u w') := fun u v hr hu => by
          refine (parse_any v T u hr hu).mono ?_
          rintro e w' ⟨hb, v2, rfl, hd⟩
          rw [hp1] at hd ⊢
          exact ⟨v2, rfl, hd.rdi, hb⟩
        obtain ⟨NM, hNM⟩ : ∃ NM, (ms.map SH.up).length = NM := ⟨_, rfl⟩
        have HNM := Lib.hid hNM
        clear hp1 hp2 hNM
        go_upto_region 7 with (first
          | (go_at_call 11; refine (HPA.out _ _ R3.out (HM.out.below B3.out)).mono ?_; rintro e w4 ⟨v4, rfl, r4, b4⟩; obtain ⟨ao4, cp4, hv4, -⟩ := r4.slice; rw [HNM.out] at hv4; subst hv4)
          | (go_at_call 15; refine HT1.out.mono ?_; rintro e w3 ⟨v3, rfl, r3, b3⟩; have R3 := Lib.hid r3; obtain ⟨ao3, cp3, hv3, -⟩ := r3; rw [bv_len, HMM.out] at hv3; subst hv3; have B3 := Lib.hid (below_trans B1.out b3); have p3 := (B3.out.cell (cell_lt g0)).trans g0; clear b3))
        obtain ⟨s5, s6, b5⟩ := two_docs w4 (.slice ao4 NM cp4) (.int .i64 0) (.int .i64 0)
        have B5 := Lib.hid (below_trans (below_trans B3.out b4) b5)
        have R5 := Lib.hid (r4.below b5)
        have c5 := s5.cell 0
        have c6 := s6.cell 0
        have c7 := s6.cell 1
        simp only [List.getElem?_toArray, List.getElem?_cons_zero, List.getElem?_cons_succ] at c5 c6 c7
        have p5 := (B5.out.cell (cell_lt g0)).trans g0
        have HSM := Lib.hid (shrsame_any _ _ (ms.map SH.up) xs _ R5.out (H1.out.below B5.out))
        rw [HSB.out] at HSM
        clear b4 b5 r4 s5 s6
        generalize World.alloc (World.alloc _ _) _ = W5 at *
        go_wp2_with (first
          | (go_at_call 14; refine (HAW.out _ B6.out).mono ?_; rintro e w9 ⟨rfl, b9⟩; have B9 := Lib.hid (below_trans B6.out b9); clear b9)
          | (go_at_call 12; refine HSM.out.mono ?_; rintro e w6 ⟨rfl, b6⟩; have B6 := Lib.hid (below_trans B5.out b6); clear b6))
        go_ret
        exact ⟨rfl, below_trans HB.out B9.out⟩
end Go.Proofs.YtmgalfdiiegjjaaGreatDoor

/- An argument that is a document, opened for a walk. -/
namespace Go.Proofs.YtmgalfdiiegjjaaGreatDoor
open Go.RowKit Go.ChangeShapes Go.WideShapes Go.Joins

instance : Inhabited SH.Ni := ⟨⟨0, 0, [], false, [], []⟩⟩
/-- A slice of texts. -/
theorem open_sv {H : Type} {enc : TypeId × Value → H} {P : Program} {W : World} {s e : TypeId} {u : Value} {n : Nat} {x : DataW H × List MemPlace}
    (hs : P.underlying s = some (.slice e)) (he : P.underlying e = some .string) (ce : P.cellsOf e = 1)
    (h2 : DataW.trod enc P W 0 (fun _ => true) true n s [u] = some x) : ∃ ks : List LX.B, Rdv W u (sv ks) ∧ ∀ k ∈ ks, k.length ≤ 9223372036854775807 := by
  rcases Deep.open_slice1 hs ce h2 with ⟨hcs, _⟩ | ⟨a, len, cap, m, n', V, Dt, Pl, hcs, _, hl, hm, hmm, _, hrow⟩
  · obtain rfl : u = .slice none 0 0 := by simpa using hcs
    exact ⟨[], Rdv.nil W, fun _ hh => by cases hh⟩
  · obtain rfl : u = .slice (some a) len cap := by simpa using hcs
    simp only [if_true] at hmm
    have each : ∀ i, i < len → ∃ k : LX.B, W.cell? (a.add i) = some (.string ⟨k.toArray⟩) ∧ k.length ≤ 9223372036854775807 := by
      intro i hi
      obtain ⟨k0, t0⟩ := hrow i (by omega)
      obtain ⟨s0, hs0, _, z0⟩ := DataW.trod_string he t0
      obtain ⟨⟨l0⟩⟩ := s0
      refine ⟨l0, ?_, ?_⟩
      · rw [k0, (by simpa using hs0 : V i = _)]
      · have : l0.length ≤ maxLen := z0
        unfold maxLen at this; omega
    obtain ⟨F, hF⟩ := Deep.choose_lt each
    refine ⟨(List.range len).map F, ⟨some a, cap, by simp [sv], by simpa [sv] using hl, hm, by simp, fun j d hd => ?_⟩, fun k hk => ?_⟩
    · have hj : j < len := by
        have := (List.getElem?_eq_some_iff.1 hd).1
        simpa [sv] using this
      refine ⟨a, rfl, ?_⟩
      rw [(hF j hj).1]
      simp only [sv, List.getElem?_map, List.getElem?_range hj, Option.map_some, Option.some.injEq] at hd
      rw [hd]
    · obtain ⟨j, hj, rfl⟩ := List.mem_map.1 hk
      exact (hF j (List.mem_range.1 hj)).2
/-- A slice of numbers. -/
theorem open_iv {H : Type} {enc : TypeId × Value → H} {P : Program} {W : World} {s e : TypeId} {u : Value} {n : Nat} {x : DataW H × List MemPlace}
    (hs : P.underlying s = some (.slice e)) (he : P.underlying e = some (.int .i64)) (ce : P.cellsOf e = 1)
    (h2 : DataW.trod enc P W 0 (fun _ => true) true n s [u] = some x) : ∃ ks : List Int, Rdv W u (ints ks) := by
  rcases Deep.open_slice1 hs ce h2 with ⟨hcs, _⟩ | ⟨a, len, cap, m, n', V, Dt, Pl, hcs, _, hl, hm, hmm, _, hrow⟩
  · obtain rfl : u = .slice none 0 0 := by simpa using hcs
    exact ⟨[], Rdv.nil W⟩
  · obtain rfl : u = .slice (some a) len cap := by simpa using hcs
    simp only [if_true] at hmm
    have each : ∀ i, i < len → ∃ k : Int, W.cell? (a.add i) = some (.int .i64 k) := by
      intro i hi
      obtain ⟨k0, t0⟩ := hrow i (by omega)
      obtain ⟨i0, e0, _⟩ := DataW.trod_int he t0
      exact ⟨i0, by rw [k0, (by simpa using e0 : V i = _)]⟩
    obtain ⟨F, hF⟩ := Deep.choose_lt each
    refine ⟨(List.range len).map F, some a, cap, by simp [ints], by simpa [ints] using hl, hm, by simp, fun j d hd => ?_⟩
    have hj : j < len := by
      have := (List.getElem?_eq_some_iff.1 hd).1
      simpa [ints] using this
    refine ⟨a, rfl, ?_⟩
    rw [hF j hj]
    simp only [ints, List.getElem?_map, List.getElem?_range hj, Option.map_some, Option.some.injEq] at hd
    rw [hd]
/-- A slice of nodes. -/
theorem open_nodes {H : Type} {enc : TypeId × Value → H} {P : Program} {W : World} {s e ss st si ti : TypeId} {f0 f1 f2 f3 f4 f5 : Field} {u : Value} {n : Nat} {x : DataW H × List MemPlace}
    (hs : P.underlying s = some (.slice e)) (he : P.underlying e = some (.struct #[f0, f1, f2, f3, f4, f5])) (ce : P.cellsOf e = 6) (o0 : f0.offset = 0) (o1 : f1.offset = 1) (o2 : f2.offset = 2) (o3 : f3.offset = 3) (o4 : f4.offset = 4) (o5 : f5.offset = 5)
    (w0 : P.underlying f0.type = some (.int .i64)) (w1 : P.underlying f1.type = some (.int .i64)) (w2 : P.underlying f2.type = some .string) (w3 : P.underlying f3.type = some .bool) (w4 : f4.type = ss) (w5 : f5.type = si)
    (z0 : P.cellsOf f0.type = 1) (z1 : P.cellsOf f1.type = 1) (z2 : P.cellsOf f2.type = 1) (z3 : P.cellsOf f3.type = 1) (z4 : P.cellsOf ss = 1) (z5 : P.cellsOf si = 1)
    (hss : P.underlying ss = some (.slice st)) (hst : P.underlying st = some .string) (cst : P.cellsOf st = 1) (hsi : P.underlying si = some (.slice ti)) (hti : P.underlying ti = some (.int .i64)) (cti : P.cellsOf ti = 1)
    (h2 : DataW.trod enc P W 0 (fun _ => true) true n s [u] = some x) : ∃ ns : List SH.Ni, Rdi W u ns ∧ Lens ns := by
  rcases Deep.open_slice hs h2 with ⟨hcs, _⟩ | ⟨a, len, cap, m, n', Dt, Pl, hcs, _, hl, hm, hmm, _, hrow⟩
  · obtain rfl : u = .slice none 0 0 := by simpa using hcs
    exact ⟨[], ⟨[], none, 0, rfl, rfl, by simp, by simp [maxLen], fun _ => rfl, by simp, by simp⟩, fun _ hh => by cases hh⟩
  · obtain rfl : u = .slice (some a) len cap := by simpa using hcs
    simp only [if_true] at hmm
    have each : ∀ i, i < len → ∃ q : Niv, ((W.cell? (a.add (i * 6)) = some (.int .i64 q.1.kind) ∧ W.cell? (a.add (i * 6 + 1)) = some (.int .i64 q.1.line) ∧ W.cell? (a.add (i * 6 + 2)) = some (.string ⟨q.1.text.toArray⟩) ∧ W.cell? (a.add (i * 6 + 3)) = some (.bool q.1.quoted) ∧ W.cell? (a.add (i * 6 + 4)) = some q.2.1 ∧ W.cell? (a.add (i * 6 + 5)) = some q.2.2) ∧ Rdv W q.2.1 (sv q.1.keys) ∧ Rdv W q.2.2 (ints q.1.kids)) ∧ q.1.text.length ≤ 9223372036854775807 ∧ ∀ k ∈ q.1.keys, k.length ≤ 9223372036854775807 := by
      intro i hi
      obtain ⟨cs, h1, h3⟩ := hrow i (by omega)
      rw [ce] at h1
      obtain ⟨_, hlen, hcell⟩ := World.cells?_some h1
      obtain ⟨xs, k, _, _, _, hxl, hf⟩ := DataW.trod_struct he h3
      have hxl6 : xs.length = 6 := hxl
      match cs, hlen with
      | [v0, v1, v2, v3, v4, v5], _ =>
        have g0 := hf 0 f0 rfl
        have g1 := hf 1 f1 rfl
        have g2 := hf 2 f2 rfl
        have g3 := hf 3 f3 rfl
        have g4 := hf 4 f4 rfl
        have g5 := hf 5 f5 rfl
        rw [o0, z0, List.getElem?_eq_getElem (by omega)] at g0
        rw [o1, z1, List.getElem?_eq_getElem (by omega)] at g1
        rw [o2, z2, List.getElem?_eq_getElem (by omega)] at g2
        rw [o3, z3, List.getElem?_eq_getElem (by omega)] at g3
        rw [o4, w4, z4, List.getElem?_eq_getElem (by omega)] at g4
        rw [o5, w5, z5, List.getElem?_eq_getElem (by omega)] at g5
        obtain ⟨i0, e0, _⟩ := DataW.trod_int w0 g0
        obtain ⟨i1, e1, _⟩ := DataW.trod_int w1 g1
        obtain ⟨s2, e2, _, zz⟩ := DataW.trod_string w2 g2
        obtain ⟨b3, e3, _⟩ := DataW.trod_bool w3 g3
        have k4 : DataW.trod enc P W 0 (fun _ => true) true k ss [v4] = some xs[4] := by simpa using g4
        have k5 : DataW.trod enc P W 0 (fun _ => true) true k si [v5] = some xs[5] := by simpa using g5
        obtain ⟨ks, hr4, hk4⟩ := open_sv hss hst cst k4
        obtain ⟨is, hr5⟩ := open_iv hsi hti cti k5
        obtain rfl : v0 = .int .i64 i0 := by simpa using e0
        obtain rfl : v1 = .int .i64 i1 := by simpa using e1
        obtain rfl : v2 = .string s2 := by simpa using e2
        obtain rfl : v3 = .bool b3 := by simpa using e3
        obtain ⟨⟨l2⟩⟩ := s2
        have hlz : l2.length ≤ maxLen := zz
        unfold maxLen at hlz
        have c0 := hcell 0 (by omega)
        have c1 := hcell 1 (by omega)
        have c2 := hcell 2 (by omega)
        have c3 := hcell 3 (by omega)
        have c4 := hcell 4 (by omega)
        have c5 := hcell 5 (by omega)
        rw [Deep.add_add] at c0 c1 c2 c3 c4 c5
        exact ⟨(⟨i0, i1, l2, b3, ks, is⟩, v4, v5), ⟨⟨by simpa using c0, by simpa using c1, by simpa using c2, by simpa using c3, by simpa using c4, by simpa using c5⟩, hr4, hr5⟩, by show l2.length ≤ _; omega, hk4⟩
    obtain ⟨F, hF⟩ := Deep.choose_lt each
    refine ⟨((List.range len).map F).map (·.1), ⟨(List.range len).map F, some a, cap, rfl, by simp, by simpa using hl, hm, by simp, fun j q hq => ?_, fun q hq => ?_⟩, fun x hx => ?_⟩
    · have hj : j < len := by
        have := (List.getElem?_eq_some_iff.1 hq).1
        simpa using this
      rw [List.getElem?_map, List.getElem?_range hj] at hq
      simp only [Option.map_some] at hq
      obtain rfl := Option.some.inj hq
      obtain ⟨⟨⟨k0, k1, k2, k3, k4, k5⟩, -, -⟩, -⟩ := hF j hj
      obtain ⟨b, off, spot⟩ := a
      have hspot : spot = none := by simpa [Addr.add] using World.cell?_spot (hF 0 (by omega)).1.1.1
      subst hspot
      rw [Addr.add_lit] at k0 k1 k2 k3 k4 k5
      exact ⟨b, off, rfl, k0, by rw [Nat.add_assoc]; exact k1, by rw [Nat.add_assoc]; exact k2, by rw [Nat.add_assoc]; exact k3, by rw [Nat.add_assoc]; exact k4, by rw [Nat.add_assoc]; exact k5⟩
    · obtain ⟨j, hj, rfl⟩ := List.mem_map.1 hq
      obtain ⟨⟨_, r1, r2⟩, _⟩ := hF j (List.mem_range.1 hj)
      exact ⟨r1, r2⟩
    · obtain ⟨q, hq, rfl⟩ := List.mem_map.1 hx
      obtain ⟨j, hj, rfl⟩ := List.mem_map.1 hq
      exact (hF j (List.mem_range.1 hj)).2
/-- A document. -/
theorem open_doc {H : Type} {enc : TypeId × Value → H} {P : Program} {W : World} {r : Reach} {b0 : Nat} {t s e ss st si ti : TypeId} {g0 f0 f1 f2 f3 f4 f5 : Field} {v : Value} {d : DataW H} {p : List MemPlace}
    (ht : P.underlying t = some (.struct #[g0])) (ct : P.cellsOf t = 1) (q0 : g0.offset = 0) (y0 : g0.type = s) (cs : P.cellsOf s = 1)
    (hs : P.underlying s = some (.slice e)) (he : P.underlying e = some (.struct #[f0, f1, f2, f3, f4, f5])) (ce : P.cellsOf e = 6) (o0 : f0.offset = 0) (o1 : f1.offset = 1) (o2 : f2.offset = 2) (o3 : f3.offset = 3) (o4 : f4.offset = 4) (o5 : f5.offset = 5)
    (w0 : P.underlying f0.type = some (.int .i64)) (w1 : P.underlying f1.type = some (.int .i64)) (w2 : P.underlying f2.type = some .string) (w3 : P.underlying f3.type = some .bool) (w4 : f4.type = ss) (w5 : f5.type = si)
    (z0 : P.cellsOf f0.type = 1) (z1 : P.cellsOf f1.type = 1) (z2 : P.cellsOf f2.type = 1) (z3 : P.cellsOf f3.type = 1) (z4 : P.cellsOf ss = 1) (z5 : P.cellsOf si = 1)
    (hss : P.underlying ss = some (.slice st)) (hst : P.underlying st = some .string) (cst : P.cellsOf st = 1) (hsi : P.underlying si = some (.slice ti)) (hti : P.underlying ti = some (.int .i64)) (cti : P.cellsOf ti = 1)
    (hv : Value.okWide P W r b0 t v) (h : DataW.Trod enc P W 0 (fun _ => true) true t v d p) :
    ∃ (vd : Value) (ns : List SH.Ni), v = .agg #[vd] ∧ Rdi W vd ns ∧ Lens ns := by
  obtain ⟨cs', rfl, hsz⟩ := okWide_struct ht hv
  obtain ⟨l⟩ := cs'
  match l, hsz.trans ct with
  | [x0], _ =>
    obtain ⟨fuel, hf⟩ := h
    obtain ⟨xs, n, _, hx, _, hlen, hg⟩ := DataW.trod_struct ht hf
    have hlen1 : xs.length = 1 := hlen
    have h0 := hg 0 g0 rfl
    rw [q0, y0, cs, List.getElem?_eq_getElem (by omega)] at h0
    have k0 : DataW.trod enc P W 0 (fun _ => true) true n s [x0] = some xs[0] := by simpa [Value.cells] using h0
    obtain ⟨ns, hr, hl⟩ := open_nodes hs he ce o0 o1 o2 o3 o4 o5 w0 w1 w2 w3 w4 w5 z0 z1 z2 z3 z4 z5 hss hst cst hsi hti cti k0
    exact ⟨x0, ns, rfl, hr, hl⟩
end Go.Proofs.YtmgalfdiiegjjaaGreatDoor
