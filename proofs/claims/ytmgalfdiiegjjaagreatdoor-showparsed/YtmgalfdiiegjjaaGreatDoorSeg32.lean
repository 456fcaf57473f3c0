/- Several texts in one. -/
import Derived.Test.YtmgalfdiiegjjaaGreatDoorShW5
import Derived.Test.YtmgalfdiiegjjaaGreatDoorSeg24
import Derived.BigQuiet
import Derived.Deep.RegionHeld3
import Derived.Deep.LoopGhost
namespace Go.Proofs.YtmgalfdiiegjjaaGreatDoor
open Go.RowKit

set_option maxRecDepth 10000 in
set_option maxHeartbeats 16000000 in
theorem rcheck_any (v : Value) (ns : List SH.Ni) (w : World) (hr : Rdi w v ns) (hl : Lens ns) :
    Calls Tryz.prog 16 #[.agg #[v]] w fun e w' => e = .returned (.bool (SH.chkb ns)) ∧ Below w.heap.size w w' := by
  obtain ⟨ao, cap, rfl, hlm⟩ := hr.slice
  unfold maxLen at hlm
  obtain ⟨K, HK⟩ : ∃ K, Hid (K = SH.chkb ns) := ⟨_, Lib.hid rfl⟩
  rw [← HK.out]
  have B1 := below_trans (below_alloc w (.cells #[.slice ao ns.length cap] 26)) (below_drew _)
  have HB := Lib.hid B1
  have HB0 := Lib.hid (below_alloc w (.cells #[.slice ao ns.length cap] 26))
  have HS := Lib.hid ((Str.new w 26 #[.slice ao ns.length cap]).below (below_drew _))
  have HC := Lib.hid (rwalk_all 25 _ ns 0 1 _ (hr.below B1) hl rfl (Nat.zero_le _))
  obtain ⟨L, hL⟩ : ∃ L, ns.length = L := ⟨_, rfl⟩
  have HL := Lib.hid hL
  rw [hL] at hlm HC HS HB HB0 ⊢
  have e0 : (w.alloc (.cells #[.slice ao L cap] 26)).drew.cell? ⟨w.heap.size, 0, none⟩ = some (.slice ao L cap) := HS.out.cell 0
  have e00 : (w.alloc (.cells #[.slice ao L cap] 26)).cell? ⟨w.heap.size, 0, none⟩ = some (.slice ao L cap) := e0
  have hL9 : (L : Int) ≤ 9223372036854775807 := by omega
  clear hr hl hL B1
  by_cases h1 : 1 ≤ L
  · have h1i : (1 : Int) ≤ (L : Int) := by omega
    by_cases h2 : L ≤ 2000
    · have h2i : (L : Int) ≤ 2000 := by omega
      have d1 : decide ((1 : Int) ≤ (L : Int)) = true := decide_eq_true h1i
      have d2 : decide ((L : Int) ≤ 2000) = true := decide_eq_true h2i
      have d3 : decide (1 ≤ L) = true := decide_eq_true h1
      have d4 : decide (L ≤ 2000) = true := decide_eq_true h2
      obtain ⟨O, hO⟩ : ∃ O, SH.wk ns 25 0 1 = O := ⟨_, rfl⟩
      have HO := Lib.hid hO
      rw [hO] at HC
      obtain ⟨Z, hZ⟩ : ∃ Z, wv O = Z := ⟨_, rfl⟩
      have HZ := Lib.hid hZ
      rw [hZ] at HC
      have HE : Hid (K = (Z == (L : Int))) := by
        show K = _
        rw [HK.out, ← hZ]
        cases O with
        | none =>
          rw [show SH.chkb ns = false from decide_eq_false (fun h => by have := h.2.2; rw [hO] at this; cases this)]
          show false = ((-1 : Int) == (L : Int))
          symm; simp
        | some m =>
          by_cases hm : m = L
          · rw [show SH.chkb ns = true from decide_eq_true ⟨by have := HL.out; omega, by have := HL.out; omega, by rw [hO, HL.out, hm]⟩, hm]
            show true = ((L : Int) == (L : Int))
            simp
          · rw [show SH.chkb ns = false from decide_eq_false (fun h => by have := h.2.2; rw [hO, HL.out] at this; exact hm (Option.some.inj this))]
            show false = ((m : Int) == (L : Int))
            symm; simp; omega
      clear hO hZ
      go_enter Tryz.func16, Tryz.ntmps16
      go_wp2
      go_region_held3 (fun x => x.cell? ⟨w.heap.size, 0, none⟩ = some (.slice ao L cap)) (first | exact e0 | exact f0) (first
        | (go_at_call 35; refine HC.out.mono ?_; rintro e w4 ⟨rfl, b4⟩; have f0 : w4.cell? ⟨w.heap.size, 0, none⟩ = some (.slice ao L cap) := (HS.out.below b4).cell 0; have B4 := Lib.hid (below_trans HB.out b4); clear b4))
      all_goals
        go_wp2
        go_ret
        exact ⟨by rw [HE.out]; rfl, B4.out⟩
    · have h2i : ¬ (L : Int) ≤ 2000 := by omega
      have d1 : decide ((1 : Int) ≤ (L : Int)) = true := decide_eq_true h1i
      have d2 : decide ((L : Int) ≤ 2000) = false := decide_eq_false h2i
      have d3 : decide (1 ≤ L) = true := decide_eq_true h1
      have d4 : decide (L ≤ 2000) = false := decide_eq_false h2
      have E : K = false := by
        rw [HK.out]
        exact decide_eq_false (fun h => h2 (by have := h.2.1; have := HL.out; omega))
      subst E
      clear h1 h1i h2 h2i
      go_enter Tryz.func16, Tryz.ntmps16
      go_wp2
      go_quiet (fail)
      go_wp2
      go_ret
      exact ⟨rfl, below_trans HB0.out (below_drewN _ _)⟩
  · obtain rfl : L = 0 := by omega
    have E : K = false := by
      rw [HK.out]
      exact decide_eq_false (fun h => by have := h.1; have := HL.out; omega)
    subst E
    clear h1
    go_enter Tryz.func16, Tryz.ntmps16
    go_wp2
    go_quiet (fail)
    go_wp2
    go_ret
    exact ⟨rfl, below_trans HB0.out (below_drewN _ _)⟩
end Go.Proofs.YtmgalfdiiegjjaaGreatDoor

/- The walk of heavy: what is not heavy is light. -/
namespace Go.Proofs.YtmgalfdiiegjjaaGreatDoor
open Go.RowKit

/-- A node that is looked at. -/
def Lit (x : SH.Ni) : Prop := x.text.length ≤ 4000 ∧ x.keys.length ≤ 4000 ∧ x.kids.length ≤ 4000 ∧ ∀ k ∈ x.keys, k.length ≤ 4000
def HvE (w : World) (ns : List SH.Ni) (e : Ending) (w' : World) : Prop := ∃ b, e = .returned (.bool b) ∧ Below w.heap.size w w' ∧ (b = false → ns.length ≤ 4000 ∧ ∀ x ∈ ns, Lit x)
theorem HvE.mk {w w' : World} {ns : List SH.Ni} {m : Int} (hb : Below w.heap.size w w') (h : m ≤ 4000 → ns.length ≤ 4000 ∧ ∀ x ∈ ns, Lit x) : HvE w ns (.returned (.bool (decide (4000 < m)))) w' :=
  ⟨_, rfl, hb, fun hh => h (by have := of_decide_eq_false hh; omega)⟩
theorem min_letter (n : Nat) : ∃ A : Int, min (n : Int) 4001 = A ∧ 0 ≤ A ∧ A ≤ 4001 ∧ (A ≤ 4000 → n ≤ 4000) := ⟨_, rfl, by omega, by omega, by omega⟩
set_option maxRecDepth 10000 in
set_option maxHeartbeats 16000000 in
theorem shheavy_any (v : Value) (ns : List SH.Ni) (w : World) (hr : Rdi w v ns) (htl : ∀ x ∈ ns, x.text.length ≤ 9223372036854775807 ∧ ∀ k ∈ x.keys, k.length ≤ 9223372036854775807) :
    Calls Tryz.prog 13 #[.agg #[v]] w (HvE w ns) := by
  obtain ⟨ao, cap, rfl, hlm⟩ := hr.slice
  unfold maxLen at hlm
  have HB0 := Lib.hid (below_alloc w (.cells #[.slice ao ns.length cap] 26))
  have HS0 := Lib.hid (Str.new w 26 #[.slice ao ns.length cap])
  have HR := Lib.hid hr
  have HTL := Lib.hid htl
  obtain ⟨L, hL⟩ : ∃ L, ns.length = L := ⟨_, rfl⟩
  have HL := Lib.hid hL
  rw [hL] at HS0 HB0 HR hlm ⊢
  have hLi : (L : Int) ≤ 9223372036854775807 := by omega
  have e0 := HS0.out.cell 0
  simp only [List.getElem?_toArray, List.getElem?_cons_zero] at e0
  clear hr htl hL hlm
  go_enter Tryz.func13, Tryz.ntmps13
  go_wp2
  generalize w.alloc (.cells #[.slice ao L cap] 26) = W at *
  clear e0
  go_loopg [3, 4] L (fun g s3 s4 wx => ∃ (i : Nat) (m : Int), i + g = L ∧ s3 = .int .i64 m ∧ s4 = .int .i64 (i : Int) ∧ (L : Int) ≤ m ∧ m ≤ 9223372036854775807 ∧ Hid (Below w.heap.size w wx) ∧ Hid (Str wx w.heap.size 26 #[.slice ao L cap]) ∧ Hid (m ≤ 4000 → ∀ x ∈ ns.take i, Lit x))
  case atStart => exact ⟨0, _, by omega, rfl, rfl, by omega, by omega, HB0, HS0, Lib.hid (by simp)⟩
  case round =>
    clear HB0 HS0
    obtain ⟨i, m, hi, rfl, rfl, hm0, hm1, HB, HS, HT⟩ := hrel
    have e0 : wr.cell? ⟨w.heap.size, 0, none⟩ = some (.slice ao L cap) := HS.out.cell 0
    have hgt : decide (m > 4000) = decide (4000 < m) := rfl
    cases gk with
    | zero =>
      obtain rfl : i = L := by omega
      have hF := Lib.hid (fun (h : m ≤ 4000) => (⟨by have := HL.out; omega, by have := HT.out h; rwa [List.take_of_length_le (by have := HL.out; omega)] at this⟩ : ns.length ≤ 4000 ∧ ∀ x ∈ ns, Lit x))
      go_wp2
      go_ret
      exact HvE.mk HB.out hF.out
    | succ g =>
      have hin : (i : Int) < (L : Int) := by omega
      have hi0 : (0 : Int) ≤ (i : Int) := by omega
      by_cases hm4 : m ≤ 4000
      · obtain ⟨x, hx⟩ : ∃ x, ns[i]? = some x := ⟨ns[i]'(by have := HL.out; omega), List.getElem?_eq_getElem _⟩
        obtain ⟨b, off, cap2, ka, kc, ia, ic, hv, c6, r1, r2⟩ := (HR.out.below HB.out).at hx
        simp only [Value.slice.injEq] at hv
        obtain ⟨rfl, -, -⟩ := hv
        have HX := Lib.hid hx
        have HXT := Lib.hid (HTL.out x (List.mem_of_getElem? hx))
        have HR1 := Lib.hid r1
        have l1 := r1.len_le
        rw [sv_len] at l1
        unfold maxLen at l1
        obtain ⟨xk, xl, xt, xq, xks, xis⟩ := x
        simp only at c6 HXT HR1 l1
        obtain ⟨n1, h1⟩ : ∃ n, xks.length = n := ⟨_, rfl⟩
        obtain ⟨n2, h2⟩ : ∃ n, xis.length = n := ⟨_, rfl⟩
        obtain ⟨n3, h3⟩ : ∃ n, xt.length = n := ⟨_, rfl⟩
        have hsz := str_size xt
        rw [h3] at hsz
        rw [h1, h2] at c6
        rw [h1] at HR1 l1
        have hn3 : n3 ≤ 9223372036854775807 := by rw [← h3]; exact HXT.out.1
        have l1i : (n1 : Int) ≤ 9223372036854775807 := by omega
        have H1 := Lib.hid h1
        have H2 := Lib.hid h2
        have H3 := Lib.hid h3
        obtain ⟨A, hA, hA0, hA1, hA2⟩ := min_letter n3
        obtain ⟨B, hB, hB0, hB1, hB2⟩ := min_letter n1
        obtain ⟨C, hC, hC0, hC1, hC2⟩ := min_letter n2
        have HA2 := Lib.hid hA2
        have HB2 := Lib.hid hB2
        have HC2 := Lib.hid hC2
        obtain ⟨d0, d1, d2, d3, d4, d5⟩ := c6
        simp only at d0 d1 d2 d3 d4 d5
        have HNB := Lib.hid (Str.new wr 50 #[.int .i64 xk, .int .i64 xl, .string ⟨xt.toArray⟩, .bool xq, .slice ka n1 kc, .slice ia n2 ic])
        have BX := below_alloc wr (.cells #[.int .i64 xk, .int .i64 xl, .string ⟨xt.toArray⟩, .bool xq, .slice ka n1 kc, .slice ia n2 ic] 50)
        have HBX := Lib.hid (below_trans HB.out BX)
        have HSX := Lib.hid (HS.out.below BX)
        have HM4 := Lib.hid hm4
        have HMM := Lib.hid hm0
        have hmn : 0 ≤ m := by omega
        clear h1 h2 h3 hx r1 r2 BX hA2 hB2 hC2 l1 hLi hm1
        obtain ⟨wo, hwo⟩ : ∃ wo, wo = wr := ⟨wr, rfl⟩
        have HRW : Hid (∀ u, Below wo.heap.size wo u → Rdv u (.slice ka n1 kc) (sv xks)) := fun u hu => by rw [hwo] at hu; exact HR1.out.below hu
        have HQ : Hid (∀ z : Int, m + A + B + C ≤ z → z ≤ 4000 → m ≤ 4000 ∧ n3 ≤ 4000 ∧ n1 ≤ 4000 ∧ n2 ≤ 4000) := fun z h1 h2 => ⟨by omega, HA2.out (by have := HMM.out; omega), HB2.out (by have := HMM.out; omega), HC2.out (by have := HMM.out; omega)⟩
        have HWB : Hid (Below wo.heap.size wo (wr.alloc (.cells #[.int .i64 xk, .int .i64 xl, .string ⟨xt.toArray⟩, .bool xq, .slice ka n1 kc, .slice ia n2 ic] 50))) := by rw [hwo]; exact below_alloc _ _
        go_wp2
        generalize wr.alloc (.cells #[.int .i64 xk, .int .i64 xl, .string ⟨xt.toArray⟩, .bool xq, .slice ka n1 kc, .slice ia n2 ic] 50) = W1 at *
        obtain ⟨P, hP⟩ : ∃ P, wr.heap.size = P := ⟨_, rfl⟩
        rw [hP] at HNB ⊢
        clear d0 d1 d2 d3 d4 d5 e0 hP hwo HR1
        go_loopg [3, 6] n1 (fun g s3 s6 wx => ∃ (k : Nat) (z : Int), k + g = n1 ∧ s3 = .int .i64 z ∧ s6 = .int .i64 (k : Int) ∧ m + A + B + C ≤ z ∧ z ≤ 16100 ∧ Hid (Below w.heap.size w wx) ∧ Hid (Str wx w.heap.size 26 #[.slice (some ⟨b, off, none⟩) L cap]) ∧ Hid (Str wx P 50 #[.int .i64 xk, .int .i64 xl, .string ⟨xt.toArray⟩, .bool xq, .slice ka n1 kc, .slice ia n2 ic]) ∧ Hid (Below wo.heap.size wo wx) ∧ Hid (z ≤ 4000 → ∀ q ∈ xks.take k, q.length ≤ 4000))
        case atStart => exact ⟨0, _, by omega, rfl, rfl, by omega, by omega, HBX, HSX, HNB, HWB, Lib.hid (by simp)⟩
        case round =>
          clear HBX HSX HNB HWB
          obtain ⟨k, z, hk, rfl, rfl, hz0, hz1, HBX, HSX, HNB, HWB, HK⟩ := hrel
          have k4 : wr.cell? ⟨P, 4, none⟩ = some (.slice ka n1 kc) := HNB.out.cell 4
          have hzn : 0 ≤ z := by omega
          cases gk with
          | zero =>
            obtain rfl : n1 = k := by omega
            have HT2 : Hid (z ≤ 4000 → ∀ x ∈ ns.take (i + 1), Lit x) := by
              intro hz x hx'
              obtain ⟨q1, q2, q3, q4⟩ := HQ.out z hz0 hz
              rw [List.take_add_one, List.mem_append] at hx'
              rcases hx' with hx' | hx'
              · exact HT.out q1 x hx'
              · rw [HX.out] at hx'
                have : x = ⟨xk, xl, xt, xq, xks, xis⟩ := by simpa using hx'
                subst this
                refine ⟨by rw [H3.out]; exact q2, by rw [H1.out]; exact q3, by rw [H2.out]; exact q4, ?_⟩
                have := HK.out hz
                rwa [List.take_of_length_le (by have := H1.out; omega)] at this
            have hLz : (L : Int) ≤ z := by have := HMM.out; omega
            have hz9 : z ≤ 9223372036854775807 := by omega
            go_wp2
            go_roundg g
            case rel => exact ⟨i + 1, z, by omega, rfl, by first | rfl | (simp; done), hLz, hz9, HBX, HSX, HT2⟩
            case measure => omega
          | succ g2 =>
            have hkn : (k : Int) < (n1 : Int) := by omega
            have hk0 : (0 : Int) ≤ (k : Int) := by omega
            by_cases hz4 : z ≤ 4000
            · obtain ⟨q, hq⟩ : ∃ q, xks[k]? = some q := ⟨xks[k]'(by have := H1.out; omega), List.getElem?_eq_getElem _⟩
              obtain ⟨b3, o3, c3, e3, u3⟩ := (HRW.out _ HWB.out).atv (j := k) (u := .string ⟨q.toArray⟩) (by simp [sv, hq])
              simp only [Value.slice.injEq] at e3
              obtain ⟨rfl, -, -⟩ := e3
              obtain ⟨n5, h5⟩ : ∃ n, q.length = n := ⟨_, rfl⟩
              have hsq := str_size q
              rw [h5] at hsq
              have hn5 : n5 ≤ 9223372036854775807 := by rw [← h5]; exact HXT.out.2 q (List.mem_of_getElem? hq)
              obtain ⟨D, hD, hD0, hD1, hD2⟩ := min_letter n5
              have HK2 : Hid (z + D ≤ 4000 → ∀ y ∈ xks.take (k + 1), y.length ≤ 4000) := by
                intro hz y hy
                rw [List.take_add_one, List.mem_append] at hy
                rcases hy with hy | hy
                · exact HK.out (by omega) y hy
                · rw [hq] at hy
                  have : y = q := by simpa using hy
                  subst this
                  rw [h5]; exact hD2 (by omega)
              have hzD : m + A + B + C ≤ z + D := by omega
              clear hq h5 hD2
              go_wp2
              go_roundg g2
              case rel => exact ⟨k + 1, z + D, by omega, rfl, by first | rfl | (simp; done), hzD, by omega, HBX, HSX, HNB, HWB, HK2⟩
              case measure => omega
            · have gz : decide (z ≤ 4000) = false := decide_eq_false hz4
              have HT2 : Hid (z ≤ 4000 → ∀ x ∈ ns.take (i + 1), Lit x) := fun hz => absurd hz hz4
              have hLz : (L : Int) ≤ z := by have := HMM.out; omega
              have hz9 : z ≤ 9223372036854775807 := by omega
              go_wp2
              go_roundg g
              case rel => exact ⟨i + 1, z, by omega, rfl, by first | rfl | (simp; done), hLz, hz9, HBX, HSX, HT2⟩
              case measure => omega
      · have gz : decide (m ≤ 4000) = false := decide_eq_false hm4
        have hF := Lib.hid (fun (h : m ≤ 4000) => (absurd h hm4 : ns.length ≤ 4000 ∧ ∀ x ∈ ns, Lit x))
        go_wp2
        go_ret
        first | exact HvE.mk HB.out hF.out | exact ⟨true, rfl, HB.out, fun hh => by cases hh⟩
end Go.Proofs.YtmgalfdiiegjjaaGreatDoor
