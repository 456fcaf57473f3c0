/- Several texts in one. -/
import Derived.Test.YtmgalfdiiegjjaaDoorShW5
import Derived.Deep.LoopGhost
import Derived.Test.YtmgalfdiiegjjaaDoorSeg45
import Derived.Test.YtmgalfdiiegjjaaDoorSeg48
namespace Go.Proofs.YtmgalfdiiegjjaaDoor
open Go.RowKit

/-- A node that is looked at. -/
def Lit (x : SH.Ni) : Prop := x.text.length ≤ 4000 ∧ x.keys.length ≤ 4000 ∧ x.kids.length ≤ 4000 ∧ ∀ k ∈ x.keys, k.length ≤ 4000
def HvE (w : World) (ns : List SH.Ni) (e : Ending) (w' : World) : Prop := ∃ b, e = .returned (.bool b) ∧ Below w.heap.size w w' ∧ (b = false → ns.length ≤ 4000 ∧ ∀ x ∈ ns, Lit x)
theorem HvE.mk {w w' : World} {ns : List SH.Ni} {m : Int} (hb : Below w.heap.size w w') (h : m ≤ 4000 → ns.length ≤ 4000 ∧ ∀ x ∈ ns, Lit x) : HvE w ns (.returned (.bool (decide (4000 < m)))) w' :=
  ⟨_, rfl, hb, fun hh => h (by have := of_decide_eq_false hh; omega)⟩
theorem min_letter (n : Nat) : ∃ A : Int, min (n : Int) 4001 = A ∧ 0 ≤ A ∧ A ≤ 4001 ∧ (A ≤ 4000 → n ≤ 4000) := ⟨_, rfl, by omega, by omega, by omega⟩
set_option maxRecDepth 10000 in
set_option maxHeartbeats 16000000 in
theorem shheavy_any (v : Value) (ns : List SH.Ni) (w : World) (hr : Rdi w v ns) (htl : ∀ x ∈ ns, x.text.length ≤ 9223372036854775807 ∧ ∀ k ∈ x.keys, k.length ≤ 9223372036854775807) :
    Calls Tryd.prog 5 #[.agg #[v]] w (HvE w ns) := by
  obtain ⟨ao, cap, rfl, hlm⟩ := hr.slice
  unfold maxLen at hlm
  have HB0 := Lib.hid (below_alloc w (.cells #[.slice ao ns.length cap] 24))
  have HS0 := Lib.hid (Str.new w 24 #[.slice ao ns.length cap])
  have HR := Lib.hid hr
  have HTL := Lib.hid htl
  obtain ⟨L, hL⟩ : ∃ L, ns.length = L := ⟨_, rfl⟩
  have HL := Lib.hid hL
  rw [hL] at HS0 HB0 HR hlm ⊢
  have hLi : (L : Int) ≤ 9223372036854775807 := by omega
  have e0 := HS0.out.cell 0
  simp only [List.getElem?_toArray, List.getElem?_cons_zero] at e0
  clear hr htl hL hlm
  go_enter Tryd.func5, Tryd.ntmps5
  go_wp2
  generalize w.alloc (.cells #[.slice ao L cap] 24) = W at *
  clear e0
  go_loopg [3, 4] L (fun g s3 s4 wx => ∃ (i : Nat) (m : Int), i + g = L ∧ s3 = .int .i64 m ∧ s4 = .int .i64 (i : Int) ∧ (L : Int) ≤ m ∧ m ≤ 9223372036854775807 ∧ Hid (Below w.heap.size w wx) ∧ Hid (Str wx w.heap.size 24 #[.slice ao L cap]) ∧ Hid (m ≤ 4000 → ∀ x ∈ ns.take i, Lit x))
  case atStart => exact ⟨0, _, by omega, rfl, rfl, by omega, by omega, HB0, HS0, Lib.hid (by simp)⟩
  case round =>
    clear HB0 HS0
    obtain ⟨i, m, hi, rfl, rfl, hm0, hm1, HB, HS, HT⟩ := hrel
    have e0 : wr.cell? ⟨w.heap.size, 0, none⟩ = some (.slice ao L cap) := HS.out.cell 0
    have hgt : decide (m > 4000) = decide (4000 < m) := rfl
    cases gk with
    | zero =>
      obtain rfl : i = L := by omega
      have hF := Lib.hid (fun (h : m ≤ 4000) => (⟨by have := HL.out; omega, by have := HT.out h; rwa [List.take_of_length_le (by have := HL.out; omega)] at this⟩ : ns.length ≤ 4000 ∧ ∀ x ∈ ns, Lit x))
      go_wp2
      go_ret
      exact HvE.mk HB.out hF.out
    | succ g =>
      have hin : (i : Int) < (L : Int) := by omega
      have hi0 : (0 : Int) ≤ (i : Int) := by omega
      by_cases hm4 : m ≤ 4000
      · obtain ⟨x, hx⟩ : ∃ x, ns[i]? = some x := ⟨ns[i]'(by have := HL.out; omega), List.getElem?_eq_getElem _⟩
        obtain ⟨b, off, cap2, ka, kc, ia, ic, hv, c6, r1, r2⟩ := (HR.out.below HB.out).at hx
        simp only [Value.slice.injEq] at hv
        obtain ⟨rfl, -, -⟩ := hv
        have HX := Lib.hid hx
        have HXT := Lib.hid (HTL.out x (List.mem_of_getElem? hx))
        have HR1 := Lib.hid r1
        have l1 := r1.len_le
        rw [sv_len] at l1
        unfold maxLen at l1
        obtain ⟨xk, xl, xt, xq, xks, xis⟩ := x
        simp only at c6 HXT HR1 l1
        obtain ⟨n1, h1⟩ : ∃ n, xks.length = n := ⟨_, rfl⟩
        obtain ⟨n2, h2⟩ : ∃ n, xis.length = n := ⟨_, rfl⟩
        obtain ⟨n3, h3⟩ : ∃ n, xt.length = n := ⟨_, rfl⟩
        have hsz := str_size xt
        rw [h3] at hsz
        rw [h1, h2] at c6
        rw [h1] at HR1 l1
        have hn3 : n3 ≤ 9223372036854775807 := by rw [← h3]; exact HXT.out.1
        have l1i : (n1 : Int) ≤ 9223372036854775807 := by omega
        have H1 := Lib.hid h1
        have H2 := Lib.hid h2
        have H3 := Lib.hid h3
        obtain ⟨A, hA, hA0, hA1, hA2⟩ := min_letter n3
        obtain ⟨B, hB, hB0, hB1, hB2⟩ := min_letter n1
        obtain ⟨C, hC, hC0, hC1, hC2⟩ := min_letter n2
        have HA2 := Lib.hid hA2
        have HB2 := Lib.hid hB2
        have HC2 := Lib.hid hC2
        obtain ⟨d0, d1, d2, d3, d4, d5⟩ := c6
        simp only at d0 d1 d2 d3 d4 d5
        have HNB := Lib.hid (Str.new wr 37 #[.int .i64 xk, .int .i64 xl, .string ⟨xt.toArray⟩, .bool xq, .slice ka n1 kc, .slice ia n2 ic])
        have BX := below_alloc wr (.cells #[.int .i64 xk, .int .i64 xl, .string ⟨xt.toArray⟩, .bool xq, .slice ka n1 kc, .slice ia n2 ic] 37)
        have HBX := Lib.hid (below_trans HB.out BX)
        have HSX := Lib.hid (HS.out.below BX)
        have HM4 := Lib.hid hm4
        have HMM := Lib.hid hm0
        have hmn : 0 ≤ m := by omega
        clear h1 h2 h3 hx r1 r2 BX hA2 hB2 hC2 l1 hLi hm1
        obtain ⟨wo, hwo⟩ : ∃ wo, wo = wr := ⟨wr, rfl⟩
        have HRW : Hid (∀ u, Below wo.heap.size wo u → Rdv u (.slice ka n1 kc) (sv xks)) := fun u hu => by rw [hwo] at hu; exact HR1.out.below hu
        have HQ : Hid (∀ z : Int, m + A + B + C ≤ z → z ≤ 4000 → m ≤ 4000 ∧ n3 ≤ 4000 ∧ n1 ≤ 4000 ∧ n2 ≤ 4000) := fun z h1 h2 => ⟨by omega, HA2.out (by have := HMM.out; omega), HB2.out (by have := HMM.out; omega), HC2.out (by have := HMM.out; omega)⟩
        have HWB : Hid (Below wo.heap.size wo (wr.alloc (.cells #[.int .i64 xk, .int .i64 xl, .string ⟨xt.toArray⟩, .bool xq, .slice ka n1 kc, .slice ia n2 ic] 37))) := by rw [hwo]; exact below_alloc _ _
        go_wp2
        generalize wr.alloc (.cells #[.int .i64 xk, .int .i64 xl, .string ⟨xt.toArray⟩, .bool xq, .slice ka n1 kc, .slice ia n2 ic] 37) = W1 at *
        obtain ⟨P, hP⟩ : ∃ P, wr.heap.size = P := ⟨_, rfl⟩
        rw [hP] at HNB ⊢
        clear d0 d1 d2 d3 d4 d5 e0 hP hwo HR1
        go_loopg [3, 6] n1 (fun g s3 s6 wx => ∃ (k : Nat) (z : Int), k + g = n1 ∧ s3 = .int .i64 z ∧ s6 = .int .i64 (k : Int) ∧ m + A + B + C ≤ z ∧ z ≤ 16100 ∧ Hid (Below w.heap.size w wx) ∧ Hid (Str wx w.heap.size 24 #[.slice (some ⟨b, off, none⟩) L cap]) ∧ Hid (Str wx P 37 #[.int .i64 xk, .int .i64 xl, .string ⟨xt.toArray⟩, .bool xq, .slice ka n1 kc, .slice ia n2 ic]) ∧ Hid (Below wo.heap.size wo wx) ∧ Hid (z ≤ 4000 → ∀ q ∈ xks.take k, q.length ≤ 4000))
        case atStart => exact ⟨0, _, by omega, rfl, rfl, by omega, by omega, HBX, HSX, HNB, HWB, Lib.hid (by simp)⟩
        case round =>
          clear HBX HSX HNB HWB
          obtain ⟨k, z, hk, rfl, rfl, hz0, hz1, HBX, HSX, HNB, HWB, HK⟩ := hrel
          have k4 : wr.cell? ⟨P, 4, none⟩ = some (.slice ka n1 kc) := HNB.out.cell 4
          have hzn : 0 ≤ z := by omega
          cases gk with
          | zero =>
            obtain rfl : n1 = k := by omega
            have HT2 : Hid (z ≤ 4000 → ∀ x ∈ ns.take (i + 1), Lit x) := by
              intro hz x hx'
              obtain ⟨q1, q2, q3, q4⟩ := HQ.out z hz0 hz
              rw [List.take_add_one, List.mem_append] at hx'
              rcases hx' with hx' | hx'
              · exact HT.out q1 x hx'
              · rw [HX.out] at hx'
                have : x = ⟨xk, xl, xt, xq, xks, xis⟩ := by simpa using hx'
                subst this
                refine ⟨by rw [H3.out]; exact q2, by rw [H1.out]; exact q3, by rw [H2.out]; exact q4, ?_⟩
                have := HK.out hz
                rwa [List.take_of_length_le (by have := H1.out; omega)] at this
            have hLz : (L : Int) ≤ z := by have := HMM.out; omega
            have hz9 : z ≤ 9223372036854775807 := by omega
            go_wp2
            go_roundg g
            case rel => exact ⟨i + 1, z, by omega, rfl, by first | rfl | (simp; done), hLz, hz9, HBX, HSX, HT2⟩
            case measure => omega
          | succ g2 =>
            have hkn : (k : Int) < (n1 : Int) := by omega
            have hk0 : (0 : Int) ≤ (k : Int) := by omega
            by_cases hz4 : z ≤ 4000
            · obtain ⟨q, hq⟩ : ∃ q, xks[k]? = some q := ⟨xks[k]'(by have := H1.out; omega), List.getElem?_eq_getElem _⟩
              obtain ⟨b3, o3, c3, e3, u3⟩ := (HRW.out _ HWB.out).atv (j := k) (u := .string ⟨q.toArray⟩) (by simp [sv, hq])
              simp only [Value.slice.injEq] at e3
              obtain ⟨rfl, -, -⟩ := e3
              obtain ⟨n5, h5⟩ : ∃ n, q.length = n := ⟨_, rfl⟩
              have hsq := str_size q
              rw [h5] at hsq
              have hn5 : n5 ≤ 9223372036854775807 := by rw [← h5]; exact HXT.out.2 q (List.mem_of_getElem? hq)
              obtain ⟨D, hD, hD0, hD1, hD2⟩ := min_letter n5
              have HK2 : Hid (z + D ≤ 4000 → ∀ y ∈ xks.take (k + 1), y.length ≤ 4000) := by
                intro hz y hy
                rw [List.take_add_one, List.mem_append] at hy
                rcases hy with hy | hy
                · exact HK.out (by omega) y hy
                · rw [hq] at hy
                  have : y = q := by simpa using hy
                  subst this
                  rw [h5]; exact hD2 (by omega)
              have hzD : m + A + B + C ≤ z + D := by omega
              clear hq h5 hD2
              go_wp2
              go_roundg g2
              case rel => exact ⟨k + 1, z + D, by omega, rfl, by first | rfl | (simp; done), hzD, by omega, HBX, HSX, HNB, HWB, HK2⟩
              case measure => omega
            · have gz : decide (z ≤ 4000) = false := decide_eq_false hz4
              have HT2 : Hid (z ≤ 4000 → ∀ x ∈ ns.take (i + 1), Lit x) := fun hz => absurd hz hz4
              have hLz : (L : Int) ≤ z := by have := HMM.out; omega
              have hz9 : z ≤ 9223372036854775807 := by omega
              go_wp2
              go_roundg g
              case rel => exact ⟨i + 1, z, by omega, rfl, by first | rfl | (simp; done), hLz, hz9, HBX, HSX, HT2⟩
              case measure => omega
      · have gz : decide (m ≤ 4000) = false := decide_eq_false hm4
        have hF := Lib.hid (fun (h : m ≤ 4000) => (absurd h hm4 : ns.length ≤ 4000 ∧ ∀ x ∈ ns, Lit x))
        go_wp2
        go_ret
        first | exact HvE.mk HB.out hF.out | exact ⟨true, rfl, HB.out, fun hh => by cases hh⟩
end Go.Proofs.YtmgalfdiiegjjaaDoor

/- The walks of r1bytes, ShowTexts. -/
namespace Go.Proofs.YtmgalfdiiegjjaaDoor
open Go.RowKit

set_option maxHeartbeats 4000000 in
theorem r1bytes_any (va vb : Value) (T : List UInt8) (w : World) (ha : Rdv w va (bv T)) (hb : Rdv w vb (bv T)) :
    Calls Tryd.prog 11 #[va, vb] w fun e w' => e = .returned (.bool true) ∧ w' = w := by
  have c1 := run_string_rd (P := Tryd.prog) 27 5 9 Tryd.underlying27 Tryd.underlying5 Tryd.underlying9 ha
  have c2 := run_string_rd (P := Tryd.prog) 27 5 9 Tryd.underlying27 Tryd.underlying5 Tryd.underlying9 hb
  obtain ⟨ao, cap, rfl, -⟩ := ha
  obtain ⟨bo, cap', rfl, -⟩ := hb
  go_enter Tryd.func11, Tryd.ntmps11
  go_wp2
  go_ret
  exact ⟨rfl, rfl⟩
/-- A document of one text, laid. -/
theorem one_doc (w : World) (S : List UInt8) (q : Bool) (g : Nat) (hg : w.heap.size = g) : Rdi (w.alloc (.cells #[.int .i64 1, .int .i64 0, .string ⟨S.toArray⟩, .bool q, .slice none 0 0, .slice none 0 0] 37)) (.slice (some ⟨g, 0, none⟩) 1 1) [⟨1, 0, S, q, [], []⟩] := by
  subst hg
  have st := Str.new w 37 #[.int .i64 1, .int .i64 0, .string ⟨S.toArray⟩, .bool q, .slice none 0 0, .slice none 0 0]
  refine ⟨[(⟨1, 0, S, q, [], []⟩, .slice none 0 0, .slice none 0 0)], _, 1, rfl, rfl, by simp, by simp [maxLen], (by intro h; cases h), ?_, ?_⟩
  · intro j x hx
    refine ⟨_, 0, rfl, ?_⟩
    match j, hx with
    | 0, hx =>
      obtain rfl := Option.some.inj hx
      exact ⟨st.cell 0, st.cell 1, st.cell 2, st.cell 3, st.cell 4, st.cell 5⟩
    | j + 1, hx => simp at hx
  · intro a ha
    rw [List.mem_singleton] at ha
    subst ha
    exact ⟨Rdv.nil _, Rdv.nil _⟩
/-- One quoted text may be just if it has at most 200 bytes. -/
theorem one_code {S : List UInt8} {code : Int} {T : List UInt8} (h : SH.Tx [⟨1, 0, S, true, [], []⟩] code T) : (code == 0) = decide (S.length ≤ 200) := by
  have hc : SH.chkb [⟨1, 0, S, true, [], []⟩] = decide (S.length ≤ 200) := by
    unfold SH.chkb
    apply decide_eq_decide.2
    have e : SH.fits ⟨1, 0, S, true, [], []⟩ = decide (S.length ≤ 200) := by
      rw [SH.fits_1]; simp
    constructor
    · rintro ⟨_, _, h3⟩
      rw [SH.wk] at h3
      simp only [List.getElem?_cons_zero] at h3
      split at h3
      · rename_i h4
        rw [e] at h4
        exact of_decide_eq_true h4.2
      · cases h3
    · intro h
      refine ⟨by simp, by simp, ?_⟩
      rw [SH.wk]
      simp only [List.getElem?_cons_zero]
      rw [if_pos ⟨by omega, by rw [e]; exact decide_eq_true h⟩]
      rfl
  rcases h with ⟨h1, rfl, _⟩ | ⟨h1, t, ho, ⟨h2, rfl, _⟩ | ⟨h2, rfl, _⟩⟩
  · rw [← hc, h1]; rfl
  · exfalso
    have h3 := SH.show_T t 0 2 ho.god (by
      have := congrArg List.length ho.eq
      rw [List.length_map, List.length_map, SH.flatT_len] at this
      simp only [List.length_cons, List.length_nil] at this
      omega)
    have : SH.sizeT t = 1 := by
      have := congrArg List.length ho.eq
      rw [List.length_map, List.length_map, SH.flatT_len] at this
      simpa using this
    rw [this] at h3
    omega
  · rw [← hc, h1]; rfl
set_option maxRecDepth 10000 in
set_option maxHeartbeats 16000000 in
theorem showTexts_walk (s : ByteArray) (q : Bool) (w : World) (hs : s.size ≤ maxLen) (hm : MaxIs w) :
    Calls Tryd.prog 4 #[.string s, .bool q] w fun e w' => e = .returned (.bool true) ∧ Below w.heap.size w w' := by
  obtain ⟨⟨S⟩⟩ := s
  have hsz := str_size S
  obtain ⟨n, hn⟩ : ∃ n, S.length = n := ⟨_, rfl⟩
  have HN := Lib.hid hn
  rw [hn] at hsz
  have HM := Lib.hid hm
  by_cases h3 : 300 < n
  · have h3i : (300 : Int) < (n : Int) := by omega
    clear hn hs
    go_enter Tryd.func4, Tryd.ntmps4
    go_wp2_with (go_at_call 6; refine (awake13 w HM.out).mono ?_; rintro e w1 ⟨rfl, b1⟩; have B1 := Lib.hid b1; clear b1)
    go_ret
    exact ⟨rfl, B1.out⟩
  · have h3i : ¬ (300 : Int) < (n : Int) := by omega
    have b0 := below_alloc w (.cells #[.int .i64 1, .int .i64 0, .string ⟨S.toArray⟩, .bool q, .slice none 0 0, .slice none 0 0] 37)
    have hd := one_doc w S q w.heap.size rfl
    have z1 := bx_size w (.cells #[.int .i64 1, .int .i64 0, .string ⟨S.toArray⟩, .bool q, .slice none 0 0, .slice none 0 0] 37)
    have b1 := below_alloc (w.alloc (.cells #[.int .i64 1, .int .i64 0, .string ⟨S.toArray⟩, .bool q, .slice none 0 0, .slice none 0 0] 37)) (.cells #[.slice (some ⟨w.heap.size, 0, none⟩) 1 1] 24)
    have s1 := Str.new (w.alloc (.cells #[.int .i64 1, .int .i64 0, .string ⟨S.toArray⟩, .bool q, .slice none 0 0, .slice none 0 0] 37)) 24 #[.slice (some ⟨w.heap.size, 0, none⟩) 1 1]
    rw [z1] at s1
    have HD := Lib.hid (hd.below b1)
    have HB := Lib.hid (below_trans b0 b1)
    have HS1 := Lib.hid s1
    have HM2 := Lib.hid (hm.below HB.out)
    have k0 := s1.cell 0
    simp only [List.getElem?_toArray, List.getElem?_cons_zero] at k0
    obtain ⟨code, T, ht⟩ := SH.tx_some [⟨1, 0, S, q, [], []⟩]
    have hl2 : Lens2 [⟨1, 0, S, q, [], []⟩] := by
      intro x hx
      rw [List.mem_singleton] at hx
      subst hx
      exact ⟨by rw [hn]; omega, by simp, by simp⟩
    have HT1 := Lib.hid (shtext_any _ _ code T _ HD.out hl2 HM2.out ht)
    have HT2 := Lib.hid (fun (u : World) (hu : Below _ _ u) => shrtext_any _ _ code T u (HD.out.below hu) hl2.one ht)
    have HTX := Lib.hid ht
    clear hd z1 b0 b1 s1 ht hl2 hn hs hm
    go_enter Tryd.func4, Tryd.ntmps4
    go_upto_region 4 with fail
    generalize World.alloc (World.alloc _ _) _ = W at *
    have HAW := Lib.hid (fun (u : World) (hu : Below W.heap.size W u) => awake13 u (HM2.out.below hu))
    cases q with
    | false =>
      go_wp2_with (first
        | (go_at_call 6; refine (HAW.out _ B2.out).mono ?_; rintro e w4 ⟨rfl, b4⟩; have B4 := Lib.hid (below_trans B2.out b4); clear b4)
        | (go_at_call 11; refine (r1bytes_any _ _ T _ R1.out R2.out).mono ?_; rintro e w3 ⟨rfl, hw3⟩; replace hw3 := hw3.symm; subst hw3)
        | (go_at_call 8; refine (HT2.out _ B1.out).mono ?_; rintro e w2 ⟨v2, rfl, r2, b2⟩; have R2 := Lib.hid r2; have R1 := Lib.hid (R0.out.below b2); obtain ⟨ao2, cp2, rfl, -⟩ := r2; have B2 := Lib.hid (below_trans B1.out b2); clear b2)
        | (go_at_call 7; refine HT1.out.mono ?_; rintro e w1 ⟨v1, rfl, r1, b1⟩; have R0 := Lib.hid r1; obtain ⟨ao1, cp1, rfl, -⟩ := r1; have B1 := Lib.hid b1; have k1 := (b1.cell (cell_lt k0)).trans k0; clear b1))
      go_ret
      exact ⟨rfl, below_trans HB.out B4.out⟩
    | true =>
      have HC := Lib.hid (one_code HTX.out)
      obtain ⟨CB, hCB⟩ : ∃ CB, decide (S.length ≤ 200) = CB := ⟨_, rfl⟩
      have hc0 : (code == 0) = CB := by rw [HC.out, hCB]
      have hd0 : decide ((n : Int) ≤ 200) = CB := by
        rw [← hCB]
        exact decide_eq_decide.2 (by have := HN.out; omega)
      have hd1 : decide (n ≤ 200) = CB := by
        rw [← hCB]
        exact decide_eq_decide.2 (by have := HN.out; omega)
      clear hCB
      go_wp2_with (first
        | (go_at_call 6; refine (HAW.out _ B2.out).mono ?_; rintro e w4 ⟨rfl, b4⟩; have B4 := Lib.hid (below_trans B2.out b4); clear b4)
        | (go_at_call 11; refine (r1bytes_any _ _ T _ R1.out R2.out).mono ?_; rintro e w3 ⟨rfl, hw3⟩; replace hw3 := hw3.symm; subst hw3)
        | (go_at_call 8; refine (HT2.out _ B1.out).mono ?_; rintro e w2 ⟨v2, rfl, r2, b2⟩; have R2 := Lib.hid r2; have R1 := Lib.hid (R0.out.below b2); obtain ⟨ao2, cp2, rfl, -⟩ := r2; have B2 := Lib.hid (below_trans B1.out b2); clear b2)
        | (go_at_call 7; refine HT1.out.mono ?_; rintro e w1 ⟨v1, rfl, r1, b1⟩; have R0 := Lib.hid r1; obtain ⟨ao1, cp1, rfl, -⟩ := r1; have B1 := Lib.hid b1; have k1 := (b1.cell (cell_lt k0)).trans k0; clear b1))
      go_ret
      exact ⟨rfl, below_trans HB.out B4.out⟩
end Go.Proofs.YtmgalfdiiegjjaaDoor
