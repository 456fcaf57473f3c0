/- Several texts in one. -/
import Derived.Test.YtmgalfdiiegjjaaDoorShW5
import Derived.Test.YtmgalfdiiegjjaaDoorSeg35
import Derived.BigQuiet
import Derived.Deep.RegionHeld3
import Derived.Test.YtmgalfdiiegjjaaDoorShW10
namespace Go.Proofs.YtmgalfdiiegjjaaDoor
open Go.RowKit

set_option maxRecDepth 10000 in
set_option maxHeartbeats 16000000 in
theorem rcheck_any (v : Value) (ns : List SH.Ni) (w : World) (hr : Rdi w v ns) (hl : Lens ns) :
    Calls Tryd.prog 10 #[.agg #[v]] w fun e w' => e = .returned (.bool (SH.chkb ns)) ∧ Below w.heap.size w w' := by
  obtain ⟨ao, cap, rfl, hlm⟩ := hr.slice
  unfold maxLen at hlm
  obtain ⟨K, HK⟩ : ∃ K, Hid (K = SH.chkb ns) := ⟨_, Lib.hid rfl⟩
  rw [← HK.out]
  have B1 := below_trans (below_alloc w (.cells #[.slice ao ns.length cap] 24)) (below_drew _)
  have HB := Lib.hid B1
  have HB0 := Lib.hid (below_alloc w (.cells #[.slice ao ns.length cap] 24))
  have HS := Lib.hid ((Str.new w 24 #[.slice ao ns.length cap]).below (below_drew _))
  have HC := Lib.hid (rwalk_all 25 _ ns 0 1 _ (hr.below B1) hl rfl (Nat.zero_le _))
  obtain ⟨L, hL⟩ : ∃ L, ns.length = L := ⟨_, rfl⟩
  have HL := Lib.hid hL
  rw [hL] at hlm HC HS HB HB0 ⊢
  have e0 : (w.alloc (.cells #[.slice ao L cap] 24)).drew.cell? ⟨w.heap.size, 0, none⟩ = some (.slice ao L cap) := HS.out.cell 0
  have e00 : (w.alloc (.cells #[.slice ao L cap] 24)).cell? ⟨w.heap.size, 0, none⟩ = some (.slice ao L cap) := e0
  have hL9 : (L : Int) ≤ 9223372036854775807 := by omega
  clear hr hl hL B1
  by_cases h1 : 1 ≤ L
  · have h1i : (1 : Int) ≤ (L : Int) := by omega
    by_cases h2 : L ≤ 2000
    · have h2i : (L : Int) ≤ 2000 := by omega
      have d1 : decide ((1 : Int) ≤ (L : Int)) = true := decide_eq_true h1i
      have d2 : decide ((L : Int) ≤ 2000) = true := decide_eq_true h2i
      have d3 : decide (1 ≤ L) = true := decide_eq_true h1
      have d4 : decide (L ≤ 2000) = true := decide_eq_true h2
      obtain ⟨O, hO⟩ : ∃ O, SH.wk ns 25 0 1 = O := ⟨_, rfl⟩
      have HO := Lib.hid hO
      rw [hO] at HC
      obtain ⟨Z, hZ⟩ : ∃ Z, wv O = Z := ⟨_, rfl⟩
      have HZ := Lib.hid hZ
      rw [hZ] at HC
      have HE : Hid (K = (Z == (L : Int))) := by
        show K = _
        rw [HK.out, ← hZ]
        cases O with
        | none =>
          rw [show SH.chkb ns = false from decide_eq_false (fun h => by have := h.2.2; rw [hO] at this; cases this)]
          show false = ((-1 : Int) == (L : Int))
          symm; simp
        | some m =>
          by_cases hm : m = L
          · rw [show SH.chkb ns = true from decide_eq_true ⟨by have := HL.out; omega, by have := HL.out; omega, by rw [hO, HL.out, hm]⟩, hm]
            show true = ((L : Int) == (L : Int))
            simp
          · rw [show SH.chkb ns = false from decide_eq_false (fun h => by have := h.2.2; rw [hO, HL.out] at this; exact hm (Option.some.inj this))]
            show false = ((m : Int) == (L : Int))
            symm; simp; omega
      clear hO hZ
      go_enter Tryd.func10, Tryd.ntmps10
      go_wp2
      go_region_held3 (fun x => x.cell? ⟨w.heap.size, 0, none⟩ = some (.slice ao L cap)) (first | exact e0 | exact f0) (first
        | (go_at_call 17; refine HC.out.mono ?_; rintro e w4 ⟨rfl, b4⟩; have f0 : w4.cell? ⟨w.heap.size, 0, none⟩ = some (.slice ao L cap) := (HS.out.below b4).cell 0; have B4 := Lib.hid (below_trans HB.out b4); clear b4))
      all_goals
        go_wp2
        go_ret
        exact ⟨by rw [HE.out]; rfl, B4.out⟩
    · have h2i : ¬ (L : Int) ≤ 2000 := by omega
      have d1 : decide ((1 : Int) ≤ (L : Int)) = true := decide_eq_true h1i
      have d2 : decide ((L : Int) ≤ 2000) = false := decide_eq_false h2i
      have d3 : decide (1 ≤ L) = true := decide_eq_true h1
      have d4 : decide (L ≤ 2000) = false := decide_eq_false h2
      have E : K = false := by
        rw [HK.out]
        exact decide_eq_false (fun h => h2 (by have := h.2.1; have := HL.out; omega))
      subst E
      clear h1 h1i h2 h2i
      go_enter Tryd.func10, Tryd.ntmps10
      go_wp2
      go_quiet (fail)
      go_wp2
      go_ret
      exact ⟨rfl, below_trans HB0.out (below_drewN _ _)⟩
  · obtain rfl : L = 0 := by omega
    have E : K = false := by
      rw [HK.out]
      exact decide_eq_false (fun h => by have := h.1; have := HL.out; omega)
    subst E
    clear h1
    go_enter Tryd.func10, Tryd.ntmps10
    go_wp2
    go_quiet (fail)
    go_wp2
    go_ret
    exact ⟨rfl, below_trans HB0.out (below_drewN _ _)⟩
end Go.Proofs.YtmgalfdiiegjjaaDoor

/- The document's own show at any tree; the walk of its Text. -/
namespace Go.Proofs.YtmgalfdiiegjjaaDoor
open Go.RowKit

theorem tsize_pos (t : SH.Tr) : 1 ≤ SH.sizeT t := by cases t <;> simp [SH.sizeT]
theorem sw_all : ∀ s, SwC s := by
  intro s
  induction s with
  | zero =>
    intro t ns n c w0 wa w vd v bs hs
    have := tsize_pos t
    omega
  | succ s ih =>
    intro t ns n c w0 wa w vd v bs hs hr ha h hln hl hc
    cases t with
    | text S q =>
      rw [SH.showT] at hl ⊢
      exact tshow_text ns n c w0 wa w vd v bs S q hr ha h hln (by omega)
    | list k =>
      rw [SH.showT] at hl ⊢
      rw [SH.sizeT] at hs hc
      exact tshow_list ih k (by omega) ns n c w0 wa w vd v bs hr ha h hln hl (by omega)
    | map k =>
      rw [SH.showT] at hl ⊢
      rw [SH.sizeT] at hs hc
      exact tshow_map ih k (by omega) ns n c w0 wa w vd v bs hr ha h hln hl (by omega)
/-- What Text answers, at its end. -/
def RxE (w : World) (code : Int) (T : List UInt8) (e : Ending) (w' : World) : Prop := ∃ v, e = .returned (.tuple #[v, .int .i64 code]) ∧ Rdv w' v (bv T) ∧ Below w.heap.size w w'
set_option maxRecDepth 10000 in
set_option maxHeartbeats 16000000 in
theorem shrtext_any (v : Value) (ns : List SH.Ni) (code : Int) (T : List UInt8) (w : World) (hr : Rdi w v ns) (hl : Lens ns) (ht : SH.Tx ns code T) :
    Calls Tryd.prog 8 #[.agg #[v]] w (RxE w code T) := by
  obtain ⟨ao, cap, rfl, hlm⟩ := hr.slice
  have B0 := below_alloc w (.cells #[.slice ao ns.length cap] 24)
  have HB0 := Lib.hid B0
  have HS0 := Lib.hid (Str.new w 24 #[.slice ao ns.length cap])
  have HC := Lib.hid (rcheck_any _ ns _ (hr.below B0) hl)
  have HR := Lib.hid hr
  have e0 := HS0.out.cell 0
  simp only [List.getElem?_toArray, List.getElem?_cons_zero] at e0
  rcases ht with ⟨hk, rfl, rfl⟩ | ⟨hk, t, ho, ht⟩
  · rw [hk] at HC
    clear hr hl hk hlm B0
    obtain ⟨L, hL⟩ : ∃ L, ns.length = L := ⟨_, rfl⟩
    rw [hL] at HC HS0 HB0 HR e0 ⊢
    clear hL
    go_enter Tryd.func8, Tryd.ntmps8
    go_wp2_with (go_at_call 10; refine HC.out.mono ?_; rintro e w2 ⟨rfl, b2⟩; have B2 := Lib.hid (below_trans HB0.out b2); clear b2)
    go_ret2
    exact ⟨_, rfl, Rdv.nil _, B2.out⟩
  · rw [hk] at HC
    have HO := Lib.hid ho
    have HT := Lib.hid ht
    clear hr hl hk hlm B0 ho ht
    have HBW := Lib.hid (fun (w1 : World) (h1 : Rdi w1 (.slice ao ns.length cap) ns) => sw_all (SH.sizeT t) t ns 0 0 w1 w1 w1 (.slice ao ns.length cap) (.slice none 0 0) [] (Nat.le_refl _) h1 HO.out.at ⟨Below.refl _ _, Ku.refl _, Own.nil _ _ _⟩ (fun x hx => ⟨by have := (HO.out.lens x hx).1; omega, fun k hk => by have := (HO.out.lens x hx).2.1 k hk; omega⟩) (by have := HO.out.len; simp only [List.length_nil]; omega) (by have := HO.out.size; omega))
    rw [List.nil_append] at HBW
    obtain ⟨L, hL⟩ : ∃ L, ns.length = L := ⟨_, rfl⟩
    rw [hL] at HC HS0 HB0 HR HBW e0 ⊢
    clear hL
    obtain ⟨R, hR⟩ : ∃ R, SH.showT t 0 = R := ⟨_, rfl⟩
    rw [hR] at HBW HT
    rw [show ((0 : Nat) : Int) = 0 from rfl] at HBW
    have hRl : R.length ≤ 40000000 := by rw [← hR]; exact HO.out.len
    clear hR
    go_enter Tryd.func8, Tryd.ntmps8
    go_upto_region 3 with (go_at_call 10; refine HC.out.mono ?_; rintro e w2 ⟨rfl, b2⟩)
    have B2 := Lib.hid (below_trans HB0.out b2)
    have HX := Lib.hid (HBW.out w2 (HR.out.below B2.out))
    have f0 : w2.cell? ⟨w.heap.size, 0, none⟩ = some (.slice ao L cap) := (HS0.out.below b2).cell 0
    clear b2 e0
    rcases HT.out with ⟨h6, rfl, rfl⟩ | ⟨h6, rfl, rfl⟩
    · obtain ⟨m, hm⟩ : ∃ m, R.length = m := ⟨_, rfl⟩
      rw [hm] at h6 hRl
      have h6i : (60000 : Int) < (m : Int) := by omega
      have HM := Lib.hid hm
      clear hm
      go_wp2_with (go_at_call 15; refine HX.out.mono ?_; rintro e w3 ⟨a3, n3, c3, rfl, s3⟩; obtain ⟨ao3, cp3, hv3, -⟩ := s3.own.rd; rw [bv_len, HM.out] at hv3; simp only [Value.slice.injEq] at hv3; obtain ⟨-, hn3, -⟩ := hv3; subst hn3; have S3 := Lib.hid s3; clear s3)
      go_ret2
      exact ⟨_, rfl, Rdv.nil _, below_trans B2.out S3.out.bl⟩
    · obtain ⟨m, hm⟩ : ∃ m, T.length = m := ⟨_, rfl⟩
      rw [hm] at h6 hRl
      have h6i : ¬ (60000 : Int) < (m : Int) := by omega
      have HM := Lib.hid hm
      clear hm
      go_wp2_with (go_at_call 15; refine HX.out.mono ?_; rintro e w3 ⟨a3, n3, c3, rfl, s3⟩; obtain ⟨ao3, cp3, hv3, -⟩ := s3.own.rd; rw [bv_len, HM.out] at hv3; simp only [Value.slice.injEq] at hv3; obtain ⟨-, hn3, -⟩ := hv3; subst hn3; have S3 := Lib.hid s3; clear s3)
      go_ret2
      exact ⟨_, rfl, S3.out.own.rd, below_trans B2.out S3.out.bl⟩
end Go.Proofs.YtmgalfdiiegjjaaDoor
