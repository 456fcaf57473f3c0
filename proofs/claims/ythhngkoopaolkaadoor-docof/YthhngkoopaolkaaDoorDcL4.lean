/- The law DocOf. -/
import Derived.Test.YthhngkoopaolkaaDoorDcV
import Derived.Test.YthhngkoopaolkaaDoorDcTO
namespace Go.Proofs.YthhngkoopaolkaaDoor
open Go.RowKit

theorem nodes_len (l : List LX.Pc) : (DC.nodes l).length ≤ 2000 := by
  unfold DC.nodes
  cases h : DC.doc l with
  | bad k n => simp
  | ok E =>
    unfold DC.doc at h
    split at h
    · cases h
    · obtain ⟨a, h1, h2⟩ := DC.bind_ok h
      obtain ⟨e, r⟩ := a
      have h3 := (DC.blk_fine h1).1.many
      cases r with
      | nil => simp only [DC.Out.ok.injEq] at h2; subst h2; simpa using h3
      | cons q r => cases h2
set_option maxRecDepth 10000 in
set_option maxHeartbeats 8000000 in
theorem docOf_walk (v : Value) (ls : List LX.Pc) (w : World) (hr : Rdp w v ls) (hf : ∀ x ∈ ls, x.2.2.2.1.length ≤ 9223372036854775807) (hm : MaxIs w) :
    Calls Tryd.prog 3 #[v] w fun e w' => e = .returned (.bool true) ∧ Below w.heap.size w w' := by
  have HAW := Lib.hid (awake12 w hm)
  have HM := Lib.hid hm
  have HF := Lib.hid hf
  have HRD := Lib.hid hr
  obtain ⟨ao, cap, rfl, h1, h2, h3, h4⟩ := hr
  obtain ⟨L, hL⟩ : ∃ L, ls.length = L := ⟨_, rfl⟩
  have HL := Lib.hid hL
  have H4 := Lib.hid h4
  rw [hL] at h1 HRD ⊢
  unfold maxLen at h2
  have hll : (L : Int) ≤ 9223372036854775807 := by omega
  clear h1 h2 h3 h4 hf hL hm
  by_cases hbig : 2100 < L
  · have hb1 : (2100 : Int) < (L : Int) := by omega
    go_enter Tryd.func3, Tryd.ntmps3
    go_wp2_with (go_at_call 7; refine HAW.out.mono ?_; rintro e w1 ⟨rfl, hb⟩)
    go_ret
    exact ⟨rfl, hb⟩
  have hb1 : ¬ (2100 : Int) < (L : Int) := by omega
  obtain ⟨NS, hNS⟩ : ∃ NS, DC.nodes ls = NS := ⟨_, rfl⟩
  obtain ⟨M, hMM⟩ : ∃ M, NS.length = M := ⟨_, rfl⟩
  obtain ⟨K, N, hKN⟩ : ∃ K N, DC.fault ls = (K, N) := ⟨_, _, rfl⟩
  have hq := eq_fault K N
  have hg2 := fault_guard
  have HNS := Lib.hid hNS
  have HMM := Lib.hid hMM
  have HKN := Lib.hid hKN
  have HNL : Hid (NS.length ≤ 2000) := by show _ ≤ _; rw [← hNS]; exact nodes_len ls
  have HO := Lib.hid (of_any _ ls w HRD.out HF.out)
  have HRO := Lib.hid (fun (u : World) (h : Rdp u (.slice ao L cap) ls) => rof_any _ ls u h (by have := HL.out; omega))
  clear hNS hMM hKN hbig
  go_enter Tryd.func3, Tryd.ntmps3
  go_wp2
  go_loopg [3] L (fun g s3 wx => ∃ (i : Nat), i + g = L ∧ s3 = .int .i64 (i : Int) ∧ wx = w)
  case atStart => exact ⟨0, by omega, rfl, rfl⟩
  case round =>
    obtain ⟨i, hi, rfl, rfl⟩ := hrel
    cases gk with
    | succ g =>
      have hin : (i : Int) < (L : Int) := by omega
      have hi0 : (0 : Int) ≤ (i : Int) := by omega
      obtain ⟨x, hx⟩ : ∃ x, ls[i]? = some x := ⟨ls[i]'(by have := HL.out; omega), List.getElem?_eq_getElem _⟩
      obtain ⟨b, off, rfl, c⟩ := H4.out i x hx
      have d3 := c.c3
      have xsz := str_size x.2.2.2.1
      have hxl := HF.out x (List.mem_of_getElem? hx)
      obtain ⟨m, hm⟩ : ∃ m, x.2.2.2.1.length = m := ⟨_, rfl⟩
      rw [hm] at xsz hxl
      clear c hx hm
      by_cases h3 : 300 < m
      · have h3i : (300 : Int) < (m : Int) := by omega
        go_wp2_with (go_at_call 7; refine HAW.out.mono ?_; rintro e w1 ⟨rfl, hb⟩)
        go_ret
        exact ⟨rfl, hb⟩
      · have h3i : ¬ (300 : Int) < (m : Int) := by omega
        go_wp2
        go_roundg g
        case rel => exact ⟨i + 1, by omega, by first | rfl | (simp; done), rfl⟩
        case measure => omega
    | zero =>
      obtain rfl : i = L := by omega
      clear HAW
      go_wp2_with fail
      refine HO.out.mono ?_
      rintro e w1 he
      obtain ⟨a1, c1, rfl, r1, b1⟩ := aw_of HNS.out HKN.out HMM.out he
      obtain ⟨z1, z2⟩ := var2 w1
      obtain ⟨s1, s2, s3⟩ := two_vars w1 (.slice a1 M c1) (.int .i64 K) (.int .i64 N)
      have HB1 := Lib.hid (below_trans b1 s3)
      have HS1 := Lib.hid s1
      have HF1 := Lib.hid s2
      have HR1 := Lib.hid (r1.below s3)
      have H2 := Lib.hid (HRO.out _ (HRD.out.below HB1.out))
      clear he r1 b1 s1 s2 s3 HO HRO
      go_wp2_with fail
      clear z1 z2
      refine H2.out.mono ?_
      rintro e w2 he
      obtain ⟨a2, c2, rfl, r2, b2⟩ := aw_of HNS.out HKN.out HMM.out he
      obtain ⟨z1, z2⟩ := var2 w2
      obtain ⟨s1, s2, s3⟩ := two_vars w2 (.slice a2 M c2) (.int .i64 K) (.int .i64 N)
      have b3 := below_trans b2 s3
      have HB2 := Lib.hid (below_trans HB1.out b3)
      have HF2 := Lib.hid (HF1.out.below b3)
      have HG2 := Lib.hid s2
      have e1 := (HS1.out.below b3).cell 0
      have e2 := s1.cell 0
      have HAL := Lib.hid (dalike_any _ _ NS _ (HR1.out.below b3) (r2.below s3) (by have := HNL.out; omega))
      simp only [List.getElem?_toArray, List.getElem?_cons_zero] at e1 e2
      clear he r2 b2 s1 s2 s3 b3 H2 HB1 HS1 HF1 HR1
      go_wp2_with fail
      refine HAL.out.mono ?_
      rintro e w3 ⟨rfl, b4⟩
      have HB3 := Lib.hid (below_trans HB2.out b4)
      obtain ⟨f0, f1⟩ := (HF2.out.below b4).cells2
      obtain ⟨g0, g1⟩ := (HG2.out.below b4).cells2
      clear b4 HAL HF2 HG2 e1 e2 z1 z2
      go_wp2_with (go_at_call 7; refine (awake12 _ (HM.out.below HB3.out)).mono ?_; rintro e w4 ⟨rfl, hb4⟩)
      go_ret
      exact ⟨rfl, below_trans HB3.out hb4⟩
end Go.Proofs.YthhngkoopaolkaaDoor
