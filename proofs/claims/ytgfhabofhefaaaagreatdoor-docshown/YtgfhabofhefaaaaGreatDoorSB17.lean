/- A part of the proof. -/
import Derived.Test.YtgfhabofhefaaaaGreatDoorSB01
import Derived.Test.YtgfhabofhefaaaaGreatDoorSB06
import Derived.Test.YtgfhabofhefaaaaGreatDoorSB05
import Derived.Deep.LoopGhost
namespace Go.Proofs.YtgfhabofhefaaaaGreatDoor
open Go.RowKit
def stS (l : List UInt8) : List UInt8 := (LN.strip l).getD []
def stB (l : List UInt8) : Bool := (LN.strip l).isSome
theorem st_ret {l : List UInt8} {e : Nat} {P : Prop} {F : Option Nat} (hF : F = LN.fin l 0 (.out true)) (h : F = some e) (hp : P) : Ending.returned (.tuple #[.string ⟨(Lib.trimRightB (l.take e) 32).toArray⟩, .bool true]) = .returned (.tuple #[.string ⟨(stS l).toArray⟩, .bool (stB l)]) ∧ P := by
  refine ⟨?_, hp⟩
  unfold stS stB LN.strip
  rw [← hF, h]; rfl
theorem st_none {l : List UInt8} {P : Prop} {F : Option Nat} (hF : F = LN.fin l 0 (.out true)) (h : F = none) (hp : P) : Ending.returned (.tuple #[.string ⟨#[]⟩, .bool false]) = .returned (.tuple #[.string ⟨(stS l).toArray⟩, .bool (stB l)]) ∧ P := by
  refine ⟨?_, hp⟩
  unfold stS stB LN.strip
  rw [← hF, h]; rfl
theorem cut_front (l : List UInt8) (k : Nat) : (⟨l.toArray⟩ : ByteArray).extract 0 k = ⟨(l.take k).toArray⟩ := by
  rw [ByteArray.extract_mk]
  simp
theorem cut_back {l : List UInt8} {L : Nat} (h : l.length = L) (k : Nat) : (⟨l.toArray⟩ : ByteArray).extract k L = ⟨(l.drop k).toArray⟩ := by
  rw [ByteArray.extract_mk]
  simp
  rw [← h, List.take_of_length_le (by simp)]
def fr (l : List UInt8) (k : Nat) : Bool := decide (k = 0) || decide (l[k - 1]? = some 32)
theorem fr_next {l : List UInt8} {k : Nat} {c : UInt8} (h : l[k]? = some c) : fr l (k + 1) = (c == 32) := by
  unfold fr
  simp [h]
  by_cases hc : c = 32
  · simp [hc]
  · simp [hc]
theorem fr_cases (l : List UInt8) (k : Nat) (hk : k ≤ l.length) : (fr l k = true ∧ k = 0) ∨ ∃ p c, k = p + 1 ∧ l[p]? = some c ∧ fr l k = (c == 32) := by
  cases k with
  | zero => exact .inl ⟨rfl, rfl⟩
  | succ p =>
    obtain ⟨c, hc⟩ : ∃ c, l[p]? = some c := ⟨l[p]'(by omega), List.getElem?_eq_getElem _⟩
    exact .inr ⟨p, c, rfl, hc, fr_next hc⟩
theorem has2 {l : List UInt8} {k : Nat} (h : l[k]? = some 39) : Lib.hasPrefix (l.drop k) [39, 39] = decide (l[k + 1]? = some 39) := by
  rw [LN.drop_of h]
  cases hd : l.drop (k + 1) with
  | nil =>
    have : l[k + 1]? = none := List.getElem?_eq_none (List.drop_eq_nil_iff.1 hd)
    rw [this]; rfl
  | cons y r =>
    have hy : l[k + 1]? = some y := by
      have := congrArg (·[0]?) hd
      simpa using this
    rw [hy]
    show ((39 : UInt8) == 39 && ((39 : UInt8) == y && List.isPrefixOf [] r)) = _
    by_cases hc : y = 39
    · subst hc; simp
    · have : ((39 : UInt8) == y) = false := beq_eq_false_iff_ne.2 fun e => hc e.symm
      rw [this]; simp [hc]
theorem has2_no {l : List UInt8} {k : Nat} {c : UInt8} (h : l[k]? = some c) (hc : c ≠ 39) : Lib.hasPrefix (l.drop k) [39, 39] = false := by
  rw [LN.drop_of h]
  show ((39 : UInt8) == c && _) = _
  have : ((39 : UInt8) == c) = false := beq_eq_false_iff_ne.2 fun e => hc e.symm
  rw [this]; rfl
theorem trim_r (l : List UInt8) (k : Nat) (w : World) (hk : k ≤ 20000) : Calls Tryz.prog 121 #[.string ((⟨l.toArray⟩ : ByteArray).extract 0 k), .string ⟨#[32]⟩] w fun e w' => e = .returned (.string ⟨(Lib.trimRightB (l.take k) 32).toArray⟩) ∧ w' = w := by
  rw [cut_front]
  exact Tryz.strings_TrimRight_one ⟨(l.take k).toArray⟩ 32 (by decide) w (by rw [str_size]; simp; omega)
theorem trim_0 (w : World) : Calls Tryz.prog 121 #[.string ByteArray.empty, .string ⟨#[32]⟩] w fun e w' => e = .returned (.string ⟨#[]⟩) ∧ w' = w := Tryz.strings_TrimRight_one ByteArray.empty 32 (by decide) w (by decide)
theorem st_ret0 {l : List UInt8} {P : Prop} {F : Option Nat} (hF : F = LN.fin l 0 (.out true)) (h : F = some 0) (hp : P) : Ending.returned (.tuple #[.string ⟨#[]⟩, .bool true]) = .returned (.tuple #[.string ⟨(stS l).toArray⟩, .bool (stB l)]) ∧ P := by
  refine ⟨?_, hp⟩
  unfold stS stB LN.strip
  rw [← hF, h]; rfl
theorem has_p {l : List UInt8} {L : Nat} (hL : l.length = L) (k : Nat) (b : Bool) (hb : Lib.hasPrefix (l.drop k) [39, 39] = b) (w : World) : Calls Tryz.prog 120 #[.string ((⟨l.toArray⟩ : ByteArray).extract k L), .string ⟨#[39, 39]⟩] w fun e w' => e = .returned (.bool b) ∧ w' = w := by
  rw [cut_back hL, ← hb]
  exact Tryz.strings_HasPrefix ⟨(l.drop k).toArray⟩ ⟨#[39, 39]⟩ w
theorem sign4 (c : UInt8) : c = 35 ∨ c = 39 ∨ c = 34 ∨ (c ≠ 35 ∧ c ≠ 39 ∧ c ≠ 34) := by
  by_cases h1 : c = 35
  · exact .inl h1
  · by_cases h2 : c = 39
    · exact .inr (.inl h2)
    · by_cases h3 : c = 34
      · exact .inr (.inr (.inl h3))
      · exact .inr (.inr (.inr ⟨h1, h2, h3⟩))
theorem ne_z {c : UInt8} {z : Int} (hz : (c.toNat : Int) = z) (n : Nat) (hn : n < 256) (h : c ≠ UInt8.ofNat n) : ¬ z = (n : Int) := by
  intro e
  apply h
  apply UInt8.toNat_inj.1
  rw [UInt8.toNat_ofNat_of_lt' (by simpa using hn)]
  omega
theorem sign_z {c : UInt8} {z : Int} (hz : (c.toNat : Int) = z) (h1 : c ≠ 35) (h2 : c ≠ 39) (h3 : c ≠ 34) : ¬ z = 35 ∧ ¬ z = 39 ∧ ¬ z = 34 := ⟨ne_z hz 35 (by decide) h1, ne_z hz 39 (by decide) h2, ne_z hz 34 (by decide) h3⟩
set_option maxHeartbeats 4000000 in
theorem strip_any (l : List UInt8) (hl : l.length ≤ 20000) (w : World) :
    Calls Tryz.prog 84 #[.string ⟨l.toArray⟩] w fun e w' => e = .returned (.tuple #[.string ⟨(stS l).toArray⟩, .bool (stB l)]) ∧ w' = w := by
  have hsz := str_size l
  obtain ⟨L, hLI⟩ : ∃ L : Nat, l.length = L := ⟨_, rfl⟩
  rw [hLI] at hsz
  have hl9 : L ≤ 20000 := by omega
  have HL := Lib.hid hLI
  have CF := Lib.hid (cut_front l)
  have CB := Lib.hid (cut_back hLI)
  clear hl hLI
  obtain ⟨F, HF0⟩ : ∃ F, Hid (F = LN.fin l 0 (.out true)) := ⟨_, rfl⟩
  go_enter Tryz.func84, Tryz.ntmps84
  go_wp2
  go_step3
  go_wp2
  go_step3
  go_wp2
  go_loopg [4, 5] L (fun g s4 s5 wr => ∃ k : Nat, k + g = L ∧ s4 = .int .i64 (L : Int) ∧ s5 = .int .i64 (k : Int) ∧ wr = w ∧ Hid (F = LN.fin l k (.out (fr l k))))
  case atStart => exact ⟨0, by omega, rfl, rfl, rfl, HF0⟩
  case round =>
    obtain ⟨k, hk, rfl, rfl, rfl, HF⟩ := hrel
    cases gk with
    | zero =>
      obtain rfl : k = L := by omega
      have E := Lib.hid (show F = some k from HF.out.trans (LN.fin_end HL.out))
      have T := trim_r l k wr (by omega)
      go_wp2_with (go_at_call 121; refine T.mono ?_; rintro e w' ⟨rfl, rfl⟩)
      try rw [Exit.noGoto_ret]
      go_ret2
      exact st_ret HF0.out E.out rfl
    | succ g =>
      obtain ⟨c, hc⟩ : ∃ c, l[k]? = some c := ⟨l[k]'(by have := HL.out; omega), List.getElem?_eq_getElem _⟩
      have hkL : k < (⟨l.toArray⟩ : ByteArray).size := by omega
      have hkl : k < L := by omega
      have hub := c.toNat_lt
      obtain ⟨z, hz⟩ : ∃ z : Int, (c.toNat : Int) = z := ⟨_, rfl⟩
      have hi := at_z hc hz hkL
      have hz0 : 0 ≤ z := by omega
      have hz1 : z < 256 := by omega
      have HZ := Lib.hid hz
      have HC := Lib.hid hc
      clear hc hz hub
      have hfc := fr_cases l k (by have := HL.out; omega)
      by_cases hfr : fr l k = true
      · have HF1 : Hid (F = LN.fin l k (.out true)) := by have := HF.out; rw [hfr] at this; exact this
        clear HF
        rcases sign4 c with rfl | rfl | rfl | ⟨h35, h39, h34⟩
        · obtain rfl : z = 35 := HZ.out.symm
          have E := Lib.hid (show F = some k from HF1.out.trans (LN.fin_remark HC.out))
          have T := trim_r l k wr (by omega)
          rcases hfc with ⟨_, rfl⟩ | ⟨p, y, hkp, hy, hf⟩
          · clear hfr
            have T := trim_0 wr
            go_wp2_with (go_at_call 121; refine T.mono ?_; rintro e w' ⟨rfl, rfl⟩)
            try rw [Exit.noGoto_ret]
            go_ret2
            exact st_ret0 HF0.out E.out rfl
          · rw [hfr] at hf
            obtain rfl : y = 32 := by simpa using hf.symm
            have hpL : p < (⟨l.toArray⟩ : ByteArray).size := by omega
            have hip := at_z hy (z := 32) rfl hpL
            have hkp1 : (k : Int) - 1 = (p : Int) := by omega
            have hk1 : 0 < (k : Int) := by omega
            clear hfr hf hy hkp
            go_wp2_with (go_at_call 121; refine T.mono ?_; rintro e w' ⟨rfl, rfl⟩)
            try rw [Exit.noGoto_ret]
            go_ret2
            exact st_ret HF0.out E.out rfl
        · obtain rfl : z = 39 := HZ.out.symm
          rcases hfc with ⟨_, rfl⟩ | ⟨p, y, hkp, hy, hf⟩
          · clear hfr
            go_wp2
            go_loopg [5] (L - 0) (fun g5 s5 wx => ∃ j : Nat, j + g5 = L + 1 ∧ 0 < j ∧ s5 = .int .i64 (j : Int) ∧ wx = wr ∧ Hid (F = LN.fin l j .one))
            case atStart => exact ⟨0 + 1, by omega, by omega, rfl, rfl, Lib.hid (HF1.out.trans (LN.fin_q1 HC.out))⟩
            case round =>
              rename_i g5
              obtain ⟨j, hj, hkj, rfl, rfl, HJ⟩ := hrel
              clear hi HC HZ hz0 hz1
              by_cases hjL : j < L
              · obtain ⟨d, hd⟩ : ∃ d, l[j]? = some d := ⟨l[j]'(by have := HL.out; omega), List.getElem?_eq_getElem _⟩
                have hjl : j < (⟨l.toArray⟩ : ByteArray).size := by omega
                have hub := d.toNat_lt
                obtain ⟨z, hz⟩ : ∃ z : Int, (d.toNat : Int) = z := ⟨_, rfl⟩
                have hi := at_z hd hz hjl
                have hz0 : 0 ≤ z := by omega
                have hz1 : z < 256 := by omega
                by_cases h39 : d = 39
                · subst h39
                  obtain rfl : z = 39 := hz.symm
                  by_cases h2 : l[j + 1]? = some 39
                  · have T := has_p HL.out j true ((has2 hd).trans (decide_eq_true h2)) wr
                    have E := Lib.hid (HJ.out.trans (LN.go_one_two hd h2))
                    have hjL2 : j + 1 < L := by
                      have := (List.getElem?_eq_some_iff.1 h2).1
                      have := HL.out
                      omega
                    clear hd hz hub h2
                    go_wp2_with (go_at_call 120; refine T.mono ?_; rintro e w' ⟨rfl, rfl⟩)
                    go_roundg (gk - 2)
                    case rel => exact ⟨j + 2, by omega, by omega, by simp; omega, rfl, E⟩
                    case measure => omega
                  · have T := has_p HL.out j false ((has2 hd).trans (decide_eq_false h2)) wr
                    have E := Lib.hid ((HJ.out.trans (LN.go_one_end hd h2)).trans (by rw [fr_next hd]; rfl : _ = LN.fin l (j + 1) (.out (fr l (j + 1)))))
                    clear hd hz hub h2
                    go_wp2_with (go_at_call 120; refine T.mono ?_; rintro e w' ⟨rfl, rfl⟩)
                    go_roundg (L - (j + 1))
                    case rel => exact ⟨j + 1, by omega, rfl, rfl, rfl, E⟩
                    case measure => omega
                · have q39 := ne_z hz 39 (by decide) h39
                  have T := has_p HL.out j false (has2_no hd h39) wr
                  have E := Lib.hid (HJ.out.trans (LN.go_one_pass hd h39))
                  clear hd hz hub h39
                  go_wp2_with (go_at_call 120; refine T.mono ?_; rintro e w' ⟨rfl, rfl⟩)
                  go_roundg (gk - 1)
                  case rel => exact ⟨j + 1, by omega, by omega, rfl, rfl, E⟩
                  case measure => omega
              · have E := Lib.hid (HJ.out.trans (LN.fin_one_end (by have := HL.out; omega)))
                have hjn : ¬ (j : Int) < (L : Int) := by omega
                go_wp2
                try rw [Exit.noGoto_ret]
                go_ret2
                exact st_none HF0.out E.out rfl
          · rw [hfr] at hf
            obtain rfl : y = 32 := by simpa using hf.symm
            have hpL : p < (⟨l.toArray⟩ : ByteArray).size := by omega
            have hip := at_z hy (z := 32) rfl hpL
            have hkp1 : (k : Int) - 1 = (p : Int) := by omega
            have hk1 : 0 < (k : Int) := by omega
            clear hfr hf hy hkp
            go_wp2
            go_loopg [5] (L - k) (fun g5 s5 wx => ∃ j : Nat, j + g5 = L + 1 ∧ k < j ∧ s5 = .int .i64 (j : Int) ∧ wx = wr ∧ Hid (F = LN.fin l j .one))
            case atStart => exact ⟨k + 1, by omega, by omega, rfl, rfl, Lib.hid (HF1.out.trans (LN.fin_q1 HC.out))⟩
            case round =>
              rename_i g5
              obtain ⟨j, hj, hkj, rfl, rfl, HJ⟩ := hrel
              clear hi HC HZ hz0 hz1
              by_cases hjL : j < L
              · obtain ⟨d, hd⟩ : ∃ d, l[j]? = some d := ⟨l[j]'(by have := HL.out; omega), List.getElem?_eq_getElem _⟩
                have hjl : j < (⟨l.toArray⟩ : ByteArray).size := by omega
                have hub := d.toNat_lt
                obtain ⟨z, hz⟩ : ∃ z : Int, (d.toNat : Int) = z := ⟨_, rfl⟩
                have hi := at_z hd hz hjl
                have hz0 : 0 ≤ z := by omega
                have hz1 : z < 256 := by omega
                by_cases h39 : d = 39
                · subst h39
                  obtain rfl : z = 39 := hz.symm
                  by_cases h2 : l[j + 1]? = some 39
                  · have T := has_p HL.out j true ((has2 hd).trans (decide_eq_true h2)) wr
                    have E := Lib.hid (HJ.out.trans (LN.go_one_two hd h2))
                    have hjL2 : j + 1 < L := by
                      have := (List.getElem?_eq_some_iff.1 h2).1
                      have := HL.out
                      omega
                    clear hd hz hub h2
                    go_wp2_with (go_at_call 120; refine T.mono ?_; rintro e w' ⟨rfl, rfl⟩)
                    go_roundg (gk - 2)
                    case rel => exact ⟨j + 2, by omega, by omega, by simp; omega, rfl, E⟩
                    case measure => omega
                  · have T := has_p HL.out j false ((has2 hd).trans (decide_eq_false h2)) wr
                    have E := Lib.hid ((HJ.out.trans (LN.go_one_end hd h2)).trans (by rw [fr_next hd]; rfl : _ = LN.fin l (j + 1) (.out (fr l (j + 1)))))
                    clear hd hz hub h2
                    go_wp2_with (go_at_call 120; refine T.mono ?_; rintro e w' ⟨rfl, rfl⟩)
                    go_roundg (L - (j + 1))
                    case rel => exact ⟨j + 1, by omega, rfl, rfl, rfl, E⟩
                    case measure => omega
                · have q39 := ne_z hz 39 (by decide) h39
                  have T := has_p HL.out j false (has2_no hd h39) wr
                  have E := Lib.hid (HJ.out.trans (LN.go_one_pass hd h39))
                  clear hd hz hub h39
                  go_wp2_with (go_at_call 120; refine T.mono ?_; rintro e w' ⟨rfl, rfl⟩)
                  go_roundg (gk - 1)
                  case rel => exact ⟨j + 1, by omega, by omega, rfl, rfl, E⟩
                  case measure => omega
              · have E := Lib.hid (HJ.out.trans (LN.fin_one_end (by have := HL.out; omega)))
                have hjn : ¬ (j : Int) < (L : Int) := by omega
                go_wp2
                try rw [Exit.noGoto_ret]
                go_ret2
                exact st_none HF0.out E.out rfl
        · obtain rfl : z = 34 := HZ.out.symm
          rcases hfc with ⟨_, rfl⟩ | ⟨p, y, hkp, hy, hf⟩
          · clear hfr
            go_wp2
            go_loopg [5] (L - 0) (fun g5 s5 wx => ∃ j : Nat, j + g5 = L + 1 ∧ 0 < j ∧ s5 = .int .i64 (j : Int) ∧ wx = wr ∧ Hid (F = LN.fin l j .two))
            case atStart => exact ⟨0 + 1, by omega, by omega, rfl, rfl, Lib.hid (HF1.out.trans (LN.fin_q2 HC.out))⟩
            case round =>
              rename_i g5
              obtain ⟨j, hj, hkj, rfl, rfl, HJ⟩ := hrel
              clear hi HC HZ hz0 hz1
              by_cases hjL : j < L
              · obtain ⟨d, hd⟩ : ∃ d, l[j]? = some d := ⟨l[j]'(by have := HL.out; omega), List.getElem?_eq_getElem _⟩
                have hjl : j < (⟨l.toArray⟩ : ByteArray).size := by omega
                have hub := d.toNat_lt
                obtain ⟨z, hz⟩ : ∃ z : Int, (d.toNat : Int) = z := ⟨_, rfl⟩
                have hi := at_z hd hz hjl
                have hz0 : 0 ≤ z := by omega
                have hz1 : z < 256 := by omega
                by_cases h92 : d = 92
                · subst h92
                  obtain rfl : z = 92 := hz.symm
                  have E := Lib.hid (HJ.out.trans (LN.go_two_esc hd))
                  clear hd hz hub
                  go_wp2
                  go_roundg (gk - 2)
                  case rel => exact ⟨j + 2, by omega, by omega, by simp; omega, rfl, E⟩
                  case measure => omega
                · have q92 := ne_z hz 92 (by decide) h92
                  by_cases h34 : d = 34
                  · subst h34
                    obtain rfl : z = 34 := hz.symm
                    have E := Lib.hid ((HJ.out.trans (LN.go_two_end hd)).trans (by rw [fr_next hd]; rfl : _ = LN.fin l (j + 1) (.out (fr l (j + 1)))))
                    clear hd hz hub h92
                    go_wp2
                    go_roundg (L - (j + 1))
                    case rel => exact ⟨j + 1, by omega, rfl, rfl, rfl, E⟩
                    case measure => omega
                  · have q34 := ne_z hz 34 (by decide) h34
                    have E := Lib.hid (HJ.out.trans (LN.go_two_pass hd h92 h34))
                    clear hd hz hub h34 h92
                    go_wp2
                    go_roundg (gk - 1)
                    case rel => exact ⟨j + 1, by omega, by omega, rfl, rfl, E⟩
                    case measure => omega
              · have E := Lib.hid (HJ.out.trans (LN.fin_two_end (by have := HL.out; omega)))
                have hjn : ¬ (j : Int) < (L : Int) := by omega
                go_wp2
                try rw [Exit.noGoto_ret]
                go_ret2
                exact st_none HF0.out E.out rfl
          · rw [hfr] at hf
            obtain rfl : y = 32 := by simpa using hf.symm
            have hpL : p < (⟨l.toArray⟩ : ByteArray).size := by omega
            have hip := at_z hy (z := 32) rfl hpL
            have hkp1 : (k : Int) - 1 = (p : Int) := by omega
            have hk1 : 0 < (k : Int) := by omega
            clear hfr hf hy hkp
            go_wp2
            go_loopg [5] (L - k) (fun g5 s5 wx => ∃ j : Nat, j + g5 = L + 1 ∧ k < j ∧ s5 = .int .i64 (j : Int) ∧ wx = wr ∧ Hid (F = LN.fin l j .two))
            case atStart => exact ⟨k + 1, by omega, by omega, rfl, rfl, Lib.hid (HF1.out.trans (LN.fin_q2 HC.out))⟩
            case round =>
              rename_i g5
              obtain ⟨j, hj, hkj, rfl, rfl, HJ⟩ := hrel
              clear hi HC HZ hz0 hz1
              by_cases hjL : j < L
              · obtain ⟨d, hd⟩ : ∃ d, l[j]? = some d := ⟨l[j]'(by have := HL.out; omega), List.getElem?_eq_getElem _⟩
                have hjl : j < (⟨l.toArray⟩ : ByteArray).size := by omega
                have hub := d.toNat_lt
                obtain ⟨z, hz⟩ : ∃ z : Int, (d.toNat : Int) = z := ⟨_, rfl⟩
                have hi := at_z hd hz hjl
                have hz0 : 0 ≤ z := by omega
                have hz1 : z < 256 := by omega
                by_cases h92 : d = 92
                · subst h92
                  obtain rfl : z = 92 := hz.symm
                  have E := Lib.hid (HJ.out.trans (LN.go_two_esc hd))
                  clear hd hz hub
                  go_wp2
                  go_roundg (gk - 2)
                  case rel => exact ⟨j + 2, by omega, by omega, by simp; omega, rfl, E⟩
                  case measure => omega
                · have q92 := ne_z hz 92 (by decide) h92
                  by_cases h34 : d = 34
                  · subst h34
                    obtain rfl : z = 34 := hz.symm
                    have E := Lib.hid ((HJ.out.trans (LN.go_two_end hd)).trans (by rw [fr_next hd]; rfl : _ = LN.fin l (j + 1) (.out (fr l (j + 1)))))
                    clear hd hz hub h92
                    go_wp2
                    go_roundg (L - (j + 1))
                    case rel => exact ⟨j + 1, by omega, rfl, rfl, rfl, E⟩
                    case measure => omega
                  · have q34 := ne_z hz 34 (by decide) h34
                    have E := Lib.hid (HJ.out.trans (LN.go_two_pass hd h92 h34))
                    clear hd hz hub h34 h92
                    go_wp2
                    go_roundg (gk - 1)
                    case rel => exact ⟨j + 1, by omega, by omega, rfl, rfl, E⟩
                    case measure => omega
              · have E := Lib.hid (HJ.out.trans (LN.fin_two_end (by have := HL.out; omega)))
                have hjn : ¬ (j : Int) < (L : Int) := by omega
                go_wp2
                try rw [Exit.noGoto_ret]
                go_ret2
                exact st_none HF0.out E.out rfl
        · obtain ⟨q35, q39, q34⟩ := sign_z HZ.out h35 h39 h34
          have E := Lib.hid ((HF1.out.trans (LN.fin_plain HC.out (.inr ⟨h35, h39, h34⟩))).trans (by rw [fr_next HC.out] : _ = LN.fin l (k + 1) (.out (fr l (k + 1)))))
          rcases hfc with ⟨_, rfl⟩ | ⟨p, y, hkp, hy, hf⟩
          · clear hfr
            go_wp2
            go_roundg g
            case rel => exact ⟨1, by omega, rfl, rfl, rfl, E⟩
            case measure => omega
          · rw [hfr] at hf
            obtain rfl : y = 32 := by simpa using hf.symm
            have hpL : p < (⟨l.toArray⟩ : ByteArray).size := by omega
            have hip := at_z hy (z := 32) rfl hpL
            have hkp1 : (k : Int) - 1 = (p : Int) := by omega
            have hk1 : 0 < (k : Int) := by omega
            clear hfr hf hy hkp
            go_wp2
            go_roundg g
            case rel => exact ⟨k + 1, by omega, rfl, rfl, rfl, E⟩
            case measure => omega
      · have hff : fr l k = false := by simpa using hfr
        have E := Lib.hid ((HF.out.trans (by rw [hff] : _ = LN.fin l k (.out false))).trans ((LN.fin_plain HC.out (.inl rfl)).trans (by rw [fr_next HC.out] : _ = LN.fin l (k + 1) (.out (fr l (k + 1))))))
        rcases hfc with ⟨h, _⟩ | ⟨p, y, hkp, hy, hf⟩
        · exact absurd h hfr
        · rw [hff] at hf
          have hy32 : y ≠ 32 := by
            rintro rfl; cases hf
          obtain ⟨u, hu⟩ : ∃ u : Int, (y.toNat : Int) = u := ⟨_, rfl⟩
          have hpL : p < (⟨l.toArray⟩ : ByteArray).size := by omega
          have hip := at_z hy hu hpL
          have q32 := ne_z hu 32 (by decide) hy32
          have hkp1 : (k : Int) - 1 = (p : Int) := by omega
          have hk1 : 0 < (k : Int) := by omega
          clear hfr hf hy hkp hu hy32 hff
          go_wp2
          go_roundg g
          case rel => exact ⟨k + 1, by omega, rfl, rfl, rfl, E⟩
          case measure => omega
end Go.Proofs.YtgfhabofhefaaaaGreatDoor
namespace Go.Proofs.YtgfhabofhefaaaaGreatDoor
open Go.RowKit
def Quo (l : List UInt8) (i : Nat) (q : LN.Q) (c : UInt8) (e : Ending) : Prop :=
  (∃ K, i < K ∧ K ≤ l.length ∧ l[K - 1]? = some c ∧ e = .returned (.tuple #[.int .i64 (K : Int), .bool true]) ∧ LN.fin l (i + 1) q = LN.fin l K (.out false)) ∨ (e = .returned (.tuple #[.int .i64 0, .bool false]) ∧ LN.fin l (i + 1) q = none)
set_option maxHeartbeats 4000000 in
theorem rquoted39 (l : List UInt8) (i : Nat) (hl : l.length ≤ 20000) (hi0 : l[i]? = some 39) (w : World) :
    Calls Tryz.prog 90 #[.string ⟨l.toArray⟩, .int .i64 (i : Int)] w fun e w' => Quo l i .one 39 e ∧ w' = w := by
  have hsz := str_size l
  obtain ⟨L, hLI⟩ : ∃ L : Nat, l.length = L := ⟨_, rfl⟩
  rw [hLI] at hsz
  have hl9 : L ≤ 20000 := by omega
  have HL := Lib.hid hLI
  have hiL : i < L := by rw [← hLI]; exact (List.getElem?_eq_some_iff.1 hi0).1
  have hisz : i < (⟨l.toArray⟩ : ByteArray).size := by omega
  have hiz := at_z hi0 (z := 39) rfl hisz
  clear hl hLI hi0
  go_enter Tryz.func90, Tryz.ntmps90
  go_wp2
  clear hiz
  go_loopg [7] (L - i) (fun g s7 wx => ∃ j : Nat, j + g = L + 1 ∧ i < j ∧ s7 = .int .i64 (j : Int) ∧ wx = w ∧ Hid (LN.fin l (i + 1) .one = LN.fin l j .one))
  case atStart => exact ⟨i + 1, by omega, by omega, rfl, rfl, rfl⟩
  case round =>
    obtain ⟨j, hj, hkj, rfl, rfl, HJ⟩ := hrel
    by_cases hjL : j < L
    · obtain ⟨d, hd⟩ : ∃ d, l[j]? = some d := ⟨l[j]'(by have := HL.out; omega), List.getElem?_eq_getElem _⟩
      have hjl : j < (⟨l.toArray⟩ : ByteArray).size := by omega
      have hub := d.toNat_lt
      obtain ⟨z, hz⟩ : ∃ z : Int, (d.toNat : Int) = z := ⟨_, rfl⟩
      have hi := at_z hd hz hjl
      have hz0 : 0 ≤ z := by omega
      have hz1 : z < 256 := by omega
      by_cases h39 : d = 39
      · subst h39
        obtain rfl : z = 39 := hz.symm
        have DD := Lib.hid hd
        by_cases hj2 : j + 1 < L
        · have hj2' : (j : Int) + 1 < (L : Int) := by omega
          obtain ⟨d2, hd2⟩ : ∃ d, l[j + 1]? = some d := ⟨l[j + 1]'(by have := HL.out; omega), List.getElem?_eq_getElem _⟩
          have hjl2 : j + 1 < (⟨l.toArray⟩ : ByteArray).size := by omega
          by_cases h2 : d2 = 39
          · subst h2
            have hi2 := at_z hd2 (z := 39) rfl hjl2
            have E := Lib.hid (HJ.out.trans (LN.go_one_two hd hd2))
            clear hd hz hub hd2
            go_wp2
            go_roundg (gk - 2)
            case rel => exact ⟨j + 2, by omega, by omega, by simp; omega, rfl, E⟩
            case measure => omega
          · obtain ⟨z2, hz2⟩ : ∃ z : Int, (d2.toNat : Int) = z := ⟨_, rfl⟩
            have hi2 := at_z hd2 hz2 hjl2
            have q2 := ne_z hz2 39 (by decide) h2
            have E := Lib.hid (HJ.out.trans (LN.go_one_end hd (by rw [hd2]; intro e; exact h2 (Option.some.inj e))))
            clear hd hz hub hd2 hz2 h2
            go_wp2
            try rw [Exit.noGoto_ret]
            go_ret2
            exact ⟨.inl ⟨j + 1, by omega, by have := HL.out; omega, DD.out, rfl, E.out⟩, rfl⟩
        · have hj2' : ¬ (j : Int) + 1 < (L : Int) := by omega
          have E := Lib.hid (HJ.out.trans (LN.go_one_end hd (by rw [List.getElem?_eq_none (by have := HL.out; omega)]; simp)))
          clear hd hz hub
          go_wp2
          try rw [Exit.noGoto_ret]
          go_ret2
          exact ⟨.inl ⟨j + 1, by omega, by have := HL.out; omega, DD.out, rfl, E.out⟩, rfl⟩
      · have q39 := ne_z hz 39 (by decide) h39
        have E := Lib.hid (HJ.out.trans (LN.go_one_pass hd h39))
        clear hd hz hub h39
        go_wp2
        go_roundg (gk - 1)
        case rel => exact ⟨j + 1, by omega, by omega, rfl, rfl, E⟩
        case measure => omega
    · have E := Lib.hid (HJ.out.trans (LN.fin_one_end (by have := HL.out; omega)))
      have hjn : ¬ (j : Int) < (L : Int) := by omega
      go_wp2
      try rw [Exit.noGoto_ret]
      go_ret2
      exact ⟨.inr ⟨rfl, E.out⟩, rfl⟩
set_option maxHeartbeats 4000000 in
theorem rquoted34 (l : List UInt8) (i : Nat) (hl : l.length ≤ 20000) (hi0 : l[i]? = some 34) (w : World) :
    Calls Tryz.prog 90 #[.string ⟨l.toArray⟩, .int .i64 (i : Int)] w fun e w' => Quo l i .two 34 e ∧ w' = w := by
  have hsz := str_size l
  obtain ⟨L, hLI⟩ : ∃ L : Nat, l.length = L := ⟨_, rfl⟩
  rw [hLI] at hsz
  have hl9 : L ≤ 20000 := by omega
  have HL := Lib.hid hLI
  have hiL : i < L := by rw [← hLI]; exact (List.getElem?_eq_some_iff.1 hi0).1
  have hisz : i < (⟨l.toArray⟩ : ByteArray).size := by omega
  have hiz := at_z hi0 (z := 34) rfl hisz
  clear hl hLI hi0
  go_enter Tryz.func90, Tryz.ntmps90
  go_wp2
  clear hiz
  go_loopg [7] (L - i) (fun g s7 wx => ∃ j : Nat, j + g = L + 1 ∧ i < j ∧ s7 = .int .i64 (j : Int) ∧ wx = w ∧ Hid (LN.fin l (i + 1) .two = LN.fin l j .two))
  case atStart => exact ⟨i + 1, by omega, by omega, rfl, rfl, rfl⟩
  case round =>
    obtain ⟨j, hj, hkj, rfl, rfl, HJ⟩ := hrel
    by_cases hjL : j < L
    · obtain ⟨d, hd⟩ : ∃ d, l[j]? = some d := ⟨l[j]'(by have := HL.out; omega), List.getElem?_eq_getElem _⟩
      have hjl : j < (⟨l.toArray⟩ : ByteArray).size := by omega
      have hub := d.toNat_lt
      obtain ⟨z, hz⟩ : ∃ z : Int, (d.toNat : Int) = z := ⟨_, rfl⟩
      have hi := at_z hd hz hjl
      have hz0 : 0 ≤ z := by omega
      have hz1 : z < 256 := by omega
      by_cases h92 : d = 92
      · subst h92
        obtain rfl : z = 92 := hz.symm
        have E := Lib.hid (HJ.out.trans (LN.go_two_esc hd))
        clear hd hz hub
        go_wp2
        go_roundg (gk - 2)
        case rel => exact ⟨j + 2, by omega, by omega, by simp; omega, rfl, E⟩
        case measure => omega
      · have q92 := ne_z hz 92 (by decide) h92
        by_cases h34 : d = 34
        · subst h34
          obtain rfl : z = 34 := hz.symm
          have DD := Lib.hid hd
          have E := Lib.hid (HJ.out.trans (LN.go_two_end hd))
          clear hd hz hub h92
          go_wp2
          try rw [Exit.noGoto_ret]
          go_ret2
          exact ⟨.inl ⟨j + 1, by omega, by have := HL.out; omega, DD.out, rfl, E.out⟩, rfl⟩
        · have q34 := ne_z hz 34 (by decide) h34
          have E := Lib.hid (HJ.out.trans (LN.go_two_pass hd h92 h34))
          clear hd hz hub h34 h92
          go_wp2
          go_roundg (gk - 1)
          case rel => exact ⟨j + 1, by omega, by omega, rfl, rfl, E⟩
          case measure => omega
    · have E := Lib.hid (HJ.out.trans (LN.fin_two_end (by have := HL.out; omega)))
      have hjn : ¬ (j : Int) < (L : Int) := by omega
      go_wp2
      try rw [Exit.noGoto_ret]
      go_ret2
      exact ⟨.inr ⟨rfl, E.out⟩, rfl⟩
end Go.Proofs.YtgfhabofhefaaaaGreatDoor
namespace Go.Proofs.YtgfhabofhefaaaaGreatDoor
open Go.RowKit
theorem rst_ret {l : List UInt8} {e m : Nat} {P : Prop} {F : Option Nat} (hF : F = LN.fin l 0 (.out true)) (h : F = some e) (hel : e ≤ l.length) (hm : m ≤ e) (h1 : ∀ j, m ≤ j → j < e → l[j]? = some 32) (h2 : 0 < m → l[m - 1]? ≠ some 32) (hp : P) : Ending.returned (.tuple #[.string ((⟨l.toArray⟩ : ByteArray).extract 0 m), .bool true]) = .returned (.tuple #[.string ⟨(stS l).toArray⟩, .bool (stB l)]) ∧ P := by
  refine ⟨?_, hp⟩
  have ht : LN.tr (l.take e) = l.take m := by
    have hlt : (l.take e).length = e := by simp; omega
    rw [LN.tr_uniq (k := m) (by omega) (fun j a b => by rw [List.getElem?_take_of_lt (by omega)]; exact h1 j a (by omega)) (fun a => by rw [List.getElem?_take_of_lt (by omega)]; exact h2 a), List.take_take, Nat.min_eq_left hm]
  unfold stS stB LN.strip
  rw [← hF, h, cut_front]
  show _ = Ending.returned (.tuple #[.string ⟨(LN.tr (l.take e)).toArray⟩, .bool true])
  rw [ht]
theorem fr_at {l : List UInt8} {K : Nat} {c : UInt8} (hK : 0 < K) (h : l[K - 1]? = some c) : fr l K = (c == 32) := by
  obtain ⟨k, rfl⟩ : ∃ k, K = k + 1 := ⟨K - 1, by omega⟩
  exact fr_next h
set_option maxHeartbeats 4000000 in
theorem rstrip_any (l : List UInt8) (hl : l.length ≤ 20000) (w : World) :
    Calls Tryz.prog 60 #[.string ⟨l.toArray⟩] w fun e w' => e = .returned (.tuple #[.string ⟨(stS l).toArray⟩, .bool (stB l)]) ∧ w' = w := by
  have hsz := str_size l
  obtain ⟨L, hLI⟩ : ∃ L : Nat, l.length = L := ⟨_, rfl⟩
  rw [hLI] at hsz
  have hl9 : L ≤ 20000 := by omega
  have HL := Lib.hid hLI
  have HLB := Lib.hid hl
  clear hl hLI
  obtain ⟨F, HF0⟩ : ∃ F, Hid (F = LN.fin l 0 (.out true)) := ⟨_, rfl⟩
  go_enter Tryz.func60, Tryz.ntmps60
  go_wp2
  go_loopg [4, 5] L (fun g s4 s5 wr => ∃ k E : Nat, k + g = E ∧ E ≤ L ∧ s4 = .int .i64 (E : Int) ∧ s5 = .int .i64 (k : Int) ∧ wr = w ∧ Hid ((E = L ∧ F = LN.fin l k (.out (fr l k))) ∨ (E = k ∧ F = some k)))
  case atStart => exact ⟨0, L, by omega, Nat.le_refl _, rfl, rfl, rfl, Lib.hid (.inl ⟨rfl, HF0.out⟩)⟩
  case round =>
    obtain ⟨k, E, hk, hEL, rfl, rfl, rfl, HF⟩ := hrel
    cases gk with
    | zero =>
      obtain rfl : k = E := by omega
      have EE : Hid (F = some k) := by
        rcases HF.out with ⟨h1, h2⟩ | ⟨_, h2⟩
        · exact h2.trans (LN.fin_end (by have := HL.out; omega))
        · exact h2
      have hkk : ¬ (k : Int) < (k : Int) := by omega
      clear HF
      go_wp2
      go_loopg [4] k (fun g4 s4 wx => ∃ m : Nat, m < g4 + 1 ∧ m ≤ k ∧ s4 = .int .i64 (m : Int) ∧ wx = wr ∧ Hid (∀ j, m ≤ j → j < k → l[j]? = some 32))
      case atStart => exact ⟨k, by omega, Nat.le_refl _, rfl, rfl, Lib.hid fun j h1 h2 => absurd h2 (by omega)⟩
      case round =>
        obtain ⟨m, hm, hmk, rfl, rfl, HB⟩ := hrel
        cases m with
        | zero =>
          go_wp2
          go_ret2
          have h := rst_ret (P := True) HF0.out EE.out (by have := HL.out; omega) hmk HB.out (fun h => absurd h (by omega)) trivial
          exact ⟨by simpa using h, rfl⟩
        | succ p =>
          obtain ⟨m, hmp⟩ : ∃ m, m = p + 1 := ⟨_, rfl⟩
          rw [← hmp] at hm hmk HB ⊢
          obtain ⟨y, hy⟩ : ∃ y, l[p]? = some y := ⟨l[p]'(by have := HL.out; omega), List.getElem?_eq_getElem _⟩
          have hpL : p < (⟨l.toArray⟩ : ByteArray).size := by omega
          have hkp1 : (m : Int) - 1 = (p : Int) := by omega
          have hk1 : 0 < (m : Int) := by omega
          have hpg : p < gk := by omega
          have hpk : p ≤ k := by omega
          by_cases hy32 : y = 32
          · subst hy32
            have hip := at_z hy (z := 32) rfl hpL
            have NB := Lib.hid (show ∀ j, p ≤ j → j < k → l[j]? = some 32 from fun j h1 h2 => by
              rcases Nat.lt_or_ge j m with h | h
              · obtain rfl : j = p := by omega
                exact hy
              · exact HB.out j h h2)
            clear hy HB hmp
            go_wp2
            go_roundg p
            case rel => exact ⟨p, by omega, by omega, rfl, rfl, NB⟩
            case measure => omega
          · obtain ⟨u, hu⟩ : ∃ u : Int, (y.toNat : Int) = u := ⟨_, rfl⟩
            have hip := at_z hy hu hpL
            have q32 := ne_z hu 32 (by decide) hy32
            have NE := Lib.hid (show l[m - 1]? ≠ some 32 by
              rw [show m - 1 = p by omega, hy]; intro e; exact hy32 (Option.some.inj e))
            clear hy hu hy32 hmp
            go_wp2
            go_ret2
            exact (rst_ret HF0.out EE.out (by have := HL.out; omega) hmk HB.out (fun _ => NE.out) rfl)
    | succ g =>
      obtain ⟨rfl, HF2⟩ : E = L ∧ Hid (F = LN.fin l k (.out (fr l k))) := by
        rcases HF.out with ⟨h1, h2⟩ | ⟨h1, _⟩
        · exact ⟨h1, h2⟩
        · omega
      clear HF
      obtain ⟨c, hc⟩ : ∃ c, l[k]? = some c := ⟨l[k]'(by have := HL.out; omega), List.getElem?_eq_getElem _⟩
      have hkL : k < (⟨l.toArray⟩ : ByteArray).size := by omega
      have hkl : (k : Int) < (E : Int) := by omega
      have hub := c.toNat_lt
      obtain ⟨z, hz⟩ : ∃ z : Int, (c.toNat : Int) = z := ⟨_, rfl⟩
      have hi := at_z hc hz hkL
      have hz0 : 0 ≤ z := by omega
      have hz1 : z < 256 := by omega
      have HZ := Lib.hid hz
      have HC := Lib.hid hc
      clear hc hz hub
      have hfc := fr_cases l k (by have := HL.out; omega)
      by_cases hfr : fr l k = true
      · have HF1 : Hid (F = LN.fin l k (.out true)) := by have := HF2.out; rw [hfr] at this; exact this
        clear HF2
        rcases sign4 c with rfl | rfl | rfl | ⟨h35, h39, h34⟩
        · obtain rfl : z = 35 := HZ.out.symm
          have EE := Lib.hid (show F = some k from HF1.out.trans (LN.fin_remark HC.out))
          rcases hfc with ⟨_, rfl⟩ | ⟨p, y, hkp, hy, hf⟩
          · clear hfr
            go_wp2
            go_roundg 0
            case rel => exact ⟨0, 0, by omega, by omega, rfl, rfl, rfl, Lib.hid (.inr ⟨rfl, EE.out⟩)⟩
            case measure => omega
          · rw [hfr] at hf
            obtain rfl : y = 32 := by simpa using hf.symm
            have hpL : p < (⟨l.toArray⟩ : ByteArray).size := by omega
            have hip := at_z hy (z := 32) rfl hpL
            have hkp1 : (k : Int) - 1 = (p : Int) := by omega
            have hk1 : ¬ (k : Int) = 0 := by omega
            clear hfr hf hy hkp
            go_wp2
            go_roundg 0
            case rel => exact ⟨k, k, by omega, by omega, rfl, rfl, rfl, Lib.hid (.inr ⟨rfl, EE.out⟩)⟩
            case measure => omega
        · obtain rfl : z = 39 := HZ.out.symm
          have FQ := Lib.hid (HF1.out.trans (LN.fin_q1 HC.out))
          have T := rquoted39 l k HLB.out HC.out wr
          rcases hfc with ⟨_, rfl⟩ | ⟨p, y, hkp, hy, hf⟩
          · clear hfr
            go_wp2_with fail
            refine T.mono ?_
            rintro e w' ⟨hQ, rfl⟩
            rcases hQ with ⟨K, hK0, hKL, hKc, rfl, hKF⟩ | ⟨rfl, hKF⟩
            · have hKE : K ≤ E := by have := HL.out; omega
              have EE := Lib.hid ((FQ.out.trans hKF).trans (by rw [fr_at (by omega) hKc]; rfl : _ = LN.fin l K (.out (fr l K))))
              clear hKL hKc hKF T
              go_wp2
              go_roundg (E - K)
              case rel => exact ⟨K, E, by omega, by omega, rfl, rfl, rfl, Lib.hid (.inl ⟨rfl, EE.out⟩)⟩
              case measure => omega
            · have EE := Lib.hid (FQ.out.trans hKF)
              clear hKF T
              go_wp2
              try rw [Exit.noGoto_ret]
              go_ret2
              exact st_none HF0.out EE.out rfl
          · rw [hfr] at hf
            obtain rfl : y = 32 := by simpa using hf.symm
            have hpL : p < (⟨l.toArray⟩ : ByteArray).size := by omega
            have hip := at_z hy (z := 32) rfl hpL
            have hkp1 : (k : Int) - 1 = (p : Int) := by omega
            have hk1 : ¬ (k : Int) = 0 := by omega
            clear hfr hf hy hkp
            go_wp2_with fail
            refine T.mono ?_
            rintro e w' ⟨hQ, rfl⟩
            rcases hQ with ⟨K, hK0, hKL, hKc, rfl, hKF⟩ | ⟨rfl, hKF⟩
            · have hKE : K ≤ E := by have := HL.out; omega
              have EE := Lib.hid ((FQ.out.trans hKF).trans (by rw [fr_at (by omega) hKc]; rfl : _ = LN.fin l K (.out (fr l K))))
              clear hKL hKc hKF T
              go_wp2
              go_roundg (E - K)
              case rel => exact ⟨K, E, by omega, by omega, rfl, rfl, rfl, Lib.hid (.inl ⟨rfl, EE.out⟩)⟩
              case measure => omega
            · have EE := Lib.hid (FQ.out.trans hKF)
              clear hKF T
              go_wp2
              try rw [Exit.noGoto_ret]
              go_ret2
              exact st_none HF0.out EE.out rfl
        · obtain rfl : z = 34 := HZ.out.symm
          have FQ := Lib.hid (HF1.out.trans (LN.fin_q2 HC.out))
          have T := rquoted34 l k HLB.out HC.out wr
          rcases hfc with ⟨_, rfl⟩ | ⟨p, y, hkp, hy, hf⟩
          · clear hfr
            go_wp2_with fail
            refine T.mono ?_
            rintro e w' ⟨hQ, rfl⟩
            rcases hQ with ⟨K, hK0, hKL, hKc, rfl, hKF⟩ | ⟨rfl, hKF⟩
            · have hKE : K ≤ E := by have := HL.out; omega
              have EE := Lib.hid ((FQ.out.trans hKF).trans (by rw [fr_at (by omega) hKc]; rfl : _ = LN.fin l K (.out (fr l K))))
              clear hKL hKc hKF T
              go_wp2
              go_roundg (E - K)
              case rel => exact ⟨K, E, by omega, by omega, rfl, rfl, rfl, Lib.hid (.inl ⟨rfl, EE.out⟩)⟩
              case measure => omega
            · have EE := Lib.hid (FQ.out.trans hKF)
              clear hKF T
              go_wp2
              try rw [Exit.noGoto_ret]
              go_ret2
              exact st_none HF0.out EE.out rfl
          · rw [hfr] at hf
            obtain rfl : y = 32 := by simpa using hf.symm
            have hpL : p < (⟨l.toArray⟩ : ByteArray).size := by omega
            have hip := at_z hy (z := 32) rfl hpL
            have hkp1 : (k : Int) - 1 = (p : Int) := by omega
            have hk1 : ¬ (k : Int) = 0 := by omega
            clear hfr hf hy hkp
            go_wp2_with fail
            refine T.mono ?_
            rintro e w' ⟨hQ, rfl⟩
            rcases hQ with ⟨K, hK0, hKL, hKc, rfl, hKF⟩ | ⟨rfl, hKF⟩
            · have hKE : K ≤ E := by have := HL.out; omega
              have EE := Lib.hid ((FQ.out.trans hKF).trans (by rw [fr_at (by omega) hKc]; rfl : _ = LN.fin l K (.out (fr l K))))
              clear hKL hKc hKF T
              go_wp2
              go_roundg (E - K)
              case rel => exact ⟨K, E, by omega, by omega, rfl, rfl, rfl, Lib.hid (.inl ⟨rfl, EE.out⟩)⟩
              case measure => omega
            · have EE := Lib.hid (FQ.out.trans hKF)
              clear hKF T
              go_wp2
              try rw [Exit.noGoto_ret]
              go_ret2
              exact st_none HF0.out EE.out rfl
        · obtain ⟨q35, q39, q34⟩ := sign_z HZ.out h35 h39 h34
          have b39 : (z == 39) = false := beq_eq_false_iff_ne.2 q39
          have b34 : (z == 34) = false := beq_eq_false_iff_ne.2 q34
          have EE := Lib.hid ((HF1.out.trans (LN.fin_plain HC.out (.inr ⟨h35, h39, h34⟩))).trans (by rw [fr_next HC.out] : _ = LN.fin l (k + 1) (.out (fr l (k + 1)))))
          rcases hfc with ⟨_, rfl⟩ | ⟨p, y, hkp, hy, hf⟩
          · clear hfr
            go_wp2
            go_roundg g
            case rel => exact ⟨0 + 1, E, by omega, by omega, rfl, rfl, rfl, Lib.hid (.inl ⟨rfl, EE.out⟩)⟩
            case measure => omega
          · rw [hfr] at hf
            obtain rfl : y = 32 := by simpa using hf.symm
            have hpL : p < (⟨l.toArray⟩ : ByteArray).size := by omega
            have hip := at_z hy (z := 32) rfl hpL
            have hkp1 : (k : Int) - 1 = (p : Int) := by omega
            have hk1 : ¬ (k : Int) = 0 := by omega
            clear hfr hf hy hkp
            go_wp2
            go_roundg g
            case rel => exact ⟨k + 1, E, by omega, by omega, rfl, rfl, rfl, Lib.hid (.inl ⟨rfl, EE.out⟩)⟩
            case measure => omega
      · have hff : fr l k = false := by simpa using hfr
        have EE := Lib.hid ((HF2.out.trans (by rw [hff] : _ = LN.fin l k (.out false))).trans ((LN.fin_plain HC.out (.inl rfl)).trans (by rw [fr_next HC.out] : _ = LN.fin l (k + 1) (.out (fr l (k + 1))))))
        rcases hfc with ⟨h, _⟩ | ⟨p, y, hkp, hy, hf⟩
        · exact absurd h hfr
        · rw [hff] at hf
          have hy32 : y ≠ 32 := by
            rintro rfl; cases hf
          obtain ⟨u, hu⟩ : ∃ u : Int, (y.toNat : Int) = u := ⟨_, rfl⟩
          have hpL : p < (⟨l.toArray⟩ : ByteArray).size := by omega
          have hip := at_z hy hu hpL
          have q32 := ne_z hu 32 (by decide) hy32
          have hkp1 : (k : Int) - 1 = (p : Int) := by omega
          have hk1 : ¬ (k : Int) = 0 := by omega
          clear hfr hf hy hkp hu hy32 hff
          go_wp2
          go_roundg g
          case rel => exact ⟨k + 1, E, by omega, by omega, rfl, rfl, rfl, Lib.hid (.inl ⟨rfl, EE.out⟩)⟩
          case measure => omega
end Go.Proofs.YtgfhabofhefaaaaGreatDoor
