/- Walk of line.Strip. -/
import Derived.Test.YtmgalfdiiegjjaaGreatDoorLnMath
import Derived.Test.YtmgalfdiiegjjaaGreatDoorSeg01
import Derived.Test.YtmgalfdiiegjjaaGreatDoorShelf
import Derived.Deep.LoopGhost
namespace Go.Proofs.YtmgalfdiiegjjaaGreatDoor
open Go.RowKit

def stS (l : List UInt8) : List UInt8 := (LN.strip l).getD []
def stB (l : List UInt8) : Bool := (LN.strip l).isSome
theorem st_ret {l : List UInt8} {e : Nat} {P : Prop} {F : Option Nat} (hF : F = LN.fin l 0 (.out true)) (h : F = some e) (hp : P) : Ending.returned (.tuple #[.string ⟨(Lib.trimRightB (l.take e) 32).toArray⟩, .bool true]) = .returned (.tuple #[.string ⟨(stS l).toArray⟩, .bool (stB l)]) ∧ P := by
  refine ⟨?_, hp⟩
  unfold stS stB LN.strip
  rw [← hF, h]; rfl
theorem st_none {l : List UInt8} {P : Prop} {F : Option Nat} (hF : F = LN.fin l 0 (.out true)) (h : F = none) (hp : P) : Ending.returned (.tuple #[.string ⟨#[]⟩, .bool false]) = .returned (.tuple #[.string ⟨(stS l).toArray⟩, .bool (stB l)]) ∧ P := by
  refine ⟨?_, hp⟩
  unfold stS stB LN.strip
  rw [← hF, h]; rfl
theorem cut_front (l : List UInt8) (k : Nat) : (⟨l.toArray⟩ : ByteArray).extract 0 k = ⟨(l.take k).toArray⟩ := by
  rw [ByteArray.extract_mk]
  simp
theorem cut_back {l : List UInt8} {L : Nat} (h : l.length = L) (k : Nat) : (⟨l.toArray⟩ : ByteArray).extract k L = ⟨(l.drop k).toArray⟩ := by
  rw [ByteArray.extract_mk]
  simp
  rw [← h, List.take_of_length_le (by simp)]
/-- Does nothing, or a blank, stand ahead of a place? -/
def fr (l : List UInt8) (k : Nat) : Bool := decide (k = 0) || decide (l[k - 1]? = some 32)
theorem fr_next {l : List UInt8} {k : Nat} {c : UInt8} (h : l[k]? = some c) : fr l (k + 1) = (c == 32) := by
  unfold fr
  simp [h]
  by_cases hc : c = 32
  · simp [hc]
  · simp [hc]
theorem fr_cases (l : List UInt8) (k : Nat) (hk : k ≤ l.length) : (fr l k = true ∧ k = 0) ∨ ∃ p c, k = p + 1 ∧ l[p]? = some c ∧ fr l k = (c == 32) := by
  cases k with
  | zero => exact .inl ⟨rfl, rfl⟩
  | succ p =>
    obtain ⟨c, hc⟩ : ∃ c, l[p]? = some c := ⟨l[p]'(by omega), List.getElem?_eq_getElem _⟩
    exact .inr ⟨p, c, rfl, hc, fr_next hc⟩
theorem has2 {l : List UInt8} {k : Nat} (h : l[k]? = some 39) : Lib.hasPrefix (l.drop k) [39, 39] = decide (l[k + 1]? = some 39) := by
  rw [LN.drop_of h]
  cases hd : l.drop (k + 1) with
  | nil =>
    have : l[k + 1]? = none := List.getElem?_eq_none (List.drop_eq_nil_iff.1 hd)
    rw [this]; rfl
  | cons y r =>
    have hy : l[k + 1]? = some y := by
      have := congrArg (·[0]?) hd
      simpa using this
    rw [hy]
    show ((39 : UInt8) == 39 && ((39 : UInt8) == y && List.isPrefixOf [] r)) = _
    by_cases hc : y = 39
    · subst hc; simp
    · have : ((39 : UInt8) == y) = false := beq_eq_false_iff_ne.2 fun e => hc e.symm
      rw [this]; simp [hc]
theorem has2_no {l : List UInt8} {k : Nat} {c : UInt8} (h : l[k]? = some c) (hc : c ≠ 39) : Lib.hasPrefix (l.drop k) [39, 39] = false := by
  rw [LN.drop_of h]
  show ((39 : UInt8) == c && _) = _
  have : ((39 : UInt8) == c) = false := beq_eq_false_iff_ne.2 fun e => hc e.symm
  rw [this]; rfl

theorem trim_r (l : List UInt8) (k : Nat) (w : World) (hk : k ≤ 20000) : Calls Tryz.prog 124 #[.string ((⟨l.toArray⟩ : ByteArray).extract 0 k), .string ⟨#[32]⟩] w fun e w' => e = .returned (.string ⟨(Lib.trimRightB (l.take k) 32).toArray⟩) ∧ w' = w := by
  rw [cut_front]
  exact Tryz.strings_TrimRight_one ⟨(l.take k).toArray⟩ 32 (by decide) w (by rw [str_size]; simp; omega)

theorem trim_0 (w : World) : Calls Tryz.prog 124 #[.string ByteArray.empty, .string ⟨#[32]⟩] w fun e w' => e = .returned (.string ⟨#[]⟩) ∧ w' = w := Tryz.strings_TrimRight_one ByteArray.empty 32 (by decide) w (by decide)
theorem st_ret0 {l : List UInt8} {P : Prop} {F : Option Nat} (hF : F = LN.fin l 0 (.out true)) (h : F = some 0) (hp : P) : Ending.returned (.tuple #[.string ⟨#[]⟩, .bool true]) = .returned (.tuple #[.string ⟨(stS l).toArray⟩, .bool (stB l)]) ∧ P := by
  refine ⟨?_, hp⟩
  unfold stS stB LN.strip
  rw [← hF, h]; rfl
theorem has_p {l : List UInt8} {L : Nat} (hL : l.length = L) (k : Nat) (b : Bool) (hb : Lib.hasPrefix (l.drop k) [39, 39] = b) (w : World) : Calls Tryz.prog 123 #[.string ((⟨l.toArray⟩ : ByteArray).extract k L), .string ⟨#[39, 39]⟩] w fun e w' => e = .returned (.bool b) ∧ w' = w := by
  rw [cut_back hL, ← hb]
  exact Tryz.strings_HasPrefix ⟨(l.drop k).toArray⟩ ⟨#[39, 39]⟩ w

theorem sign4 (c : UInt8) : c = 35 ∨ c = 39 ∨ c = 34 ∨ (c ≠ 35 ∧ c ≠ 39 ∧ c ≠ 34) := by
  by_cases h1 : c = 35
  · exact .inl h1
  · by_cases h2 : c = 39
    · exact .inr (.inl h2)
    · by_cases h3 : c = 34
      · exact .inr (.inr (.inl h3))
      · exact .inr (.inr (.inr ⟨h1, h2, h3⟩))
theorem ne_z {c : UInt8} {z : Int} (hz : (c.toNat : Int) = z) (n : Nat) (hn : n < 256) (h : c ≠ UInt8.ofNat n) : ¬ z = (n : Int) := by
  intro e
  apply h
  apply UInt8.toNat_inj.1
  rw [UInt8.toNat_ofNat_of_lt' (by simpa using hn)]
  omega
theorem sign_z {c : UInt8} {z : Int} (hz : (c.toNat : Int) = z) (h1 : c ≠ 35) (h2 : c ≠ 39) (h3 : c ≠ 34) : ¬ z = 35 ∧ ¬ z = 39 ∧ ¬ z = 34 := ⟨ne_z hz 35 (by decide) h1, ne_z hz 39 (by decide) h2, ne_z hz 34 (by decide) h3⟩

set_option maxHeartbeats 4000000 in
theorem strip_any (l : List UInt8) (hl : l.length ≤ 20000) (w : World) :
    Calls Tryz.prog 87 #[.string ⟨l.toArray⟩] w fun e w' => e = .returned (.tuple #[.string ⟨(stS l).toArray⟩, .bool (stB l)]) ∧ w' = w := by
  have hsz := str_size l
  obtain ⟨L, hLI⟩ : ∃ L : Nat, l.length = L := ⟨_, rfl⟩
  rw [hLI] at hsz
  have hl9 : L ≤ 20000 := by omega
  have HL := Lib.hid hLI
  have CF := Lib.hid (cut_front l)
  have CB := Lib.hid (cut_back hLI)
  clear hl hLI
  obtain ⟨F, HF0⟩ : ∃ F, Hid (F = LN.fin l 0 (.out true)) := ⟨_, rfl⟩
  go_enter Tryz.func87, Tryz.ntmps87
  go_wp2
  go_step3
  go_wp2
  go_step3
  go_wp2
  go_loopg [4, 5] L (fun g s4 s5 wr => ∃ k : Nat, k + g = L ∧ s4 = .int .i64 (L : Int) ∧ s5 = .int .i64 (k : Int) ∧ wr = w ∧ Hid (F = LN.fin l k (.out (fr l k))))
  case atStart => exact ⟨0, by omega, rfl, rfl, rfl, HF0⟩
  case round =>
    obtain ⟨k, hk, rfl, rfl, rfl, HF⟩ := hrel
    cases gk with
    | zero =>
      obtain rfl : k = L := by omega
      have E := Lib.hid (show F = some k from HF.out.trans (LN.fin_end HL.out))
      have T := trim_r l k wr (by omega)
      go_wp2_with (go_at_call 124; refine T.mono ?_; rintro e w' ⟨rfl, rfl⟩)
      try rw [Exit.noGoto_ret]
      go_ret2
      exact st_ret HF0.out E.out rfl
    | succ g =>
      obtain ⟨c, hc⟩ : ∃ c, l[k]? = some c := ⟨l[k]'(by have := HL.out; omega), List.getElem?_eq_getElem _⟩
      have hkL : k < (⟨l.toArray⟩ : ByteArray).size := by omega
      have hkl : k < L := by omega
      have hub := c.toNat_lt
      obtain ⟨z, hz⟩ : ∃ z : Int, (c.toNat : Int) = z := ⟨_, rfl⟩
      have hi := at_z hc hz hkL
      have hz0 : 0 ≤ z := by omega
      have hz1 : z < 256 := by omega
      have HZ := Lib.hid hz
      have HC := Lib.hid hc
      clear hc hz hub
      have hfc := fr_cases l k (by have := HL.out; omega)
      by_cases hfr : fr l k = true
      · have HF1 : Hid (F = LN.fin l k (.out true)) := by have := HF.out; rw [hfr] at this; exact this
        clear HF
        rcases sign4 c with rfl | rfl | rfl | ⟨h35, h39, h34⟩
        · obtain rfl : z = 35 := HZ.out.symm
          have E := Lib.hid (show F = some k from HF1.out.trans (LN.fin_remark HC.out))
          have T := trim_r l k wr (by omega)
          rcases hfc with ⟨_, rfl⟩ | ⟨p, y, hkp, hy, hf⟩
          · clear hfr
            have T := trim_0 wr
            go_wp2_with (go_at_call 124; refine T.mono ?_; rintro e w' ⟨rfl, rfl⟩)
            try rw [Exit.noGoto_ret]
            go_ret2
            exact st_ret0 HF0.out E.out rfl
          · rw [hfr] at hf
            obtain rfl : y = 32 := by simpa using hf.symm
            have hpL : p < (⟨l.toArray⟩ : ByteArray).size := by omega
            have hip := at_z hy (z := 32) rfl hpL
            have hkp1 : (k : Int) - 1 = (p : Int) := by omega
            have hk1 : 0 < (k : Int) := by omega
            clear hfr hf hy hkp
            go_wp2_with (go_at_call 124; refine T.mono ?_; rintro e w' ⟨rfl, rfl⟩)
            try rw [Exit.noGoto_ret]
            go_ret2
            exact st_ret HF0.out E.out rfl
        · obtain rfl : z = 39 := HZ.out.symm
          rcases hfc with ⟨_, rfl⟩ | ⟨p, y, hkp, hy, hf⟩
          · clear hfr
            go_wp2
            go_loopg [5] (L - 0) (fun g5 s5 wx => ∃ j : Nat, j + g5 = L + 1 ∧ 0 < j ∧ s5 = .int .i64 (j : Int) ∧ wx = wr ∧ Hid (F = LN.fin l j .one))
            case atStart => exact ⟨0 + 1, by omega, by omega, rfl, rfl, Lib.hid (HF1.out.trans (LN.fin_q1 HC.out))⟩
            case round =>
              rename_i g5
              obtain ⟨j, hj, hkj, rfl, rfl, HJ⟩ := hrel
              clear hi HC HZ hz0 hz1
              by_cases hjL : j < L
              · obtain ⟨d, hd⟩ : ∃ d, l[j]? = some d := ⟨l[j]'(by have := HL.out; omega), List.getElem?_eq_getElem _⟩
                have hjl : j < (⟨l.toArray⟩ : ByteArray).size := by omega
                have hub := d.toNat_lt
                obtain ⟨z, hz⟩ : ∃ z : Int, (d.toNat : Int) = z := ⟨_, rfl⟩
                have hi := at_z hd hz hjl
                have hz0 : 0 ≤ z := by omega
                have hz1 : z < 256 := by omega
                by_cases h39 : d = 39
                · subst h39
                  obtain rfl : z = 39 := hz.symm
                  by_cases h2 : l[j + 1]? = some 39
                  · have T := has_p HL.out j true ((has2 hd).trans (decide_eq_true h2)) wr
                    have E := Lib.hid (HJ.out.trans (LN.go_one_two hd h2))
                    have hjL2 : j + 1 < L := by
                      have := (List.getElem?_eq_some_iff.1 h2).1
                      have := HL.out
                      omega
                    clear hd hz hub h2
                    go_wp2_with (go_at_call 123; refine T.mono ?_; rintro e w' ⟨rfl, rfl⟩)
                    go_roundg (gk - 2)
                    case rel => exact ⟨j + 2, by omega, by omega, by simp; omega, rfl, E⟩
                    case measure => omega
                  · have T := has_p HL.out j false ((has2 hd).trans (decide_eq_false h2)) wr
                    have E := Lib.hid ((HJ.out.trans (LN.go_one_end hd h2)).trans (by rw [fr_next hd]; rfl : _ = LN.fin l (j + 1) (.out (fr l (j + 1)))))
                    clear hd hz hub h2
                    go_wp2_with (go_at_call 123; refine T.mono ?_; rintro e w' ⟨rfl, rfl⟩)
                    go_roundg (L - (j + 1))
                    case rel => exact ⟨j + 1, by omega, rfl, rfl, rfl, E⟩
                    case measure => omega
                · have q39 := ne_z hz 39 (by decide) h39
                  have T := has_p HL.out j false (has2_no hd h39) wr
                  have E := Lib.hid (HJ.out.trans (LN.go_one_pass hd h39))
                  clear hd hz hub h39
                  go_wp2_with (go_at_call 123; refine T.mono ?_; rintro e w' ⟨rfl, rfl⟩)
                  go_roundg (gk - 1)
                  case rel => exact ⟨j + 1, by omega, by omega, rfl, rfl, E⟩
                  case measure => omega
              · have E := Lib.hid (HJ.out.trans (LN.fin_one_end (by have := HL.out; omega)))
                have hjn : ¬ (j : Int) < (L : Int) := by omega
                go_wp2
                try rw [Exit.noGoto_ret]
                go_ret2
                exact st_none HF0.out E.out rfl
          · rw [hfr] at hf
            obtain rfl : y = 32 := by simpa using hf.symm
            have hpL : p < (⟨l.toArray⟩ : ByteArray).size := by omega
            have hip := at_z hy (z := 32) rfl hpL
            have hkp1 : (k : Int) - 1 = (p : Int) := by omega
            have hk1 : 0 < (k : Int) := by omega
            clear hfr hf hy hkp
            go_wp2
            go_loopg [5] (L - k) (fun g5 s5 wx => ∃ j : Nat, j + g5 = L + 1 ∧ k < j ∧ s5 = .int .i64 (j : Int) ∧ wx = wr ∧ Hid (F = LN.fin l j .one))
            case atStart => exact ⟨k + 1, by omega, by omega, rfl, rfl, Lib.hid (HF1.out.trans (LN.fin_q1 HC.out))⟩
            case round =>
              rename_i g5
              obtain ⟨j, hj, hkj, rfl, rfl, HJ⟩ := hrel
              clear hi HC HZ hz0 hz1
              by_cases hjL : j < L
              · obtain ⟨d, hd⟩ : ∃ d, l[j]? = some d := ⟨l[j]'(by have := HL.out; omega), List.getElem?_eq_getElem _⟩
                have hjl : j < (⟨l.toArray⟩ : ByteArray).size := by omega
                have hub := d.toNat_lt
                obtain ⟨z, hz⟩ : ∃ z : Int, (d.toNat : Int) = z := ⟨_, rfl⟩
                have hi := at_z hd hz hjl
                have hz0 : 0 ≤ z := by omega
                have hz1 : z < 256 := by omega
                by_cases h39 : d = 39
                · subst h39
                  obtain rfl : z = 39 := hz.symm
                  by_cases h2 : l[j + 1]? = some 39
                  · have T := has_p HL.out j true ((has2 hd).trans (decide_eq_true h2)) wr
                    have E := Lib.hid (HJ.out.trans (LN.go_one_two hd h2))
                    have hjL2 : j + 1 < L := by
                      have := (List.getElem?_eq_some_iff.1 h2).1
                      have := HL.out
                      omega
                    clear hd hz hub h2
                    go_wp2_with (go_at_call 123; refine T.mono ?_; rintro e w' ⟨rfl, rfl⟩)
                    go_roundg (gk - 2)
                    case rel => exact ⟨j + 2, by omega, by omega, by simp; omega, rfl, E⟩
                    case measure => omega
                  · have T := has_p HL.out j false ((has2 hd).trans (decide_eq_false h2)) wr
                    have E := Lib.hid ((HJ.out.trans (LN.go_one_end hd h2)).trans (by rw [fr_next hd]; rfl : _ = LN.fin l (j + 1) (.out (fr l (j + 1)))))
                    clear hd hz hub h2
                    go_wp2_with (go_at_call 123; refine T.mono ?_; rintro e w' ⟨rfl, rfl⟩)
                    go_roundg (L - (j + 1))
                    case rel => exact ⟨j + 1, by omega, rfl, rfl, rfl, E⟩
                    case measure => omega
                · have q39 := ne_z hz 39 (by decide) h39
                  have T := has_p HL.out j false (has2_no hd h39) wr
                  have E := Lib.hid (HJ.out.trans (LN.go_one_pass hd h39))
                  clear hd hz hub h39
                  go_wp2_with (go_at_call 123; refine T.mono ?_; rintro e w' ⟨rfl, rfl⟩)
                  go_roundg (gk - 1)
                  case rel => exact ⟨j + 1, by omega, by omega, rfl, rfl, E⟩
                  case measure => omega
              · have E := Lib.hid (HJ.out.trans (LN.fin_one_end (by have := HL.out; omega)))
                have hjn : ¬ (j : Int) < (L : Int) := by omega
                go_wp2
                try rw [Exit.noGoto_ret]
                go_ret2
                exact st_none HF0.out E.out rfl
        · obtain rfl : z = 34 := HZ.out.symm
          rcases hfc with ⟨_, rfl⟩ | ⟨p, y, hkp, hy, hf⟩
          · clear hfr
            go_wp2
            go_loopg [5] (L - 0) (fun g5 s5 wx => ∃ j : Nat, j + g5 = L + 1 ∧ 0 < j ∧ s5 = .int .i64 (j : Int) ∧ wx = wr ∧ Hid (F = LN.fin l j .two))
            case atStart => exact ⟨0 + 1, by omega, by omega, rfl, rfl, Lib.hid (HF1.out.trans (LN.fin_q2 HC.out))⟩
            case round =>
              rename_i g5
              obtain ⟨j, hj, hkj, rfl, rfl, HJ⟩ := hrel
              clear hi HC HZ hz0 hz1
              by_cases hjL : j < L
              · obtain ⟨d, hd⟩ : ∃ d, l[j]? = some d := ⟨l[j]'(by have := HL.out; omega), List.getElem?_eq_getElem _⟩
                have hjl : j < (⟨l.toArray⟩ : ByteArray).size := by omega
                have hub := d.toNat_lt
                obtain ⟨z, hz⟩ : ∃ z : Int, (d.toNat : Int) = z := ⟨_, rfl⟩
                have hi := at_z hd hz hjl
                have hz0 : 0 ≤ z := by omega
                have hz1 : z < 256 := by omega
                by_cases h92 : d = 92
                · subst h92
                  obtain rfl : z = 92 := hz.symm
                  have E := Lib.hid (HJ.out.trans (LN.go_two_esc hd))
                  clear hd hz hub
                  go_wp2
                  go_roundg (gk - 2)
                  case rel => exact ⟨j + 2, by omega, by omega, by simp; omega, rfl, E⟩
                  case measure => omega
                · have q92 := ne_z hz 92 (by decide) h92
                  by_cases h34 : d = 34
                  · subst h34
                    obtain rfl : z = 34 := hz.symm
                    have E := Lib.hid ((HJ.out.trans (LN.go_two_end hd)).trans (by rw [fr_next hd]; rfl : _ = LN.fin l (j + 1) (.out (fr l (j + 1)))))
                    clear hd hz hub h92
                    go_wp2
                    go_roundg (L - (j + 1))
                    case rel => exact ⟨j + 1, by omega, rfl, rfl, rfl, E⟩
                    case measure => omega
                  · have q34 := ne_z hz 34 (by decide) h34
                    have E := Lib.hid (HJ.out.trans (LN.go_two_pass hd h92 h34))
                    clear hd hz hub h34 h92
                    go_wp2
                    go_roundg (gk - 1)
                    case rel => exact ⟨j + 1, by omega, by omega, rfl, rfl, E⟩
                    case measure => omega
              · have E := Lib.hid (HJ.out.trans (LN.fin_two_end (by have := HL.out; omega)))
                have hjn : ¬ (j : Int) < (L : Int) := by omega
                go_wp2
                try rw [Exit.noGoto_ret]
                go_ret2
                exact st_none HF0.out E.out rfl
          · rw [hfr] at hf
            obtain rfl : y = 32 := by simpa using hf.symm
            have hpL : p < (⟨l.toArray⟩ : ByteArray).size := by omega
            have hip := at_z hy (z := 32) rfl hpL
            have hkp1 : (k : Int) - 1 = (p : Int) := by omega
            have hk1 : 0 < (k : Int) := by omega
            clear hfr hf hy hkp
            go_wp2
            go_loopg [5] (L - k) (fun g5 s5 wx => ∃ j : Nat, j + g5 = L + 1 ∧ k < j ∧ s5 = .int .i64 (j : Int) ∧ wx = wr ∧ Hid (F = LN.fin l j .two))
            case atStart => exact ⟨k + 1, by omega, by omega, rfl, rfl, Lib.hid (HF1.out.trans (LN.fin_q2 HC.out))⟩
            case round =>
              rename_i g5
              obtain ⟨j, hj, hkj, rfl, rfl, HJ⟩ := hrel
              clear hi HC HZ hz0 hz1
              by_cases hjL : j < L
              · obtain ⟨d, hd⟩ : ∃ d, l[j]? = some d := ⟨l[j]'(by have := HL.out; omega), List.getElem?_eq_getElem _⟩
                have hjl : j < (⟨l.toArray⟩ : ByteArray).size := by omega
                have hub := d.toNat_lt
                obtain ⟨z, hz⟩ : ∃ z : Int, (d.toNat : Int) = z := ⟨_, rfl⟩
                have hi := at_z hd hz hjl
                have hz0 : 0 ≤ z := by omega
                have hz1 : z < 256 := by omega
                by_cases h92 : d = 92
                · subst h92
                  obtain rfl : z = 92 := hz.symm
                  have E := Lib.hid (HJ.out.trans (LN.go_two_esc hd))
                  clear hd hz hub
                  go_wp2
                  go_roundg (gk - 2)
                  case rel => exact ⟨j + 2, by omega, by omega, by simp; omega, rfl, E⟩
                  case measure => omega
                · have q92 := ne_z hz 92 (by decide) h92
                  by_cases h34 : d = 34
                  · subst h34
                    obtain rfl : z = 34 := hz.symm
                    have E := Lib.hid ((HJ.out.trans (LN.go_two_end hd)).trans (by rw [fr_next hd]; rfl : _ = LN.fin l (j + 1) (.out (fr l (j + 1)))))
                    clear hd hz hub h92
                    go_wp2
                    go_roundg (L - (j + 1))
                    case rel => exact ⟨j + 1, by omega, rfl, rfl, rfl, E⟩
                    case measure => omega
                  · have q34 := ne_z hz 34 (by decide) h34
                    have E := Lib.hid (HJ.out.trans (LN.go_two_pass hd h92 h34))
                    clear hd hz hub h34 h92
                    go_wp2
                    go_roundg (gk - 1)
                    case rel => exact ⟨j + 1, by omega, by omega, rfl, rfl, E⟩
                    case measure => omega
              · have E := Lib.hid (HJ.out.trans (LN.fin_two_end (by have := HL.out; omega)))
                have hjn : ¬ (j : Int) < (L : Int) := by omega
                go_wp2
                try rw [Exit.noGoto_ret]
                go_ret2
                exact st_none HF0.out E.out rfl
        · obtain ⟨q35, q39, q34⟩ := sign_z HZ.out h35 h39 h34
          have E := Lib.hid ((HF1.out.trans (LN.fin_plain HC.out (.inr ⟨h35, h39, h34⟩))).trans (by rw [fr_next HC.out] : _ = LN.fin l (k + 1) (.out (fr l (k + 1)))))
          rcases hfc with ⟨_, rfl⟩ | ⟨p, y, hkp, hy, hf⟩
          · clear hfr
            go_wp2
            go_roundg g
            case rel => exact ⟨1, by omega, rfl, rfl, rfl, E⟩
            case measure => omega
          · rw [hfr] at hf
            obtain rfl : y = 32 := by simpa using hf.symm
            have hpL : p < (⟨l.toArray⟩ : ByteArray).size := by omega
            have hip := at_z hy (z := 32) rfl hpL
            have hkp1 : (k : Int) - 1 = (p : Int) := by omega
            have hk1 : 0 < (k : Int) := by omega
            clear hfr hf hy hkp
            go_wp2
            go_roundg g
            case rel => exact ⟨k + 1, by omega, rfl, rfl, rfl, E⟩
            case measure => omega
      · have hff : fr l k = false := by simpa using hfr
        have E := Lib.hid ((HF.out.trans (by rw [hff] : _ = LN.fin l k (.out false))).trans ((LN.fin_plain HC.out (.inl rfl)).trans (by rw [fr_next HC.out] : _ = LN.fin l (k + 1) (.out (fr l (k + 1))))))
        rcases hfc with ⟨h, _⟩ | ⟨p, y, hkp, hy, hf⟩
        · exact absurd h hfr
        · rw [hff] at hf
          have hy32 : y ≠ 32 := by
            rintro rfl; cases hf
          obtain ⟨u, hu⟩ : ∃ u : Int, (y.toNat : Int) = u := ⟨_, rfl⟩
          have hpL : p < (⟨l.toArray⟩ : ByteArray).size := by omega
          have hip := at_z hy hu hpL
          have q32 := ne_z hu 32 (by decide) hy32
          have hkp1 : (k : Int) - 1 = (p : Int) := by omega
          have hk1 : 0 < (k : Int) := by omega
          clear hfr hf hy hkp hu hy32 hff
          go_wp2
          go_roundg g
          case rel => exact ⟨k + 1, by omega, rfl, rfl, rfl, E⟩
          case measure => omega
end Go.Proofs.YtmgalfdiiegjjaaGreatDoor
