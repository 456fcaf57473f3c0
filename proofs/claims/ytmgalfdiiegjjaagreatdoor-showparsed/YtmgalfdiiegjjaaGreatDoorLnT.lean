/- Walk of the document's own Strip. -/
import Derived.Test.YtmgalfdiiegjjaaGreatDoorLnR
namespace Go.Proofs.YtmgalfdiiegjjaaGreatDoor
open Go.RowKit

theorem rst_ret {l : List UInt8} {e m : Nat} {P : Prop} {F : Option Nat} (hF : F = LN.fin l 0 (.out true)) (h : F = some e) (hel : e ≤ l.length) (hm : m ≤ e) (h1 : ∀ j, m ≤ j → j < e → l[j]? = some 32) (h2 : 0 < m → l[m - 1]? ≠ some 32) (hp : P) : Ending.returned (.tuple #[.string ((⟨l.toArray⟩ : ByteArray).extract 0 m), .bool true]) = .returned (.tuple #[.string ⟨(stS l).toArray⟩, .bool (stB l)]) ∧ P := by
  refine ⟨?_, hp⟩
  have ht : LN.tr (l.take e) = l.take m := by
    have hlt : (l.take e).length = e := by simp; omega
    rw [LN.tr_uniq (k := m) (by omega) (fun j a b => by rw [List.getElem?_take_of_lt (by omega)]; exact h1 j a (by omega)) (fun a => by rw [List.getElem?_take_of_lt (by omega)]; exact h2 a), List.take_take, Nat.min_eq_left hm]
  unfold stS stB LN.strip
  rw [← hF, h, cut_front]
  show _ = Ending.returned (.tuple #[.string ⟨(LN.tr (l.take e)).toArray⟩, .bool true])
  rw [ht]
theorem fr_at {l : List UInt8} {K : Nat} {c : UInt8} (hK : 0 < K) (h : l[K - 1]? = some c) : fr l K = (c == 32) := by
  obtain ⟨k, rfl⟩ : ∃ k, K = k + 1 := ⟨K - 1, by omega⟩
  exact fr_next h

set_option maxHeartbeats 4000000 in
theorem rstrip_any (l : List UInt8) (hl : l.length ≤ 20000) (w : World) :
    Calls Tryz.prog 64 #[.string ⟨l.toArray⟩] w fun e w' => e = .returned (.tuple #[.string ⟨(stS l).toArray⟩, .bool (stB l)]) ∧ w' = w := by
  have hsz := str_size l
  obtain ⟨L, hLI⟩ : ∃ L : Nat, l.length = L := ⟨_, rfl⟩
  rw [hLI] at hsz
  have hl9 : L ≤ 20000 := by omega
  have HL := Lib.hid hLI
  have HLB := Lib.hid hl
  clear hl hLI
  obtain ⟨F, HF0⟩ : ∃ F, Hid (F = LN.fin l 0 (.out true)) := ⟨_, rfl⟩
  go_enter Tryz.func64, Tryz.ntmps64
  go_wp2
  go_loopg [4, 5] L (fun g s4 s5 wr => ∃ k E : Nat, k + g = E ∧ E ≤ L ∧ s4 = .int .i64 (E : Int) ∧ s5 = .int .i64 (k : Int) ∧ wr = w ∧ Hid ((E = L ∧ F = LN.fin l k (.out (fr l k))) ∨ (E = k ∧ F = some k)))
  case atStart => exact ⟨0, L, by omega, Nat.le_refl _, rfl, rfl, rfl, Lib.hid (.inl ⟨rfl, HF0.out⟩)⟩
  case round =>
    obtain ⟨k, E, hk, hEL, rfl, rfl, rfl, HF⟩ := hrel
    cases gk with
    | zero =>
      obtain rfl : k = E := by omega
      have EE : Hid (F = some k) := by
        rcases HF.out with ⟨h1, h2⟩ | ⟨_, h2⟩
        · exact h2.trans (LN.fin_end (by have := HL.out; omega))
        · exact h2
      have hkk : ¬ (k : Int) < (k : Int) := by omega
      clear HF
      go_wp2
      go_loopg [4] k (fun g4 s4 wx => ∃ m : Nat, m < g4 + 1 ∧ m ≤ k ∧ s4 = .int .i64 (m : Int) ∧ wx = wr ∧ Hid (∀ j, m ≤ j → j < k → l[j]? = some 32))
      case atStart => exact ⟨k, by omega, Nat.le_refl _, rfl, rfl, Lib.hid fun j h1 h2 => absurd h2 (by omega)⟩
      case round =>
        obtain ⟨m, hm, hmk, rfl, rfl, HB⟩ := hrel
        cases m with
        | zero =>
          go_wp2
          go_ret2
          have h := rst_ret (P := True) HF0.out EE.out (by have := HL.out; omega) hmk HB.out (fun h => absurd h (by omega)) trivial
          exact ⟨by simpa using h, rfl⟩
        | succ p =>
          obtain ⟨m, hmp⟩ : ∃ m, m = p + 1 := ⟨_, rfl⟩
          rw [← hmp] at hm hmk HB ⊢
          obtain ⟨y, hy⟩ : ∃ y, l[p]? = some y := ⟨l[p]'(by have := HL.out; omega), List.getElem?_eq_getElem _⟩
          have hpL : p < (⟨l.toArray⟩ : ByteArray).size := by omega
          have hkp1 : (m : Int) - 1 = (p : Int) := by omega
          have hk1 : 0 < (m : Int) := by omega
          have hpg : p < gk := by omega
          have hpk : p ≤ k := by omega
          by_cases hy32 : y = 32
          · subst hy32
            have hip := at_z hy (z := 32) rfl hpL
            have NB := Lib.hid (show ∀ j, p ≤ j → j < k → l[j]? = some 32 from fun j h1 h2 => by
              rcases Nat.lt_or_ge j m with h | h
              · obtain rfl : j = p := by omega
                exact hy
              · exact HB.out j h h2)
            clear hy HB hmp
            go_wp2
            go_roundg p
            case rel => exact ⟨p, by omega, by omega, rfl, rfl, NB⟩
            case measure => omega
          · obtain ⟨u, hu⟩ : ∃ u : Int, (y.toNat : Int) = u := ⟨_, rfl⟩
            have hip := at_z hy hu hpL
            have q32 := ne_z hu 32 (by decide) hy32
            have NE := Lib.hid (show l[m - 1]? ≠ some 32 by
              rw [show m - 1 = p by omega, hy]; intro e; exact hy32 (Option.some.inj e))
            clear hy hu hy32 hmp
            go_wp2
            go_ret2
            exact (rst_ret HF0.out EE.out (by have := HL.out; omega) hmk HB.out (fun _ => NE.out) rfl)
    | succ g =>
      obtain ⟨rfl, HF2⟩ : E = L ∧ Hid (F = LN.fin l k (.out (fr l k))) := by
        rcases HF.out with ⟨h1, h2⟩ | ⟨h1, _⟩
        · exact ⟨h1, h2⟩
        · omega
      clear HF
      obtain ⟨c, hc⟩ : ∃ c, l[k]? = some c := ⟨l[k]'(by have := HL.out; omega), List.getElem?_eq_getElem _⟩
      have hkL : k < (⟨l.toArray⟩ : ByteArray).size := by omega
      have hkl : (k : Int) < (E : Int) := by omega
      have hub := c.toNat_lt
      obtain ⟨z, hz⟩ : ∃ z : Int, (c.toNat : Int) = z := ⟨_, rfl⟩
      have hi := at_z hc hz hkL
      have hz0 : 0 ≤ z := by omega
      have hz1 : z < 256 := by omega
      have HZ := Lib.hid hz
      have HC := Lib.hid hc
      clear hc hz hub
      have hfc := fr_cases l k (by have := HL.out; omega)
      by_cases hfr : fr l k = true
      · have HF1 : Hid (F = LN.fin l k (.out true)) := by have := HF2.out; rw [hfr] at this; exact this
        clear HF2
        rcases sign4 c with rfl | rfl | rfl | ⟨h35, h39, h34⟩
        · obtain rfl : z = 35 := HZ.out.symm
          have EE := Lib.hid (show F = some k from HF1.out.trans (LN.fin_remark HC.out))
          rcases hfc with ⟨_, rfl⟩ | ⟨p, y, hkp, hy, hf⟩
          · clear hfr
            go_wp2
            go_roundg 0
            case rel => exact ⟨0, 0, by omega, by omega, rfl, rfl, rfl, Lib.hid (.inr ⟨rfl, EE.out⟩)⟩
            case measure => omega
          · rw [hfr] at hf
            obtain rfl : y = 32 := by simpa using hf.symm
            have hpL : p < (⟨l.toArray⟩ : ByteArray).size := by omega
            have hip := at_z hy (z := 32) rfl hpL
            have hkp1 : (k : Int) - 1 = (p : Int) := by omega
            have hk1 : ¬ (k : Int) = 0 := by omega
            clear hfr hf hy hkp
            go_wp2
            go_roundg 0
            case rel => exact ⟨k, k, by omega, by omega, rfl, rfl, rfl, Lib.hid (.inr ⟨rfl, EE.out⟩)⟩
            case measure => omega
        · obtain rfl : z = 39 := HZ.out.symm
          have FQ := Lib.hid (HF1.out.trans (LN.fin_q1 HC.out))
          have T := rquoted39 l k HLB.out HC.out wr
          rcases hfc with ⟨_, rfl⟩ | ⟨p, y, hkp, hy, hf⟩
          · clear hfr
            go_wp2_with fail
            refine T.mono ?_
            rintro e w' ⟨hQ, rfl⟩
            rcases hQ with ⟨K, hK0, hKL, hKc, rfl, hKF⟩ | ⟨rfl, hKF⟩
            · have hKE : K ≤ E := by have := HL.out; omega
              have EE := Lib.hid ((FQ.out.trans hKF).trans (by rw [fr_at (by omega) hKc]; rfl : _ = LN.fin l K (.out (fr l K))))
              clear hKL hKc hKF T
              go_wp2
              go_roundg (E - K)
              case rel => exact ⟨K, E, by omega, by omega, rfl, rfl, rfl, Lib.hid (.inl ⟨rfl, EE.out⟩)⟩
              case measure => omega
            · have EE := Lib.hid (FQ.out.trans hKF)
              clear hKF T
              go_wp2
              try rw [Exit.noGoto_ret]
              go_ret2
              exact st_none HF0.out EE.out rfl
          · rw [hfr] at hf
            obtain rfl : y = 32 := by simpa using hf.symm
            have hpL : p < (⟨l.toArray⟩ : ByteArray).size := by omega
            have hip := at_z hy (z := 32) rfl hpL
            have hkp1 : (k : Int) - 1 = (p : Int) := by omega
            have hk1 : ¬ (k : Int) = 0 := by omega
            clear hfr hf hy hkp
            go_wp2_with fail
            refine T.mono ?_
            rintro e w' ⟨hQ, rfl⟩
            rcases hQ with ⟨K, hK0, hKL, hKc, rfl, hKF⟩ | ⟨rfl, hKF⟩
            · have hKE : K ≤ E := by have := HL.out; omega
              have EE := Lib.hid ((FQ.out.trans hKF).trans (by rw [fr_at (by omega) hKc]; rfl : _ = LN.fin l K (.out (fr l K))))
              clear hKL hKc hKF T
              go_wp2
              go_roundg (E - K)
              case rel => exact ⟨K, E, by omega, by omega, rfl, rfl, rfl, Lib.hid (.inl ⟨rfl, EE.out⟩)⟩
              case measure => omega
            · have EE := Lib.hid (FQ.out.trans hKF)
              clear hKF T
              go_wp2
              try rw [Exit.noGoto_ret]
              go_ret2
              exact st_none HF0.out EE.out rfl
        · obtain rfl : z = 34 := HZ.out.symm
          have FQ := Lib.hid (HF1.out.trans (LN.fin_q2 HC.out))
          have T := rquoted34 l k HLB.out HC.out wr
          rcases hfc with ⟨_, rfl⟩ | ⟨p, y, hkp, hy, hf⟩
          · clear hfr
            go_wp2_with fail
            refine T.mono ?_
            rintro e w' ⟨hQ, rfl⟩
            rcases hQ with ⟨K, hK0, hKL, hKc, rfl, hKF⟩ | ⟨rfl, hKF⟩
            · have hKE : K ≤ E := by have := HL.out; omega
              have EE := Lib.hid ((FQ.out.trans hKF).trans (by rw [fr_at (by omega) hKc]; rfl : _ = LN.fin l K (.out (fr l K))))
              clear hKL hKc hKF T
              go_wp2
              go_roundg (E - K)
              case rel => exact ⟨K, E, by omega, by omega, rfl, rfl, rfl, Lib.hid (.inl ⟨rfl, EE.out⟩)⟩
              case measure => omega
            · have EE := Lib.hid (FQ.out.trans hKF)
              clear hKF T
              go_wp2
              try rw [Exit.noGoto_ret]
              go_ret2
              exact st_none HF0.out EE.out rfl
          · rw [hfr] at hf
            obtain rfl : y = 32 := by simpa using hf.symm
            have hpL : p < (⟨l.toArray⟩ : ByteArray).size := by omega
            have hip := at_z hy (z := 32) rfl hpL
            have hkp1 : (k : Int) - 1 = (p : Int) := by omega
            have hk1 : ¬ (k : Int) = 0 := by omega
            clear hfr hf hy hkp
            go_wp2_with fail
            refine T.mono ?_
            rintro e w' ⟨hQ, rfl⟩
            rcases hQ with ⟨K, hK0, hKL, hKc, rfl, hKF⟩ | ⟨rfl, hKF⟩
            · have hKE : K ≤ E := by have := HL.out; omega
              have EE := Lib.hid ((FQ.out.trans hKF).trans (by rw [fr_at (by omega) hKc]; rfl : _ = LN.fin l K (.out (fr l K))))
              clear hKL hKc hKF T
              go_wp2
              go_roundg (E - K)
              case rel => exact ⟨K, E, by omega, by omega, rfl, rfl, rfl, Lib.hid (.inl ⟨rfl, EE.out⟩)⟩
              case measure => omega
            · have EE := Lib.hid (FQ.out.trans hKF)
              clear hKF T
              go_wp2
              try rw [Exit.noGoto_ret]
              go_ret2
              exact st_none HF0.out EE.out rfl
        · obtain ⟨q35, q39, q34⟩ := sign_z HZ.out h35 h39 h34
          have b39 : (z == 39) = false := beq_eq_false_iff_ne.2 q39
          have b34 : (z == 34) = false := beq_eq_false_iff_ne.2 q34
          have EE := Lib.hid ((HF1.out.trans (LN.fin_plain HC.out (.inr ⟨h35, h39, h34⟩))).trans (by rw [fr_next HC.out] : _ = LN.fin l (k + 1) (.out (fr l (k + 1)))))
          rcases hfc with ⟨_, rfl⟩ | ⟨p, y, hkp, hy, hf⟩
          · clear hfr
            go_wp2
            go_roundg g
            case rel => exact ⟨0 + 1, E, by omega, by omega, rfl, rfl, rfl, Lib.hid (.inl ⟨rfl, EE.out⟩)⟩
            case measure => omega
          · rw [hfr] at hf
            obtain rfl : y = 32 := by simpa using hf.symm
            have hpL : p < (⟨l.toArray⟩ : ByteArray).size := by omega
            have hip := at_z hy (z := 32) rfl hpL
            have hkp1 : (k : Int) - 1 = (p : Int) := by omega
            have hk1 : ¬ (k : Int) = 0 := by omega
            clear hfr hf hy hkp
            go_wp2
            go_roundg g
            case rel => exact ⟨k + 1, E, by omega, by omega, rfl, rfl, rfl, Lib.hid (.inl ⟨rfl, EE.out⟩)⟩
            case measure => omega
      · have hff : fr l k = false := by simpa using hfr
        have EE := Lib.hid ((HF2.out.trans (by rw [hff] : _ = LN.fin l k (.out false))).trans ((LN.fin_plain HC.out (.inl rfl)).trans (by rw [fr_next HC.out] : _ = LN.fin l (k + 1) (.out (fr l (k + 1))))))
        rcases hfc with ⟨h, _⟩ | ⟨p, y, hkp, hy, hf⟩
        · exact absurd h hfr
        · rw [hff] at hf
          have hy32 : y ≠ 32 := by
            rintro rfl; cases hf
          obtain ⟨u, hu⟩ : ∃ u : Int, (y.toNat : Int) = u := ⟨_, rfl⟩
          have hpL : p < (⟨l.toArray⟩ : ByteArray).size := by omega
          have hip := at_z hy hu hpL
          have q32 := ne_z hu 32 (by decide) hy32
          have hkp1 : (k : Int) - 1 = (p : Int) := by omega
          have hk1 : ¬ (k : Int) = 0 := by omega
          clear hfr hf hy hkp hu hy32 hff
          go_wp2
          go_roundg g
          case rel => exact ⟨k + 1, E, by omega, by omega, rfl, rfl, rfl, Lib.hid (.inl ⟨rfl, EE.out⟩)⟩
          case measure => omega
end Go.Proofs.YtmgalfdiiegjjaaGreatDoor
