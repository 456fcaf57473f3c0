/- Walks of the document's own Strip, and of how it passes a quoted text by. -/
import Derived.Test.YtmgalfdiiegjjaaGreatDoorLnS
namespace Go.Proofs.YtmgalfdiiegjjaaGreatDoor
open Go.RowKit

/-- What is told of a quoted text that is opened at i: where it ends, or that it does not. -/
def Quo (l : List UInt8) (i : Nat) (q : LN.Q) (c : UInt8) (e : Ending) : Prop :=
  (∃ K, i < K ∧ K ≤ l.length ∧ l[K - 1]? = some c ∧ e = .returned (.tuple #[.int .i64 (K : Int), .bool true]) ∧ LN.fin l (i + 1) q = LN.fin l K (.out false)) ∨ (e = .returned (.tuple #[.int .i64 0, .bool false]) ∧ LN.fin l (i + 1) q = none)

set_option maxHeartbeats 4000000 in
theorem rquoted39 (l : List UInt8) (i : Nat) (hl : l.length ≤ 20000) (hi0 : l[i]? = some 39) (w : World) :
    Calls Tryz.prog 95 #[.string ⟨l.toArray⟩, .int .i64 (i : Int)] w fun e w' => Quo l i .one 39 e ∧ w' = w := by
  have hsz := str_size l
  obtain ⟨L, hLI⟩ : ∃ L : Nat, l.length = L := ⟨_, rfl⟩
  rw [hLI] at hsz
  have hl9 : L ≤ 20000 := by omega
  have HL := Lib.hid hLI
  have hiL : i < L := by rw [← hLI]; exact (List.getElem?_eq_some_iff.1 hi0).1
  have hisz : i < (⟨l.toArray⟩ : ByteArray).size := by omega
  have hiz := at_z hi0 (z := 39) rfl hisz
  clear hl hLI hi0
  go_enter Tryz.func95, Tryz.ntmps95
  go_wp2
  clear hiz
  go_loopg [7] (L - i) (fun g s7 wx => ∃ j : Nat, j + g = L + 1 ∧ i < j ∧ s7 = .int .i64 (j : Int) ∧ wx = w ∧ Hid (LN.fin l (i + 1) .one = LN.fin l j .one))
  case atStart => exact ⟨i + 1, by omega, by omega, rfl, rfl, rfl⟩
  case round =>
    obtain ⟨j, hj, hkj, rfl, rfl, HJ⟩ := hrel
    by_cases hjL : j < L
    · obtain ⟨d, hd⟩ : ∃ d, l[j]? = some d := ⟨l[j]'(by have := HL.out; omega), List.getElem?_eq_getElem _⟩
      have hjl : j < (⟨l.toArray⟩ : ByteArray).size := by omega
      have hub := d.toNat_lt
      obtain ⟨z, hz⟩ : ∃ z : Int, (d.toNat : Int) = z := ⟨_, rfl⟩
      have hi := at_z hd hz hjl
      have hz0 : 0 ≤ z := by omega
      have hz1 : z < 256 := by omega
      by_cases h39 : d = 39
      · subst h39
        obtain rfl : z = 39 := hz.symm
        have DD := Lib.hid hd
        by_cases hj2 : j + 1 < L
        · have hj2' : (j : Int) + 1 < (L : Int) := by omega
          obtain ⟨d2, hd2⟩ : ∃ d, l[j + 1]? = some d := ⟨l[j + 1]'(by have := HL.out; omega), List.getElem?_eq_getElem _⟩
          have hjl2 : j + 1 < (⟨l.toArray⟩ : ByteArray).size := by omega
          by_cases h2 : d2 = 39
          · subst h2
            have hi2 := at_z hd2 (z := 39) rfl hjl2
            have E := Lib.hid (HJ.out.trans (LN.go_one_two hd hd2))
            clear hd hz hub hd2
            go_wp2
            go_roundg (gk - 2)
            case rel => exact ⟨j + 2, by omega, by omega, by simp; omega, rfl, E⟩
            case measure => omega
          · obtain ⟨z2, hz2⟩ : ∃ z : Int, (d2.toNat : Int) = z := ⟨_, rfl⟩
            have hi2 := at_z hd2 hz2 hjl2
            have q2 := ne_z hz2 39 (by decide) h2
            have E := Lib.hid (HJ.out.trans (LN.go_one_end hd (by rw [hd2]; intro e; exact h2 (Option.some.inj e))))
            clear hd hz hub hd2 hz2 h2
            go_wp2
            try rw [Exit.noGoto_ret]
            go_ret2
            exact ⟨.inl ⟨j + 1, by omega, by have := HL.out; omega, DD.out, rfl, E.out⟩, rfl⟩
        · have hj2' : ¬ (j : Int) + 1 < (L : Int) := by omega
          have E := Lib.hid (HJ.out.trans (LN.go_one_end hd (by rw [List.getElem?_eq_none (by have := HL.out; omega)]; simp)))
          clear hd hz hub
          go_wp2
          try rw [Exit.noGoto_ret]
          go_ret2
          exact ⟨.inl ⟨j + 1, by omega, by have := HL.out; omega, DD.out, rfl, E.out⟩, rfl⟩
      · have q39 := ne_z hz 39 (by decide) h39
        have E := Lib.hid (HJ.out.trans (LN.go_one_pass hd h39))
        clear hd hz hub h39
        go_wp2
        go_roundg (gk - 1)
        case rel => exact ⟨j + 1, by omega, by omega, rfl, rfl, E⟩
        case measure => omega
    · have E := Lib.hid (HJ.out.trans (LN.fin_one_end (by have := HL.out; omega)))
      have hjn : ¬ (j : Int) < (L : Int) := by omega
      go_wp2
      try rw [Exit.noGoto_ret]
      go_ret2
      exact ⟨.inr ⟨rfl, E.out⟩, rfl⟩

set_option maxHeartbeats 4000000 in
theorem rquoted34 (l : List UInt8) (i : Nat) (hl : l.length ≤ 20000) (hi0 : l[i]? = some 34) (w : World) :
    Calls Tryz.prog 95 #[.string ⟨l.toArray⟩, .int .i64 (i : Int)] w fun e w' => Quo l i .two 34 e ∧ w' = w := by
  have hsz := str_size l
  obtain ⟨L, hLI⟩ : ∃ L : Nat, l.length = L := ⟨_, rfl⟩
  rw [hLI] at hsz
  have hl9 : L ≤ 20000 := by omega
  have HL := Lib.hid hLI
  have hiL : i < L := by rw [← hLI]; exact (List.getElem?_eq_some_iff.1 hi0).1
  have hisz : i < (⟨l.toArray⟩ : ByteArray).size := by omega
  have hiz := at_z hi0 (z := 34) rfl hisz
  clear hl hLI hi0
  go_enter Tryz.func95, Tryz.ntmps95
  go_wp2
  clear hiz
  go_loopg [7] (L - i) (fun g s7 wx => ∃ j : Nat, j + g = L + 1 ∧ i < j ∧ s7 = .int .i64 (j : Int) ∧ wx = w ∧ Hid (LN.fin l (i + 1) .two = LN.fin l j .two))
  case atStart => exact ⟨i + 1, by omega, by omega, rfl, rfl, rfl⟩
  case round =>
    obtain ⟨j, hj, hkj, rfl, rfl, HJ⟩ := hrel
    by_cases hjL : j < L
    · obtain ⟨d, hd⟩ : ∃ d, l[j]? = some d := ⟨l[j]'(by have := HL.out; omega), List.getElem?_eq_getElem _⟩
      have hjl : j < (⟨l.toArray⟩ : ByteArray).size := by omega
      have hub := d.toNat_lt
      obtain ⟨z, hz⟩ : ∃ z : Int, (d.toNat : Int) = z := ⟨_, rfl⟩
      have hi := at_z hd hz hjl
      have hz0 : 0 ≤ z := by omega
      have hz1 : z < 256 := by omega
      by_cases h92 : d = 92
      · subst h92
        obtain rfl : z = 92 := hz.symm
        have E := Lib.hid (HJ.out.trans (LN.go_two_esc hd))
        clear hd hz hub
        go_wp2
        go_roundg (gk - 2)
        case rel => exact ⟨j + 2, by omega, by omega, by simp; omega, rfl, E⟩
        case measure => omega
      · have q92 := ne_z hz 92 (by decide) h92
        by_cases h34 : d = 34
        · subst h34
          obtain rfl : z = 34 := hz.symm
          have DD := Lib.hid hd
          have E := Lib.hid (HJ.out.trans (LN.go_two_end hd))
          clear hd hz hub h92
          go_wp2
          try rw [Exit.noGoto_ret]
          go_ret2
          exact ⟨.inl ⟨j + 1, by omega, by have := HL.out; omega, DD.out, rfl, E.out⟩, rfl⟩
        · have q34 := ne_z hz 34 (by decide) h34
          have E := Lib.hid (HJ.out.trans (LN.go_two_pass hd h92 h34))
          clear hd hz hub h34 h92
          go_wp2
          go_roundg (gk - 1)
          case rel => exact ⟨j + 1, by omega, by omega, rfl, rfl, E⟩
          case measure => omega
    · have E := Lib.hid (HJ.out.trans (LN.fin_two_end (by have := HL.out; omega)))
      have hjn : ¬ (j : Int) < (L : Int) := by omega
      go_wp2
      try rw [Exit.noGoto_ret]
      go_ret2
      exact ⟨.inr ⟨rfl, E.out⟩, rfl⟩
end Go.Proofs.YtmgalfdiiegjjaaGreatDoor
