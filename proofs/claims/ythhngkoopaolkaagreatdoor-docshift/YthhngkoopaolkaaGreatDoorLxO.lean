/- Walks of the document's own meant. -/
import Derived.Test.YthhngkoopaolkaaGreatDoorLxN
import Derived.Test.YthhngkoopaolkaaGreatDoorSlcB
import Derived.Deep.RegionHeld3
namespace Go.Proofs.YthhngkoopaolkaaGreatDoor
open Go.RowKit

theorem Tryz.linfo_u8 : (Tryz.prog.info? 5).map (fun i => (i.zero, i.size, i.bytes)) = some (some (.int .u8 0), 1, 1) := by kernel_rfl
theorem lwrap_small {z : Int} (h0 : 0 ≤ z) (h1 : z ≤ 100000) : IntKind.i64.wrap z = z := by
  unfold IntKind.wrap
  simp [IntKind.signed, IntKind.bits]
  omega
theorem lwrap8_small {z : Int} (h0 : 0 ≤ z) (h1 : z < 256) : IntKind.u8.wrap z = z := by
  unfold IntKind.wrap
  simp [IntKind.signed, IntKind.bits]
  omega
/-- What meant answers, at its end. -/
def MeE (w : World) (F : Option (List UInt8)) (e : Ending) (w' : World) : Prop :=
  (∃ x b, e = .returned (.tuple #[.string ⟨x.toArray⟩, .bool b]) ∧ ((F = some x ∧ b = true) ∨ (F = none ∧ b = false))) ∧ Below w.heap.size w w'
theorem mee_yes {w w' : World} {F : Option (List UInt8)} {x : List UInt8} {b : Bool} (h : F = some x) (hb2 : b = true) (hb : Below w.heap.size w w') : MeE w F (.returned (.tuple #[.string ⟨x.toArray⟩, .bool b])) w' := ⟨⟨x, b, rfl, .inl ⟨h, hb2⟩⟩, hb⟩
theorem mee_no {w w' : World} {F : Option (List UInt8)} {x : List UInt8} {b : Bool} (h : F = none) (hb2 : b = false) (hb : Below w.heap.size w w') : MeE w F (.returned (.tuple #[.string ⟨x.toArray⟩, .bool b])) w' := ⟨⟨x, b, rfl, .inr ⟨h, hb2⟩⟩, hb⟩

set_option maxRecDepth 10000 in
set_option maxHeartbeats 8000000 in
theorem rmeant_one (t : List UInt8) (w : World) (hl : t.length ≤ 17000) :
    Calls Tryz.prog 85 #[.string ⟨(39 :: t).toArray⟩] w (MeE w (LX.sq t)) := by
  obtain ⟨F, HF⟩ : ∃ F, Hid (F = LX.sq t) := ⟨_, Lib.hid rfl⟩
  rw [← HF.out]
  obtain ⟨l, hl0⟩ : ∃ l, l = 39 :: t := ⟨_, rfl⟩
  have H1 : Hid (l.drop 1 = t) := by show _ = _; rw [hl0]; rfl
  have HLL : Hid (l.length = t.length + 1) := by show _ = _; rw [hl0]; rfl
  have hc0 : l[0]? = some 39 := by rw [hl0]; rfl
  rw [← hl0]
  have hsz := str_size l
  have hp0 : 0 < (⟨l.toArray⟩ : ByteArray).size := by rw [hsz]; have := HLL.out; omega
  have hi0 := at_z hc0 (z := 39) rfl hp0
  obtain ⟨n, hn⟩ : ∃ n, l.length = n := ⟨_, rfl⟩
  have HL := Lib.hid hn
  have hn1 : 1 ≤ n ∧ n ≤ 17001 := by have := HLL.out; omega
  rw [hn] at hsz
  have HCS := Lib.hid (fun (v : Value) (w' : World) (bs : List UInt8) (h : Rdv w' v (bv bs)) => run_string_rd (P := Tryz.prog) 22 5 9 Tryz.underlying22 Tryz.underlying5 Tryz.underlying9 h)
  clear hl0 hn hl hc0
  go_enter Tryz.func85, Tryz.ntmps85
  go_wp2
  go_loopg [4, 6] (n - 1) (fun g s4 s6 wx => ∃ (i : Nat) (acc : List UInt8) (v : Value), i + g = n ∧ 1 ≤ i ∧ acc.length ≤ i ∧ s6 = .int .i64 (i : Int) ∧ v = s4 ∧ Hid (Below w.heap.size w wx) ∧ Hid (Own wx w.heap.size 5 v (bv acc)) ∧ Hid (F = (LX.sq (l.drop i)).map (acc ++ ·)))
  case atStart => exact ⟨1, [], _, by omega, by omega, by simp, rfl, rfl, Below.refl _ _, Own.nil _ _ _, by show _ = _; rw [H1.out, HF.out]; simp⟩
  case round =>
    obtain ⟨i, acc, v, hi, hi1, hac, rfl, rfl, HW, HO, HE⟩ := hrel
    cases gk with
    | zero =>
      obtain rfl : i = n := by omega
      have E := Lib.hid (show F = none by rw [HE.out, List.drop_eq_nil_of_le (by have := HL.out; omega)]; rfl)
      go_wp2
      go_ret2
      exact mee_no E.out rfl HW.out
    | succ g =>
      have hin : (i : Int) < (n : Int) := by omega
      obtain ⟨c, hc⟩ : ∃ c, l[i]? = some c := ⟨l[i]'(by have := HL.out; omega), List.getElem?_eq_getElem _⟩
      have hil : i < (⟨l.toArray⟩ : ByteArray).size := by omega
      have hub := c.toNat_lt
      obtain ⟨z, hz⟩ : ∃ z : Int, (c.toNat : Int) = z := ⟨_, rfl⟩
      have hiz := at_z hc hz hil
      have hz0 : 0 ≤ z := by omega
      have hz1 : z < 256 := by omega
      have HZ := Lib.hid hz
      have HD := Lib.hid (drop_at hc)
      have hcs := HCS.out v wr acc HO.out.rd
      clear hz hub hc
      by_cases h39 : c = 39
      · subst h39
        obtain rfl : z = 39 := HZ.out.symm
        by_cases hend : i + 1 = n
        · have E := Lib.hid (show F = some acc by rw [HE.out, HD.out, show l.drop (i + 1) = [] from List.drop_eq_nil_of_le (by have := HL.out; omega), LX.sq_end]; simp)
          have e1 : ¬ (i : Int) + 1 < (n : Int) := by omega
          have e2 : ((i : Int) == (n : Int) - 1) = true := beq_iff_eq.2 (by omega)
          have e3 : (n : Int) - 1 = (i : Int) := by omega
          go_wp2
          go_ret2
          exact mee_yes E.out rfl HW.out
        · have e1 : (i : Int) + 1 < (n : Int) := by omega
          obtain ⟨d, hd⟩ : ∃ d, l[i + 1]? = some d := ⟨l[i + 1]'(by have := HL.out; omega), List.getElem?_eq_getElem _⟩
          have hil1 : i + 1 < (⟨l.toArray⟩ : ByteArray).size := by omega
          obtain ⟨y, hy⟩ : ∃ z : Int, (d.toNat : Int) = z := ⟨_, rfl⟩
          have hiy := at_z hd hy hil1
          have hub := d.toNat_lt
          have hy0 : 0 ≤ y := by omega
          have hy1 : y < 256 := by omega
          have HY := Lib.hid hy
          have HD2 := Lib.hid (drop_at hd)
          clear hd hy hub
          by_cases hd39 : d = 39
          · subst hd39
            obtain rfl : y = 39 := HY.out.symm
            have E := Lib.hid (show F = (LX.sq (l.drop (i + 2))).map ((acc ++ [39]) ++ ·) by rw [HE.out, HD.out, HD2.out, LX.sq_two, Option.map_map]; congr 1; funext q; simp)
            clear hcs
            go_wp2_with (at_builtin; refine wpList_append_bytes rfl (.tmp 36) (.tmp 38) 22 rfl w.heap.size 5 Tryz.underlying22 Tryz.linfo_u8 (by rfl) (HO.out.alloc _) (by rfl) (one_rd (b := 39) rfl) (by simp; omega) (by have := HW.out.size; rw [bx_size]; omega) ?_; intro v3 w3 ho3 hg3 hb3; have O3 := Lib.hid ho3; have B3 := Lib.hid (HW.out.trans (((Below.refl _ _).alloc HW.out.size _).trans hb3)); clear ho3 hg3 hb3)
            go_roundg (n - (i + 2))
            case rel => exact ⟨i + 2, acc ++ [39], v3, by omega, by omega, by simp; omega, by simp; omega, rfl, B3, O3, E⟩
            case measure => omega
          · have q : (y == 39) = false := zne HY.out 39 (by decide) hd39
            have q2 : ¬ y = 39 := beq_eq_false_iff_ne.1 q
            have E := Lib.hid (show F = none by rw [HE.out, HD.out, HD2.out, LX.sq_bad hd39]; rfl)
            have e2 : ((i : Int) == (n : Int) - 1) = false := beq_eq_false_iff_ne.2 (by omega)
            go_wp2
            go_ret2
            exact mee_no E.out rfl HW.out
      · have q : (z == 39) = false := zne HZ.out 39 (by decide) h39
        have q2 : ¬ z = 39 := beq_eq_false_iff_ne.1 q
        have E := Lib.hid (show F = (LX.sq (l.drop (i + 1))).map ((acc ++ [c]) ++ ·) by rw [HE.out, HD.out, LX.sq_pass h39, Option.map_map]; congr 1; funext q; simp)
        clear hcs
        go_wp2_with (at_builtin; refine wpList_append_bytes rfl (.tmp 57) (.tmp 61) 22 rfl w.heap.size 5 Tryz.underlying22 Tryz.linfo_u8 (by rfl) (HO.out.alloc _) (by rfl) (one_rd (b := c) HZ.out.symm) (by simp; omega) (by have := HW.out.size; rw [bx_size]; omega) ?_; intro v3 w3 ho3 hg3 hb3; have O3 := Lib.hid ho3; have B3 := Lib.hid (HW.out.trans (((Below.refl _ _).alloc HW.out.size _).trans hb3)); clear ho3 hg3 hb3)
        go_roundg g
        case rel => exact ⟨i + 1, acc ++ [c], v3, by omega, by omega, by simp; omega, rfl, rfl, B3, O3, E⟩
        case measure => omega
end Go.Proofs.YthhngkoopaolkaaGreatDoor
