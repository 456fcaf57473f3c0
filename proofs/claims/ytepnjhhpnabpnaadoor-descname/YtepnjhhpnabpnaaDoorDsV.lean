/- Walks of desc.unescape and of the document's own plain. -/
import Derived.Test.YtepnjhhpnabpnaaDoorDsU
namespace Go.Proofs.YtepnjhhpnabpnaaDoor
open Go.RowKit

theorem une_ret {l : List UInt8} {P : Prop} (h : D.une l = none) (hp : P) : Ending.returned (.tuple #[.string ⟨#[]⟩, .bool false]) = .returned (.tuple #[.string ⟨(uneS l).toArray⟩, .bool (uneB l)]) ∧ P := by
  refine ⟨?_, hp⟩
  unfold uneS uneB
  rw [h]; rfl
theorem une_ret_some {l d : List UInt8} {P : Prop} (h : D.une l = some d) (hp : P) : Ending.returned (.tuple #[.string ⟨d.toArray⟩, .bool true]) = .returned (.tuple #[.string ⟨(uneS l).toArray⟩, .bool (uneB l)]) ∧ P := by
  refine ⟨?_, hp⟩
  unfold uneS uneB
  rw [h]; rfl
theorem wrap_small {z : Int} (h0 : 0 ≤ z) (h1 : z ≤ 100000) : IntKind.i64.wrap z = z := by
  unfold IntKind.wrap
  simp [IntKind.signed, IntKind.bits]
  omega
theorem wrap8_small {z : Int} (h0 : 0 ≤ z) (h1 : z < 256) : IntKind.u8.wrap z = z := by
  unfold IntKind.wrap
  simp [IntKind.signed, IntKind.bits]
  omega
theorem or16 {h1 h2 : Int} (a0 : 0 ≤ h1) (a1 : h1 ≤ 15) (b0 : 0 ≤ h2) (b1 : h2 ≤ 15) : bits .or .i64 (h1 * 16) h2 = 16 * h1 + h2 := by
  have : ∀ x y : Fin 16, bits .or .i64 ((x.val : Int) * 16) (y.val : Int) = 16 * (x.val : Int) + (y.val : Int) := by decide +kernel
  have := this ⟨h1.toNat, by omega⟩ ⟨h2.toNat, by omega⟩
  simp only at this
  rwa [Int.toNat_of_nonneg a0, Int.toNat_of_nonneg b0] at this
theorem byte16 {h1 h2 : Int} (a0 : 0 ≤ h1) (a1 : h1 ≤ 15) (b0 : 0 ≤ h2) (b1 : h2 ≤ 15) : ((UInt8.ofNat (16 * h1 + h2).toNat).toNat : Int) = 16 * h1 + h2 := by
  simp
  omega
theorem index_law {l : List UInt8} {p : Nat} {c : UInt8} {i z : Int} (hc : l[p]? = some c) (hz : (c.toNat : Int) = z) (hi : i = (p : Int)) (w : World) : (Instr.index 9 (.string ⟨l.toArray⟩) (.int .i64 i)).run Tryd.prog w = .ok (.int .u8 z) w := by
  have hp : p < l.length := (List.getElem?_eq_some_iff.1 hc).1
  have hlt : p < (⟨l.toArray⟩ : ByteArray).size := by rw [str_size]; exact hp
  rw [run_index_string w 9 ⟨l.toArray⟩ .i64 i Tryd.underlying9]
  subst hi
  have := at_z hc hz hlt
  simp [hlt, this]
/-- strings.IndexByte among the sixteen signs. -/
theorem index16 (c : UInt8) (w : World) : Calls Tryd.prog 48 #[.string ⟨#[48, 49, 50, 51, 52, 53, 54, 55, 56, 57, 65, 66, 67, 68, 69, 70]⟩, .int .u8 (c.toNat : Int)] w fun e w' => e = .returned (.int .i64 (D.hexv c)) ∧ w' = w := by
  refine (Tryd.strings_IndexByte ⟨#[48, 49, 50, 51, 52, 53, 54, 55, 56, 57, 65, 66, 67, 68, 69, 70]⟩ (c.toNat : Int) w).mono ?_
  rintro e w' ⟨rfl, rfl⟩
  have e1 : ((c.toNat : Int)).toNat.toUInt8 = c := by simp
  have e2 : (⟨#[48, 49, 50, 51, 52, 53, 54, 55, 56, 57, 65, 66, 67, 68, 69, 70]⟩ : ByteArray).data.toList = D.hxL := rfl
  rw [e1, e2, D.index_hex]
  exact ⟨rfl, rfl⟩

set_option maxHeartbeats 4000000 in
theorem unescape_any (l : List UInt8) (hl : l.length ≤ 5000) (w : World) :
    Calls Tryd.prog 41 #[.string ⟨l.toArray⟩] w fun e w' => e = .returned (.tuple #[.string ⟨(uneS l).toArray⟩, .bool (uneB l)]) ∧ Below w.heap.size w w' := by
  have hsz := str_size l
  obtain ⟨L, hLI⟩ : ∃ L : Nat, l.length = L := ⟨_, rfl⟩
  rw [hLI] at hsz
  have hl9 : L ≤ 5000 := by omega
  have HL := Lib.hid hLI
  have HCS := Lib.hid (fun (v : Value) (w' : World) (bs : List UInt8) (h : Rdv w' v (bv bs)) => run_string_rd (P := Tryd.prog) 46 5 9 Tryd.underlying46 Tryd.underlying5 Tryd.underlying9 h)
  clear hl hLI
  go_enter Tryd.func41, Tryd.ntmps41
  go_wp2
  go_loopw [4, 5] (fun b i wr => ∃ (k : Nat) (done : List UInt8), k ≤ L ∧ i = .int .i64 (k : Int) ∧ done.length ≤ k ∧ Hid (U l k done) ∧ Hid (Below w.heap.size w wr) ∧ Hid (Own wr w.heap.size 5 b (bv done))) (fun _ i _ => L - (intOf i).toNat)
  case atStart => exact ⟨0, [], Nat.zero_le _, rfl, by simp, U.start l, Below.refl _ _, Own.nil _ _ _⟩
  case round =>
    obtain ⟨k, done, hk, rfl, hdn, HU, HW, HO⟩ := hrel
    by_cases hlt : k < L
    · obtain ⟨c, hc⟩ : ∃ c, l[k]? = some c := ⟨l[k]'(by have := HL.out; omega), List.getElem?_eq_getElem _⟩
      have hkL : k < (⟨l.toArray⟩ : ByteArray).size := by omega
      have hub := c.toNat_lt
      obtain ⟨z, hz⟩ : ∃ z : Int, (c.toNat : Int) = z := ⟨_, rfl⟩
      have hi := at_z hc hz hkL
      have hz0 : 0 ≤ z := by omega
      have hz1 : z < 256 := by omega
      have HZ := Lib.hid hz
      by_cases h37 : c = 37
      · subst h37
        have hzz : z = 37 := by rw [← hz]; rfl
        subst hzz
        by_cases hsh : L < k + 3
        · have E := Lib.hid (HU.out.short hc (by have := HL.out; omega))
          have g3 : (L : Int) - (k : Int) < 3 := by omega
          clear hc hz hub
          go_wp2
          go_ret2
          exact une_ret E.out HW.out
        · obtain ⟨x, hx⟩ : ∃ x, l[k + 1]? = some x := ⟨l[k + 1]'(by have := HL.out; omega), List.getElem?_eq_getElem _⟩
          obtain ⟨y, hy⟩ : ∃ y, l[k + 2]? = some y := ⟨l[k + 2]'(by have := HL.out; omega), List.getElem?_eq_getElem _⟩
          have hk1 : k + 1 < (⟨l.toArray⟩ : ByteArray).size := by omega
          have hk2 : k + 2 < (⟨l.toArray⟩ : ByteArray).size := by omega
          obtain ⟨z1, hz1'⟩ : ∃ z : Int, (x.toNat : Int) = z := ⟨_, rfl⟩
          obtain ⟨z2, hz2'⟩ : ∃ z : Int, (y.toNat : Int) = z := ⟨_, rfl⟩
          have hi1 := at_z hx hz1' hk1
          have hi2 := at_z hy hz2' hk2
          have hk3 : ((k : Int) + 2).toNat < (⟨l.toArray⟩ : ByteArray).size := by omega
          have hi3 := at_z (show l[((k : Int) + 2).toNat]? = some y by rw [show ((k : Int) + 2).toNat = k + 2 by omega]; exact hy) hz2' hk3
          have wr1 : IntKind.i64.wrap ((k : Int) + 1) = (k : Int) + 1 := wrap_small (by omega) (by omega)
          have wr2 : IntKind.i64.wrap ((k : Int) + 2) = (k : Int) + 2 := wrap_small (by omega) (by omega)
          have gn4 : k + 1 < L := by omega
          have gn5 : k + 2 < L := by omega
          have HX := Lib.hid (fun w => index16 x w)
          have HY := Lib.hid (fun w => index16 y w)
          have r1 := D.hexv_lo x
          have r2 := D.hexv_lo y
          have HUE := Lib.hid (fun (a : 0 ≤ D.hexv x) (b : 0 ≤ D.hexv y) => HU.out.esc hc hx hy a b)
          have HUB := Lib.hid (fun (hn : ¬ (0 ≤ D.hexv x ∧ 0 ≤ D.hexv y)) => HU.out.bad hc hx hy hn)
          have g3 : ¬ (L : Int) - (k : Int) < 3 := by omega
          have g4 : (k : Int) + 1 < (L : Int) := by omega
          have g5 : (k : Int) + 2 < (L : Int) := by omega
          have g6 : (0 : Int) ≤ (k : Int) + 1 := by omega
          have g7 : (0 : Int) ≤ (k : Int) + 2 := by omega
          obtain ⟨h1, eh1⟩ : ∃ h1, D.hexv x = h1 := ⟨_, rfl⟩
          obtain ⟨h2, eh2⟩ : ∃ h2, D.hexv y = h2 := ⟨_, rfl⟩
          rw [eh1] at r1 HX HUE HUB
          rw [eh2] at r2 HY HUE HUB
          rw [hz1'] at HX
          rw [hz2'] at HY
          clear hx hy hc hz hub hz1' hz2' eh1 eh2
          go_wp2_with fail
          go_region_held3 (fun _ => True) (trivial) (first
            | (go_at_call 48; with_reducible refine (HX.out _).mono ?_; rintro e w2 ⟨rfl, rfl⟩)
            | (go_at_call 48; with_reducible refine (HY.out _).mono ?_; rintro e w3 ⟨rfl, rfl⟩))
          all_goals
            have HW2 := Lib.hid HW.out.drew
            have HO2 := Lib.hid (HO.out.below (below_drew wr))
            obtain ⟨w2, hw2⟩ : ∃ w2, wr.drew = w2 := ⟨_, rfl⟩
            rw [hw2] at HW2 HO2 ⊢
            clear hw2 HX HY hi hi1 hi2 hi3 hkL hk1 hk2 hk3 HU HW HO
            by_cases n1 : h1 < 0
            · have E := Lib.hid (HUB.out (by omega))
              clear HUE HUB
              go_wp2
              go_ret2
              exact une_ret E.out HW2.out
            · by_cases n2 : h2 < 0
              · have E := Lib.hid (HUB.out (by omega))
                clear HUE HUB
                go_wp2
                go_ret2
                exact une_ret E.out HW2.out
              · have HU2 := Lib.hid (HUE.out (by omega) (by omega))
                have o1 := or16 (h1 := h1) (h2 := h2) (by omega) (by omega) (by omega) (by omega)
                have HBY := Lib.hid (byte16 (h1 := h1) (h2 := h2) (by omega) (by omega) (by omega) (by omega))
                have m1 : 0 ≤ 16 * h1 + h2 := by omega
                have m2 : 16 * h1 + h2 < 256 := by omega
                clear HUE HUB
                go_wp2_with (at_builtin; refine wpList_append_bytes (news := [UInt8.ofNat (16 * h1 + h2).toNat]) rfl (.tmp 45) (.tmp 51) 46 rfl w.heap.size 5 Tryd.underlying46 Tryd.info_u8 (by rfl) (HO2.out.alloc _) (by rfl) (one_rd HBY.out.symm) (by simp; omega) (by have := HW2.out.size; simp; omega) ?_; intro v3 w3 ho3 hg3 hb3; have O3 := Lib.hid ho3; have B3 := Lib.hid hb3; clear ho3 hg3 hb3)
                go_roundw
                case rel => exact ⟨k + 3, done ++ [UInt8.ofNat (16 * h1 + h2).toNat], by omega, by go_num, by simp; omega, HU2.out, HW2.out.trans (((Below.refl _ w2).alloc HW2.out.size _).trans B3.out), O3.out⟩
                case measure => simp [intOf]; omega
      · have HU2 := Lib.hid (HU.out.other hc h37)
        have hne : (z == 37) = false := by
          have : c.toNat ≠ 37 := fun e => h37 (UInt8.toNat_inj.1 e)
          simp; omega
        clear hc hz hub h37
        go_wp2_with (at_builtin; refine wpList_append_bytes rfl (.tmp 18) (.tmp 22) 46 rfl w.heap.size 5 Tryd.underlying46 Tryd.info_u8 (by rfl) (HO.out.alloc _) (by rfl) (one_rd (b := c) HZ.out.symm) (by simp; omega) (by have := HW.out.size; simp; omega) ?_; intro v3 w3 ho3 hg3 hb3; have O3 := Lib.hid ho3; have B3 := Lib.hid hb3; clear ho3 hg3 hb3)
        go_roundw
        case rel => exact ⟨k + 1, done ++ [c], by omega, by go_num, by simp; omega, HU2.out, HW.out.trans (((Below.refl _ wr).alloc HW.out.size _).trans B3.out), O3.out⟩
        case measure => simp [intOf]; omega
    · have E := Lib.hid (HU.out.stop (by have := HL.out; omega))
      have hcv2 := HCS.out _ _ _ HO.out.rd
      go_wp2
      go_ret2
      exact une_ret_some E.out HW.out

set_option maxHeartbeats 4000000 in
theorem plain_any (l : List UInt8) (hl : l.length ≤ 5000) (w : World) :
    Calls Tryd.prog 26 #[.string ⟨l.toArray⟩] w fun e w' => e = .returned (.tuple #[.string ⟨(uneS l).toArray⟩, .bool (uneB l)]) ∧ Below w.heap.size w w' := by
  have hsz := str_size l
  obtain ⟨L, hLI⟩ : ∃ L : Nat, l.length = L := ⟨_, rfl⟩
  rw [hLI] at hsz
  have hl9 : L ≤ 5000 := by omega
  have HL := Lib.hid hLI
  have HCS := Lib.hid (fun (v : Value) (w' : World) (bs : List UInt8) (h : Rdv w' v (bv bs)) => run_string_rd (P := Tryd.prog) 46 5 9 Tryd.underlying46 Tryd.underlying5 Tryd.underlying9 h)
  clear hl hLI
  go_enter Tryd.func26, Tryd.ntmps26
  go_wp2
  go_loopw [4, 5] (fun b i wr => ∃ (k : Nat) (done : List UInt8), k ≤ L ∧ i = .int .i64 (k : Int) ∧ done.length ≤ k ∧ Hid (U l k done) ∧ Hid (Below w.heap.size w wr) ∧ Hid (Own wr w.heap.size 5 b (bv done))) (fun _ i _ => L - (intOf i).toNat)
  case atStart => exact ⟨0, [], Nat.zero_le _, rfl, by simp, U.start l, Below.refl _ _, Own.nil _ _ _⟩
  case round =>
    obtain ⟨k, done, hk, rfl, hdn, HU, HW, HO⟩ := hrel
    by_cases hlt : k < L
    · obtain ⟨c, hc⟩ : ∃ c, l[k]? = some c := ⟨l[k]'(by have := HL.out; omega), List.getElem?_eq_getElem _⟩
      have hkL : k < (⟨l.toArray⟩ : ByteArray).size := by omega
      have hub := c.toNat_lt
      obtain ⟨z, hz⟩ : ∃ z : Int, (c.toNat : Int) = z := ⟨_, rfl⟩
      have hi := at_z hc hz hkL
      have hz0 : 0 ≤ z := by omega
      have hz1 : z < 256 := by omega
      have HZ := Lib.hid hz
      by_cases h37 : c = 37
      · subst h37
        have hzz : z = 37 := by rw [← hz]; rfl
        subst hzz
        by_cases hsh : L < k + 3
        · have E := Lib.hid (HU.out.short hc (by have := HL.out; omega))
          have g3 : (L : Int) ≤ (k : Int) + 2 := by omega
          clear hc hz hub
          go_wp2
          go_ret2
          exact une_ret E.out HW.out
        · obtain ⟨x, hx⟩ : ∃ x, l[k + 1]? = some x := ⟨l[k + 1]'(by have := HL.out; omega), List.getElem?_eq_getElem _⟩
          obtain ⟨y, hy⟩ : ∃ y, l[k + 2]? = some y := ⟨l[k + 2]'(by have := HL.out; omega), List.getElem?_eq_getElem _⟩
          have hk1 : k + 1 < (⟨l.toArray⟩ : ByteArray).size := by omega
          have hk2 : k + 2 < (⟨l.toArray⟩ : ByteArray).size := by omega
          obtain ⟨z1, hz1'⟩ : ∃ z : Int, (x.toNat : Int) = z := ⟨_, rfl⟩
          obtain ⟨z2, hz2'⟩ : ∃ z : Int, (y.toNat : Int) = z := ⟨_, rfl⟩
          have hi1 := at_z hx hz1' hk1
          have hi2 := at_z hy hz2' hk2
          have hk3 : ((k : Int) + 2).toNat < (⟨l.toArray⟩ : ByteArray).size := by omega
          have hi3 := at_z (show l[((k : Int) + 2).toNat]? = some y by rw [show ((k : Int) + 2).toNat = k + 2 by omega]; exact hy) hz2' hk3
          have wr1 : IntKind.i64.wrap ((k : Int) + 1) = (k : Int) + 1 := wrap_small (by omega) (by omega)
          have wr2 : IntKind.i64.wrap ((k : Int) + 2) = (k : Int) + 2 := wrap_small (by omega) (by omega)
          have gn4 : k + 1 < L := by omega
          have gn5 : k + 2 < L := by omega
          have HX := Lib.hid (fun w => hex_any x w)
          have HY := Lib.hid (fun w => hex_any y w)
          have r1 := D.hexv_lo x
          have r2 := D.hexv_lo y
          have HUE := Lib.hid (fun (a : 0 ≤ D.hexv x) (b : 0 ≤ D.hexv y) => HU.out.esc hc hx hy a b)
          have HUB := Lib.hid (fun (hn : ¬ (0 ≤ D.hexv x ∧ 0 ≤ D.hexv y)) => HU.out.bad hc hx hy hn)
          have g3 : ¬ (L : Int) ≤ (k : Int) + 2 := by omega
          have g4 : (k : Int) + 1 < (L : Int) := by omega
          have g5 : (k : Int) + 2 < (L : Int) := by omega
          have g6 : (0 : Int) ≤ (k : Int) + 1 := by omega
          have g7 : (0 : Int) ≤ (k : Int) + 2 := by omega
          obtain ⟨h1, eh1⟩ : ∃ h1, D.hexv x = h1 := ⟨_, rfl⟩
          obtain ⟨h2, eh2⟩ : ∃ h2, D.hexv y = h2 := ⟨_, rfl⟩
          rw [eh1] at r1 HX HUE HUB
          rw [eh2] at r2 HY HUE HUB
          rw [hz1'] at HX
          rw [hz2'] at HY
          clear hx hy hc hz hub hz1' hz2' eh1 eh2
          by_cases n1 : h1 < 0
          · have E := Lib.hid (HUB.out (by omega))
            clear HUE HUB
            go_wp2_with (go_at_call 36; with_reducible refine (HX.out _).mono ?_; rintro e w2 ⟨rfl, rfl⟩)
            go_ret2
            exact une_ret E.out HW.out
          · by_cases n2 : h2 < 0
            · have E := Lib.hid (HUB.out (by omega))
              clear HUE HUB
              go_wp2_with (first | (go_at_call 36; with_reducible refine (HX.out _).mono ?_; rintro e w2 ⟨rfl, rfl⟩) | (go_at_call 36; with_reducible refine (HY.out _).mono ?_; rintro e w3 ⟨rfl, rfl⟩))
              go_ret2
              exact une_ret E.out HW.out
            · have HU2 := Lib.hid (HUE.out (by omega) (by omega))
              have HBY := Lib.hid (byte16 (h1 := h1) (h2 := h2) (by omega) (by omega) (by omega) (by omega))
              have m1 : 0 ≤ 16 * h1 + h2 := by omega
              have m2 : 16 * h1 + h2 < 256 := by omega
              have wm1 : IntKind.i64.wrap (16 * h1) = 16 * h1 := wrap_small (by omega) (by omega)
              have wm2 : IntKind.i64.wrap (16 * h1 + h2) = 16 * h1 + h2 := wrap_small (by omega) (by omega)
              have wm3 : IntKind.u8.wrap (16 * h1 + h2) = 16 * h1 + h2 := wrap8_small m1 m2
              clear HUE HUB
              go_wp2_with (first | (go_at_call 36; with_reducible refine (HX.out _).mono ?_; rintro e w2 ⟨rfl, rfl⟩) | (go_at_call 36; with_reducible refine (HY.out _).mono ?_; rintro e w3 ⟨rfl, rfl⟩))
              go_region_held3 (fun _ => True) (trivial) (first
                | (go_at_call 36; with_reducible refine (HX.out _).mono ?_; rintro e w4 ⟨rfl, rfl⟩)
                | (go_at_call 36; with_reducible refine (HY.out _).mono ?_; rintro e w5 ⟨rfl, rfl⟩; have d5 := trivial)
                | (have d6 := d5; refine step_append_bytes (news := [UInt8.ofNat (16 * h1 + h2).toNat]) (by rfl) (.tmp 43) (.tmp 57) 46 (by rfl) w.heap.size 5 Tryd.underlying46 Tryd.info_u8 (by rfl) ((HO.out.below (below_drew _)).alloc _) (by rfl) (one_rd HBY.out.symm) (by simp) (by simp; omega) (by have := HW.out.size; simp; omega) ?_; intro g cap3 w6 ho6 hb6))
              all_goals
                have O6 := Lib.hid ho6
                have B6 := Lib.hid (HW.out.trans ((((Below.refl _ _).alloc HW.out.size _).drew).trans hb6))
                clear ho6 hb6
                go_wp2
                go_roundw
                case rel => exact ⟨k + 3, done ++ [UInt8.ofNat (16 * h1 + h2).toNat], by omega, by go_num, by simp; omega, HU2.out, B6.out, O6.out⟩
                case measure => simp [intOf]; omega
      · have HU2 := Lib.hid (HU.out.other hc h37)
        have hne : (z == 37) = false := by
          have : c.toNat ≠ 37 := fun e => h37 (UInt8.toNat_inj.1 e)
          simp; omega
        clear hc hz hub h37
        go_wp2_with (at_builtin; refine wpList_append_bytes rfl (.tmp 16) (.tmp 20) 46 rfl w.heap.size 5 Tryd.underlying46 Tryd.info_u8 (by rfl) (HO.out.alloc _) (by rfl) (one_rd (b := c) HZ.out.symm) (by simp; omega) (by have := HW.out.size; simp; omega) ?_; intro v3 w3 ho3 hg3 hb3; have O3 := Lib.hid ho3; have B3 := Lib.hid hb3; clear ho3 hg3 hb3)
        go_roundw
        case rel => exact ⟨k + 1, done ++ [c], by omega, by go_num, by simp; omega, HU2.out, HW.out.trans (((Below.refl _ wr).alloc HW.out.size _).trans B3.out), O3.out⟩
        case measure => simp [intOf]; omega
    · have E := Lib.hid (HU.out.stop (by have := HL.out; omega))
      have hcv2 := HCS.out _ _ _ HO.out.rd
      go_wp2
      go_ret2
      exact une_ret_some E.out HW.out
end Go.Proofs.YtepnjhhpnabpnaaDoor
