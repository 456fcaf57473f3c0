/- A part of the proof. -/
import Derived.Test.YtgfhabofhefaaaaGreatDoorSA13
import Derived.Deep.RegionHeld3
namespace Go.Proofs.YtgfhabofhefaaaaGreatDoor
open Go.RowKit
theorem byte_hex {x y : Nat} (hx : x < 16) (hy : y < 16) : (16 : Int) * (x : Int) + (y : Int) = ((UInt8.ofNat (16 * x + y)).toNat : Int) := by
  rw [UInt8.toNat_ofNat_of_lt' (by show 16 * x + y < 256; omega)]
  omega
set_option maxRecDepth 10000 in
set_option maxHeartbeats 16000000 in
theorem rmeant_two (t : List UInt8) (w : World) (hl : t.length ≤ 17000) :
    Calls Tryz.prog 94 #[.string ⟨(34 :: t).toArray⟩] w (MeE w (LX.dq t)) := by
  obtain ⟨F, HF⟩ : ∃ F, Hid (F = LX.dq t) := ⟨_, Lib.hid rfl⟩
  rw [← HF.out]
  obtain ⟨l, hl0⟩ : ∃ l, l = 34 :: t := ⟨_, rfl⟩
  have H1 : Hid (l.drop 1 = t) := by show _ = _; rw [hl0]; rfl
  have HLL : Hid (l.length = t.length + 1) := by show _ = _; rw [hl0]; rfl
  have hc0 : l[0]? = some 34 := by rw [hl0]; rfl
  rw [← hl0]
  have hsz := str_size l
  have hp0 : 0 < (⟨l.toArray⟩ : ByteArray).size := by rw [hsz]; have := HLL.out; omega
  have hi0 := at_z hc0 (z := 34) rfl hp0
  obtain ⟨n, hn⟩ : ∃ n, l.length = n := ⟨_, rfl⟩
  have HL := Lib.hid hn
  have hn1 : 1 ≤ n ∧ n ≤ 17001 := by have := HLL.out; omega
  rw [hn] at hsz
  have HCS := Lib.hid (fun (v : Value) (w' : World) (bs : List UInt8) (h : Rdv w' v (bv bs)) => run_string_rd (P := Tryz.prog) 35 5 9 Tryz.underlying35 Tryz.underlying5 Tryz.underlying9 h)
  clear hl0 hn hl hc0
  go_enter Tryz.func94, Tryz.ntmps94
  go_wp2
  go_loopg [4, 6] (n - 1) (fun g s4 s6 wx => ∃ (i : Nat) (acc : List UInt8) (v : Value), i + g = n ∧ 1 ≤ i ∧ acc.length ≤ i ∧ s6 = .int .i64 (i : Int) ∧ v = s4 ∧ Hid (Below w.heap.size w wx) ∧ Hid (Own wx w.heap.size 5 v (bv acc)) ∧ Hid (F = (LX.dq (l.drop i)).map (acc ++ ·)))
  case atStart => exact ⟨1, [], _, by omega, by omega, by simp, rfl, rfl, Below.refl _ _, Own.nil _ _ _, by show _ = _; rw [H1.out, HF.out]; simp⟩
  case round =>
    obtain ⟨i, acc, v, hi, hi1, hac, rfl, rfl, HW, HO, HE⟩ := hrel
    cases gk with
    | zero =>
      obtain rfl : i = n := by omega
      have E := Lib.hid (show F = none by rw [HE.out, List.drop_eq_nil_of_le (by have := HL.out; omega)]; rfl)
      go_wp2
      go_ret2
      exact mee_no E.out rfl HW.out
    | succ g =>
      have hin : (i : Int) < (n : Int) := by omega
      obtain ⟨c, hc⟩ : ∃ c, l[i]? = some c := ⟨l[i]'(by have := HL.out; omega), List.getElem?_eq_getElem _⟩
      have hil : i < (⟨l.toArray⟩ : ByteArray).size := by omega
      have hub := c.toNat_lt
      obtain ⟨z, hz⟩ : ∃ z : Int, (c.toNat : Int) = z := ⟨_, rfl⟩
      have hiz := at_z hc hz hil
      have hz0 : 0 ≤ z := by omega
      have hz1 : z < 256 := by omega
      have HZ := Lib.hid hz
      have HD := Lib.hid (drop_at hc)
      have hcs := HCS.out v wr acc HO.out.rd
      clear hz hub hc
      by_cases h34 : c = 34
      · subst h34
        obtain rfl : z = 34 := HZ.out.symm
        by_cases hend : i + 1 = n
        · have E := Lib.hid (show F = some acc by rw [HE.out, HD.out, show l.drop (i + 1) = [] from List.drop_eq_nil_of_le (by have := HL.out; omega), LX.dq_end]; simp)
          have e2 : ((i : Int) == (n : Int) - 1) = true := beq_iff_eq.2 (by omega)
          have e3 : (n : Int) - 1 = (i : Int) := by omega
          go_wp2
          go_ret2
          exact mee_yes E.out rfl HW.out
        · have E := Lib.hid (show F = none by
            rw [HE.out, HD.out, LX.dq_end, if_neg (by intro e; have := congrArg List.length e; rw [List.length_drop] at this; simp at this; have := HL.out; omega)]; rfl)
          have e2 : ((i : Int) == (n : Int) - 1) = false := beq_eq_false_iff_ne.2 (by omega)
          go_wp2
          go_ret2
          exact mee_no E.out rfl HW.out
      clear hcs
      have q34 : (z == 34) = false := zne HZ.out 34 (by decide) h34
      have q34' : ¬ z = 34 := beq_eq_false_iff_ne.1 q34
      by_cases h92 : c = 92
      · subst h92
        obtain rfl : z = 92 := HZ.out.symm
        by_cases hend : i + 1 = n
        · have E := Lib.hid (show F = none by rw [HE.out, HD.out, show l.drop (i + 1) = [] from List.drop_eq_nil_of_le (by have := HL.out; omega), LX.dq_esc]; rfl)
          have e1 : (n : Int) ≤ (i : Int) + 1 := by omega
          go_wp2
          go_ret2
          exact mee_no E.out rfl HW.out
        · have e1 : ¬ (n : Int) ≤ (i : Int) + 1 := by omega
          have e1' : (i : Int) + 1 < (n : Int) := by omega
          obtain ⟨d, hd⟩ : ∃ d, l[i + 1]? = some d := ⟨l[i + 1]'(by have := HL.out; omega), List.getElem?_eq_getElem _⟩
          have hil1 : i + 1 < (⟨l.toArray⟩ : ByteArray).size := by omega
          obtain ⟨y, hy⟩ : ∃ z : Int, (d.toNat : Int) = z := ⟨_, rfl⟩
          have hiy := at_z hd hy hil1
          have hub := d.toNat_lt
          have hy0 : 0 ≤ y := by omega
          have hy1 : y < 256 := by omega
          have HY := Lib.hid hy
          have HD2 := Lib.hid (drop_at hd)
          clear hd hy hub
          by_cases d92 : d = 92
          · subst d92
            obtain rfl : y = 92 := HY.out.symm
            have E := Lib.hid (show F = (LX.dq (l.drop (i + 2))).map ((acc ++ [92]) ++ ·) by rw [HE.out, HD.out, LX.dq_esc, HD2.out, show LX.esc (92 :: l.drop (i + 1 + 1)) = some (92, 1) by simp [LX.esc]]; simp only; rw [Option.map_map, List.drop_succ_cons, List.drop_zero]; congr 1; funext q; simp)
            go_wp2_with (at_builtin; refine wpList_append_bytes rfl (.tmp 75) (.tmp 79) 35 rfl w.heap.size 5 Tryz.underlying35 Tryz.linfo_u8 (by rfl) (HO.out.alloc _) (by rfl) (one_rd (b := 92) rfl) (by simp; omega) (by have := HW.out.size; rw [bx_size]; omega) ?_; intro v3 w3 ho3 hg3 hb3; have O3 := Lib.hid ho3; have B3 := Lib.hid (HW.out.trans (((Below.refl _ _).alloc HW.out.size _).trans hb3)); clear ho3 hg3 hb3)
            go_roundg (n - (i + 2))
            case rel => exact ⟨i + 2, acc ++ [92], v3, by omega, by omega, by simp; omega, by simp; omega, rfl, B3, O3, E⟩
            case measure => omega
          have p92 : (y == 92) = false := zne HY.out 92 (by decide) d92
          by_cases d34 : d = 34
          · subst d34
            obtain rfl : y = 34 := HY.out.symm
            have E := Lib.hid (show F = (LX.dq (l.drop (i + 2))).map ((acc ++ [34]) ++ ·) by rw [HE.out, HD.out, LX.dq_esc, HD2.out, show LX.esc (34 :: l.drop (i + 1 + 1)) = some (34, 1) by simp [LX.esc]]; simp only; rw [Option.map_map, List.drop_succ_cons, List.drop_zero]; congr 1; funext q; simp)
            go_wp2_with (at_builtin; refine wpList_append_bytes rfl (.tmp 75) (.tmp 79) 35 rfl w.heap.size 5 Tryz.underlying35 Tryz.linfo_u8 (by rfl) (HO.out.alloc _) (by rfl) (one_rd (b := 34) rfl) (by simp; omega) (by have := HW.out.size; rw [bx_size]; omega) ?_; intro v3 w3 ho3 hg3 hb3; have O3 := Lib.hid ho3; have B3 := Lib.hid (HW.out.trans (((Below.refl _ _).alloc HW.out.size _).trans hb3)); clear ho3 hg3 hb3)
            go_roundg (n - (i + 2))
            case rel => exact ⟨i + 2, acc ++ [34], v3, by omega, by omega, by simp; omega, by simp; omega, rfl, B3, O3, E⟩
            case measure => omega
          have p34 : (y == 34) = false := zne HY.out 34 (by decide) d34
          by_cases d110 : d = 110
          · subst d110
            obtain rfl : y = 110 := HY.out.symm
            have E := Lib.hid (show F = (LX.dq (l.drop (i + 2))).map ((acc ++ [10]) ++ ·) by rw [HE.out, HD.out, LX.dq_esc, HD2.out, show LX.esc (110 :: l.drop (i + 1 + 1)) = some (10, 1) by simp [LX.esc]]; simp only; rw [Option.map_map, List.drop_succ_cons, List.drop_zero]; congr 1; funext q; simp)
            go_wp2_with (at_builtin; refine wpList_append_bytes rfl (.tmp 83) (.tmp 84) 35 rfl w.heap.size 5 Tryz.underlying35 Tryz.linfo_u8 (by rfl) (HO.out.alloc _) (by rfl) (one_rd (b := 10) rfl) (by simp; omega) (by have := HW.out.size; rw [bx_size]; omega) ?_; intro v3 w3 ho3 hg3 hb3; have O3 := Lib.hid ho3; have B3 := Lib.hid (HW.out.trans (((Below.refl _ _).alloc HW.out.size _).trans hb3)); clear ho3 hg3 hb3)
            go_roundg (n - (i + 2))
            case rel => exact ⟨i + 2, acc ++ [10], v3, by omega, by omega, by simp; omega, by simp; omega, rfl, B3, O3, E⟩
            case measure => omega
          have p110 : (y == 110) = false := zne HY.out 110 (by decide) d110
          by_cases d116 : d = 116
          · subst d116
            obtain rfl : y = 116 := HY.out.symm
            have E := Lib.hid (show F = (LX.dq (l.drop (i + 2))).map ((acc ++ [9]) ++ ·) by rw [HE.out, HD.out, LX.dq_esc, HD2.out, show LX.esc (116 :: l.drop (i + 1 + 1)) = some (9, 1) by simp [LX.esc]]; simp only; rw [Option.map_map, List.drop_succ_cons, List.drop_zero]; congr 1; funext q; simp)
            go_wp2_with (at_builtin; refine wpList_append_bytes rfl (.tmp 88) (.tmp 89) 35 rfl w.heap.size 5 Tryz.underlying35 Tryz.linfo_u8 (by rfl) (HO.out.alloc _) (by rfl) (one_rd (b := 9) rfl) (by simp; omega) (by have := HW.out.size; rw [bx_size]; omega) ?_; intro v3 w3 ho3 hg3 hb3; have O3 := Lib.hid ho3; have B3 := Lib.hid (HW.out.trans (((Below.refl _ _).alloc HW.out.size _).trans hb3)); clear ho3 hg3 hb3)
            go_roundg (n - (i + 2))
            case rel => exact ⟨i + 2, acc ++ [9], v3, by omega, by omega, by simp; omega, by simp; omega, rfl, B3, O3, E⟩
            case measure => omega
          have p116 : (y == 116) = false := zne HY.out 116 (by decide) d116
          by_cases d120 : d = 120
          · subst d120
            obtain rfl : y = 120 := HY.out.symm
            by_cases hend3 : i + 3 < n
            · have f1 : ¬ (n : Int) ≤ (i : Int) + 1 + 2 := by omega
              have f1b : decide ((n : Int) ≤ (i : Int) + 1 + 2) = false := decide_eq_false f1
              obtain ⟨a, ha⟩ : ∃ d, l[i + 1 + 1]? = some d := ⟨l[i + 1 + 1]'(by have := HL.out; omega), List.getElem?_eq_getElem _⟩
              obtain ⟨b, hb⟩ : ∃ d, l[i + 1 + 2]? = some d := ⟨l[i + 1 + 2]'(by have := HL.out; omega), List.getElem?_eq_getElem _⟩
              have hila : i + 1 + 1 < (⟨l.toArray⟩ : ByteArray).size := by omega
              have hilb : i + 1 + 2 < (⟨l.toArray⟩ : ByteArray).size := by omega
              obtain ⟨za, hza⟩ : ∃ z : Int, (a.toNat : Int) = z := ⟨_, rfl⟩
              obtain ⟨zb, hzb⟩ : ∃ z : Int, (b.toNat : Int) = z := ⟨_, rfl⟩
              have hia := at_z ha hza hila
              have hib := at_z hb hzb hilb
              have ia1 : ((i : Int) + 1 + 1).toNat = i + 1 + 1 := by omega
              have ib1 : ((i : Int) + 1 + 2).toNat = i + 1 + 2 := by omega
              have hua := a.toNat_lt
              have hub := b.toNat_lt
              have a0 : 0 ≤ za := by omega
              have a1 : za < 256 := by omega
              have b0 : 0 ≤ zb := by omega
              have b1 : zb < 256 := by omega
              have HSA := Lib.hid (fun x => rsmall_any a za hza x)
              have HSB := Lib.hid (fun x => rsmall_any b zb hzb x)
              have HDA := Lib.hid (show l.drop (i + 1 + 1) = a :: b :: l.drop (i + 4) by rw [drop_at ha, show i + 1 + 1 + 1 = i + 1 + 2 from rfl, drop_at hb])
              clear ha hb hza hzb hua hub
              cases hxa : LX.hx a with
              | none =>
                have E := Lib.hid (show F = none by rw [HE.out, HD.out, LX.dq_esc, HD2.out, HDA.out, esc_xa hxa]; rfl)
                rw [hxi_none hxa] at HSA
                clear hxa HSB
                go_wp2_with (go_at_call 130; with_reducible refine (HSA.out _).mono ?_; rintro e w2 ⟨rfl, hw2⟩; replace hw2 := hw2.symm; subst hw2)
                go_ret2
                exact mee_no E.out rfl HW.out
              | some x =>
                obtain ⟨hx1, hx2⟩ := hxi_some hxa
                rw [hx1] at HSA
                have x0 : ¬ (x : Int) < 0 := by omega
                cases hxb : LX.hx b with
                | none =>
                  have E := Lib.hid (show F = none by rw [HE.out, HD.out, LX.dq_esc, HD2.out, HDA.out, esc_xb hxb]; rfl)
                  rw [hxi_none hxb] at HSB
                  clear hxa hxb hx1
                  go_wp2_with (first | (go_at_call 130; with_reducible refine (HSA.out _).mono ?_; rintro e w2 ⟨rfl, hw2⟩; replace hw2 := hw2.symm; subst hw2) | (go_at_call 130; with_reducible refine (HSB.out _).mono ?_; rintro e w2 ⟨rfl, hw2⟩; replace hw2 := hw2.symm; subst hw2))
                  go_ret2
                  exact mee_no E.out rfl HW.out
                | some y =>
                  obtain ⟨hy1, hy2⟩ := hxi_some hxb
                  rw [hy1] at HSB
                  have y0 : ¬ (y : Int) < 0 := by omega
                  have E := Lib.hid (show F = (LX.dq (l.drop (i + 4))).map ((acc ++ [UInt8.ofNat (16 * x + y)]) ++ ·) by rw [HE.out, HD.out, LX.dq_esc, HD2.out, HDA.out, esc_xs hxa hxb]; simp only; rw [Option.map_map, List.drop_succ_cons, List.drop_succ_cons, List.drop_succ_cons, List.drop_zero]; congr 1; funext q; simp)
                  have HBY := Lib.hid (byte_hex hx2 hy2)
                  have m1 : 0 ≤ (16 : Int) * (x : Int) + (y : Int) := by omega
                  have m2 : (16 : Int) * (x : Int) + (y : Int) < 256 := by omega
                  have wm1 : IntKind.i64.wrap (16 * (x : Int)) = 16 * (x : Int) := lwrap_small (by omega) (by omega)
                  have wm2 : IntKind.i64.wrap (16 * (x : Int) + (y : Int)) = 16 * (x : Int) + (y : Int) := lwrap_small (by omega) (by omega)
                  have wm3 : IntKind.u8.wrap (16 * (x : Int) + (y : Int)) = 16 * (x : Int) + (y : Int) := lwrap8_small m1 m2
                  have wi1 : IntKind.i64.wrap ((i : Int) + 1 + 1) = (i : Int) + 1 + 1 := lwrap_small (by omega) (by omega)
                  have wi2 : IntKind.i64.wrap ((i : Int) + 1 + 2) = (i : Int) + 1 + 2 := lwrap_small (by omega) (by omega)
                  have gi1 : 0 ≤ (i : Int) + 1 + 1 := by omega
                  have gi2 : (i : Int) + 1 + 1 < (n : Int) := by omega
                  have gi3 : 0 ≤ (i : Int) + 1 + 2 := by omega
                  have gi4 : (i : Int) + 1 + 2 < (n : Int) := by omega
                  clear hxa hxb hx1 hy1
                  go_wp2_with (first | (go_at_call 130; with_reducible refine (HSA.out _).mono ?_; rintro e w2 ⟨rfl, hw2⟩; replace hw2 := hw2.symm; subst hw2) | (go_at_call 130; with_reducible refine (HSB.out _).mono ?_; rintro e w2 ⟨rfl, hw2⟩; replace hw2 := hw2.symm; subst hw2))
                  refine wp_region_any (by kernel_rfl) ?_
                  change wpAny _ _ _ _ _ _ _ (World.drew _)
                  refine wpAny_take (i := 0) (v := ?v0y1) rfl (by kernel_rfl) (by kernel_rfl) (by kernel_rfl) (fun _ _ _ h => h) (Or.inl ⟨by rfl, ?h0y1⟩) ?r0y1
                  case h0y1 => intro w; go_simp; with_reducible rfl
                  (try simp only [List.getElem_toArray, List.getElem_cons_zero, Act.put, List.setIfInBounds_toArray, List.set_cons_zero, List.set_cons_succ])
                  refine wpAny_take (i := 1) (v := ?v1y2) rfl (by kernel_rfl) (by kernel_rfl) (by kernel_rfl) (fun _ _ _ h => h) (Or.inl ⟨by rfl, ?h1y2⟩) ?r1y2
                  case h1y2 => intro w; go_simp; with_reducible rfl
                  (try simp only [List.getElem_toArray, List.getElem_cons_zero, List.getElem_cons_succ, Act.put, List.setIfInBounds_toArray, List.set_cons_zero, List.set_cons_succ])
                  refine wpAny_take (i := 2) (v := ?v2y3) rfl (by kernel_rfl) (by kernel_rfl) (by kernel_rfl) (fun _ _ _ h => h) (Or.inl ⟨by rfl, ?h2y3⟩) ?r2y3
                  case h2y3 => intro w; go_simp; with_reducible rfl
                  (try simp only [List.getElem_toArray, List.getElem_cons_zero, List.getElem_cons_succ, Act.put, List.setIfInBounds_toArray, List.set_cons_zero, List.set_cons_succ])
                  refine wpAny_take (i := 3) (v := ?v3y4) rfl (by kernel_rfl) (by kernel_rfl) (by kernel_rfl) (fun _ _ _ h => h) (Or.inl ⟨by rfl, ?h3y4⟩) ?r3y4
                  case h3y4 => intro w; go_simp; with_reducible rfl
                  (try simp only [List.getElem_toArray, List.getElem_cons_zero, List.getElem_cons_succ, Act.put, List.setIfInBounds_toArray, List.set_cons_zero, List.set_cons_succ])
                  refine wpAny_take (i := 4) (v := ?v4y5) rfl (by kernel_rfl) (by kernel_rfl) (by kernel_rfl) (fun _ _ _ h => h) (Or.inl ⟨by rfl, ?h4y5⟩) ?r4y5
                  case h4y5 => intro w; go_simp; with_reducible rfl
                  (try simp only [List.getElem_toArray, List.getElem_cons_zero, List.getElem_cons_succ, Act.put, List.setIfInBounds_toArray, List.set_cons_zero, List.set_cons_succ])
                  refine wpAny_take (i := 7) (v := ?v7y6) rfl (by kernel_rfl) (by kernel_rfl) (by kernel_rfl) (fun _ _ _ h => h) (Or.inl ⟨by rfl, ?h7y6⟩) ?r7y6
                  case h7y6 => intro w; go_simp; with_reducible rfl
                  (try simp only [List.getElem_toArray, List.getElem_cons_zero, List.getElem_cons_succ, Act.put, List.setIfInBounds_toArray, List.set_cons_zero, List.set_cons_succ])
                  refine wpAny_take (i := 8) (v := ?v8y7) rfl (by kernel_rfl) (by kernel_rfl) (by kernel_rfl) (fun _ _ _ h => h) (Or.inl ⟨by rfl, ?h8y7⟩) ?r8y7
                  case h8y7 => intro w; go_simp; with_reducible rfl
                  (try simp only [List.getElem_toArray, List.getElem_cons_zero, List.getElem_cons_succ, Act.put, List.setIfInBounds_toArray, List.set_cons_zero, List.set_cons_succ])
                  refine wpAny_take (i := 9) (v := ?v9y8) rfl (by kernel_rfl) (by kernel_rfl) (by kernel_rfl) (fun _ _ _ h => h) (Or.inl ⟨by rfl, ?h9y8⟩) ?r9y8
                  case h9y8 => intro w; go_simp; with_reducible rfl
                  (try simp only [List.getElem_toArray, List.getElem_cons_zero, List.getElem_cons_succ, Act.put, List.setIfInBounds_toArray, List.set_cons_zero, List.set_cons_succ])
                  refine wpAny_take (i := 10) (v := ?v10y9) rfl (by kernel_rfl) (by kernel_rfl) (by kernel_rfl) (fun _ _ _ h => h) (Or.inl ⟨by rfl, ?h10y9⟩) ?r10y9
                  case h10y9 => intro w; go_simp; with_reducible rfl
                  (try simp only [List.getElem_toArray, List.getElem_cons_zero, List.getElem_cons_succ, Act.put, List.setIfInBounds_toArray, List.set_cons_zero, List.set_cons_succ])
                  refine wpAny_ready (rs := [5]) (by kernel_rfl) (by simp) ?_
                  refine AllReady.cons rfl (fun K hK => ?_) AllReady.nil
                  go_simp
                  go_at_call 130
                  refine (HSA.out _).mono ?_
                  rintro e w4 ⟨rfl, hw4⟩
                  replace hw4 := hw4.symm
                  subst hw4
                  refine hK _ _ ?_
                  clear hK K
                  (try simp only [List.getElem_toArray, List.getElem_cons_zero, List.getElem_cons_succ, Act.put, List.setIfInBounds_toArray, List.set_cons_zero, List.set_cons_succ])
                  refine wpAny_take (i := 6) (v := ?v6y10) rfl (by kernel_rfl) (by kernel_rfl) (by kernel_rfl) (fun _ _ _ h => h) (Or.inl ⟨by rfl, ?h6y10⟩) ?r6y10
                  case h6y10 => intro w; go_simp; with_reducible rfl
                  (try simp only [List.getElem_toArray, List.getElem_cons_zero, List.getElem_cons_succ, Act.put, List.setIfInBounds_toArray, List.set_cons_zero, List.set_cons_succ])
                  refine wpAny_ready (rs := [11]) (by kernel_rfl) (by simp) ?_
                  refine AllReady.cons rfl (fun K hK => ?_) AllReady.nil
                  go_simp
                  go_at_call 130
                  refine (HSB.out _).mono ?_
                  rintro e w4 ⟨rfl, hw4⟩
                  replace hw4 := hw4.symm
                  subst hw4
                  refine hK _ _ ?_
                  clear hK K
                  (try simp only [List.getElem_toArray, List.getElem_cons_zero, List.getElem_cons_succ, Act.put, List.setIfInBounds_toArray, List.set_cons_zero, List.set_cons_succ])
                  refine wpAny_take (i := 12) (v := ?v12y11) rfl (by kernel_rfl) (by kernel_rfl) (by kernel_rfl) (fun _ _ _ h => h) (Or.inl ⟨by rfl, ?h12y11⟩) ?r12y11
                  case h12y11 => intro w; go_simp; with_reducible rfl
                  (try simp only [List.getElem_toArray, List.getElem_cons_zero, List.getElem_cons_succ, Act.put, List.setIfInBounds_toArray, List.set_cons_zero, List.set_cons_succ])
                  refine wpAny_take (i := 13) (v := ?v13y12) rfl (by kernel_rfl) (by kernel_rfl) (by kernel_rfl) (fun _ _ _ h => h) (Or.inl ⟨by rfl, ?h13y12⟩) ?r13y12
                  case h13y12 => intro w; go_simp; with_reducible rfl
                  (try simp only [List.getElem_toArray, List.getElem_cons_zero, List.getElem_cons_succ, Act.put, List.setIfInBounds_toArray, List.set_cons_zero, List.set_cons_succ])
                  refine wpAny_ready (rs := [14]) (by kernel_rfl) (by simp) ?_
                  refine AllReady.cons rfl (fun K hK => ?_) AllReady.nil
                  go_simp
                  refine hK _ _ ?_
                  clear hK K
                  (try simp only [List.getElem_toArray, List.getElem_cons_zero, List.getElem_cons_succ, Act.put, List.setIfInBounds_toArray, List.set_cons_zero, List.set_cons_succ])
                  refine wpAny_ready (rs := [15]) (by kernel_rfl) (by simp) ?_
                  refine AllReady.cons rfl (fun K hK => ?_) AllReady.nil
                  refine step_append_bytes (news := [UInt8.ofNat (16 * x + y)]) (by rfl) (.tmp 114) (.tmp 128) 35 (by rfl) w.heap.size 5 Tryz.underlying35 Tryz.linfo_u8 (by rfl) ((HO.out.below (below_drew _)).alloc _) (by rfl) (one_rd HBY.out) (by simp) (by simp; omega) (by have := HW.out.size; simp; omega) ?_
                  intro g6 cap3 w6 ho6 hb6
                  have O6 := Lib.hid ho6
                  have B6 := Lib.hid (HW.out.trans ((((Below.refl _ _).alloc HW.out.size _).drew).trans hb6))
                  clear ho6 hb6
                  refine hK _ _ ?_
                  clear hK K
                  (try simp only [List.getElem_toArray, List.getElem_cons_zero, List.getElem_cons_succ, Act.put, List.setIfInBounds_toArray, List.set_cons_zero, List.set_cons_succ])
                  refine wpAny_take (i := 16) (v := ?v16y13) rfl (by kernel_rfl) (by kernel_rfl) (by kernel_rfl) (fun _ _ _ h => h) (Or.inl ⟨by rfl, ?h16y13⟩) ?r16y13
                  case h16y13 => intro w; go_simp; with_reducible rfl
                  (try simp only [List.getElem_toArray, List.getElem_cons_zero, List.getElem_cons_succ, Act.put, List.setIfInBounds_toArray, List.set_cons_zero, List.set_cons_succ])
                  refine wpAny_done (by kernel_rfl) ?_ _
                  go_wp2
                  go_roundg (n - (i + 4))
                  case rel => exact ⟨i + 4, acc ++ [UInt8.ofNat (16 * x + y)], _, by omega, by omega, by simp; omega, by simp; omega, rfl, B6, O6, E⟩
                  case measure => omega
            · have f1 : (n : Int) ≤ (i : Int) + 1 + 2 := by omega
              have E := Lib.hid (show F = none by
                rw [HE.out, HD.out, LX.dq_esc, HD2.out]
                have hlen : (l.drop (i + 1 + 1)).length ≤ 1 := by rw [List.length_drop]; have := HL.out; omega
                match l.drop (i + 1 + 1), hlen with
                | [], _ => rfl
                | [_], _ => rfl
                | _ :: _ :: _, h => simp at h)
              go_wp2
              go_ret2
              exact mee_no E.out rfl HW.out
          · have p120 : (y == 120) = false := zne HY.out 120 (by decide) d120
            have E := Lib.hid (show F = none by rw [HE.out, HD.out, LX.dq_esc, HD2.out, esc_no d92 d34 d110 d116 d120]; rfl)
            go_wp2
            go_ret2
            exact mee_no E.out rfl HW.out
      · have q92 : (z == 92) = false := zne HZ.out 92 (by decide) h92
        have q92' : ¬ z = 92 := beq_eq_false_iff_ne.1 q92
        have q92b : (z != 92) = true := by simp [bne, q92]
        have E := Lib.hid (show F = (LX.dq (l.drop (i + 1))).map ((acc ++ [c]) ++ ·) by rw [HE.out, HD.out, LX.dq_pass h34 h92, Option.map_map]; congr 1; funext q; simp)
        go_wp2_with (at_builtin; refine wpList_append_bytes rfl (.tmp 57) (.tmp 61) 35 rfl w.heap.size 5 Tryz.underlying35 Tryz.linfo_u8 (by rfl) (HO.out.alloc _) (by rfl) (one_rd (b := c) HZ.out.symm) (by simp; omega) (by have := HW.out.size; rw [bx_size]; omega) ?_; intro v3 w3 ho3 hg3 hb3; have O3 := Lib.hid ho3; have B3 := Lib.hid (HW.out.trans (((Below.refl _ _).alloc HW.out.size _).trans hb3)); clear ho3 hg3 hb3)
        go_roundg g
        case rel => exact ⟨i + 1, acc ++ [c], v3, by omega, by omega, by simp; omega, rfl, rfl, B3, O3, E⟩
        case measure => omega
end Go.Proofs.YtgfhabofhefaaaaGreatDoor
