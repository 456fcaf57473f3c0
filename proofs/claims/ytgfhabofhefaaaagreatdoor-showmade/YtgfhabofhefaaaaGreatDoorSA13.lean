/- A part of the proof. -/
import Derived.Test.YtgfhabofhefaaaaGreatDoorSA12
import Derived.Test.YtgfhabofhefaaaaGreatDoorSA06
import Derived.Deep.AppendLies
import Derived.Deep.RegionHeld3
import Derived.Test.YtgfhabofhefaaaaGreatDoorSA02
import Derived.Test.YtgfhabofhefaaaaGreatDoorSA10
import Derived.Test.YtgfhabofhefaaaaGreatDoorSA11
import Derived.Deep.LoopGhost
namespace Go.Proofs.YtgfhabofhefaaaaGreatDoor
open Go.RowKit
theorem kend_ne {c : UInt8} {t : List UInt8} (h : c ≠ 58) : LX.kend (c :: t) = false := by
  cases t <;> simp [LX.kend, h]
theorem kend_two {d : UInt8} {t : List UInt8} : LX.kend (58 :: d :: t) = (d == 32) := by simp [LX.kend]
set_option maxHeartbeats 8000000 in
theorem rkeyed_any (l : List UInt8) (w : World) (hl : l.length ≤ 100000) :
    Calls Tryz.prog 93 #[.string ⟨l.toArray⟩] w fun e w' => e = .returned (.int .i64 (LX.key l : Int)) ∧ w' = w := by
  have hsz := str_size l
  obtain ⟨n, hn⟩ : ∃ n, l.length = n := ⟨_, rfl⟩
  have HL := Lib.hid hn
  rw [hn] at hsz hl
  clear hn
  obtain ⟨K, HK⟩ : ∃ K, Hid (K = LX.key l) := ⟨_, Lib.hid rfl⟩
  rw [← HK.out]
  go_enter Tryz.func93, Tryz.ntmps93
  go_wp2
  go_loopg [3] n (fun g s3 wx => ∃ k : Nat, k + g = n ∧ s3 = .int .i64 (k : Int) ∧ wx = w ∧ Hid (k ≤ LX.run l))
  case atStart => exact ⟨0, by omega, rfl, rfl, Nat.zero_le _⟩
  case round =>
    obtain ⟨k, hk, rfl, rfl, HR⟩ := hrel
    cases gk with
    | zero =>
      obtain rfl : k = n := by omega
      have hrun := Lib.hid (LX.runp_stop HR.out (fun c hc => by rw [List.getElem?_eq_none (by have := HL.out; omega)] at hc; cases hc))
      have E := Lib.hid (HK.out.trans (key_no hrun.out (by rw [List.drop_eq_nil_of_le (by have := HL.out; omega)]; rfl)))
      by_cases hk0 : k = 0
      · subst hk0
        go_wp2
        go_ret
        exact ret_0 E.out rfl
      · have hk1 : ((k : Int) == 0) = false := beq_eq_false_iff_ne.2 (by omega)
        have hk2 : ¬ (k : Int) = 0 := by omega
        go_wp2
        go_ret
        exact ret_0 E.out rfl
    | succ g =>
      have hlt : (k : Int) < (n : Int) := by omega
      have hnle : ¬ (n : Int) ≤ (k : Int) := by omega
      have hnl2 : decide (n ≤ k) = false := decide_eq_false (by omega)
      obtain ⟨c, hc⟩ : ∃ c, l[k]? = some c := ⟨l[k]'(by have := HL.out; omega), List.getElem?_eq_getElem _⟩
      have hkl : k < (⟨l.toArray⟩ : ByteArray).size := by omega
      have hub := c.toNat_lt
      obtain ⟨z, hz⟩ : ∃ z : Int, (c.toNat : Int) = z := ⟨_, rfl⟩
      have hi := at_z hc hz hkl
      have hz0 : 0 ≤ z := by omega
      have hz1 : z < 256 := by omega
      have HC := Lib.hid hc
      have HZ := Lib.hid hz
      have HS := Lib.hid (rsign_any c z hz wr)
      clear hc hz hub
      cases hs : LX.sgn c with
      | true =>
        have E := Lib.hid (LX.runp_more HR.out HC.out hs)
        rw [hs] at HS
        clear hs
        go_wp2_with (go_at_call 129; refine HS.out.mono ?_; rintro e w1 ⟨rfl, hw1⟩; replace hw1 := hw1.symm; subst hw1)
        go_roundg g
        case rel => exact ⟨k + 1, by omega, rfl, rfl, E⟩
        case measure => omega
      | false =>
        have hrun := Lib.hid (LX.runp_stop HR.out (fun d hd => by rw [HC.out] at hd; obtain rfl := Option.some.inj hd; exact hs))
        rw [hs] at HS
        clear hs
        by_cases hk0 : k = 0
        · subst hk0
          have E := Lib.hid (show K = 0 by
            rw [HK.out]
            cases hh : LX.kend (l.drop 0) with
            | true => exact key_yes hrun.out hh
            | false => exact key_no hrun.out hh)
          go_wp2_with (go_at_call 129; refine HS.out.mono ?_; rintro e w1 ⟨rfl, hw1⟩; replace hw1 := hw1.symm; subst hw1)
          go_ret
          exact ret_0 E.out rfl
        · have hk1 : ((k : Int) == 0) = false := beq_eq_false_iff_ne.2 (by omega)
          have hk2 : ¬ (k : Int) = 0 := by omega
          have HD := Lib.hid (drop_at HC.out)
          by_cases h58 : c = 58
          · subst h58
            obtain rfl : z = 58 := HZ.out.symm
            by_cases hend : k + 1 = n
            · have E := Lib.hid (HK.out.trans (key_yes hrun.out (by rw [HD.out, List.drop_eq_nil_of_le (by have := HL.out; omega)]; rfl)))
              have e1 : ¬ (k : Int) + 1 < (n : Int) := by omega
              go_wp2_with (go_at_call 129; refine HS.out.mono ?_; rintro e w1 ⟨rfl, hw1⟩; replace hw1 := hw1.symm; subst hw1)
              go_ret
              exact ret_n E.out.symm rfl
            · have e1 : (k : Int) + 1 < (n : Int) := by omega
              obtain ⟨d, hd⟩ : ∃ d, l[k + 1]? = some d := ⟨l[k + 1]'(by have := HL.out; omega), List.getElem?_eq_getElem _⟩
              have hkl1 : k + 1 < (⟨l.toArray⟩ : ByteArray).size := by omega
              obtain ⟨y, hy⟩ : ∃ z : Int, (d.toNat : Int) = z := ⟨_, rfl⟩
              have hi1 := at_z hd hy hkl1
              have hub := d.toNat_lt
              have hy0 : 0 ≤ y := by omega
              have hy1 : y < 256 := by omega
              have HD2 := Lib.hid (drop_at hd)
              have HY := Lib.hid hy
              clear hy hub hd
              by_cases h32 : d = 32
              · subst h32
                obtain rfl : y = 32 := HY.out.symm
                have E := Lib.hid (HK.out.trans (key_yes hrun.out (by rw [HD.out, HD2.out, kend_two]; rfl)))
                go_wp2_with (go_at_call 129; refine HS.out.mono ?_; rintro e w1 ⟨rfl, hw1⟩; replace hw1 := hw1.symm; subst hw1)
                go_ret
                exact ret_n E.out.symm rfl
              · have q : (y == 32) = false := zne HY.out 32 (by decide) h32
                have q2 : ¬ y = 32 := beq_eq_false_iff_ne.1 q
                have q3 : (y != 32) = true := by simp [bne, q]
                have E := Lib.hid (HK.out.trans (key_no hrun.out (by rw [HD.out, HD2.out, kend_two]; simpa using h32)))
                go_wp2_with (go_at_call 129; refine HS.out.mono ?_; rintro e w1 ⟨rfl, hw1⟩; replace hw1 := hw1.symm; subst hw1)
                go_ret
                exact ret_0 E.out rfl
          · have q : (z == 58) = false := zne HZ.out 58 (by decide) h58
            have q2 : ¬ z = 58 := beq_eq_false_iff_ne.1 q
            have q3 : (z != 58) = true := by simp [bne, q]
            have E := Lib.hid (HK.out.trans (key_no hrun.out (by rw [HD.out]; exact kend_ne h58)))
            go_wp2_with (go_at_call 129; refine HS.out.mono ?_; rintro e w1 ⟨rfl, hw1⟩; replace hw1 := hw1.symm; subst hw1)
            go_ret
            exact ret_0 E.out rfl
theorem bars_len : LX.bars.length = 14 := rfl
set_option maxHeartbeats 2000000 in
theorem rodd_any (c : UInt8) (z : Int) (hz : (c.toNat : Int) = z) (w : World) :
    Calls Tryz.prog 95 #[.int .u8 z] w fun e w' => e = .returned (.bool (LX.odd c)) ∧ w' = w := by
  have hub := c.toNat_lt
  have hz0 : 0 ≤ z := by omega
  have hz1 : z < 256 := by omega
  have HZ := Lib.hid hz
  have hsz := str_size [91, 93, 123, 125, 38, 42, 33, 124, 62, 37, 64, 44, 63, 96]
  obtain ⟨K, HK⟩ : ∃ K, Hid (LX.odd c = K) := ⟨_, Lib.hid rfl⟩
  rw [HK.out]
  clear hz hub
  go_enter Tryz.func95, Tryz.ntmps95
  go_wp2
  go_loopg [3] 14 (fun g s3 wx => ∃ k : Nat, k + g = 14 ∧ s3 = .int .i64 (k : Int) ∧ wx = w ∧ Hid (c ∉ LX.bars.take k))
  case atStart => exact ⟨0, by omega, rfl, rfl, by show ¬ _; simp⟩
  case round =>
    obtain ⟨k, hk, rfl, rfl, HR⟩ := hrel
    cases gk with
    | zero =>
      obtain rfl : k = 14 := by omega
      have E := Lib.hid (show K = false by
        rw [← HK.out]
        have := HR.out
        rw [List.take_of_length_le (by rw [bars_len]; exact Nat.le_refl _)] at this
        unfold LX.odd
        simpa using this)
      go_wp2
      go_ret
      exact ret_b E.out.symm rfl
    | succ g =>
      have hlt : (k : Int) < 14 := by omega
      obtain ⟨d, hd⟩ : ∃ d, LX.bars[k]? = some d := ⟨LX.bars[k]'(by rw [bars_len]; omega), List.getElem?_eq_getElem _⟩
      have hkl : k < (⟨[91, 93, 123, 125, 38, 42, 33, 124, 62, 37, 64, 44, 63, 96].toArray⟩ : ByteArray).size := by rw [hsz]; show k < 14; omega
      obtain ⟨y, hy⟩ : ∃ z : Int, (d.toNat : Int) = z := ⟨_, rfl⟩
      have hi := at_z (l := [91, 93, 123, 125, 38, 42, 33, 124, 62, 37, 64, 44, 63, 96]) hd hy hkl
      have hub := d.toNat_lt
      have hy0 : 0 ≤ y := by omega
      have hy1 : y < 256 := by omega
      have HY := Lib.hid hy
      have HD := Lib.hid hd
      clear hd hy hub
      by_cases h : d = c
      · subst h
        obtain rfl : y = z := HY.out.symm.trans HZ.out
        have E := Lib.hid (show K = true by
          rw [← HK.out]
          unfold LX.odd
          have := List.mem_of_getElem? HD.out
          simpa using this)
        go_wp2
        go_ret
        exact ret_b E.out.symm rfl
      · have q : (y == z) = false := beq_eq_false_iff_ne.2 fun e => h (by have h1 := HY.out; have h2 := HZ.out; exact UInt8.toNat_inj.1 (by omega))
        have q2 : ¬ y = z := beq_eq_false_iff_ne.1 q
        have E : Hid (c ∉ LX.bars.take (k + 1)) := by
          show ¬ _
          have hlt' := (List.getElem?_eq_some_iff.1 HD.out)
          rw [List.take_succ_eq_append_getElem hlt'.1, hlt'.2, List.mem_append]
          rintro (h1 | h1)
          · exact HR.out h1
          · exact h (List.mem_singleton.1 h1).symm
        go_wp2
        go_roundg g
        case rel => exact ⟨k + 1, by omega, rfl, rfl, E⟩
        case measure => omega
end Go.Proofs.YtgfhabofhefaaaaGreatDoor
namespace Go.Proofs.YtgfhabofhefaaaaGreatDoor
open Go.RowKit
theorem step_append_bytes {P : Program} {w : World} {ops : Array Oper} {o : Oper} {a : Act} {K : Act → World → Prop} {Q : Exit → Act → World → Prop} {E : Prop} (hgd : o.guard = none) (s x : Operand) (t : TypeId)
    (ho : o.op = .call { callee := .builtin .append, args := #[s, x], argTypes := #[t, t] })
    (base : Nat) (e : TypeId) (ht : P.underlying t = some (.slice e)) (hinfo : (P.info? e).map (fun i => (i.zero, i.size, i.bytes)) = some (some (.int .u8 0), 1, 1))
    {v vx : Value} {xs news : List UInt8} (hs : a.eval s = v) (hown : Own w base e v (bv xs)) (hx : a.eval x = vx) (hrd : Rdv w vx (bv news)) (hne : 0 < news.length)
    (hlen : xs.length + news.length ≤ 140737488355328) (hbase : base ≤ w.heap.size)
    (h : ∀ g cap w', Own w' base e (.slice (some ⟨g, 0, none⟩) (xs.length + news.length) cap) (bv (xs ++ news)) → Below base w w' → K (a.put o.dst (.slice (some ⟨g, 0, none⟩) (xs.length + news.length) cap)) w') :
    if Region.wanted o (yielded ops a.tmps) = true then Oper.wp P o a w K Q else E := by
  obtain ⟨i, hi, hz0, hz1, hz2⟩ := info_parts hinfo
  obtain ⟨b, off, cap, rfl, _, hc⟩ := hrd.at hne
  refine step_append_lies _ hgd s x t ho base e i (.int .u8 0) 1 1 ht hi hz0 hz1 hz2 rfl (by decide) v (bv xs).length (bv xs) hs hown ⟨b, off, none⟩ news.length cap (bv news) hx (by simp [bv_len]) ?_ bv_one hne (by rw [bv_len]; unfold maxLen; omega) (by rw [bv_len]; omega) hbase _ rfl ?_
  · intro j u hu
    have hj : j < news.length := by
      have := (List.getElem?_eq_some_iff.1 hu).1
      rwa [bv_len] at this
    rw [bv_get hj] at hu
    rw [Addr.add_lit, hc j hj, ← hu]
  · intro g cap' w' ho' hg _ _
    rw [bv_len] at ho' ⊢
    refine h g cap' w' ?_ (below_of_grown hown hg hbase)
    show w'.ownsRow base e 1 _ (bv (xs ++ news)).length (bv (xs ++ news))
    rw [bv_len, bv_app, List.length_append]; exact ho'
end Go.Proofs.YtgfhabofhefaaaaGreatDoor
namespace Go.Proofs.YtgfhabofhefaaaaGreatDoor
open Go.RowKit
theorem Tryz.linfo_u8 : (Tryz.prog.info? 5).map (fun i => (i.zero, i.size, i.bytes)) = some (some (.int .u8 0), 1, 1) := by kernel_rfl
theorem lwrap_small {z : Int} (h0 : 0 ≤ z) (h1 : z ≤ 100000) : IntKind.i64.wrap z = z := by
  unfold IntKind.wrap
  simp [IntKind.signed, IntKind.bits]
  omega
theorem lwrap8_small {z : Int} (h0 : 0 ≤ z) (h1 : z < 256) : IntKind.u8.wrap z = z := by
  unfold IntKind.wrap
  simp [IntKind.signed, IntKind.bits]
  omega
def MeE (w : World) (F : Option (List UInt8)) (e : Ending) (w' : World) : Prop :=
  (∃ x b, e = .returned (.tuple #[.string ⟨x.toArray⟩, .bool b]) ∧ ((F = some x ∧ b = true) ∨ (F = none ∧ b = false))) ∧ Below w.heap.size w w'
theorem mee_yes {w w' : World} {F : Option (List UInt8)} {x : List UInt8} {b : Bool} (h : F = some x) (hb2 : b = true) (hb : Below w.heap.size w w') : MeE w F (.returned (.tuple #[.string ⟨x.toArray⟩, .bool b])) w' := ⟨⟨x, b, rfl, .inl ⟨h, hb2⟩⟩, hb⟩
theorem mee_no {w w' : World} {F : Option (List UInt8)} {x : List UInt8} {b : Bool} (h : F = none) (hb2 : b = false) (hb : Below w.heap.size w w') : MeE w F (.returned (.tuple #[.string ⟨x.toArray⟩, .bool b])) w' := ⟨⟨x, b, rfl, .inr ⟨h, hb2⟩⟩, hb⟩
set_option maxRecDepth 10000 in
set_option maxHeartbeats 8000000 in
theorem rmeant_one (t : List UInt8) (w : World) (hl : t.length ≤ 17000) :
    Calls Tryz.prog 94 #[.string ⟨(39 :: t).toArray⟩] w (MeE w (LX.sq t)) := by
  obtain ⟨F, HF⟩ : ∃ F, Hid (F = LX.sq t) := ⟨_, Lib.hid rfl⟩
  rw [← HF.out]
  obtain ⟨l, hl0⟩ : ∃ l, l = 39 :: t := ⟨_, rfl⟩
  have H1 : Hid (l.drop 1 = t) := by show _ = _; rw [hl0]; rfl
  have HLL : Hid (l.length = t.length + 1) := by show _ = _; rw [hl0]; rfl
  have hc0 : l[0]? = some 39 := by rw [hl0]; rfl
  rw [← hl0]
  have hsz := str_size l
  have hp0 : 0 < (⟨l.toArray⟩ : ByteArray).size := by rw [hsz]; have := HLL.out; omega
  have hi0 := at_z hc0 (z := 39) rfl hp0
  obtain ⟨n, hn⟩ : ∃ n, l.length = n := ⟨_, rfl⟩
  have HL := Lib.hid hn
  have hn1 : 1 ≤ n ∧ n ≤ 17001 := by have := HLL.out; omega
  rw [hn] at hsz
  have HCS := Lib.hid (fun (v : Value) (w' : World) (bs : List UInt8) (h : Rdv w' v (bv bs)) => run_string_rd (P := Tryz.prog) 35 5 9 Tryz.underlying35 Tryz.underlying5 Tryz.underlying9 h)
  clear hl0 hn hl hc0
  go_enter Tryz.func94, Tryz.ntmps94
  go_wp2
  go_loopg [4, 6] (n - 1) (fun g s4 s6 wx => ∃ (i : Nat) (acc : List UInt8) (v : Value), i + g = n ∧ 1 ≤ i ∧ acc.length ≤ i ∧ s6 = .int .i64 (i : Int) ∧ v = s4 ∧ Hid (Below w.heap.size w wx) ∧ Hid (Own wx w.heap.size 5 v (bv acc)) ∧ Hid (F = (LX.sq (l.drop i)).map (acc ++ ·)))
  case atStart => exact ⟨1, [], _, by omega, by omega, by simp, rfl, rfl, Below.refl _ _, Own.nil _ _ _, by show _ = _; rw [H1.out, HF.out]; simp⟩
  case round =>
    obtain ⟨i, acc, v, hi, hi1, hac, rfl, rfl, HW, HO, HE⟩ := hrel
    cases gk with
    | zero =>
      obtain rfl : i = n := by omega
      have E := Lib.hid (show F = none by rw [HE.out, List.drop_eq_nil_of_le (by have := HL.out; omega)]; rfl)
      go_wp2
      go_ret2
      exact mee_no E.out rfl HW.out
    | succ g =>
      have hin : (i : Int) < (n : Int) := by omega
      obtain ⟨c, hc⟩ : ∃ c, l[i]? = some c := ⟨l[i]'(by have := HL.out; omega), List.getElem?_eq_getElem _⟩
      have hil : i < (⟨l.toArray⟩ : ByteArray).size := by omega
      have hub := c.toNat_lt
      obtain ⟨z, hz⟩ : ∃ z : Int, (c.toNat : Int) = z := ⟨_, rfl⟩
      have hiz := at_z hc hz hil
      have hz0 : 0 ≤ z := by omega
      have hz1 : z < 256 := by omega
      have HZ := Lib.hid hz
      have HD := Lib.hid (drop_at hc)
      have hcs := HCS.out v wr acc HO.out.rd
      clear hz hub hc
      by_cases h39 : c = 39
      · subst h39
        obtain rfl : z = 39 := HZ.out.symm
        by_cases hend : i + 1 = n
        · have E := Lib.hid (show F = some acc by rw [HE.out, HD.out, show l.drop (i + 1) = [] from List.drop_eq_nil_of_le (by have := HL.out; omega), LX.sq_end]; simp)
          have e1 : ¬ (i : Int) + 1 < (n : Int) := by omega
          have e2 : ((i : Int) == (n : Int) - 1) = true := beq_iff_eq.2 (by omega)
          have e3 : (n : Int) - 1 = (i : Int) := by omega
          go_wp2
          go_ret2
          exact mee_yes E.out rfl HW.out
        · have e1 : (i : Int) + 1 < (n : Int) := by omega
          obtain ⟨d, hd⟩ : ∃ d, l[i + 1]? = some d := ⟨l[i + 1]'(by have := HL.out; omega), List.getElem?_eq_getElem _⟩
          have hil1 : i + 1 < (⟨l.toArray⟩ : ByteArray).size := by omega
          obtain ⟨y, hy⟩ : ∃ z : Int, (d.toNat : Int) = z := ⟨_, rfl⟩
          have hiy := at_z hd hy hil1
          have hub := d.toNat_lt
          have hy0 : 0 ≤ y := by omega
          have hy1 : y < 256 := by omega
          have HY := Lib.hid hy
          have HD2 := Lib.hid (drop_at hd)
          clear hd hy hub
          by_cases hd39 : d = 39
          · subst hd39
            obtain rfl : y = 39 := HY.out.symm
            have E := Lib.hid (show F = (LX.sq (l.drop (i + 2))).map ((acc ++ [39]) ++ ·) by rw [HE.out, HD.out, HD2.out, LX.sq_two, Option.map_map]; congr 1; funext q; simp)
            clear hcs
            go_wp2_with (at_builtin; refine wpList_append_bytes rfl (.tmp 36) (.tmp 38) 35 rfl w.heap.size 5 Tryz.underlying35 Tryz.linfo_u8 (by rfl) (HO.out.alloc _) (by rfl) (one_rd (b := 39) rfl) (by simp; omega) (by have := HW.out.size; rw [bx_size]; omega) ?_; intro v3 w3 ho3 hg3 hb3; have O3 := Lib.hid ho3; have B3 := Lib.hid (HW.out.trans (((Below.refl _ _).alloc HW.out.size _).trans hb3)); clear ho3 hg3 hb3)
            go_roundg (n - (i + 2))
            case rel => exact ⟨i + 2, acc ++ [39], v3, by omega, by omega, by simp; omega, by simp; omega, rfl, B3, O3, E⟩
            case measure => omega
          · have q : (y == 39) = false := zne HY.out 39 (by decide) hd39
            have q2 : ¬ y = 39 := beq_eq_false_iff_ne.1 q
            have E := Lib.hid (show F = none by rw [HE.out, HD.out, HD2.out, LX.sq_bad hd39]; rfl)
            have e2 : ((i : Int) == (n : Int) - 1) = false := beq_eq_false_iff_ne.2 (by omega)
            go_wp2
            go_ret2
            exact mee_no E.out rfl HW.out
      · have q : (z == 39) = false := zne HZ.out 39 (by decide) h39
        have q2 : ¬ z = 39 := beq_eq_false_iff_ne.1 q
        have E := Lib.hid (show F = (LX.sq (l.drop (i + 1))).map ((acc ++ [c]) ++ ·) by rw [HE.out, HD.out, LX.sq_pass h39, Option.map_map]; congr 1; funext q; simp)
        clear hcs
        go_wp2_with (at_builtin; refine wpList_append_bytes rfl (.tmp 57) (.tmp 61) 35 rfl w.heap.size 5 Tryz.underlying35 Tryz.linfo_u8 (by rfl) (HO.out.alloc _) (by rfl) (one_rd (b := c) HZ.out.symm) (by simp; omega) (by have := HW.out.size; rw [bx_size]; omega) ?_; intro v3 w3 ho3 hg3 hb3; have O3 := Lib.hid ho3; have B3 := Lib.hid (HW.out.trans (((Below.refl _ _).alloc HW.out.size _).trans hb3)); clear ho3 hg3 hb3)
        go_roundg g
        case rel => exact ⟨i + 1, acc ++ [c], v3, by omega, by omega, by simp; omega, rfl, rfl, B3, O3, E⟩
        case measure => omega
end Go.Proofs.YtgfhabofhefaaaaGreatDoor
namespace Go.Proofs.YtgfhabofhefaaaaGreatDoor
open Go.RowKit
set_option maxHeartbeats 4000000 in
theorem rkey_any (l : List UInt8) (w : World) (hl : l.length ≤ 9223372036854775807) :
    Calls Tryz.prog 139 #[.string ⟨l.toArray⟩] w fun e w' => e = .returned (.bool (SH.keyb l)) ∧ w' = w := by
  by_cases h0 : l = []
  · subst h0
    have E : SH.keyb [] = false := rfl
    rw [E]
    clear E hl
    go_enter Tryz.func139, Tryz.ntmps139
    go_wp2
    go_ret
    exact ⟨rfl, rfl⟩
  have hb0 : (l == []) = false := by simpa using h0
  have hsz := str_size l
  obtain ⟨n, hn⟩ : ∃ n, l.length = n := ⟨_, rfl⟩
  have HL := Lib.hid hn
  have H0 := Lib.hid h0
  obtain ⟨K, HK⟩ : ∃ K, Hid (K = SH.keyb l) := ⟨_, Lib.hid rfl⟩
  rw [← HK.out]
  rw [hn] at hsz hl
  clear hn
  by_cases h64 : 64 < n
  · have h64i : (64 : Int) < (n : Int) := by omega
    have E : K = false := by
      rw [HK.out]; unfold SH.keyb
      rw [decide_eq_false (by have := HL.out; omega)]; rfl
    subst E
    clear h0
    go_enter Tryz.func139, Tryz.ntmps139
    go_wp2
    go_ret
    exact ⟨rfl, rfl⟩
  have h64i : ¬ (64 : Int) < (n : Int) := by omega
  have HE : Hid (K = l.all LX.sgn) := by
    show K = _
    rw [HK.out]; unfold SH.keyb
    rw [decide_eq_true ⟨h0, by have := HL.out; omega⟩, Bool.true_and]
  clear h0 HK
  go_enter Tryz.func139, Tryz.ntmps139
  go_wp2
  go_loopg [3] n (fun g s3 wx => ∃ k : Nat, k + g = n ∧ s3 = .int .i64 (k : Int) ∧ wx = w ∧ Hid (∀ c ∈ l.take k, LX.sgn c = true))
  case atStart => exact ⟨0, by omega, rfl, rfl, Lib.hid (by simp)⟩
  case round =>
    obtain ⟨k, hk, rfl, rfl, HR⟩ := hrel
    cases gk with
    | zero =>
      obtain rfl : k = n := by omega
      have E : K = true := by
        rw [HE.out, List.all_eq_true]
        have := HR.out
        rwa [List.take_of_length_le (by have := HL.out; omega)] at this
      subst E
      go_wp2
      go_ret
      exact ⟨rfl, rfl⟩
    | succ g =>
      have hlt : (k : Int) < (n : Int) := by omega
      have hnle : ¬ (n : Int) ≤ (k : Int) := by omega
      have hnl2 : decide (n ≤ k) = false := decide_eq_false (by omega)
      obtain ⟨c, hc⟩ : ∃ c, l[k]? = some c := ⟨l[k]'(by have := HL.out; omega), List.getElem?_eq_getElem _⟩
      have hkl : k < (⟨l.toArray⟩ : ByteArray).size := by omega
      have hub := c.toNat_lt
      obtain ⟨z, hz⟩ : ∃ z : Int, (c.toNat : Int) = z := ⟨_, rfl⟩
      have hi := at_z hc hz hkl
      have hz0 : 0 ≤ z := by omega
      have hz1 : z < 256 := by omega
      have HC := Lib.hid hc
      have HS := Lib.hid (rsign_any c z hz wr)
      clear hc hz hub
      cases hs : LX.sgn c with
      | true =>
        have E : Hid (∀ d ∈ l.take (k + 1), LX.sgn d = true) := by
          show ∀ d ∈ _, _
          have h1 := List.getElem?_eq_some_iff.1 HC.out
          rw [List.take_succ_eq_append_getElem h1.1, h1.2]
          intro d hd
          rcases List.mem_append.1 hd with hd | hd
          · exact HR.out d hd
          · rw [List.mem_singleton.1 hd]; exact hs
        rw [hs] at HS
        clear hs
        go_wp2_with (go_at_call 129; refine HS.out.mono ?_; rintro e w1 ⟨rfl, hw1⟩; replace hw1 := hw1.symm; subst hw1)
        go_roundg g
        case rel => exact ⟨k + 1, by omega, by first | rfl | (simp; done), rfl, E⟩
        case measure => omega
      | false =>
        have E : K = false := by
          rw [HE.out, List.all_eq_false]
          exact ⟨c, List.mem_of_getElem? HC.out, by simp [hs]⟩
        subst E
        rw [hs] at HS
        clear hs
        go_wp2_with (go_at_call 129; refine HS.out.mono ?_; rintro e w1 ⟨rfl, hw1⟩; replace hw1 := hw1.symm; subst hw1)
        go_ret
        exact ⟨rfl, rfl⟩
theorem bl_succ (k : Nat) : DC.bl (k + 1) = DC.bl k ++ [32] := by
  unfold DC.bl
  rw [List.replicate_succ']
end Go.Proofs.YtgfhabofhefaaaaGreatDoor
