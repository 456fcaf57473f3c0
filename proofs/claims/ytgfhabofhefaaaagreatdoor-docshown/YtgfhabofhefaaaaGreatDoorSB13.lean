/- A part of the proof. -/
import Derived.Test.YtgfhabofhefaaaaGreatDoorSB12
import Derived.Test.YtgfhabofhefaaaaGreatDoorSB06
import Derived.Deep.AppendLies
import Derived.Deep.RegionHeld3
import Derived.Test.YtgfhabofhefaaaaGreatDoorSB02
import Derived.Test.YtgfhabofhefaaaaGreatDoorSB10
import Derived.Test.YtgfhabofhefaaaaGreatDoorSB11
import Derived.Deep.LoopGhost
namespace Go.Proofs.YtgfhabofhefaaaaGreatDoor
open Go.RowKit
theorem kend_ne {c : UInt8} {t : List UInt8} (h : c ≠ 58) : LX.kend (c :: t) = false := by
  cases t <;> simp [LX.kend, h]
theorem kend_two {d : UInt8} {t : List UInt8} : LX.kend (58 :: d :: t) = (d == 32) := by simp [LX.kend]
set_option maxHeartbeats 8000000 in
theorem rkeyed_any (l : List UInt8) (w : World) (hl : l.length ≤ 100000) :
    Calls Tryz.prog 93 #[.string ⟨l.toArray⟩] w fun e w' => e = .returned (.int .i64 (LX.key l : Int)) ∧ w' = w := by
  have hsz := str_size l
  obtain ⟨n, hn⟩ : ∃ n, l.length = n := ⟨_, rfl⟩
  have HL := Lib.hid hn
  rw [hn] at hsz hl
  clear hn
  obtain ⟨K, HK⟩ : ∃ K, Hid (K = LX.key l) := ⟨_, Lib.hid rfl⟩
  rw [← HK.out]
  go_enter Tryz.func93, Tryz.ntmps93
  go_wp2
  go_loopg [3] n (fun g s3 wx => ∃ k : Nat, k + g = n ∧ s3 = .int .i64 (k : Int) ∧ wx = w ∧ Hid (k ≤ LX.run l))
  case atStart => exact ⟨0, by omega, rfl, rfl, Nat.zero_le _⟩
  case round =>
    obtain ⟨k, hk, rfl, rfl, HR⟩ := hrel
    cases gk with
    | zero =>
      obtain rfl : k = n := by omega
      have hrun := Lib.hid (LX.runp_stop HR.out (fun c hc => by rw [List.getElem?_eq_none (by have := HL.out; omega)] at hc; cases hc))
      have E := Lib.hid (HK.out.trans (key_no hrun.out (by rw [List.drop_eq_nil_of_le (by have := HL.out; omega)]; rfl)))
      by_cases hk0 : k = 0
      · subst hk0
        go_wp2
        go_ret
        exact ret_0 E.out rfl
      · have hk1 : ((k : Int) == 0) = false := beq_eq_false_iff_ne.2 (by omega)
        have hk2 : ¬ (k : Int) = 0 := by omega
        go_wp2
        go_ret
        exact ret_0 E.out rfl
    | succ g =>
      have hlt : (k : Int) < (n : Int) := by omega
      have hnle : ¬ (n : Int) ≤ (k : Int) := by omega
      have hnl2 : decide (n ≤ k) = false := decide_eq_false (by omega)
      obtain ⟨c, hc⟩ : ∃ c, l[k]? = some c := ⟨l[k]'(by have := HL.out; omega), List.getElem?_eq_getElem _⟩
      have hkl : k < (⟨l.toArray⟩ : ByteArray).size := by omega
      have hub := c.toNat_lt
      obtain ⟨z, hz⟩ : ∃ z : Int, (c.toNat : Int) = z := ⟨_, rfl⟩
      have hi := at_z hc hz hkl
      have hz0 : 0 ≤ z := by omega
      have hz1 : z < 256 := by omega
      have HC := Lib.hid hc
      have HZ := Lib.hid hz
      have HS := Lib.hid (rsign_any c z hz wr)
      clear hc hz hub
      cases hs : LX.sgn c with
      | true =>
        have E := Lib.hid (LX.runp_more HR.out HC.out hs)
        rw [hs] at HS
        clear hs
        go_wp2_with (go_at_call 129; refine HS.out.mono ?_; rintro e w1 ⟨rfl, hw1⟩; replace hw1 := hw1.symm; subst hw1)
        go_roundg g
        case rel => exact ⟨k + 1, by omega, rfl, rfl, E⟩
        case measure => omega
      | false =>
        have hrun := Lib.hid (LX.runp_stop HR.out (fun d hd => by rw [HC.out] at hd; obtain rfl := Option.some.inj hd; exact hs))
        rw [hs] at HS
        clear hs
        by_cases hk0 : k = 0
        · subst hk0
          have E := Lib.hid (show K = 0 by
            rw [HK.out]
            cases hh : LX.kend (l.drop 0) with
            | true => exact key_yes hrun.out hh
            | false => exact key_no hrun.out hh)
          go_wp2_with (go_at_call 129; refine HS.out.mono ?_; rintro e w1 ⟨rfl, hw1⟩; replace hw1 := hw1.symm; subst hw1)
          go_ret
          exact ret_0 E.out rfl
        · have hk1 : ((k : Int) == 0) = false := beq_eq_false_iff_ne.2 (by omega)
          have hk2 : ¬ (k : Int) = 0 := by omega
          have HD := Lib.hid (drop_at HC.out)
          by_cases h58 : c = 58
          · subst h58
            obtain rfl : z = 58 := HZ.out.symm
            by_cases hend : k + 1 = n
            · have E := Lib.hid (HK.out.trans (key_yes hrun.out (by rw [HD.out, List.drop_eq_nil_of_le (by have := HL.out; omega)]; rfl)))
              have e1 : ¬ (k : Int) + 1 < (n : Int) := by omega
              go_wp2_with (go_at_call 129; refine HS.out.mono ?_; rintro e w1 ⟨rfl, hw1⟩; replace hw1 := hw1.symm; subst hw1)
              go_ret
              exact ret_n E.out.symm rfl
            · have e1 : (k : Int) + 1 < (n : Int) := by omega
              obtain ⟨d, hd⟩ : ∃ d, l[k + 1]? = some d := ⟨l[k + 1]'(by have := HL.out; omega), List.getElem?_eq_getElem _⟩
              have hkl1 : k + 1 < (⟨l.toArray⟩ : ByteArray).size := by omega
              obtain ⟨y, hy⟩ : ∃ z : Int, (d.toNat : Int) = z := ⟨_, rfl⟩
              have hi1 := at_z hd hy hkl1
              have hub := d.toNat_lt
              have hy0 : 0 ≤ y := by omega
              have hy1 : y < 256 := by omega
              have HD2 := Lib.hid (drop_at hd)
              have HY := Lib.hid hy
              clear hy hub hd
              by_cases h32 : d = 32
              · subst h32
                obtain rfl : y = 32 := HY.out.symm
                have E := Lib.hid (HK.out.trans (key_yes hrun.out (by rw [HD.out, HD2.out, kend_two]; rfl)))
                go_wp2_with (go_at_call 129; refine HS.out.mono ?_; rintro e w1 ⟨rfl, hw1⟩; replace hw1 := hw1.symm; subst hw1)
                go_ret
                exact ret_n E.out.symm rfl
              · have q : (y == 32) = false := zne HY.out 32 (by decide) h32
                have q2 : ¬ y = 32 := beq_eq_false_iff_ne.1 q
                have q3 : (y != 32) = true := by simp [bne, q]
                have E := Lib.hid (HK.out.trans (key_no hrun.out (by rw [HD.out, HD2.out, kend_two]; simpa using h32)))
                go_wp2_with (go_at_call 129; refine HS.out.mono ?_; rintro e w1 ⟨rfl, hw1⟩; replace hw1 := hw1.symm; subst hw1)
                go_ret
                exact ret_0 E.out rfl
          · have q : (z == 58) = false := zne HZ.out 58 (by decide) h58
            have q2 : ¬ z = 58 := beq_eq_false_iff_ne.1 q
            have q3 : (z != 58) = true := by simp [bne, q]
            have E := Lib.hid (HK.out.trans (key_no hrun.out (by rw [HD.out]; exact kend_ne h58)))
            go_wp2_with (go_at_call 129; refine HS.out.mono ?_; rintro e w1 ⟨rfl, hw1⟩; replace hw1 := hw1.symm; subst hw1)
            go_ret
            exact ret_0 E.out rfl
theorem bars_len : LX.bars.length = 14 := rfl
set_option maxHeartbeats 2000000 in
theorem rodd_any (c : UInt8) (z : Int) (hz : (c.toNat : Int) = z) (w : World) :
    Calls Tryz.prog 95 #[.int .u8 z] w fun e w' => e = .returned (.bool (LX.odd c)) ∧ w' = w := by
  have hub := c.toNat_lt
  have hz0 : 0 ≤ z := by omega
  have hz1 : z < 256 := by omega
  have HZ := Lib.hid hz
  have hsz := str_size [91, 93, 123, 125, 38, 42, 33, 124, 62, 37, 64, 44, 63, 96]
  obtain ⟨K, HK⟩ : ∃ K, Hid (LX.odd c = K) := ⟨_, Lib.hid rfl⟩
  rw [HK.out]
  clear hz hub
  go_enter Tryz.func95, Tryz.ntmps95
  go_wp2
  go_loopg [3] 14 (fun g s3 wx => ∃ k : Nat, k + g = 14 ∧ s3 = .int .i64 (k : Int) ∧ wx = w ∧ Hid (c ∉ LX.bars.take k))
  case atStart => exact ⟨0, by omega, rfl, rfl, by show ¬ _; simp⟩
  case round =>
    obtain ⟨k, hk, rfl, rfl, HR⟩ := hrel
    cases gk with
    | zero =>
      obtain rfl : k = 14 := by omega
      have E := Lib.hid (show K = false by
        rw [← HK.out]
        have := HR.out
        rw [List.take_of_length_le (by rw [bars_len]; exact Nat.le_refl _)] at this
        unfold LX.odd
        simpa using this)
      go_wp2
      go_ret
      exact ret_b E.out.symm rfl
    | succ g =>
      have hlt : (k : Int) < 14 := by omega
      obtain ⟨d, hd⟩ : ∃ d, LX.bars[k]? = some d := ⟨LX.bars[k]'(by rw [bars_len]; omega), List.getElem?_eq_getElem _⟩
      have hkl : k < (⟨[91, 93, 123, 125, 38, 42, 33, 124, 62, 37, 64, 44, 63, 96].toArray⟩ : ByteArray).size := by rw [hsz]; show k < 14; omega
      obtain ⟨y, hy⟩ : ∃ z : Int, (d.toNat : Int) = z := ⟨_, rfl⟩
      have hi := at_z (l := [91, 93, 123, 125, 38, 42, 33, 124, 62, 37, 64, 44, 63, 96]) hd hy hkl
      have hub := d.toNat_lt
      have hy0 : 0 ≤ y := by omega
      have hy1 : y < 256 := by omega
      have HY := Lib.hid hy
      have HD := Lib.hid hd
      clear hd hy hub
      by_cases h : d = c
      · subst h
        obtain rfl : y = z := HY.out.symm.trans HZ.out
        have E := Lib.hid (show K = true by
          rw [← HK.out]
          unfold LX.odd
          have := List.mem_of_getElem? HD.out
          simpa using this)
        go_wp2
        go_ret
        exact ret_b E.out.symm rfl
      · have q : (y == z) = false := beq_eq_false_iff_ne.2 fun e => h (by have h1 := HY.out; have h2 := HZ.out; exact UInt8.toNat_inj.1 (by omega))
        have q2 : ¬ y = z := beq_eq_false_iff_ne.1 q
        have E : Hid (c ∉ LX.bars.take (k + 1)) := by
          show ¬ _
          have hlt' := (List.getElem?_eq_some_iff.1 HD.out)
          rw [List.take_succ_eq_append_getElem hlt'.1, hlt'.2, List.mem_append]
          rintro (h1 | h1)
          · exact HR.out h1
          · exact h (List.mem_singleton.1 h1).symm
        go_wp2
        go_roundg g
        case rel => exact ⟨k + 1, by omega, rfl, rfl, E⟩
        case measure => omega
end Go.Proofs.YtgfhabofhefaaaaGreatDoor
namespace Go.Proofs.YtgfhabofhefaaaaGreatDoor
open Go.RowKit
theorem step_append_bytes {P : Program} {w : World} {ops : Array Oper} {o : Oper} {a : Act} {K : Act → World → Prop} {Q : Exit → Act → World → Prop} {E : Prop} (hgd : o.guard = none) (s x : Operand) (t : TypeId)
    (ho : o.op = .call { callee := .builtin .append, args := #[s, x], argTypes := #[t, t] })
    (base : Nat) (e : TypeId) (ht : P.underlying t = some (.slice e)) (hinfo : (P.info? e).map (fun i => (i.zero, i.size, i.bytes)) = some (some (.int .u8 0), 1, 1))
    {v vx : Value} {xs news : List UInt8} (hs : a.eval s = v) (hown : Own w base e v (bv xs)) (hx : a.eval x = vx) (hrd : Rdv w vx (bv news)) (hne : 0 < news.length)
    (hlen : xs.length + news.length ≤ 140737488355328) (hbase : base ≤ w.heap.size)
    (h : ∀ g cap w', Own w' base e (.slice (some ⟨g, 0, none⟩) (xs.length + news.length) cap) (bv (xs ++ news)) → Below base w w' → K (a.put o.dst (.slice (some ⟨g, 0, none⟩) (xs.length + news.length) cap)) w') :
    if Region.wanted o (yielded ops a.tmps) = true then Oper.wp P o a w K Q else E := by
  obtain ⟨i, hi, hz0, hz1, hz2⟩ := info_parts hinfo
  obtain ⟨b, off, cap, rfl, _, hc⟩ := hrd.at hne
  refine step_append_lies _ hgd s x t ho base e i (.int .u8 0) 1 1 ht hi hz0 hz1 hz2 rfl (by decide) v (bv xs).length (bv xs) hs hown ⟨b, off, none⟩ news.length cap (bv news) hx (by simp [bv_len]) ?_ bv_one hne (by rw [bv_len]; unfold maxLen; omega) (by rw [bv_len]; omega) hbase _ rfl ?_
  · intro j u hu
    have hj : j < news.length := by
      have := (List.getElem?_eq_some_iff.1 hu).1
      rwa [bv_len] at this
    rw [bv_get hj] at hu
    rw [Addr.add_lit, hc j hj, ← hu]
  · intro g cap' w' ho' hg _ _
    rw [bv_len] at ho' ⊢
    refine h g cap' w' ?_ (below_of_grown hown hg hbase)
    show w'.ownsRow base e 1 _ (bv (xs ++ news)).length (bv (xs ++ news))
    rw [bv_len, bv_app, List.length_append]; exact ho'
end Go.Proofs.YtgfhabofhefaaaaGreatDoor
namespace Go.Proofs.YtgfhabofhefaaaaGreatDoor
open Go.RowKit
theorem Tryz.linfo_u8 : (Tryz.prog.info? 5).map (fun i => (i.zero, i.size, i.bytes)) = some (some (.int .u8 0), 1, 1) := by kernel_rfl
theorem lwrap_small {z : Int} (h0 : 0 ≤ z) (h1 : z ≤ 100000) : IntKind.i64.wrap z = z := by
  unfold IntKind.wrap
  simp [IntKind.signed, IntKind.bits]
  omega
theorem lwrap8_small {z : Int} (h0 : 0 ≤ z) (h1 : z < 256) : IntKind.u8.wrap z = z := by
  unfold IntKind.wrap
  simp [IntKind.signed, IntKind.bits]
  omega
def MeE (w : World) (F : Option (List UInt8)) (e : Ending) (w' : World) : Prop :=
  (∃ x b, e = .returned (.tuple #[.string ⟨x.toArray⟩, .bool b]) ∧ ((F = some x ∧ b = true) ∨ (F = none ∧ b = false))) ∧ Below w.heap.size w w'
theorem mee_yes {w w' : World} {F : Option (List UInt8)} {x : List UInt8} {b : Bool} (h : F = some x) (hb2 : b = true) (hb : Below w.heap.size w w') : MeE w F (.returned (.tuple #[.string ⟨x.toArray⟩, .bool b])) w' := ⟨⟨x, b, rfl, .inl ⟨h, hb2⟩⟩, hb⟩
theorem mee_no {w w' : World} {F : Option (List UInt8)} {x : List UInt8} {b : Bool} (h : F = none) (hb2 : b = false) (hb : Below w.heap.size w w') : MeE w F (.returned (.tuple #[.string ⟨x.toArray⟩, .bool b])) w' := ⟨⟨x, b, rfl, .inr ⟨h, hb2⟩⟩, hb⟩
set_option maxRecDepth 10000 in
set_option maxHeartbeats 8000000 in
theorem rmeant_one (t : List UInt8) (w : World) (hl : t.length ≤ 17000) :
    Calls Tryz.prog 94 #[.string ⟨(39 :: t).toArray⟩] w (MeE w (LX.sq t)) := by
  obtain ⟨F, HF⟩ : ∃ F, Hid (F = LX.sq t) := ⟨_, Lib.hid rfl⟩
  rw [← HF.out]
  obtain ⟨l, hl0⟩ : ∃ l, l = 39 :: t := ⟨_, rfl⟩
  have H1 : Hid (l.drop 1 = t) := by show _ = _; rw [hl0]; rfl
  have HLL : Hid (l.length = t.length + 1) := by show _ = _; rw [hl0]; rfl
  have hc0 : l[0]? = some 39 := by rw [hl0]; rfl
  rw [← hl0]
  have hsz := str_size l
  have hp0 : 0 < (⟨l.toArray⟩ : ByteArray).size := by rw [hsz]; have := HLL.out; omega
  have hi0 := at_z hc0 (z := 39) rfl hp0
  obtain ⟨n, hn⟩ : ∃ n, l.length = n := ⟨_, rfl⟩
  have HL := Lib.hid hn
  have hn1 : 1 ≤ n ∧ n ≤ 17001 := by have := HLL.out; omega
  rw [hn] at hsz
  have HCS := Lib.hid (fun (v : Value) (w' : World) (bs : List UInt8) (h : Rdv w' v (bv bs)) => run_string_rd (P := Tryz.prog) 35 5 9 Tryz.underlying35 Tryz.underlying5 Tryz.underlying9 h)
  clear hl0 hn hl hc0
  go_enter Tryz.func94, Tryz.ntmps94
  go_wp2
  go_loopg [4, 6] (n - 1) (fun g s4 s6 wx => ∃ (i : Nat) (acc : List UInt8) (v : Value), i + g = n ∧ 1 ≤ i ∧ acc.length ≤ i ∧ s6 = .int .i64 (i : Int) ∧ v = s4 ∧ Hid (Below w.heap.size w wx) ∧ Hid (Own wx w.heap.size 5 v (bv acc)) ∧ Hid (F = (LX.sq (l.drop i)).map (acc ++ ·)))
  case atStart => exact ⟨1, [], _, by omega, by omega, by simp, rfl, rfl, Below.refl _ _, Own.nil _ _ _, by show _ = _; rw [H1.out, HF.out]; simp⟩
  case round =>
    obtain ⟨i, acc, v, hi, hi1, hac, rfl, rfl, HW, HO, HE⟩ := hrel
    cases gk with
    | zero =>
      obtain rfl : i = n := by omega
      have E := Lib.hid (show F = none by rw [HE.out, List.drop_eq_nil_of_le (by have := HL.out; omega)]; rfl)
      go_wp2
      go_ret2
      exact mee_no E.out rfl HW.out
    | succ g =>
      have hin : (i : Int) < (n : Int) := by omega
      obtain ⟨c, hc⟩ : ∃ c, l[i]? = some c := ⟨l[i]'(by have := HL.out; omega), List.getElem?_eq_getElem _⟩
      have hil : i < (⟨l.toArray⟩ : ByteArray).size := by omega
      have hub := c.toNat_lt
      obtain ⟨z, hz⟩ : ∃ z : Int, (c.toNat : Int) = z := ⟨_, rfl⟩
      have hiz := at_z hc hz hil
      have hz0 : 0 ≤ z := by omega
      have hz1 : z < 256 := by omega
      have HZ := Lib.hid hz
      have HD := Lib.hid (drop_at hc)
      have hcs := HCS.out v wr acc HO.out.rd
      clear hz hub hc
      by_cases h39 : c = 39
      · subst h39
        obtain rfl : z = 39 := HZ.out.symm
        by_cases hend : i + 1 = n
        · have E := Lib.hid (show F = some acc by rw [HE.out, HD.out, show l.drop (i + 1) = [] from List.drop_eq_nil_of_le (by have := HL.out; omega), LX.sq_end]; simp)
          have e1 : ¬ (i : Int) + 1 < (n : Int) := by omega
          have e2 : ((i : Int) == (n : Int) - 1) = true := beq_iff_eq.2 (by omega)
          have e3 : (n : Int) - 1 = (i : Int) := by omega
          go_wp2
          go_ret2
          exact mee_yes E.out rfl HW.out
        · have e1 : (i : Int) + 1 < (n : Int) := by omega
          obtain ⟨d, hd⟩ : ∃ d, l[i + 1]? = some d := ⟨l[i + 1]'(by have := HL.out; omega), List.getElem?_eq_getElem _⟩
          have hil1 : i + 1 < (⟨l.toArray⟩ : ByteArray).size := by omega
          obtain ⟨y, hy⟩ : ∃ z : Int, (d.toNat : Int) = z := ⟨_, rfl⟩
          have hiy := at_z hd hy hil1
          have hub := d.toNat_lt
          have hy0 : 0 ≤ y := by omega
          have hy1 : y < 256 := by omega
          have HY := Lib.hid hy
          have HD2 := Lib.hid (drop_at hd)
          clear hd hy hub
          by_cases hd39 : d = 39
          · subst hd39
            obtain rfl : y = 39 := HY.out.symm
            have E := Lib.hid (show F = (LX.sq (l.drop (i + 2))).map ((acc ++ [39]) ++ ·) by rw [HE.out, HD.out, HD2.out, LX.sq_two, Option.map_map]; congr 1; funext q; simp)
            clear hcs
            go_wp2_with (at_builtin; refine wpList_append_bytes rfl (.tmp 36) (.tmp 38) 35 rfl w.heap.size 5 Tryz.underlying35 Tryz.linfo_u8 (by rfl) (HO.out.alloc _) (by rfl) (one_rd (b := 39) rfl) (by simp; omega) (by have := HW.out.size; rw [bx_size]; omega) ?_; intro v3 w3 ho3 hg3 hb3; have O3 := Lib.hid ho3; have B3 := Lib.hid (HW.out.trans (((Below.refl _ _).alloc HW.out.size _).trans hb3)); clear ho3 hg3 hb3)
            go_roundg (n - (i + 2))
            case rel => exact ⟨i + 2, acc ++ [39], v3, by omega, by omega, by simp; omega, by simp; omega, rfl, B3, O3, E⟩
            case measure => omega
          · have q : (y == 39) = false := zne HY.out 39 (by decide) hd39
            have q2 : ¬ y = 39 := beq_eq_false_iff_ne.1 q
            have E := Lib.hid (show F = none by rw [HE.out, HD.out, HD2.out, LX.sq_bad hd39]; rfl)
            have e2 : ((i : Int) == (n : Int) - 1) = false := beq_eq_false_iff_ne.2 (by omega)
            go_wp2
            go_ret2
            exact mee_no E.out rfl HW.out
      · have q : (z == 39) = false := zne HZ.out 39 (by decide) h39
        have q2 : ¬ z = 39 := beq_eq_false_iff_ne.1 q
        have E := Lib.hid (show F = (LX.sq (l.drop (i + 1))).map ((acc ++ [c]) ++ ·) by rw [HE.out, HD.out, LX.sq_pass h39, Option.map_map]; congr 1; funext q; simp)
        clear hcs
        go_wp2_with (at_builtin; refine wpList_append_bytes rfl (.tmp 57) (.tmp 61) 35 rfl w.heap.size 5 Tryz.underlying35 Tryz.linfo_u8 (by rfl) (HO.out.alloc _) (by rfl) (one_rd (b := c) HZ.out.symm) (by simp; omega) (by have := HW.out.size; rw [bx_size]; omega) ?_; intro v3 w3 ho3 hg3 hb3; have O3 := Lib.hid ho3; have B3 := Lib.hid (HW.out.trans (((Below.refl _ _).alloc HW.out.size _).trans hb3)); clear ho3 hg3 hb3)
        go_roundg g
        case rel => exact ⟨i + 1, acc ++ [c], v3, by omega, by omega, by simp; omega, rfl, rfl, B3, O3, E⟩
        case measure => omega
end Go.Proofs.YtgfhabofhefaaaaGreatDoor
namespace Go.Proofs.YtgfhabofhefaaaaGreatDoor
open Go.RowKit
set_option maxHeartbeats 4000000 in
theorem rkey_any (l : List UInt8) (w : World) (hl : l.length ≤ 9223372036854775807) :
    Calls Tryz.prog 139 #[.string ⟨l.toArray⟩] w fun e w' => e = .returned (.bool (SH.keyb l)) ∧ w' = w := by
  by_cases h0 : l = []
  · subst h0
    have E : SH.keyb [] = false := rfl
    rw [E]
    clear E hl
    go_enter Tryz.func139, Tryz.ntmps139
    go_wp2
    go_ret
    exact ⟨rfl, rfl⟩
  have hb0 : (l == []) = false := by simpa using h0
  have hsz := str_size l
  obtain ⟨n, hn⟩ : ∃ n, l.length = n := ⟨_, rfl⟩
  have HL := Lib.hid hn
  have H0 := Lib.hid h0
  obtain ⟨K, HK⟩ : ∃ K, Hid (K = SH.keyb l) := ⟨_, Lib.hid rfl⟩
  rw [← HK.out]
  rw [hn] at hsz hl
  clear hn
  by_cases h64 : 64 < n
  · have h64i : (64 : Int) < (n : Int) := by omega
    have E : K = false := by
      rw [HK.out]; unfold SH.keyb
      rw [decide_eq_false (by have := HL.out; omega)]; rfl
    subst E
    clear h0
    go_enter Tryz.func139, Tryz.ntmps139
    go_wp2
    go_ret
    exact ⟨rfl, rfl⟩
  have h64i : ¬ (64 : Int) < (n : Int) := by omega
  have HE : Hid (K = l.all LX.sgn) := by
    show K = _
    rw [HK.out]; unfold SH.keyb
    rw [decide_eq_true ⟨h0, by have := HL.out; omega⟩, Bool.true_and]
  clear h0 HK
  go_enter Tryz.func139, Tryz.ntmps139
  go_wp2
  go_loopg [3] n (fun g s3 wx => ∃ k : Nat, k + g = n ∧ s3 = .int .i64 (k : Int) ∧ wx = w ∧ Hid (∀ c ∈ l.take k, LX.sgn c = true))
  case atStart => exact ⟨0, by omega, rfl, rfl, Lib.hid (by simp)⟩
  case round =>
    obtain ⟨k, hk, rfl, rfl, HR⟩ := hrel
    cases gk with
    | zero =>
      obtain rfl : k = n := by omega
      have E : K = true := by
        rw [HE.out, List.all_eq_true]
        have := HR.out
        rwa [List.take_of_length_le (by have := HL.out; omega)] at this
      subst E
      go_wp2
      go_ret
      exact ⟨rfl, rfl⟩
    | succ g =>
      have hlt : (k : Int) < (n : Int) := by omega
      have hnle : ¬ (n : Int) ≤ (k : Int) := by omega
      have hnl2 : decide (n ≤ k) = false := decide_eq_false (by omega)
      obtain ⟨c, hc⟩ : ∃ c, l[k]? = some c := ⟨l[k]'(by have := HL.out; omega), List.getElem?_eq_getElem _⟩
      have hkl : k < (⟨l.toArray⟩ : ByteArray).size := by omega
      have hub := c.toNat_lt
      obtain ⟨z, hz⟩ : ∃ z : Int, (c.toNat : Int) = z := ⟨_, rfl⟩
      have hi := at_z hc hz hkl
      have hz0 : 0 ≤ z := by omega
      have hz1 : z < 256 := by omega
      have HC := Lib.hid hc
      have HS := Lib.hid (rsign_any c z hz wr)
      clear hc hz hub
      cases hs : LX.sgn c with
      | true =>
        have E : Hid (∀ d ∈ l.take (k + 1), LX.sgn d = true) := by
          show ∀ d ∈ _, _
          have h1 := List.getElem?_eq_some_iff.1 HC.out
          rw [List.take_succ_eq_append_getElem h1.1, h1.2]
          intro d hd
          rcases List.mem_append.1 hd with hd | hd
          · exact HR.out d hd
          · rw [List.mem_singleton.1 hd]; exact hs
        rw [hs] at HS
        clear hs
        go_wp2_with (go_at_call 129; refine HS.out.mono ?_; rintro e w1 ⟨rfl, hw1⟩; replace hw1 := hw1.symm; subst hw1)
        go_roundg g
        case rel => exact ⟨k + 1, by omega, by first | rfl | (simp; done), rfl, E⟩
        case measure => omega
      | false =>
        have E : K = false := by
          rw [HE.out, List.all_eq_false]
          exact ⟨c, List.mem_of_getElem? HC.out, by simp [hs]⟩
        subst E
        rw [hs] at HS
        clear hs
        go_wp2_with (go_at_call 129; refine HS.out.mono ?_; rintro e w1 ⟨rfl, hw1⟩; replace hw1 := hw1.symm; subst hw1)
        go_ret
        exact ⟨rfl, rfl⟩
theorem bl_succ (k : Nat) : DC.bl (k + 1) = DC.bl k ++ [32] := by
  unfold DC.bl
  rw [List.replicate_succ']
end Go.Proofs.YtgfhabofhefaaaaGreatDoor
namespace Go.Proofs.YtgfhabofhefaaaaGreatDoor
open Go.RowKit
theorem byte_hex {x y : Nat} (hx : x < 16) (hy : y < 16) : (16 : Int) * (x : Int) + (y : Int) = ((UInt8.ofNat (16 * x + y)).toNat : Int) := by
  rw [UInt8.toNat_ofNat_of_lt' (by show 16 * x + y < 256; omega)]
  omega
set_option maxRecDepth 10000 in
set_option maxHeartbeats 16000000 in
theorem rmeant_two (t : List UInt8) (w : World) (hl : t.length ≤ 17000) :
    Calls Tryz.prog 94 #[.string ⟨(34 :: t).toArray⟩] w (MeE w (LX.dq t)) := by
  obtain ⟨F, HF⟩ : ∃ F, Hid (F = LX.dq t) := ⟨_, Lib.hid rfl⟩
  rw [← HF.out]
  obtain ⟨l, hl0⟩ : ∃ l, l = 34 :: t := ⟨_, rfl⟩
  have H1 : Hid (l.drop 1 = t) := by show _ = _; rw [hl0]; rfl
  have HLL : Hid (l.length = t.length + 1) := by show _ = _; rw [hl0]; rfl
  have hc0 : l[0]? = some 34 := by rw [hl0]; rfl
  rw [← hl0]
  have hsz := str_size l
  have hp0 : 0 < (⟨l.toArray⟩ : ByteArray).size := by rw [hsz]; have := HLL.out; omega
  have hi0 := at_z hc0 (z := 34) rfl hp0
  obtain ⟨n, hn⟩ : ∃ n, l.length = n := ⟨_, rfl⟩
  have HL := Lib.hid hn
  have hn1 : 1 ≤ n ∧ n ≤ 17001 := by have := HLL.out; omega
  rw [hn] at hsz
  have HCS := Lib.hid (fun (v : Value) (w' : World) (bs : List UInt8) (h : Rdv w' v (bv bs)) => run_string_rd (P := Tryz.prog) 35 5 9 Tryz.underlying35 Tryz.underlying5 Tryz.underlying9 h)
  clear hl0 hn hl hc0
  go_enter Tryz.func94, Tryz.ntmps94
  go_wp2
  go_loopg [4, 6] (n - 1) (fun g s4 s6 wx => ∃ (i : Nat) (acc : List UInt8) (v : Value), i + g = n ∧ 1 ≤ i ∧ acc.length ≤ i ∧ s6 = .int .i64 (i : Int) ∧ v = s4 ∧ Hid (Below w.heap.size w wx) ∧ Hid (Own wx w.heap.size 5 v (bv acc)) ∧ Hid (F = (LX.dq (l.drop i)).map (acc ++ ·)))
  case atStart => exact ⟨1, [], _, by omega, by omega, by simp, rfl, rfl, Below.refl _ _, Own.nil _ _ _, by show _ = _; rw [H1.out, HF.out]; simp⟩
  case round =>
    obtain ⟨i, acc, v, hi, hi1, hac, rfl, rfl, HW, HO, HE⟩ := hrel
    cases gk with
    | zero =>
      obtain rfl : i = n := by omega
      have E := Lib.hid (show F = none by rw [HE.out, List.drop_eq_nil_of_le (by have := HL.out; omega)]; rfl)
      go_wp2
      go_ret2
      exact mee_no E.out rfl HW.out
    | succ g =>
      have hin : (i : Int) < (n : Int) := by omega
      obtain ⟨c, hc⟩ : ∃ c, l[i]? = some c := ⟨l[i]'(by have := HL.out; omega), List.getElem?_eq_getElem _⟩
      have hil : i < (⟨l.toArray⟩ : ByteArray).size := by omega
      have hub := c.toNat_lt
      obtain ⟨z, hz⟩ : ∃ z : Int, (c.toNat : Int) = z := ⟨_, rfl⟩
      have hiz := at_z hc hz hil
      have hz0 : 0 ≤ z := by omega
      have hz1 : z < 256 := by omega
      have HZ := Lib.hid hz
      have HD := Lib.hid (drop_at hc)
      have hcs := HCS.out v wr acc HO.out.rd
      clear hz hub hc
      by_cases h34 : c = 34
      · subst h34
        obtain rfl : z = 34 := HZ.out.symm
        by_cases hend : i + 1 = n
        · have E := Lib.hid (show F = some acc by rw [HE.out, HD.out, show l.drop (i + 1) = [] from List.drop_eq_nil_of_le (by have := HL.out; omega), LX.dq_end]; simp)
          have e2 : ((i : Int) == (n : Int) - 1) = true := beq_iff_eq.2 (by omega)
          have e3 : (n : Int) - 1 = (i : Int) := by omega
          go_wp2
          go_ret2
          exact mee_yes E.out rfl HW.out
        · have E := Lib.hid (show F = none by
            rw [HE.out, HD.out, LX.dq_end, if_neg (by intro e; have := congrArg List.length e; rw [List.length_drop] at this; simp at this; have := HL.out; omega)]; rfl)
          have e2 : ((i : Int) == (n : Int) - 1) = false := beq_eq_false_iff_ne.2 (by omega)
          go_wp2
          go_ret2
          exact mee_no E.out rfl HW.out
      clear hcs
      have q34 : (z == 34) = false := zne HZ.out 34 (by decide) h34
      have q34' : ¬ z = 34 := beq_eq_false_iff_ne.1 q34
      by_cases h92 : c = 92
      · subst h92
        obtain rfl : z = 92 := HZ.out.symm
        by_cases hend : i + 1 = n
        · have E := Lib.hid (show F = none by rw [HE.out, HD.out, show l.drop (i + 1) = [] from List.drop_eq_nil_of_le (by have := HL.out; omega), LX.dq_esc]; rfl)
          have e1 : (n : Int) ≤ (i : Int) + 1 := by omega
          go_wp2
          go_ret2
          exact mee_no E.out rfl HW.out
        · have e1 : ¬ (n : Int) ≤ (i : Int) + 1 := by omega
          have e1' : (i : Int) + 1 < (n : Int) := by omega
          obtain ⟨d, hd⟩ : ∃ d, l[i + 1]? = some d := ⟨l[i + 1]'(by have := HL.out; omega), List.getElem?_eq_getElem _⟩
          have hil1 : i + 1 < (⟨l.toArray⟩ : ByteArray).size := by omega
          obtain ⟨y, hy⟩ : ∃ z : Int, (d.toNat : Int) = z := ⟨_, rfl⟩
          have hiy := at_z hd hy hil1
          have hub := d.toNat_lt
          have hy0 : 0 ≤ y := by omega
          have hy1 : y < 256 := by omega
          have HY := Lib.hid hy
          have HD2 := Lib.hid (drop_at hd)
          clear hd hy hub
          by_cases d92 : d = 92
          · subst d92
            obtain rfl : y = 92 := HY.out.symm
            have E := Lib.hid (show F = (LX.dq (l.drop (i + 2))).map ((acc ++ [92]) ++ ·) by rw [HE.out, HD.out, LX.dq_esc, HD2.out, show LX.esc (92 :: l.drop (i + 1 + 1)) = some (92, 1) by simp [LX.esc]]; simp only; rw [Option.map_map, List.drop_succ_cons, List.drop_zero]; congr 1; funext q; simp)
            go_wp2_with (at_builtin; refine wpList_append_bytes rfl (.tmp 75) (.tmp 79) 35 rfl w.heap.size 5 Tryz.underlying35 Tryz.linfo_u8 (by rfl) (HO.out.alloc _) (by rfl) (one_rd (b := 92) rfl) (by simp; omega) (by have := HW.out.size; rw [bx_size]; omega) ?_; intro v3 w3 ho3 hg3 hb3; have O3 := Lib.hid ho3; have B3 := Lib.hid (HW.out.trans (((Below.refl _ _).alloc HW.out.size _).trans hb3)); clear ho3 hg3 hb3)
            go_roundg (n - (i + 2))
            case rel => exact ⟨i + 2, acc ++ [92], v3, by omega, by omega, by simp; omega, by simp; omega, rfl, B3, O3, E⟩
            case measure => omega
          have p92 : (y == 92) = false := zne HY.out 92 (by decide) d92
          by_cases d34 : d = 34
          · subst d34
            obtain rfl : y = 34 := HY.out.symm
            have E := Lib.hid (show F = (LX.dq (l.drop (i + 2))).map ((acc ++ [34]) ++ ·) by rw [HE.out, HD.out, LX.dq_esc, HD2.out, show LX.esc (34 :: l.drop (i + 1 + 1)) = some (34, 1) by simp [LX.esc]]; simp only; rw [Option.map_map, List.drop_succ_cons, List.drop_zero]; congr 1; funext q; simp)
            go_wp2_with (at_builtin; refine wpList_append_bytes rfl (.tmp 75) (.tmp 79) 35 rfl w.heap.size 5 Tryz.underlying35 Tryz.linfo_u8 (by rfl) (HO.out.alloc _) (by rfl) (one_rd (b := 34) rfl) (by simp; omega) (by have := HW.out.size; rw [bx_size]; omega) ?_; intro v3 w3 ho3 hg3 hb3; have O3 := Lib.hid ho3; have B3 := Lib.hid (HW.out.trans (((Below.refl _ _).alloc HW.out.size _).trans hb3)); clear ho3 hg3 hb3)
            go_roundg (n - (i + 2))
            case rel => exact ⟨i + 2, acc ++ [34], v3, by omega, by omega, by simp; omega, by simp; omega, rfl, B3, O3, E⟩
            case measure => omega
          have p34 : (y == 34) = false := zne HY.out 34 (by decide) d34
          by_cases d110 : d = 110
          · subst d110
            obtain rfl : y = 110 := HY.out.symm
            have E := Lib.hid (show F = (LX.dq (l.drop (i + 2))).map ((acc ++ [10]) ++ ·) by rw [HE.out, HD.out, LX.dq_esc, HD2.out, show LX.esc (110 :: l.drop (i + 1 + 1)) = some (10, 1) by simp [LX.esc]]; simp only; rw [Option.map_map, List.drop_succ_cons, List.drop_zero]; congr 1; funext q; simp)
            go_wp2_with (at_builtin; refine wpList_append_bytes rfl (.tmp 83) (.tmp 84) 35 rfl w.heap.size 5 Tryz.underlying35 Tryz.linfo_u8 (by rfl) (HO.out.alloc _) (by rfl) (one_rd (b := 10) rfl) (by simp; omega) (by have := HW.out.size; rw [bx_size]; omega) ?_; intro v3 w3 ho3 hg3 hb3; have O3 := Lib.hid ho3; have B3 := Lib.hid (HW.out.trans (((Below.refl _ _).alloc HW.out.size _).trans hb3)); clear ho3 hg3 hb3)
            go_roundg (n - (i + 2))
            case rel => exact ⟨i + 2, acc ++ [10], v3, by omega, by omega, by simp; omega, by simp; omega, rfl, B3, O3, E⟩
            case measure => omega
          have p110 : (y == 110) = false := zne HY.out 110 (by decide) d110
          by_cases d116 : d = 116
          · subst d116
            obtain rfl : y = 116 := HY.out.symm
            have E := Lib.hid (show F = (LX.dq (l.drop (i + 2))).map ((acc ++ [9]) ++ ·) by rw [HE.out, HD.out, LX.dq_esc, HD2.out, show LX.esc (116 :: l.drop (i + 1 + 1)) = some (9, 1) by simp [LX.esc]]; simp only; rw [Option.map_map, List.drop_succ_cons, List.drop_zero]; congr 1; funext q; simp)
            go_wp2_with (at_builtin; refine wpList_append_bytes rfl (.tmp 88) (.tmp 89) 35 rfl w.heap.size 5 Tryz.underlying35 Tryz.linfo_u8 (by rfl) (HO.out.alloc _) (by rfl) (one_rd (b := 9) rfl) (by simp; omega) (by have := HW.out.size; rw [bx_size]; omega) ?_; intro v3 w3 ho3 hg3 hb3; have O3 := Lib.hid ho3; have B3 := Lib.hid (HW.out.trans (((Below.refl _ _).alloc HW.out.size _).trans hb3)); clear ho3 hg3 hb3)
            go_roundg (n - (i + 2))
            case rel => exact ⟨i + 2, acc ++ [9], v3, by omega, by omega, by simp; omega, by simp; omega, rfl, B3, O3, E⟩
            case measure => omega
          have p116 : (y == 116) = false := zne HY.out 116 (by decide) d116
          by_cases d120 : d = 120
          · subst d120
            obtain rfl : y = 120 := HY.out.symm
            by_cases hend3 : i + 3 < n
            · have f1 : ¬ (n : Int) ≤ (i : Int) + 1 + 2 := by omega
              have f1b : decide ((n : Int) ≤ (i : Int) + 1 + 2) = false := decide_eq_false f1
              obtain ⟨a, ha⟩ : ∃ d, l[i + 1 + 1]? = some d := ⟨l[i + 1 + 1]'(by have := HL.out; omega), List.getElem?_eq_getElem _⟩
              obtain ⟨b, hb⟩ : ∃ d, l[i + 1 + 2]? = some d := ⟨l[i + 1 + 2]'(by have := HL.out; omega), List.getElem?_eq_getElem _⟩
              have hila : i + 1 + 1 < (⟨l.toArray⟩ : ByteArray).size := by omega
              have hilb : i + 1 + 2 < (⟨l.toArray⟩ : ByteArray).size := by omega
              obtain ⟨za, hza⟩ : ∃ z : Int, (a.toNat : Int) = z := ⟨_, rfl⟩
              obtain ⟨zb, hzb⟩ : ∃ z : Int, (b.toNat : Int) = z := ⟨_, rfl⟩
              have hia := at_z ha hza hila
              have hib := at_z hb hzb hilb
              have ia1 : ((i : Int) + 1 + 1).toNat = i + 1 + 1 := by omega
              have ib1 : ((i : Int) + 1 + 2).toNat = i + 1 + 2 := by omega
              have hua := a.toNat_lt
              have hub := b.toNat_lt
              have a0 : 0 ≤ za := by omega
              have a1 : za < 256 := by omega
              have b0 : 0 ≤ zb := by omega
              have b1 : zb < 256 := by omega
              have HSA := Lib.hid (fun x => rsmall_any a za hza x)
              have HSB := Lib.hid (fun x => rsmall_any b zb hzb x)
              have HDA := Lib.hid (show l.drop (i + 1 + 1) = a :: b :: l.drop (i + 4) by rw [drop_at ha, show i + 1 + 1 + 1 = i + 1 + 2 from rfl, drop_at hb])
              clear ha hb hza hzb hua hub
              cases hxa : LX.hx a with
              | none =>
                have E := Lib.hid (show F = none by rw [HE.out, HD.out, LX.dq_esc, HD2.out, HDA.out, esc_xa hxa]; rfl)
                rw [hxi_none hxa] at HSA
                clear hxa HSB
                go_wp2_with (go_at_call 130; with_reducible refine (HSA.out _).mono ?_; rintro e w2 ⟨rfl, hw2⟩; replace hw2 := hw2.symm; subst hw2)
                go_ret2
                exact mee_no E.out rfl HW.out
              | some x =>
                obtain ⟨hx1, hx2⟩ := hxi_some hxa
                rw [hx1] at HSA
                have x0 : ¬ (x : Int) < 0 := by omega
                cases hxb : LX.hx b with
                | none =>
                  have E := Lib.hid (show F = none by rw [HE.out, HD.out, LX.dq_esc, HD2.out, HDA.out, esc_xb hxb]; rfl)
                  rw [hxi_none hxb] at HSB
                  clear hxa hxb hx1
                  go_wp2_with (first | (go_at_call 130; with_reducible refine (HSA.out _).mono ?_; rintro e w2 ⟨rfl, hw2⟩; replace hw2 := hw2.symm; subst hw2) | (go_at_call 130; with_reducible refine (HSB.out _).mono ?_; rintro e w2 ⟨rfl, hw2⟩; replace hw2 := hw2.symm; subst hw2))
                  go_ret2
                  exact mee_no E.out rfl HW.out
                | some y =>
                  obtain ⟨hy1, hy2⟩ := hxi_some hxb
                  rw [hy1] at HSB
                  have y0 : ¬ (y : Int) < 0 := by omega
                  have E := Lib.hid (show F = (LX.dq (l.drop (i + 4))).map ((acc ++ [UInt8.ofNat (16 * x + y)]) ++ ·) by rw [HE.out, HD.out, LX.dq_esc, HD2.out, HDA.out, esc_xs hxa hxb]; simp only; rw [Option.map_map, List.drop_succ_cons, List.drop_succ_cons, List.drop_succ_cons, List.drop_zero]; congr 1; funext q; simp)
                  have HBY := Lib.hid (byte_hex hx2 hy2)
                  have m1 : 0 ≤ (16 : Int) * (x : Int) + (y : Int) := by omega
                  have m2 : (16 : Int) * (x : Int) + (y : Int) < 256 := by omega
                  have wm1 : IntKind.i64.wrap (16 * (x : Int)) = 16 * (x : Int) := lwrap_small (by omega) (by omega)
                  have wm2 : IntKind.i64.wrap (16 * (x : Int) + (y : Int)) = 16 * (x : Int) + (y : Int) := lwrap_small (by omega) (by omega)
                  have wm3 : IntKind.u8.wrap (16 * (x : Int) + (y : Int)) = 16 * (x : Int) + (y : Int) := lwrap8_small m1 m2
                  have wi1 : IntKind.i64.wrap ((i : Int) + 1 + 1) = (i : Int) + 1 + 1 := lwrap_small (by omega) (by omega)
                  have wi2 : IntKind.i64.wrap ((i : Int) + 1 + 2) = (i : Int) + 1 + 2 := lwrap_small (by omega) (by omega)
                  have gi1 : 0 ≤ (i : Int) + 1 + 1 := by omega
                  have gi2 : (i : Int) + 1 + 1 < (n : Int) := by omega
                  have gi3 : 0 ≤ (i : Int) + 1 + 2 := by omega
                  have gi4 : (i : Int) + 1 + 2 < (n : Int) := by omega
                  clear hxa hxb hx1 hy1
                  go_wp2_with (first | (go_at_call 130; with_reducible refine (HSA.out _).mono ?_; rintro e w2 ⟨rfl, hw2⟩; replace hw2 := hw2.symm; subst hw2) | (go_at_call 130; with_reducible refine (HSB.out _).mono ?_; rintro e w2 ⟨rfl, hw2⟩; replace hw2 := hw2.symm; subst hw2))
                  refine wp_region_any (by kernel_rfl) ?_
                  change wpAny _ _ _ _ _ _ _ (World.drew _)
                  refine wpAny_take (i := 0) (v := ?v0y1) rfl (by kernel_rfl) (by kernel_rfl) (by kernel_rfl) (fun _ _ _ h => h) (Or.inl ⟨by rfl, ?h0y1⟩) ?r0y1
                  case h0y1 => intro w; go_simp; with_reducible rfl
                  (try simp only [List.getElem_toArray, List.getElem_cons_zero, Act.put, List.setIfInBounds_toArray, List.set_cons_zero, List.set_cons_succ])
                  refine wpAny_take (i := 1) (v := ?v1y2) rfl (by kernel_rfl) (by kernel_rfl) (by kernel_rfl) (fun _ _ _ h => h) (Or.inl ⟨by rfl, ?h1y2⟩) ?r1y2
                  case h1y2 => intro w; go_simp; with_reducible rfl
                  (try simp only [List.getElem_toArray, List.getElem_cons_zero, List.getElem_cons_succ, Act.put, List.setIfInBounds_toArray, List.set_cons_zero, List.set_cons_succ])
                  refine wpAny_take (i := 2) (v := ?v2y3) rfl (by kernel_rfl) (by kernel_rfl) (by kernel_rfl) (fun _ _ _ h => h) (Or.inl ⟨by rfl, ?h2y3⟩) ?r2y3
                  case h2y3 => intro w; go_simp; with_reducible rfl
                  (try simp only [List.getElem_toArray, List.getElem_cons_zero, List.getElem_cons_succ, Act.put, List.setIfInBounds_toArray, List.set_cons_zero, List.set_cons_succ])
                  refine wpAny_take (i := 3) (v := ?v3y4) rfl (by kernel_rfl) (by kernel_rfl) (by kernel_rfl) (fun _ _ _ h => h) (Or.inl ⟨by rfl, ?h3y4⟩) ?r3y4
                  case h3y4 => intro w; go_simp; with_reducible rfl
                  (try simp only [List.getElem_toArray, List.getElem_cons_zero, List.getElem_cons_succ, Act.put, List.setIfInBounds_toArray, List.set_cons_zero, List.set_cons_succ])
                  refine wpAny_take (i := 4) (v := ?v4y5) rfl (by kernel_rfl) (by kernel_rfl) (by kernel_rfl) (fun _ _ _ h => h) (Or.inl ⟨by rfl, ?h4y5⟩) ?r4y5
                  case h4y5 => intro w; go_simp; with_reducible rfl
                  (try simp only [List.getElem_toArray, List.getElem_cons_zero, List.getElem_cons_succ, Act.put, List.setIfInBounds_toArray, List.set_cons_zero, List.set_cons_succ])
                  refine wpAny_take (i := 7) (v := ?v7y6) rfl (by kernel_rfl) (by kernel_rfl) (by kernel_rfl) (fun _ _ _ h => h) (Or.inl ⟨by rfl, ?h7y6⟩) ?r7y6
                  case h7y6 => intro w; go_simp; with_reducible rfl
                  (try simp only [List.getElem_toArray, List.getElem_cons_zero, List.getElem_cons_succ, Act.put, List.setIfInBounds_toArray, List.set_cons_zero, List.set_cons_succ])
                  refine wpAny_take (i := 8) (v := ?v8y7) rfl (by kernel_rfl) (by kernel_rfl) (by kernel_rfl) (fun _ _ _ h => h) (Or.inl ⟨by rfl, ?h8y7⟩) ?r8y7
                  case h8y7 => intro w; go_simp; with_reducible rfl
                  (try simp only [List.getElem_toArray, List.getElem_cons_zero, List.getElem_cons_succ, Act.put, List.setIfInBounds_toArray, List.set_cons_zero, List.set_cons_succ])
                  refine wpAny_take (i := 9) (v := ?v9y8) rfl (by kernel_rfl) (by kernel_rfl) (by kernel_rfl) (fun _ _ _ h => h) (Or.inl ⟨by rfl, ?h9y8⟩) ?r9y8
                  case h9y8 => intro w; go_simp; with_reducible rfl
                  (try simp only [List.getElem_toArray, List.getElem_cons_zero, List.getElem_cons_succ, Act.put, List.setIfInBounds_toArray, List.set_cons_zero, List.set_cons_succ])
                  refine wpAny_take (i := 10) (v := ?v10y9) rfl (by kernel_rfl) (by kernel_rfl) (by kernel_rfl) (fun _ _ _ h => h) (Or.inl ⟨by rfl, ?h10y9⟩) ?r10y9
                  case h10y9 => intro w; go_simp; with_reducible rfl
                  (try simp only [List.getElem_toArray, List.getElem_cons_zero, List.getElem_cons_succ, Act.put, List.setIfInBounds_toArray, List.set_cons_zero, List.set_cons_succ])
                  refine wpAny_ready (rs := [5]) (by kernel_rfl) (by simp) ?_
                  refine AllReady.cons rfl (fun K hK => ?_) AllReady.nil
                  go_simp
                  go_at_call 130
                  refine (HSA.out _).mono ?_
                  rintro e w4 ⟨rfl, hw4⟩
                  replace hw4 := hw4.symm
                  subst hw4
                  refine hK _ _ ?_
                  clear hK K
                  (try simp only [List.getElem_toArray, List.getElem_cons_zero, List.getElem_cons_succ, Act.put, List.setIfInBounds_toArray, List.set_cons_zero, List.set_cons_succ])
                  refine wpAny_take (i := 6) (v := ?v6y10) rfl (by kernel_rfl) (by kernel_rfl) (by kernel_rfl) (fun _ _ _ h => h) (Or.inl ⟨by rfl, ?h6y10⟩) ?r6y10
                  case h6y10 => intro w; go_simp; with_reducible rfl
                  (try simp only [List.getElem_toArray, List.getElem_cons_zero, List.getElem_cons_succ, Act.put, List.setIfInBounds_toArray, List.set_cons_zero, List.set_cons_succ])
                  refine wpAny_ready (rs := [11]) (by kernel_rfl) (by simp) ?_
                  refine AllReady.cons rfl (fun K hK => ?_) AllReady.nil
                  go_simp
                  go_at_call 130
                  refine (HSB.out _).mono ?_
                  rintro e w4 ⟨rfl, hw4⟩
                  replace hw4 := hw4.symm
                  subst hw4
                  refine hK _ _ ?_
                  clear hK K
                  (try simp only [List.getElem_toArray, List.getElem_cons_zero, List.getElem_cons_succ, Act.put, List.setIfInBounds_toArray, List.set_cons_zero, List.set_cons_succ])
                  refine wpAny_take (i := 12) (v := ?v12y11) rfl (by kernel_rfl) (by kernel_rfl) (by kernel_rfl) (fun _ _ _ h => h) (Or.inl ⟨by rfl, ?h12y11⟩) ?r12y11
                  case h12y11 => intro w; go_simp; with_reducible rfl
                  (try simp only [List.getElem_toArray, List.getElem_cons_zero, List.getElem_cons_succ, Act.put, List.setIfInBounds_toArray, List.set_cons_zero, List.set_cons_succ])
                  refine wpAny_take (i := 13) (v := ?v13y12) rfl (by kernel_rfl) (by kernel_rfl) (by kernel_rfl) (fun _ _ _ h => h) (Or.inl ⟨by rfl, ?h13y12⟩) ?r13y12
                  case h13y12 => intro w; go_simp; with_reducible rfl
                  (try simp only [List.getElem_toArray, List.getElem_cons_zero, List.getElem_cons_succ, Act.put, List.setIfInBounds_toArray, List.set_cons_zero, List.set_cons_succ])
                  refine wpAny_ready (rs := [14]) (by kernel_rfl) (by simp) ?_
                  refine AllReady.cons rfl (fun K hK => ?_) AllReady.nil
                  go_simp
                  refine hK _ _ ?_
                  clear hK K
                  (try simp only [List.getElem_toArray, List.getElem_cons_zero, List.getElem_cons_succ, Act.put, List.setIfInBounds_toArray, List.set_cons_zero, List.set_cons_succ])
                  refine wpAny_ready (rs := [15]) (by kernel_rfl) (by simp) ?_
                  refine AllReady.cons rfl (fun K hK => ?_) AllReady.nil
                  refine step_append_bytes (news := [UInt8.ofNat (16 * x + y)]) (by rfl) (.tmp 114) (.tmp 128) 35 (by rfl) w.heap.size 5 Tryz.underlying35 Tryz.linfo_u8 (by rfl) ((HO.out.below (below_drew _)).alloc _) (by rfl) (one_rd HBY.out) (by simp) (by simp; omega) (by have := HW.out.size; simp; omega) ?_
                  intro g6 cap3 w6 ho6 hb6
                  have O6 := Lib.hid ho6
                  have B6 := Lib.hid (HW.out.trans ((((Below.refl _ _).alloc HW.out.size _).drew).trans hb6))
                  clear ho6 hb6
                  refine hK _ _ ?_
                  clear hK K
                  (try simp only [List.getElem_toArray, List.getElem_cons_zero, List.getElem_cons_succ, Act.put, List.setIfInBounds_toArray, List.set_cons_zero, List.set_cons_succ])
                  refine wpAny_take (i := 16) (v := ?v16y13) rfl (by kernel_rfl) (by kernel_rfl) (by kernel_rfl) (fun _ _ _ h => h) (Or.inl ⟨by rfl, ?h16y13⟩) ?r16y13
                  case h16y13 => intro w; go_simp; with_reducible rfl
                  (try simp only [List.getElem_toArray, List.getElem_cons_zero, List.getElem_cons_succ, Act.put, List.setIfInBounds_toArray, List.set_cons_zero, List.set_cons_succ])
                  refine wpAny_done (by kernel_rfl) ?_ _
                  go_wp2
                  go_roundg (n - (i + 4))
                  case rel => exact ⟨i + 4, acc ++ [UInt8.ofNat (16 * x + y)], _, by omega, by omega, by simp; omega, by simp; omega, rfl, B6, O6, E⟩
                  case measure => omega
            · have f1 : (n : Int) ≤ (i : Int) + 1 + 2 := by omega
              have E := Lib.hid (show F = none by
                rw [HE.out, HD.out, LX.dq_esc, HD2.out]
                have hlen : (l.drop (i + 1 + 1)).length ≤ 1 := by rw [List.length_drop]; have := HL.out; omega
                match l.drop (i + 1 + 1), hlen with
                | [], _ => rfl
                | [_], _ => rfl
                | _ :: _ :: _, h => simp at h)
              go_wp2
              go_ret2
              exact mee_no E.out rfl HW.out
          · have p120 : (y == 120) = false := zne HY.out 120 (by decide) d120
            have E := Lib.hid (show F = none by rw [HE.out, HD.out, LX.dq_esc, HD2.out, esc_no d92 d34 d110 d116 d120]; rfl)
            go_wp2
            go_ret2
            exact mee_no E.out rfl HW.out
      · have q92 : (z == 92) = false := zne HZ.out 92 (by decide) h92
        have q92' : ¬ z = 92 := beq_eq_false_iff_ne.1 q92
        have q92b : (z != 92) = true := by simp [bne, q92]
        have E := Lib.hid (show F = (LX.dq (l.drop (i + 1))).map ((acc ++ [c]) ++ ·) by rw [HE.out, HD.out, LX.dq_pass h34 h92, Option.map_map]; congr 1; funext q; simp)
        go_wp2_with (at_builtin; refine wpList_append_bytes rfl (.tmp 57) (.tmp 61) 35 rfl w.heap.size 5 Tryz.underlying35 Tryz.linfo_u8 (by rfl) (HO.out.alloc _) (by rfl) (one_rd (b := c) HZ.out.symm) (by simp; omega) (by have := HW.out.size; rw [bx_size]; omega) ?_; intro v3 w3 ho3 hg3 hb3; have O3 := Lib.hid ho3; have B3 := Lib.hid (HW.out.trans (((Below.refl _ _).alloc HW.out.size _).trans hb3)); clear ho3 hg3 hb3)
        go_roundg g
        case rel => exact ⟨i + 1, acc ++ [c], v3, by omega, by omega, by simp; omega, rfl, rfl, B3, O3, E⟩
        case measure => omega
end Go.Proofs.YtgfhabofhefaaaaGreatDoor
