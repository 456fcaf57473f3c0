/- Several texts in one. -/
import Derived.Test.YtmgalfdiiegjjaaGreatDoorSeg05
import Derived.Test.YtmgalfdiiegjjaaGreatDoorSeg00
import Derived.Deep.AppendLies
import Derived.Deep.RegionHeld3
import Derived.Lib.Replace
namespace Go.Proofs.YtmgalfdiiegjjaaGreatDoor
open Go.RowKit

theorem kend_nil : LX.kend [] = false := rfl
theorem kend_ne {c : UInt8} {t : List UInt8} (h : c ≠ 58) : LX.kend (c :: t) = false := by
  cases t <;> simp [LX.kend, h]
theorem kend_one : LX.kend [58] = true := rfl
theorem kend_two {d : UInt8} {t : List UInt8} : LX.kend (58 :: d :: t) = (d == 32) := by simp [LX.kend]
set_option maxHeartbeats 8000000 in
theorem rkeyed_any (l : List UInt8) (w : World) (hl : l.length ≤ 100000) :
    Calls Tryz.prog 98 #[.string ⟨l.toArray⟩] w fun e w' => e = .returned (.int .i64 (LX.key l : Int)) ∧ w' = w := by
  have hsz := str_size l
  obtain ⟨n, hn⟩ : ∃ n, l.length = n := ⟨_, rfl⟩
  have HL := Lib.hid hn
  rw [hn] at hsz hl
  clear hn
  obtain ⟨K, HK⟩ : ∃ K, Hid (K = LX.key l) := ⟨_, Lib.hid rfl⟩
  rw [← HK.out]
  go_enter Tryz.func98, Tryz.ntmps98
  go_wp2
  go_loopg [3] n (fun g s3 wx => ∃ k : Nat, k + g = n ∧ s3 = .int .i64 (k : Int) ∧ wx = w ∧ Hid (k ≤ LX.run l))
  case atStart => exact ⟨0, by omega, rfl, rfl, Nat.zero_le _⟩
  case round =>
    obtain ⟨k, hk, rfl, rfl, HR⟩ := hrel
    cases gk with
    | zero =>
      obtain rfl : k = n := by omega
      have hrun := Lib.hid (LX.runp_stop HR.out (fun c hc => by rw [List.getElem?_eq_none (by have := HL.out; omega)] at hc; cases hc))
      have E := Lib.hid (HK.out.trans (key_no hrun.out (by rw [List.drop_eq_nil_of_le (by have := HL.out; omega)]; rfl)))
      by_cases hk0 : k = 0
      · subst hk0
        go_wp2
        go_ret
        exact ret_0 E.out rfl
      · have hk1 : ((k : Int) == 0) = false := beq_eq_false_iff_ne.2 (by omega)
        have hk2 : ¬ (k : Int) = 0 := by omega
        go_wp2
        go_ret
        exact ret_0 E.out rfl
    | succ g =>
      have hlt : (k : Int) < (n : Int) := by omega
      have hnle : ¬ (n : Int) ≤ (k : Int) := by omega
      have hnl2 : decide (n ≤ k) = false := decide_eq_false (by omega)
      obtain ⟨c, hc⟩ : ∃ c, l[k]? = some c := ⟨l[k]'(by have := HL.out; omega), List.getElem?_eq_getElem _⟩
      have hkl : k < (⟨l.toArray⟩ : ByteArray).size := by omega
      have hub := c.toNat_lt
      obtain ⟨z, hz⟩ : ∃ z : Int, (c.toNat : Int) = z := ⟨_, rfl⟩
      have hi := at_z hc hz hkl
      have hz0 : 0 ≤ z := by omega
      have hz1 : z < 256 := by omega
      have HC := Lib.hid hc
      have HZ := Lib.hid hz
      have HS := Lib.hid (rsign_any c z hz wr)
      clear hc hz hub
      cases hs : LX.sgn c with
      | true =>
        have E := Lib.hid (LX.runp_more HR.out HC.out hs)
        rw [hs] at HS
        clear hs
        go_wp2_with (go_at_call 133; refine HS.out.mono ?_; rintro e w1 ⟨rfl, hw1⟩; replace hw1 := hw1.symm; subst hw1)
        go_roundg g
        case rel => exact ⟨k + 1, by omega, rfl, rfl, E⟩
        case measure => omega
      | false =>
        have hrun := Lib.hid (LX.runp_stop HR.out (fun d hd => by rw [HC.out] at hd; obtain rfl := Option.some.inj hd; exact hs))
        rw [hs] at HS
        clear hs
        by_cases hk0 : k = 0
        · subst hk0
          have E := Lib.hid (show K = 0 by
            rw [HK.out]
            cases hh : LX.kend (l.drop 0) with
            | true => exact key_yes hrun.out hh
            | false => exact key_no hrun.out hh)
          go_wp2_with (go_at_call 133; refine HS.out.mono ?_; rintro e w1 ⟨rfl, hw1⟩; replace hw1 := hw1.symm; subst hw1)
          go_ret
          exact ret_0 E.out rfl
        · have hk1 : ((k : Int) == 0) = false := beq_eq_false_iff_ne.2 (by omega)
          have hk2 : ¬ (k : Int) = 0 := by omega
          have HD := Lib.hid (drop_at HC.out)
          by_cases h58 : c = 58
          · subst h58
            obtain rfl : z = 58 := HZ.out.symm
            by_cases hend : k + 1 = n
            · have E := Lib.hid (HK.out.trans (key_yes hrun.out (by rw [HD.out, List.drop_eq_nil_of_le (by have := HL.out; omega)]; rfl)))
              have e1 : ¬ (k : Int) + 1 < (n : Int) := by omega
              go_wp2_with (go_at_call 133; refine HS.out.mono ?_; rintro e w1 ⟨rfl, hw1⟩; replace hw1 := hw1.symm; subst hw1)
              go_ret
              exact ret_n E.out.symm rfl
            · have e1 : (k : Int) + 1 < (n : Int) := by omega
              obtain ⟨d, hd⟩ : ∃ d, l[k + 1]? = some d := ⟨l[k + 1]'(by have := HL.out; omega), List.getElem?_eq_getElem _⟩
              have hkl1 : k + 1 < (⟨l.toArray⟩ : ByteArray).size := by omega
              obtain ⟨y, hy⟩ : ∃ z : Int, (d.toNat : Int) = z := ⟨_, rfl⟩
              have hi1 := at_z hd hy hkl1
              have hub := d.toNat_lt
              have hy0 : 0 ≤ y := by omega
              have hy1 : y < 256 := by omega
              have HD2 := Lib.hid (drop_at hd)
              have HY := Lib.hid hy
              clear hy hub hd
              by_cases h32 : d = 32
              · subst h32
                obtain rfl : y = 32 := HY.out.symm
                have E := Lib.hid (HK.out.trans (key_yes hrun.out (by rw [HD.out, HD2.out, kend_two]; rfl)))
                go_wp2_with (go_at_call 133; refine HS.out.mono ?_; rintro e w1 ⟨rfl, hw1⟩; replace hw1 := hw1.symm; subst hw1)
                go_ret
                exact ret_n E.out.symm rfl
              · have q : (y == 32) = false := zne HY.out 32 (by decide) h32
                have q2 : ¬ y = 32 := beq_eq_false_iff_ne.1 q
                have q3 : (y != 32) = true := by simp [bne, q]
                have E := Lib.hid (HK.out.trans (key_no hrun.out (by rw [HD.out, HD2.out, kend_two]; simpa using h32)))
                go_wp2_with (go_at_call 133; refine HS.out.mono ?_; rintro e w1 ⟨rfl, hw1⟩; replace hw1 := hw1.symm; subst hw1)
                go_ret
                exact ret_0 E.out rfl
          · have q : (z == 58) = false := zne HZ.out 58 (by decide) h58
            have q2 : ¬ z = 58 := beq_eq_false_iff_ne.1 q
            have q3 : (z != 58) = true := by simp [bne, q]
            have E := Lib.hid (HK.out.trans (key_no hrun.out (by rw [HD.out]; exact kend_ne h58)))
            go_wp2_with (go_at_call 133; refine HS.out.mono ?_; rintro e w1 ⟨rfl, hw1⟩; replace hw1 := hw1.symm; subst hw1)
            go_ret
            exact ret_0 E.out rfl

theorem bars_len : LX.bars.length = 14 := rfl
set_option maxHeartbeats 2000000 in
theorem rodd_any (c : UInt8) (z : Int) (hz : (c.toNat : Int) = z) (w : World) :
    Calls Tryz.prog 100 #[.int .u8 z] w fun e w' => e = .returned (.bool (LX.odd c)) ∧ w' = w := by
  have hub := c.toNat_lt
  have hz0 : 0 ≤ z := by omega
  have hz1 : z < 256 := by omega
  have HZ := Lib.hid hz
  have hsz := str_size [91, 93, 123, 125, 38, 42, 33, 124, 62, 37, 64, 44, 63, 96]
  obtain ⟨K, HK⟩ : ∃ K, Hid (LX.odd c = K) := ⟨_, Lib.hid rfl⟩
  rw [HK.out]
  clear hz hub
  go_enter Tryz.func100, Tryz.ntmps100
  go_wp2
  go_loopg [3] 14 (fun g s3 wx => ∃ k : Nat, k + g = 14 ∧ s3 = .int .i64 (k : Int) ∧ wx = w ∧ Hid (c ∉ LX.bars.take k))
  case atStart => exact ⟨0, by omega, rfl, rfl, by show ¬ _; simp⟩
  case round =>
    obtain ⟨k, hk, rfl, rfl, HR⟩ := hrel
    cases gk with
    | zero =>
      obtain rfl : k = 14 := by omega
      have E := Lib.hid (show K = false by
        rw [← HK.out]
        have := HR.out
        rw [List.take_of_length_le (by rw [bars_len]; exact Nat.le_refl _)] at this
        unfold LX.odd
        simpa using this)
      go_wp2
      go_ret
      exact ret_b E.out.symm rfl
    | succ g =>
      have hlt : (k : Int) < 14 := by omega
      obtain ⟨d, hd⟩ : ∃ d, LX.bars[k]? = some d := ⟨LX.bars[k]'(by rw [bars_len]; omega), List.getElem?_eq_getElem _⟩
      have hkl : k < (⟨[91, 93, 123, 125, 38, 42, 33, 124, 62, 37, 64, 44, 63, 96].toArray⟩ : ByteArray).size := by rw [hsz]; show k < 14; omega
      obtain ⟨y, hy⟩ : ∃ z : Int, (d.toNat : Int) = z := ⟨_, rfl⟩
      have hi := at_z (l := [91, 93, 123, 125, 38, 42, 33, 124, 62, 37, 64, 44, 63, 96]) hd hy hkl
      have hub := d.toNat_lt
      have hy0 : 0 ≤ y := by omega
      have hy1 : y < 256 := by omega
      have HY := Lib.hid hy
      have HD := Lib.hid hd
      clear hd hy hub
      by_cases h : d = c
      · subst h
        obtain rfl : y = z := HY.out.symm.trans HZ.out
        have E := Lib.hid (show K = true by
          rw [← HK.out]
          unfold LX.odd
          have := List.mem_of_getElem? HD.out
          simpa using this)
        go_wp2
        go_ret
        exact ret_b E.out.symm rfl
      · have q : (y == z) = false := beq_eq_false_iff_ne.2 fun e => h (by have h1 := HY.out; have h2 := HZ.out; exact UInt8.toNat_inj.1 (by omega))
        have q2 : ¬ y = z := beq_eq_false_iff_ne.1 q
        have E : Hid (c ∉ LX.bars.take (k + 1)) := by
          show ¬ _
          have hlt' := (List.getElem?_eq_some_iff.1 HD.out)
          rw [List.take_succ_eq_append_getElem hlt'.1, hlt'.2, List.mem_append]
          rintro (h1 | h1)
          · exact HR.out h1
          · exact h (List.mem_singleton.1 h1).symm
        go_wp2
        go_roundg g
        case rel => exact ⟨k + 1, by omega, rfl, rfl, E⟩
        case measure => omega
end Go.Proofs.YtmgalfdiiegjjaaGreatDoor

/- Append of bytes at a step of a region that draws. No program is named here. -/
namespace Go.Proofs.YtmgalfdiiegjjaaGreatDoor
open Go.RowKit

/-- 'append(s, x...)' of bytes, at a step of a region that draws. -/
theorem step_append_bytes {P : Program} {w : World} {ops : Array Oper} {o : Oper} {a : Act} {K : Act → World → Prop} {Q : Exit → Act → World → Prop} {E : Prop} (hgd : o.guard = none) (s x : Operand) (t : TypeId)
    (ho : o.op = .call { callee := .builtin .append, args := #[s, x], argTypes := #[t, t] })
    (base : Nat) (e : TypeId) (ht : P.underlying t = some (.slice e)) (hinfo : (P.info? e).map (fun i => (i.zero, i.size, i.bytes)) = some (some (.int .u8 0), 1, 1))
    {v vx : Value} {xs news : List UInt8} (hs : a.eval s = v) (hown : Own w base e v (bv xs)) (hx : a.eval x = vx) (hrd : Rdv w vx (bv news)) (hne : 0 < news.length)
    (hlen : xs.length + news.length ≤ 140737488355328) (hbase : base ≤ w.heap.size)
    (h : ∀ g cap w', Own w' base e (.slice (some ⟨g, 0, none⟩) (xs.length + news.length) cap) (bv (xs ++ news)) → Below base w w' → K (a.put o.dst (.slice (some ⟨g, 0, none⟩) (xs.length + news.length) cap)) w') :
    if Region.wanted o (yielded ops a.tmps) = true then Oper.wp P o a w K Q else E := by
  obtain ⟨i, hi, hz0, hz1, hz2⟩ := info_parts hinfo
  obtain ⟨b, off, cap, rfl, _, hc⟩ := hrd.at hne
  refine step_append_lies _ hgd s x t ho base e i (.int .u8 0) 1 1 ht hi hz0 hz1 hz2 rfl (by decide) v (bv xs).length (bv xs) hs hown ⟨b, off, none⟩ news.length cap (bv news) hx (by simp [bv_len]) ?_ bv_one hne (by rw [bv_len]; unfold maxLen; omega) (by rw [bv_len]; omega) hbase _ rfl ?_
  · intro j u hu
    have hj : j < news.length := by
      have := (List.getElem?_eq_some_iff.1 hu).1
      rwa [bv_len] at this
    rw [bv_get hj] at hu
    rw [Addr.add_lit, hc j hj, ← hu]
  · intro g cap' w' ho' hg _ _
    rw [bv_len] at ho' ⊢
    refine h g cap' w' ?_ (below_of_grown hown hg hbase)
    show w'.ownsRow base e 1 _ (bv (xs ++ news)).length (bv (xs ++ news))
    rw [bv_len, bv_app, List.length_append]; exact ho'
end Go.Proofs.YtmgalfdiiegjjaaGreatDoor

/- Walks of the document's own meant. -/
namespace Go.Proofs.YtmgalfdiiegjjaaGreatDoor
open Go.RowKit

theorem Tryz.linfo_u8 : (Tryz.prog.info? 5).map (fun i => (i.zero, i.size, i.bytes)) = some (some (.int .u8 0), 1, 1) := by kernel_rfl
theorem lwrap_small {z : Int} (h0 : 0 ≤ z) (h1 : z ≤ 100000) : IntKind.i64.wrap z = z := by
  unfold IntKind.wrap
  simp [IntKind.signed, IntKind.bits]
  omega
theorem lwrap8_small {z : Int} (h0 : 0 ≤ z) (h1 : z < 256) : IntKind.u8.wrap z = z := by
  unfold IntKind.wrap
  simp [IntKind.signed, IntKind.bits]
  omega
/-- What meant answers, at its end. -/
def MeE (w : World) (F : Option (List UInt8)) (e : Ending) (w' : World) : Prop :=
  (∃ x b, e = .returned (.tuple #[.string ⟨x.toArray⟩, .bool b]) ∧ ((F = some x ∧ b = true) ∨ (F = none ∧ b = false))) ∧ Below w.heap.size w w'
theorem mee_yes {w w' : World} {F : Option (List UInt8)} {x : List UInt8} {b : Bool} (h : F = some x) (hb2 : b = true) (hb : Below w.heap.size w w') : MeE w F (.returned (.tuple #[.string ⟨x.toArray⟩, .bool b])) w' := ⟨⟨x, b, rfl, .inl ⟨h, hb2⟩⟩, hb⟩
theorem mee_no {w w' : World} {F : Option (List UInt8)} {x : List UInt8} {b : Bool} (h : F = none) (hb2 : b = false) (hb : Below w.heap.size w w') : MeE w F (.returned (.tuple #[.string ⟨x.toArray⟩, .bool b])) w' := ⟨⟨x, b, rfl, .inr ⟨h, hb2⟩⟩, hb⟩

set_option maxRecDepth 10000 in
set_option maxHeartbeats 8000000 in
theorem rmeant_one (t : List UInt8) (w : World) (hl : t.length ≤ 17000) :
    Calls Tryz.prog 99 #[.string ⟨(39 :: t).toArray⟩] w (MeE w (LX.sq t)) := by
  obtain ⟨F, HF⟩ : ∃ F, Hid (F = LX.sq t) := ⟨_, Lib.hid rfl⟩
  rw [← HF.out]
  obtain ⟨l, hl0⟩ : ∃ l, l = 39 :: t := ⟨_, rfl⟩
  have H1 : Hid (l.drop 1 = t) := by show _ = _; rw [hl0]; rfl
  have HLL : Hid (l.length = t.length + 1) := by show _ = _; rw [hl0]; rfl
  have hc0 : l[0]? = some 39 := by rw [hl0]; rfl
  rw [← hl0]
  have hsz := str_size l
  have hp0 : 0 < (⟨l.toArray⟩ : ByteArray).size := by rw [hsz]; have := HLL.out; omega
  have hi0 := at_z hc0 (z := 39) rfl hp0
  obtain ⟨n, hn⟩ : ∃ n, l.length = n := ⟨_, rfl⟩
  have HL := Lib.hid hn
  have hn1 : 1 ≤ n ∧ n ≤ 17001 := by have := HLL.out; omega
  rw [hn] at hsz
  have HCS := Lib.hid (fun (v : Value) (w' : World) (bs : List UInt8) (h : Rdv w' v (bv bs)) => run_string_rd (P := Tryz.prog) 35 5 9 Tryz.underlying35 Tryz.underlying5 Tryz.underlying9 h)
  clear hl0 hn hl hc0
  go_enter Tryz.func99, Tryz.ntmps99
  go_wp2
  go_loopg [4, 6] (n - 1) (fun g s4 s6 wx => ∃ (i : Nat) (acc : List UInt8) (v : Value), i + g = n ∧ 1 ≤ i ∧ acc.length ≤ i ∧ s6 = .int .i64 (i : Int) ∧ v = s4 ∧ Hid (Below w.heap.size w wx) ∧ Hid (Own wx w.heap.size 5 v (bv acc)) ∧ Hid (F = (LX.sq (l.drop i)).map (acc ++ ·)))
  case atStart => exact ⟨1, [], _, by omega, by omega, by simp, rfl, rfl, Below.refl _ _, Own.nil _ _ _, by show _ = _; rw [H1.out, HF.out]; simp⟩
  case round =>
    obtain ⟨i, acc, v, hi, hi1, hac, rfl, rfl, HW, HO, HE⟩ := hrel
    cases gk with
    | zero =>
      obtain rfl : i = n := by omega
      have E := Lib.hid (show F = none by rw [HE.out, List.drop_eq_nil_of_le (by have := HL.out; omega)]; rfl)
      go_wp2
      go_ret2
      exact mee_no E.out rfl HW.out
    | succ g =>
      have hin : (i : Int) < (n : Int) := by omega
      obtain ⟨c, hc⟩ : ∃ c, l[i]? = some c := ⟨l[i]'(by have := HL.out; omega), List.getElem?_eq_getElem _⟩
      have hil : i < (⟨l.toArray⟩ : ByteArray).size := by omega
      have hub := c.toNat_lt
      obtain ⟨z, hz⟩ : ∃ z : Int, (c.toNat : Int) = z := ⟨_, rfl⟩
      have hiz := at_z hc hz hil
      have hz0 : 0 ≤ z := by omega
      have hz1 : z < 256 := by omega
      have HZ := Lib.hid hz
      have HD := Lib.hid (drop_at hc)
      have hcs := HCS.out v wr acc HO.out.rd
      clear hz hub hc
      by_cases h39 : c = 39
      · subst h39
        obtain rfl : z = 39 := HZ.out.symm
        by_cases hend : i + 1 = n
        · have E := Lib.hid (show F = some acc by rw [HE.out, HD.out, show l.drop (i + 1) = [] from List.drop_eq_nil_of_le (by have := HL.out; omega), LX.sq_end]; simp)
          have e1 : ¬ (i : Int) + 1 < (n : Int) := by omega
          have e2 : ((i : Int) == (n : Int) - 1) = true := beq_iff_eq.2 (by omega)
          have e3 : (n : Int) - 1 = (i : Int) := by omega
          go_wp2
          go_ret2
          exact mee_yes E.out rfl HW.out
        · have e1 : (i : Int) + 1 < (n : Int) := by omega
          obtain ⟨d, hd⟩ : ∃ d, l[i + 1]? = some d := ⟨l[i + 1]'(by have := HL.out; omega), List.getElem?_eq_getElem _⟩
          have hil1 : i + 1 < (⟨l.toArray⟩ : ByteArray).size := by omega
          obtain ⟨y, hy⟩ : ∃ z : Int, (d.toNat : Int) = z := ⟨_, rfl⟩
          have hiy := at_z hd hy hil1
          have hub := d.toNat_lt
          have hy0 : 0 ≤ y := by omega
          have hy1 : y < 256 := by omega
          have HY := Lib.hid hy
          have HD2 := Lib.hid (drop_at hd)
          clear hd hy hub
          by_cases hd39 : d = 39
          · subst hd39
            obtain rfl : y = 39 := HY.out.symm
            have E := Lib.hid (show F = (LX.sq (l.drop (i + 2))).map ((acc ++ [39]) ++ ·) by rw [HE.out, HD.out, HD2.out, LX.sq_two, Option.map_map]; congr 1; funext q; simp)
            clear hcs
            go_wp2_with (at_builtin; refine wpList_append_bytes rfl (.tmp 36) (.tmp 38) 35 rfl w.heap.size 5 Tryz.underlying35 Tryz.linfo_u8 (by rfl) (HO.out.alloc _) (by rfl) (one_rd (b := 39) rfl) (by simp; omega) (by have := HW.out.size; rw [bx_size]; omega) ?_; intro v3 w3 ho3 hg3 hb3; have O3 := Lib.hid ho3; have B3 := Lib.hid (HW.out.trans (((Below.refl _ _).alloc HW.out.size _).trans hb3)); clear ho3 hg3 hb3)
            go_roundg (n - (i + 2))
            case rel => exact ⟨i + 2, acc ++ [39], v3, by omega, by omega, by simp; omega, by simp; omega, rfl, B3, O3, E⟩
            case measure => omega
          · have q : (y == 39) = false := zne HY.out 39 (by decide) hd39
            have q2 : ¬ y = 39 := beq_eq_false_iff_ne.1 q
            have E := Lib.hid (show F = none by rw [HE.out, HD.out, HD2.out, LX.sq_bad hd39]; rfl)
            have e2 : ((i : Int) == (n : Int) - 1) = false := beq_eq_false_iff_ne.2 (by omega)
            go_wp2
            go_ret2
            exact mee_no E.out rfl HW.out
      · have q : (z == 39) = false := zne HZ.out 39 (by decide) h39
        have q2 : ¬ z = 39 := beq_eq_false_iff_ne.1 q
        have E := Lib.hid (show F = (LX.sq (l.drop (i + 1))).map ((acc ++ [c]) ++ ·) by rw [HE.out, HD.out, LX.sq_pass h39, Option.map_map]; congr 1; funext q; simp)
        clear hcs
        go_wp2_with (at_builtin; refine wpList_append_bytes rfl (.tmp 57) (.tmp 61) 35 rfl w.heap.size 5 Tryz.underlying35 Tryz.linfo_u8 (by rfl) (HO.out.alloc _) (by rfl) (one_rd (b := c) HZ.out.symm) (by simp; omega) (by have := HW.out.size; rw [bx_size]; omega) ?_; intro v3 w3 ho3 hg3 hb3; have O3 := Lib.hid ho3; have B3 := Lib.hid (HW.out.trans (((Below.refl _ _).alloc HW.out.size _).trans hb3)); clear ho3 hg3 hb3)
        go_roundg g
        case rel => exact ⟨i + 1, acc ++ [c], v3, by omega, by omega, by simp; omega, rfl, rfl, B3, O3, E⟩
        case measure => omega
end Go.Proofs.YtmgalfdiiegjjaaGreatDoor

/- A text in quotes is read as it was. No program is named here. -/
namespace Go.Proofs.YtmgalfdiiegjjaaGreatDoor
namespace LX
open Go

/-- How a byte is written in double quotes. -/
def hexd (n : Nat) : UInt8 := UInt8.ofNat (if n < 10 then 48 + n else 87 + n)
def q1 (c : UInt8) : B :=
  if c = 92 ∨ c = 34 then [92, c]
  else if c = 10 then [92, 110]
  else if c = 9 then [92, 116]
  else if c.toNat < 32 ∨ c = 127 then [92, 120, hexd (c.toNat / 16), hexd (c.toNat % 16)]
  else [c]
theorem q1_self {c : UInt8} (h1 : c ≠ 92) (h2 : c ≠ 34) (h3 : c ≠ 10) (h4 : c ≠ 9) (h5 : ¬ (c.toNat < 32 ∨ c = 127)) : q1 c = [c] := by
  unfold q1
  rw [if_neg (fun h => h.elim h1 h2), if_neg h3, if_neg h4, if_neg h5]
theorem q1_hex {c : UInt8} (h1 : c ≠ 92) (h2 : c ≠ 34) (h3 : c ≠ 10) (h4 : c ≠ 9) (h5 : c.toNat < 32 ∨ c = 127) : q1 c = [92, 120, hexd (c.toNat / 16), hexd (c.toNat % 16)] := by
  unfold q1
  rw [if_neg (fun h => h.elim h1 h2), if_neg h3, if_neg h4, if_pos h5]
def hexs : B := [48, 49, 50, 51, 52, 53, 54, 55, 56, 57, 97, 98, 99, 100, 101, 102]
theorem hexs_at : ∀ n : Fin 16, hexs[n.val]? = some (hexd n.val) := by decide +kernel
def quo (s : B) : B := 34 :: (s.flatMap q1 ++ [34])
theorem hx_hexd : ∀ n : Fin 16, hx (hexd n.val) = some n.val := by decide +kernel
theorem dq_q1 (c : UInt8) (r : B) : dq (q1 c ++ r) = (dq r).map (c :: ·) := by
  unfold q1
  by_cases h1 : c = 92 ∨ c = 34
  · rw [if_pos h1]
    show dq (92 :: c :: r) = _
    rw [dq_esc]
    have : esc (c :: r) = some (c, 1) := by rw [esc.eq_def]; exact if_pos h1
    rw [this]; rfl
  · rw [if_neg h1]
    by_cases h2 : c = 10
    · rw [if_pos h2, h2]
      show dq (92 :: 110 :: r) = _
      rw [dq_esc]; rfl
    · rw [if_neg h2]
      by_cases h3 : c = 9
      · rw [if_pos h3, h3]
        show dq (92 :: 116 :: r) = _
        rw [dq_esc]; rfl
      · rw [if_neg h3]
        by_cases h4 : c.toNat < 32 ∨ c = 127
        · rw [if_pos h4]
          show dq (92 :: 120 :: hexd (c.toNat / 16) :: hexd (c.toNat % 16) :: r) = _
          rw [dq_esc]
          have hc := c.toNat_lt
          have a := hx_hexd ⟨c.toNat / 16, by omega⟩
          have b := hx_hexd ⟨c.toNat % 16, by omega⟩
          have e : esc (120 :: hexd (c.toNat / 16) :: hexd (c.toNat % 16) :: r) = some (c, 3) := by
            rw [esc.eq_def]
            simp only at a b ⊢
            rw [if_neg (by decide), if_neg (by decide), if_neg (by decide), if_pos trivial, a, b]
            simp only [Option.some.injEq, Prod.mk.injEq, and_true]
            rw [show 16 * (c.toNat / 16) + c.toNat % 16 = c.toNat by omega]
            exact UInt8.ofNat_toNat
          rw [e]; rfl
        · rw [if_neg h4]
          exact dq_pass (fun h => h1 (.inr h)) (fun h => h1 (.inl h))
theorem dq_quo : ∀ s : B, dq (s.flatMap q1 ++ [34]) = some s
  | [] => by show dq [34] = _; rw [dq_end]; rfl
  | c :: t => by
    rw [List.flatMap_cons, List.append_assoc, dq_q1, dq_quo t]; rfl
theorem q1_len (c : UInt8) : 1 ≤ (q1 c).length ∧ (q1 c).length ≤ 4 := by
  unfold q1
  split
  · simp
  · split
    · simp
    · split
      · simp
      · split <;> simp
theorem flat_len {f : UInt8 → B} {k : Nat} (h : ∀ c, (f c).length ≤ k) : ∀ s : B, (s.flatMap f).length ≤ k * s.length
  | [] => by simp
  | c :: t => by
    rw [List.flatMap_cons, List.length_append]
    have := h c
    have := flat_len h t
    simp only [List.length_cons, Nat.mul_add]
    omega
theorem quo_len (s : B) : (quo s).length ≤ 4 * s.length + 2 := by
  have := flat_len (fun c => (q1_len c).2) s
  simp only [quo, List.length_cons, List.length_append, List.length_nil]
  omega
theorem txt_dq {t x : B} (h : dq t = some x) : txt (34 :: t) = lng x true := by
  rw [txt.eq_def]
  simp only
  rw [if_neg (by decide), if_pos trivial, h]
theorem txt_sq {t x : B} (h : sq t = some x) : txt (39 :: t) = lng x true := by
  rw [txt.eq_def]
  simp only
  rw [if_pos trivial, h]
/-- A text alone in a line. -/
theorem row_text {no ind : Int} {c : UInt8} {t x : B} (h0 : 0 ≤ ind) (h1 : ind ≤ 16384) (hc : c = 34 ∨ c = 39) (h : txt (c :: t) = (0, x, true)) : row (no, ind, c :: t) = (0, [(3, no, ind, x, true)]) := by
  have hb : tl (c :: t) = c :: t := by
    rw [tl_drop]
    have : bn (c :: t) = 0 := by unfold bn runp; rcases hc with rfl | rfl <;> rfl
    rw [this, List.drop_zero]
  have hd : dash (c :: t) = false := by
    cases t with
    | nil => rcases hc with rfl | rfl <;> rfl
    | cons d u => rcases hc with rfl | rfl <;> rfl
  have hk : key (c :: t) = 0 := by
    have : run (c :: t) = 0 := by unfold run runp; rcases hc with rfl | rfl <;> rfl
    unfold key
    rw [this, List.drop_zero]
    cases t with
    | nil => rcases hc with rfl | rfl <;> rfl
    | cons d u => rcases hc with rfl | rfl <;> rfl
  unfold row
  simp only
  rw [if_neg (by omega), hb, go_mid hd, mid, if_pos hk, fin, if_neg (by simp), h, if_pos rfl]
  simp only [List.nil_append]
  rw [show ind + ((c :: t).length : Int) - ((c :: t).length : Int) = ind by omega]
theorem row_quo {no ind : Int} {s : B} (h0 : 0 ≤ ind) (h1 : ind ≤ 16384) (hs : s.length ≤ 200) : row (no, ind, quo s) = (0, [(3, no, ind, s, true)]) := by
  refine row_text h0 h1 (.inl rfl) ?_
  show txt (34 :: (s.flatMap q1 ++ [34])) = _
  rw [txt_dq (dq_quo s), lng, if_neg (by omega)]

/-- Each single quote doubled. -/
def s1 (c : UInt8) : B := if c = 39 then [39, 39] else [c]
def dbl (s : B) : B := s.flatMap s1
theorem sq_dbl : ∀ s : B, sq (dbl s ++ [39]) = some s
  | [] => sq_end
  | c :: t => by
    unfold dbl
    rw [List.flatMap_cons, List.append_assoc]
    by_cases h : c = 39
    · subst h
      show sq (39 :: 39 :: (t.flatMap s1 ++ [39])) = _
      rw [sq_two, show t.flatMap s1 = dbl t from rfl, sq_dbl t]; rfl
    · have : s1 c = [c] := if_neg h
      rw [this]
      show sq (c :: (t.flatMap s1 ++ [39])) = _
      rw [sq_pass h, show t.flatMap s1 = dbl t from rfl, sq_dbl t]; rfl
theorem dbl_len (s : B) : (dbl s).length ≤ 2 * s.length := by
  refine flat_len (fun c => ?_) s
  unfold s1
  split <;> simp
theorem rep_dbl : ∀ s : B, Lib.replaceK [39] [39, 39] (Lib.count s [39]) s = dbl s
  | [] => rfl
  | c :: t => by
    have ih := rep_dbl t
    by_cases h : c = 39
    · subst h
      have hi : Lib.index (39 :: t) [39] = ((0 : Nat) : Int) := by rw [Lib.index_one]; rfl
      rw [Lib.count_cons_eq, Nat.add_comm, Lib.replaceK_hit _ _ _ _ _ hi]
      simp only [List.take_zero, List.nil_append, Nat.zero_add, List.length_cons, List.length_nil, List.drop_succ_cons, List.drop_zero]
      rw [ih]; rfl
    · rw [Lib.count_cons_ne c 39 t h]
      have e : dbl (c :: t) = c :: dbl t := by
        unfold dbl
        rw [List.flatMap_cons, show s1 c = [c] from if_neg h]; rfl
      rw [e, ← ih]
      cases hk : Lib.count t [39] with
      | zero => rfl
      | succ k =>
        obtain ⟨i, hi⟩ := Lib.index_of_count (s := t) (old := [39]) (by omega)
        have hi2 : Lib.index (c :: t) [39] = ((i + 1 : Nat) : Int) := by
          rw [Lib.index_one] at hi ⊢
          unfold Lib.indexByte
          rw [if_neg (by simpa using h), hi]
          simp
        rw [Lib.replaceK_hit _ _ _ _ _ hi, Lib.replaceK_hit _ _ _ _ _ hi2]
        simp only [List.take_succ_cons, List.cons_append, List.length_cons, List.length_nil, List.cons.injEq, true_and]
        rw [show i + 1 + (0 + 1) = i + (0 + 1) + 1 by omega, List.drop_succ_cons]
theorem repAll_dbl (s : B) : Lib.replaceAll s [39] [39, 39] = dbl s := by
  unfold Lib.replaceAll Lib.replace
  rw [if_neg (by decide)]
  unfold Lib.replaceNum
  rw [if_pos (.inl (by decide))]
  exact rep_dbl s
theorem row_sgl {s : B} (hs : s.length ≤ 200) : row (1, 0, 39 :: (dbl s ++ [39])) = (0, [(3, 1, 0, s, true)]) := by
  refine row_text (by decide) (by decide) (.inr rfl) ?_
  rw [txt_sq (sq_dbl s), lng, if_neg (by omega)]
theorem row_sgl_key {s : B} (hs : s.length ≤ 200) : row (1, 0, 97 :: 58 :: 32 :: 32 :: 39 :: (dbl s ++ [39])) = (0, [(2, 1, 0, [97], false), (3, 1, 4, s, true)]) := by
  have ht : txt (39 :: (dbl s ++ [39])) = (0, s, true) := by
    rw [txt_sq (sq_dbl s), lng, if_neg (by omega)]
  generalize dbl s ++ [39] = u at *
  have hb : tl (97 :: 58 :: 32 :: 32 :: 39 :: u) = 97 :: 58 :: 32 :: 32 :: 39 :: u := by rw [tl_drop]; rfl
  have hb2 : tl (32 :: 32 :: 39 :: u) = 39 :: u := by rw [tl_drop]; rfl
  have hk : key (97 :: 58 :: 32 :: 32 :: 39 :: u) = 1 := by
    have : run (97 :: 58 :: 32 :: 32 :: 39 :: u) = 1 := by
      unfold run
      simp [runp, sgn]
    unfold key
    rw [this]; rfl
  unfold row
  simp only
  rw [if_neg (by omega), hb, go_mid rfl, mid, hk, if_neg (by decide), if_neg (by decide)]
  simp only [List.drop_succ_cons, List.drop_zero, hb2]
  rw [fin, if_neg (by simp), ht, if_pos rfl]
  simp
  omega
end LX
end Go.Proofs.YtmgalfdiiegjjaaGreatDoor
