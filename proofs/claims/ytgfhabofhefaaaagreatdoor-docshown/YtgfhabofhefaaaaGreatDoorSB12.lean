/- A part of the proof. -/
import Derived.Test.YtgfhabofhefaaaaGreatDoorSB11
namespace Go.Proofs.YtgfhabofhefaaaaGreatDoor
open Go.RowKit
set_option maxHeartbeats 2000000 in
theorem rdashed_any (l : List UInt8) (w : World) (hl : l.length ≤ 100000) :
    Calls Tryz.prog 92 #[.string ⟨l.toArray⟩] w fun e w' => e = .returned (.bool (LX.dash l)) ∧ w' = w := by
  match l, hl with
  | [], _ =>
    go_enter Tryz.func92, Tryz.ntmps92
    go_wp2
    go_ret
    exact ⟨rfl, rfl⟩
  | [c], _ =>
    obtain ⟨z, hz⟩ : ∃ z : Int, (c.toNat : Int) = z := ⟨_, rfl⟩
    have hsz := str_size [c]
    have hp : 0 < (⟨[c].toArray⟩ : ByteArray).size := by rw [hsz]; simp
    have hi := first_z (u := []) hz hp
    have hub := c.toNat_lt
    have hz0 : 0 ≤ z := by omega
    have hz1 : z < 256 := by omega
    have HZ := Lib.hid hz
    clear hz hub
    by_cases h : c = 45
    · subst h
      obtain rfl : z = 45 := HZ.out.symm
      go_enter Tryz.func92, Tryz.ntmps92
      go_wp2
      go_ret
      exact ⟨rfl, rfl⟩
    · have E := Lib.hid (show LX.dash [c] = false by simp [LX.dash, h])
      have q : (z == 45) = false := zne HZ.out 45 (by decide) h
      have q2 : ¬ z = 45 := beq_eq_false_iff_ne.1 q
      rw [E.out]
      go_enter Tryz.func92, Tryz.ntmps92
      go_wp2
      go_ret
      exact ⟨rfl, rfl⟩
  | c :: d :: t, hl =>
    obtain ⟨z, hz⟩ : ∃ z : Int, (c.toNat : Int) = z := ⟨_, rfl⟩
    obtain ⟨y, hy⟩ : ∃ z : Int, (d.toNat : Int) = z := ⟨_, rfl⟩
    have hsz := str_size (c :: d :: t)
    have hp : 0 < (⟨(c :: d :: t).toArray⟩ : ByteArray).size := by rw [hsz]; simp
    have hp1 : 1 < (⟨(c :: d :: t).toArray⟩ : ByteArray).size := by rw [hsz]; simp
    have hi := first_z (u := d :: t) hz hp
    have hi1 := at_z (l := c :: d :: t) (p := 1) rfl hy hp1
    have hub := c.toNat_lt
    have hub1 := d.toNat_lt
    have hz0 : 0 ≤ z := by omega
    have hz1 : z < 256 := by omega
    have hy0 : 0 ≤ y := by omega
    have hy1 : y < 256 := by omega
    have HZ := Lib.hid hz
    have HY := Lib.hid hy
    obtain ⟨n, hn⟩ : ∃ n, (c :: d :: t).length = n := ⟨_, rfl⟩
    have hn2 : 2 ≤ n := by rw [← hn]; simp
    have hg0 : (0 : Int) < (n : Int) := by omega
    have hg1 : ((n : Int) == 1) = false := beq_eq_false_iff_ne.2 (by omega)
    have hg2 : ¬ (n : Int) = 1 := by omega
    have hg3 : ¬ n = 1 := by omega
    have hg4 : (n == 1) = false := beq_eq_false_iff_ne.2 hg3
    rw [hn] at hsz hl
    clear hz hub hy hub1 hn
    by_cases h : c = 45
    · subst h
      obtain rfl : z = 45 := HZ.out.symm
      by_cases h2 : d = 32
      · subst h2
        obtain rfl : y = 32 := HY.out.symm
        go_enter Tryz.func92, Tryz.ntmps92
        go_wp2
        go_ret
        exact ⟨rfl, rfl⟩
      · have E := Lib.hid (show LX.dash (45 :: d :: t) = false by simp [LX.dash, h2])
        have q : (y == 32) = false := zne HY.out 32 (by decide) h2
        have q2 : ¬ y = 32 := beq_eq_false_iff_ne.1 q
        rw [E.out]
        go_enter Tryz.func92, Tryz.ntmps92
        go_wp2
        go_ret
        exact ⟨rfl, rfl⟩
    · have E := Lib.hid (show LX.dash (c :: d :: t) = false by simp [LX.dash, h])
      have q : (z == 45) = false := zne HZ.out 45 (by decide) h
      have q2 : ¬ z = 45 := beq_eq_false_iff_ne.1 q
      rw [E.out]
      go_enter Tryz.func92, Tryz.ntmps92
      go_wp2
      go_ret
      exact ⟨rfl, rfl⟩
set_option maxHeartbeats 2000000 in
theorem rblanks_any (l : List UInt8) (a : Nat) (w : World) (hl : l.length ≤ 100000) (ha : a ≤ l.length) :
    Calls Tryz.prog 91 #[.string ⟨l.toArray⟩, .int .i64 (a : Int)] w fun e w' => e = .returned (.int .i64 (LX.bn (l.drop a) : Int)) ∧ w' = w := by
  have hsz := str_size l
  obtain ⟨n, hn⟩ : ∃ n, l.length = n := ⟨_, rfl⟩
  have HL := Lib.hid hn
  rw [hn] at hsz hl ha
  clear hn
  obtain ⟨K, HK⟩ : ∃ K, Hid (LX.bn (l.drop a) = K) := ⟨_, Lib.hid rfl⟩
  rw [HK.out]
  go_enter Tryz.func91, Tryz.ntmps91
  go_wp2
  go_loopg [5] (n - a) (fun g s5 wx => ∃ k : Nat, a + k + g = n ∧ s5 = .int .i64 (k : Int) ∧ wx = w ∧ Hid (k ≤ LX.bn (l.drop a)))
  case atStart => exact ⟨0, by omega, rfl, rfl, Nat.zero_le _⟩
  case round =>
    obtain ⟨k, hk, rfl, rfl, HR⟩ := hrel
    obtain ⟨q, hq⟩ : ∃ q, a + k = q := ⟨_, rfl⟩
    have hqi : (a : Int) + (k : Int) = (q : Int) := by omega
    cases gk with
    | zero =>
      have hlt : ¬ (q : Int) < (n : Int) := by omega
      have E := Lib.hid (show K = k by
        rw [← HK.out]
        refine LX.runp_stop HR.out (fun c hc => ?_)
        rw [List.getElem?_drop, List.getElem?_eq_none (by have := HL.out; omega)] at hc
        cases hc)
      go_wp2
      go_ret
      exact ret_n E.out.symm rfl
    | succ g =>
      have hlt : (q : Int) < (n : Int) := by omega
      obtain ⟨c, hc⟩ : ∃ c, l[q]? = some c := ⟨l[q]'(by have := HL.out; omega), List.getElem?_eq_getElem _⟩
      have hqn : q ≤ 100000 := by omega
      have hkl : q < (⟨l.toArray⟩ : ByteArray).size := by omega
      have hub := c.toNat_lt
      obtain ⟨z, hz⟩ : ∃ z : Int, (c.toNat : Int) = z := ⟨_, rfl⟩
      have hi := at_z hc hz hkl
      have hz0 : 0 ≤ z := by omega
      have hz1 : z < 256 := by omega
      have HC : Hid ((l.drop a)[k]? = some c) := by show _ = _; rw [List.getElem?_drop, hq]; exact hc
      have HZ := Lib.hid hz
      have HQ := Lib.hid hq
      clear hc hz hub hq
      by_cases h32 : c = 32
      · subst h32
        obtain rfl : z = 32 := HZ.out.symm
        have E := Lib.hid (LX.runp_more HR.out HC.out rfl)
        go_wp2
        go_roundg g
        case rel => exact ⟨k + 1, by have := HQ.out; omega, rfl, rfl, E⟩
        case measure => omega
      · have q32 : (z == 32) = false := zne HZ.out 32 (by decide) h32
        have q33 : ¬ z = 32 := beq_eq_false_iff_ne.1 q32
        have E := Lib.hid (show K = k by
          rw [← HK.out]
          refine LX.runp_stop HR.out (fun d hd => ?_)
          rw [HC.out] at hd
          obtain rfl := Option.some.inj hd
          simpa using h32)
        go_wp2
        go_ret
        exact ret_n E.out.symm rfl
theorem small_paths (c : UInt8) (z : Int) (hz : (c.toNat : Int) = z) : (48 ≤ z ∧ z ≤ 57 ∧ hxi c = z - 48) ∨ (48 ≤ z ∧ ¬ z ≤ 57 ∧ 97 ≤ z ∧ z ≤ 102 ∧ hxi c = z - 97 + 10) ∨ (48 ≤ z ∧ ¬ z ≤ 57 ∧ 97 ≤ z ∧ ¬ z ≤ 102 ∧ hxi c = -1) ∨ (48 ≤ z ∧ ¬ z ≤ 57 ∧ ¬ 97 ≤ z ∧ hxi c = -1) ∨ (¬ 48 ≤ z ∧ ¬ 97 ≤ z ∧ hxi c = -1) := by
  have e : hxi c = if 48 ≤ z ∧ z ≤ 57 then z - 48 else if 97 ≤ z ∧ z ≤ 102 then z - 97 + 10 else -1 := by
    unfold hxi LX.hx
    subst hz
    by_cases h1 : 48 ≤ c.toNat ∧ c.toNat ≤ 57
    · rw [if_pos h1]
      rw [if_pos (show (48 : Int) ≤ (c.toNat : Int) ∧ (c.toNat : Int) ≤ 57 by omega)]
      simp only; omega
    · rw [if_neg h1]
      rw [if_neg (show ¬ ((48 : Int) ≤ (c.toNat : Int) ∧ (c.toNat : Int) ≤ 57) by omega)]
      by_cases h2 : 97 ≤ c.toNat ∧ c.toNat ≤ 102
      · rw [if_pos h2]
        rw [if_pos (show (97 : Int) ≤ (c.toNat : Int) ∧ (c.toNat : Int) ≤ 102 by omega)]
        simp only; omega
      · rw [if_neg h2]
        rw [if_neg (show ¬ ((97 : Int) ≤ (c.toNat : Int) ∧ (c.toNat : Int) ≤ 102) by omega)]
  rw [e]
  by_cases h1 : 48 ≤ z
  · by_cases h2 : z ≤ 57
    · exact .inl ⟨h1, h2, by rw [if_pos ⟨h1, h2⟩]⟩
    · refine .inr ?_
      rw [if_neg (by omega)]
      by_cases h3 : 97 ≤ z
      · by_cases h4 : z ≤ 102
        · exact .inl ⟨h1, h2, h3, h4, by rw [if_pos ⟨h3, h4⟩]⟩
        · exact .inr (.inl ⟨h1, h2, h3, h4, by rw [if_neg (by omega)]⟩)
      · exact .inr (.inr (.inl ⟨h1, h2, h3, by rw [if_neg (by omega)]⟩))
  · rw [if_neg (by omega), if_neg (by omega)]
    exact .inr (.inr (.inr (.inr ⟨h1, by omega, rfl⟩)))
set_option maxHeartbeats 2000000 in
theorem rsmall_any (c : UInt8) (z : Int) (hz : (c.toNat : Int) = z) (w : World) :
    Calls Tryz.prog 130 #[.int .u8 z] w fun e w' => e = .returned (.int .i64 (hxi c)) ∧ w' = w := by
  have hub := c.toNat_lt
  have hz0 : 0 ≤ z := by omega
  have hz1 : z < 256 := by omega
  have hp := small_paths c z hz
  clear hz hub
  rcases hp with ⟨h1, h2, h3⟩ | ⟨h1, h2, h3, h4, h5⟩ | ⟨h1, h2, h3, h4, h5⟩ | ⟨h1, h2, h3, h4⟩ | ⟨h1, h2, h3⟩
  · rw [h3]
    have m1 : (z - 48) % 256 = z - 48 := by omega
    have m2 : IntKind.u8.wrap (z - 48) = z - 48 := by show (z - 48) % 256 = z - 48; exact m1
    go_enter Tryz.func130, Tryz.ntmps130
    go_wp2
    go_ret
    exact ⟨rfl, rfl⟩
  · rw [h5]
    have m1 : (z - 97) % 256 = z - 97 := by omega
    have m2 : IntKind.u8.wrap (z - 97) = z - 97 := by show (z - 97) % 256 = z - 97; exact m1
    go_enter Tryz.func130, Tryz.ntmps130
    go_wp2
    go_ret
    exact ⟨rfl, rfl⟩
  · rw [h5]
    go_enter Tryz.func130, Tryz.ntmps130
    go_wp2
    go_ret
    exact ⟨rfl, rfl⟩
  · rw [h4]
    go_enter Tryz.func130, Tryz.ntmps130
    go_wp2
    go_ret
    exact ⟨rfl, rfl⟩
  · rw [h3]
    go_enter Tryz.func130, Tryz.ntmps130
    go_wp2
    go_ret
    exact ⟨rfl, rfl⟩
end Go.Proofs.YtgfhabofhefaaaaGreatDoor
namespace Go.Proofs.YtgfhabofhefaaaaGreatDoor
open Go.RowKit
theorem sq_none : ∀ {s : List UInt8}, (39 : UInt8) ∉ s → LX.sq s = none
  | [], _ => rfl
  | c :: t, h => by
    have h1 : c ≠ 39 := fun e => h (by rw [e]; exact List.mem_cons_self)
    have h2 : (39 : UInt8) ∉ t := fun e => h (List.mem_cons_of_mem _ e)
    rw [LX.sq_pass h1, sq_none h2]; rfl
theorem sq_app : ∀ {a t : List UInt8}, (39 : UInt8) ∉ a → LX.sq (a ++ t) = (LX.sq t).map (a ++ ·)
  | [], t, _ => by simp
  | c :: a, t, h => by
    have h1 : c ≠ 39 := fun e => h (by rw [e]; exact List.mem_cons_self)
    have h2 : (39 : UInt8) ∉ a := fun e => h (List.mem_cons_of_mem _ e)
    rw [List.cons_append, LX.sq_pass h1, sq_app h2, Option.map_map]
    rfl
theorem index_one : ∀ (s : List UInt8) (c : UInt8), (c ∉ s ∧ Lib.index s [c] = -1) ∨ (∃ a b, s = a ++ c :: b ∧ c ∉ a ∧ Lib.index s [c] = (a.length : Int))
  | [], c => .inl ⟨by simp, by simp [Lib.index]⟩
  | d :: t, c => by
    by_cases h : d = c
    · subst h
      exact .inr ⟨[], t, rfl, by simp, by simp [Lib.index, List.isPrefixOf]⟩
    · have hp : ([c] : List UInt8).isPrefixOf (d :: t) = false := by simp [List.isPrefixOf]; exact fun e => h e.symm
      rcases index_one t c with ⟨h1, h2⟩ | ⟨a, b, h1, h2, h3⟩
      · refine .inl ⟨by simp [h1]; exact fun e => h e.symm, ?_⟩
        rw [Lib.index, hp, h2]; rfl
      · refine .inr ⟨d :: a, b, by rw [h1]; rfl, by simp [h2]; exact fun e => h e.symm, ?_⟩
        rw [Lib.index, hp, h3]
        have : ((a.length : Int) == -1) = false := beq_eq_false_iff_ne.2 (by omega)
        rw [this]; simp
theorem cut_cases (s : List UInt8) (c : UInt8) : (c ∉ s ∧ Lib.cut s [c] = (s, [], false)) ∨ (∃ a b, s = a ++ c :: b ∧ c ∉ a ∧ Lib.cut s [c] = (a, b, true)) := by
  rcases index_one s c with ⟨h1, h2⟩ | ⟨a, b, h1, h2, h3⟩
  · exact .inl ⟨h1, by unfold Lib.cut; rw [h2]; rfl⟩
  · refine .inr ⟨a, b, h1, h2, ?_⟩
    unfold Lib.cut
    rw [h3, if_pos (by omega), h1]
    simp
theorem lcut_any (l : List UInt8) (c : UInt8) (hl : l.length < 4294967281) (w : World) (hm : MaxIs w) :
    Calls Tryz.prog 168 #[.string ⟨l.toArray⟩, .string ⟨#[c]⟩] w fun e w' => e = .returned (.tuple #[.string ⟨(Lib.cut l [c]).1.toArray⟩, .string ⟨(Lib.cut l [c]).2.1.toArray⟩, .bool (Lib.cut l [c]).2.2]) ∧ Below w.heap.size w w' := by
  obtain ⟨m, hm⟩ := hm
  refine (Tryz.strings_Cut ⟨l.toArray⟩ ⟨#[c]⟩ m w (by rw [str_size]; exact hl) hm).mono ?_
  rintro e w' ⟨rfl, n, rfl⟩
  exact ⟨rfl, below_drewN _ _⟩
theorem stre_no {o : Option (List UInt8)} {k : Int} (h : o = none) : StrE o k = .panicked (gave k) := by rw [h]; rfl
theorem stre_yes {o : Option (List UInt8)} {k : Int} {x : List UInt8} (h : o = some x) : StrE o k = .returned (.string ⟨x.toArray⟩) := by rw [h]; rfl
theorem front_z {d : UInt8} {u : List UInt8} {z : Int} (hz : (d.toNat : Int) = z) (h : 0 < (⟨(d :: u).toArray⟩ : ByteArray).size) : ((((⟨(d :: u).toArray⟩ : ByteArray)[0]'h).toNat : Nat) : Int) = z := at_z (l := d :: u) (p := 0) rfl hz h
structure Said (w wr : World) (acc : List UInt8) : Prop where
  bl : Below w.heap.size w wr
  bd : Bd wr w.heap.size w.heap.size acc
  mx : MaxIs wr
theorem Said.calm {w wr w' : World} {acc : List UInt8} (h : Said w wr acc) (hb : Below wr.heap.size wr w') : Said w w' acc := ⟨h.bl.trans (hb.mono h.bl.size), h.bd.below hb, h.mx.below hb⟩
theorem Said.start {w : World} (hm : MaxIs w) : Said w (w.alloc (.cells #[.pointer none, .slice none 0 0] 194)) [] := ⟨below_alloc w _, Bd.new w, hm.below (below_alloc w _)⟩
theorem Said.next {w wr w' : World} {acc acc' : List UInt8} (h : Said w wr acc) (hm : MaxIs w) (hd : Bd w' w.heap.size w.heap.size acc') (hb : Below w.heap.size wr w') : Said w w' acc' :=
  ⟨h.bl.trans hb, hd, hm.below (h.bl.trans hb)⟩
set_option maxHeartbeats 8000000 in
theorem single_any (l : List UInt8) (w : World) (hl : l.length ≤ 20000) (hm : MaxIs w) :
    Calls Tryz.prog 156 #[.string ⟨l.toArray⟩] w fun e w' => e = StrE (LX.sq l) 3 ∧ Below w.heap.size w w' := by
  obtain ⟨F, HF⟩ : ∃ F, Hid (F = LX.sq l) := ⟨_, Lib.hid rfl⟩
  rw [← HF.out]
  have HM := Lib.hid hm
  have HS := Lib.hid (Said.start hm)
  clear hm
  go_enter Tryz.func156, Tryz.ntmps156
  go_wp2
  go_loopg [0] l.length (fun g s0 wx => ∃ s acc : List UInt8, s.length ≤ g ∧ acc.length + s.length ≤ 20000 ∧ s0 = .string ⟨s.toArray⟩ ∧ Hid (Said w wx acc) ∧ Hid (F = (LX.sq s).map (acc ++ ·)))
  case atStart => exact ⟨l, [], Nat.le_refl _, by simpa using hl, rfl, HS, by show _ = _; rw [HF.out]; simp⟩
  case round =>
    obtain ⟨s, acc, hg, hlen, rfl, HW, HE⟩ := hrel
    have HC := Lib.hid (lcut_any s 39 (by omega) wr HW.out.mx)
    rcases cut_cases s 39 with ⟨h1, h2⟩ | ⟨a, b, h1, h2, h3⟩
    · have E := Lib.hid (show F = none by rw [HE.out, sq_none h1]; rfl)
      have HX := Lib.hid (fun x => lmust_false 3 x)
      rw [h2] at HC
      clear h1 h2
      go_wp2_with fail
      refine HC.out.mono ?_
      rintro e w1 ⟨rfl, b1⟩
      have HW1 := Lib.hid (HW.out.calm b1)
      clear b1 HC
      go_wp2_with fail
      refine (HX.out _).mono ?_
      rintro e w2 ⟨rfl, rfl⟩
      exact ⟨rfl, (stre_no E.out).symm, HW1.out.bl⟩
    · rw [h3] at HC
      have HX := Lib.hid (fun x => lmust_false 3 x)
      have HT := Lib.hid (fun x => lmust_true 3 x)
      have hla : a.length + b.length + 1 = s.length := by rw [h1]; simp; omega
      have HSQ := Lib.hid (show F = (LX.sq (39 :: b)).map ((acc ++ a) ++ ·) by rw [HE.out, h1, sq_app h2, Option.map_map]; congr 1; funext x; simp)
      clear h1 h2 h3 HE
      match b, HC, HSQ, hla with
      | [], HC, HSQ, hla =>
        have E := Lib.hid (show F = some (acc ++ a) by rw [HSQ.out, LX.sq_end]; simp)
        go_wp2_with fail
        refine HC.out.mono ?_
        rintro e w1 ⟨rfl, b1⟩
        have HW1 := Lib.hid (HW.out.calm b1)
        clear b1 HC HW
        go_wp2_with fail
        refine (HT.out _).mono ?_
        rintro e w2 ⟨rfl, hw2⟩
        replace hw2 := hw2.symm
        subst hw2
        have HWR := Lib.hid (HW1.out.bd.text a (by omega) HW1.out.bl.size)
        go_wp2_with fail
        refine HWR.out.mono ?_
        rintro e w2 ⟨⟨nn, rfl⟩, hd2, b2⟩
        have HW2 := Lib.hid (HW1.out.next HM.out hd2 b2)
        have HST := Lib.hid (hd2.str HW2.out.bl.size)
        clear hd2 b2 HWR HW1
        go_wp2_with fail
        refine HST.out.mono ?_
        rintro e w3 ⟨rfl, b3⟩
        have HB3 := Lib.hid (HW2.out.bl.trans b3)
        clear b3 HST
        go_wp2
        try rw [Exit.noGoto_ret]
        go_ret
        exact ⟨(stre_yes E.out).symm, HB3.out⟩
      | d :: u, HC, HSQ, hla =>
        have hsz := str_size (d :: u)
        obtain ⟨z, hz⟩ : ∃ z : Int, (d.toNat : Int) = z := ⟨_, rfl⟩
        have hp : 0 < (⟨(d :: u).toArray⟩ : ByteArray).size := by rw [hsz]; simp
        have hi := front_z (u := u) hz hp
        have hub := d.toNat_lt
        have hz0 : 0 ≤ z := by omega
        have hz1 : z < 256 := by omega
        have hne : ((d :: u) == ([] : List UInt8)) = false := rfl
        obtain ⟨n, hn⟩ : ∃ n, (d :: u).length = n := ⟨_, rfl⟩
        have x1 := lcut_back hn 1
        have HN1 := Lib.hid (show n = u.length + 1 by rw [← hn]; simp)
        have h1n : (1 : Int) ≤ (n : Int) := by have := HN1.out; omega
        rw [hn] at hsz hla
        simp only [List.drop_succ_cons, List.drop_zero] at x1
        have HZ := Lib.hid hz
        clear hn hub hz
        by_cases hd : d = 39
        · subst hd
          obtain rfl : z = 39 := HZ.out.symm
          have E := Lib.hid (show F = (LX.sq u).map ((acc ++ a ++ [39]) ++ ·) by rw [HSQ.out, LX.sq_two, Option.map_map]; congr 1; funext x; simp)
          go_wp2_with fail
          refine HC.out.mono ?_
          rintro e w1 ⟨rfl, b1⟩
          have HW1 := Lib.hid (HW.out.calm b1)
          clear b1 HC HW HSQ
          go_wp2_with fail
          refine (HT.out _).mono ?_
          rintro e w2 ⟨rfl, hw2⟩
          replace hw2 := hw2.symm
          subst hw2
          have HWR := Lib.hid (HW1.out.bd.text a (by omega) HW1.out.bl.size)
          go_wp2_with fail
          refine HWR.out.mono ?_
          rintro e w2 ⟨⟨nn, rfl⟩, hd2, b2⟩
          have HW2 := Lib.hid (HW1.out.next HM.out hd2 b2)
          clear hd2 b2 HWR HW1
          go_wp2_with fail
          refine (HT.out _).mono ?_
          rintro e w3 ⟨rfl, hw3⟩
          replace hw3 := hw3.symm
          subst hw3
          have HWB := Lib.hid (HW2.out.bd.byte 39 39 rfl (by have := HN1.out; simp; omega) HW2.out.bl.size)
          go_wp2_with fail
          refine HWB.out.mono ?_
          rintro e w4 ⟨rfl, hd4, b4⟩
          have HW4 := Lib.hid (HW2.out.next HM.out hd4 b4)
          clear hd4 b4 HWB HW2
          go_wp2
          go_roundg u.length
          case rel => exact ⟨u, acc ++ a ++ [39], Nat.le_refl _, by have := HN1.out; simp; omega, rfl, HW4, E⟩
          case measure => have := HN1.out; omega
        · have E := Lib.hid (show F = none by rw [HSQ.out, LX.sq_bad hd]; rfl)
          have q39 : (z == 39) = false := zne HZ.out 39 (by decide) hd
          go_wp2_with fail
          refine HC.out.mono ?_
          rintro e w1 ⟨rfl, b1⟩
          have HW1 := Lib.hid (HW.out.calm b1)
          clear b1 HC HW HSQ
          go_wp2_with fail
          refine (HT.out _).mono ?_
          rintro e w2 ⟨rfl, hw2⟩
          replace hw2 := hw2.symm
          subst hw2
          have HWR := Lib.hid (HW1.out.bd.text a (by omega) HW1.out.bl.size)
          go_wp2_with fail
          refine HWR.out.mono ?_
          rintro e w2 ⟨⟨nn, rfl⟩, hd2, b2⟩
          have HW2 := Lib.hid (HW1.out.next HM.out hd2 b2)
          clear hd2 b2 HWR HW1
          go_wp2_with fail
          refine (HX.out _).mono ?_
          rintro e w3 ⟨rfl, rfl⟩
          exact ⟨rfl, (stre_no E.out).symm, HW2.out.bl⟩
theorem drop_at {l : List UInt8} {i : Nat} {c : UInt8} (h : l[i]? = some c) : l.drop i = c :: l.drop (i + 1) := by
  obtain ⟨h1, h2⟩ := List.getElem?_eq_some_iff.1 h
  rw [List.drop_eq_getElem_cons h1, h2]
set_option maxHeartbeats 8000000 in
theorem double_any (l : List UInt8) (w : World) (hl : l.length ≤ 20000) (hm : MaxIs w) :
    Calls Tryz.prog 157 #[.string ⟨l.toArray⟩] w fun e w' => e = StrE (LX.dq l) 3 ∧ Below w.heap.size w w' := by
  obtain ⟨F, HF⟩ : ∃ F, Hid (F = LX.dq l) := ⟨_, Lib.hid rfl⟩
  rw [← HF.out]
  have HM := Lib.hid hm
  have HS := Lib.hid (Said.start hm)
  have hsz := str_size l
  obtain ⟨n, hn⟩ : ∃ n, l.length = n := ⟨_, rfl⟩
  have HL := Lib.hid hn
  rw [hn] at hsz hl
  clear hm hn
  go_enter Tryz.func157, Tryz.ntmps157
  go_wp2
  go_loopg [4] n (fun g s4 wx => ∃ (i : Nat) (acc : List UInt8), i + g = n ∧ acc.length ≤ i ∧ s4 = .int .i64 (i : Int) ∧ Hid (Said w wx acc) ∧ Hid (F = (LX.dq (l.drop i)).map (acc ++ ·)))
  case atStart => exact ⟨0, [], by omega, Nat.zero_le _, rfl, HS, by show _ = _; rw [HF.out]; simp⟩
  case round =>
    obtain ⟨i, acc, hi, hac, rfl, HW, HE⟩ := hrel
    cases gk with
    | zero =>
      obtain rfl : i = n := by omega
      have E := Lib.hid (show F = none by rw [HE.out, List.drop_eq_nil_of_le (by have := HL.out; omega)]; rfl)
      go_wp2
      exact ⟨rfl, (stre_no E.out).symm, HW.out.bl⟩
    | succ g =>
      have hin : (i : Int) < (n : Int) := by omega
      obtain ⟨c, hc⟩ : ∃ c, l[i]? = some c := ⟨l[i]'(by have := HL.out; omega), List.getElem?_eq_getElem _⟩
      have hil : i < (⟨l.toArray⟩ : ByteArray).size := by omega
      have hub := c.toNat_lt
      obtain ⟨z, hz⟩ : ∃ z : Int, (c.toNat : Int) = z := ⟨_, rfl⟩
      have hiz := at_z hc hz hil
      have hz0 : 0 ≤ z := by omega
      have hz1 : z < 256 := by omega
      have HZ := Lib.hid hz
      have HD := Lib.hid (drop_at hc)
      have HX := Lib.hid (fun x => lmust_false 3 x)
      have HT := Lib.hid (fun x => lmust_true 3 x)
      clear hz hub hc
      by_cases h34 : c = 34
      · subst h34
        obtain rfl : z = 34 := HZ.out.symm
        by_cases hend : i + 1 = n
        · have E := Lib.hid (show F = some acc by rw [HE.out, HD.out, show l.drop (i + 1) = [] from List.drop_eq_nil_of_le (by have := HL.out; omega), LX.dq_end]; simp)
          have heq : ((i : Int) == (n : Int) - 1) = true := beq_iff_eq.2 (by omega)
          have heq2 : (n : Int) - 1 = (i : Int) := by omega
          have HST := Lib.hid (HW.out.bd.str HW.out.bl.size)
          go_wp2_with fail
          refine (HT.out _).mono ?_
          rintro e w1 ⟨rfl, hw1⟩
          replace hw1 := hw1.symm
          subst hw1
          go_wp2_with fail
          refine HST.out.mono ?_
          rintro e w3 ⟨rfl, b3⟩
          have HB3 := Lib.hid (HW.out.bl.trans b3)
          clear b3 HST
          go_wp2
          try rw [Exit.noGoto_ret]
          go_ret
          exact ⟨(stre_yes E.out).symm, HB3.out⟩
        · have E := Lib.hid (show F = none by
            rw [HE.out, HD.out, LX.dq_end, if_neg (by intro e; have := congrArg List.length e; rw [List.length_drop] at this; simp at this; have := HL.out; omega)]; rfl)
          have heq : ((i : Int) == (n : Int) - 1) = false := beq_eq_false_iff_ne.2 (by omega)
          go_wp2_with fail
          refine (HX.out _).mono ?_
          rintro e w1 ⟨rfl, rfl⟩
          exact ⟨rfl, (stre_no E.out).symm, HW.out.bl⟩
      · have q34 : (z == 34) = false := zne HZ.out 34 (by decide) h34
        by_cases h92 : c = 92
        · subst h92
          obtain rfl : z = 92 := HZ.out.symm
          have x1 := lcut_back HL.out (i + 1)
          have HEC := Lib.hid (escape_any (l.drop (i + 1)) wr (by rw [List.length_drop]; have := HL.out; omega))
          have i1 : (i : Int) + 1 ≤ (n : Int) := by omega
          cases hes : LX.esc (l.drop (i + 1)) with
          | none =>
            have E := Lib.hid (show F = none by rw [HE.out, HD.out, LX.dq_esc, hes]; rfl)
            rw [hes] at HEC
            clear hes
            go_wp2_with fail
            refine HEC.out.mono ?_
            rintro e w1 ⟨rfl, b1⟩
            exact ⟨rfl, (stre_no E.out).symm, (HW.out.calm b1).bl⟩
          | some x =>
            obtain ⟨d, k⟩ := x
            obtain ⟨k1, k2, k3⟩ := LX.esc_len hes
            rw [List.length_drop] at k2
            have hk : i + 1 + k ≤ n := by have := HL.out; omega
            have E := Lib.hid (show F = (LX.dq (l.drop (i + 1 + k))).map ((acc ++ [d]) ++ ·) by rw [HE.out, HD.out, LX.dq_esc, hes]; simp only; rw [Option.map_map, List.drop_drop]; congr 1; funext y; simp)
            rw [hes] at HEC
            obtain ⟨dz, hdz⟩ : ∃ z : Int, (d.toNat : Int) = z := ⟨_, rfl⟩
            have HDZ := Lib.hid hdz
            unfold EscE at HEC
            simp only [hdz] at HEC
            clear hes hdz
            go_wp2_with fail
            refine HEC.out.mono ?_
            rintro e w1 ⟨rfl, b1⟩
            have HW1 := Lib.hid (HW.out.calm b1)
            have HWB := Lib.hid (HW1.out.bd.byte d dz HDZ.out (by omega) HW1.out.bl.size)
            clear b1 HEC HW
            go_wp2_with fail
            refine HWB.out.mono ?_
            rintro e w2 ⟨rfl, hd2, b2⟩
            have HW2 := Lib.hid (HW1.out.next HM.out hd2 b2)
            clear hd2 b2 HWB HW1 x1
            go_wp2
            go_roundg (n - (i + 1 + k))
            case rel => exact ⟨i + 1 + k, acc ++ [d], by omega, by simp; omega, by simp; omega, HW2, E⟩
            case measure => omega
        · have q92 : (z == 92) = false := zne HZ.out 92 (by decide) h92
          have E := Lib.hid (show F = (LX.dq (l.drop (i + 1))).map ((acc ++ [c]) ++ ·) by rw [HE.out, HD.out, LX.dq_pass h34 h92, Option.map_map]; congr 1; funext y; simp)
          have HWB := Lib.hid (HW.out.bd.byte c z HZ.out (by omega) HW.out.bl.size)
          go_wp2_with fail
          refine HWB.out.mono ?_
          rintro e w2 ⟨rfl, hd2, b2⟩
          have HW2 := Lib.hid (HW.out.next HM.out hd2 b2)
          clear hd2 b2 HWB HW
          go_wp2
          go_roundg g
          case rel => exact ⟨i + 1, acc ++ [c], by omega, by simp; omega, rfl, HW2, E⟩
          case measure => omega
end Go.Proofs.YtgfhabofhefaaaaGreatDoor
