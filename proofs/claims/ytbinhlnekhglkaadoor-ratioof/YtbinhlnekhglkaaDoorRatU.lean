/- Walks of package ratio's nearest and Write. -/
import Derived.Test.YtbinhlnekhglkaaDoorRatS
import Derived.Deep.RegionHeld3
namespace Go.Proofs.YtbinhlnekhglkaaDoor
open Go.RowKit

/-- The text with k places, where it is read as that float. -/
def wk (x k : Nat) : Option (List UInt8) :=
  if TX.allOf (FM.rg x) k / 10 ^ k ≤ 999999999 ∧ TX.qw (TX.allOf (FM.rg x) k) k = FM.rg x then some (TX.mns x ++ TX.pnt (TX.allOf (FM.rg x) k / 10 ^ k) (TX.allOf (FM.rg x) k % 10 ^ k) k) else none
/-- The shortest text that is read as that float. -/
def wr (x : Nat) : Option (List UInt8) := if isNam x then some (nam x) else if 1000000000 * FM.U ≤ FM.val (FM.rg x) then none else (List.range 7).findSome? (wk x)
def wrS (x : Nat) : List UInt8 := (wr x).getD []
def wrOk (x : Nat) : Bool := (wr x).isSome
theorem wr_nam {x : Nat} (h : isNam x = true) : wrS x = nam x ∧ wrOk x = true := by
  unfold wrS wrOk wr; rw [h]; exact ⟨rfl, rfl⟩
theorem wr_big {x : Nat} (h : isNam x = false) (h2 : 1000000000 * FM.U ≤ FM.val (FM.rg x)) : wrS x = [] ∧ wrOk x = false := by
  unfold wrS wrOk wr; rw [h, if_pos h2]; exact ⟨rfl, rfl⟩
theorem wr_at {x k : Nat} {s : List UInt8} (h : isNam x = false) (h2 : ¬ 1000000000 * FM.U ≤ FM.val (FM.rg x)) (hk : k < 7) (hn : ∀ j < k, wk x j = none) (hs : wk x k = some s) : wrS x = s ∧ wrOk x = true := by
  have e : (List.range 7).findSome? (wk x) = some s := by
    rw [List.findSome?_eq_some_iff]
    refine ⟨List.range k, k, List.range' (k + 1) (6 - k), ?_, hs, ?_⟩
    · have : k = 0 ∨ k = 1 ∨ k = 2 ∨ k = 3 ∨ k = 4 ∨ k = 5 ∨ k = 6 := by omega
      rcases this with rfl | rfl | rfl | rfl | rfl | rfl | rfl <;> rfl
    · intro j hj
      exact hn j (List.mem_range.1 hj)
  unfold wrS wrOk wr; rw [h, if_neg h2, e]; exact ⟨rfl, rfl⟩
theorem wr_not {x : Nat} (h : isNam x = false) (h2 : ¬ 1000000000 * FM.U ≤ FM.val (FM.rg x)) (hn : ∀ j < 7, wk x j = none) : wrS x = [] ∧ wrOk x = false := by
  have e : (List.range 7).findSome? (wk x) = none := by
    rw [List.findSome?_eq_none_iff]
    intro j hj
    exact hn j (List.mem_range.1 hj)
  unfold wrS wrOk wr; rw [h, if_neg h2, e]; exact ⟨rfl, rfl⟩

/-- The sign ahead, and the digits: what the text is read as. -/
theorem pnt_head (a b k : Nat) : ∃ c t, TX.pnt a b k = c :: t ∧ TX.isD c = true := by
  cases h : Lib.decDigits a with
  | nil => exact absurd h (TX.digits_ne a)
  | cons c t =>
    have hc := TX.digits_all a c (by rw [h]; exact List.mem_cons_self ..)
    unfold TX.pnt
    split
    · exact ⟨c, t, h, hc⟩
    · rw [h]; exact ⟨c, _, rfl, hc⟩
theorem parse_pnt (x n k : Nat) (hk : k ≤ 6) : TX.parse (TX.mns x ++ TX.pnt (n / 10 ^ k) (n % 10 ^ k) k) = if n / 10 ^ k ≤ 999999999 then some (Ieee.double.word (FM.sgn x) (TX.qw n k)) else none := by
  have hz := TX.psz_pnt (n := n) hk
  obtain ⟨c, t, e, hc⟩ := pnt_head (n / 10 ^ k) (n % 10 ^ k) k
  rw [e] at hz ⊢
  have d1 : c ≠ 110 := by rintro rfl; cases hc
  have d2 : c ≠ 105 := by rintro rfl; cases hc
  have d3 : c ≠ 45 := by rintro rfl; cases hc
  unfold TX.mns
  cases hs : FM.sgn x
  · have e1 : TX.parse (c :: t) = (TX.psz (c :: t)).map fun p => TX.qw p.1 p.2 := by
      unfold TX.parse
      rw [if_neg (by simp [d1]), if_neg (by simp [d2]), if_neg (by simp [d3])]
      split
      · rename_i t' he
        have : c = 45 := by simp at he; exact he.1
        exact absurd this d3
      · rfl
    show TX.parse (c :: t) = _
    rw [e1, hz]
    split <;> rfl
  · have e1 : TX.parse (45 :: c :: t) = (TX.psz (c :: t)).map fun p => Ieee.double.word true (TX.qw p.1 p.2) := by
      unfold TX.parse
      rw [if_neg (by simp), if_neg (by simp), if_neg (by simp [d2])]
      split
      · rename_i t' he
        have : c :: t = t' := by simpa using he
        rw [this]
      · rename_i h'
        exact absurd rfl (h' (c :: t))
    show TX.parse (45 :: c :: t) = _
    rw [e1, hz]
    split <;> rfl
theorem word_lt64 (s : Bool) {r : Nat} (h : r < 9223372036854775808) : Ieee.double.word s r < 18446744073709551616 := by
  unfold Ieee.Format.word; rw [FM.double_sign]; split <;> omega
/-- Of one sign, as good just if the same. -/
theorem ordI_zero {x y : Nat} (hx : FM.nan x = false) (hy : FM.nan y = false) (hs : FM.sgn y = FM.sgn x) : (ordI y x == 0) = decide (FM.rg y = FM.rg x) := by
  have h1 := (key_num hx).1; have h2 := (key_num hy).1
  have hv : FM.rg y = FM.rg x ↔ FM.val (FM.rg y) = FM.val (FM.rg x) := ⟨fun h => by rw [h], FM.val_inj⟩
  rw [hs] at h2
  have hk : key y = key x ↔ FM.rg y = FM.rg x := by
    rw [hv, h1, h2]
    unfold FM.sv
    rw [hs]
    cases FM.sgn x <;> simp <;> omega
  have hz : ordI y x = 0 ↔ key y = key x := by unfold ordI; split <;> (try split) <;> omega
  rw [Bool.eq_iff_iff, beq_iff_eq, decide_eq_true_eq, hz, hk]
theorem qw_good {n k : Nat} (hn : n ≤ 1000000000000000) (hk : k ≤ 6) (s : Bool) : FM.sgn (Ieee.double.word s (TX.qw n k)) = s ∧ FM.rg (Ieee.double.word s (TX.qw n k)) = TX.qw n k ∧ FM.nan (Ieee.double.word s (TX.qw n k)) = false ∧ Ieee.double.word s (TX.qw n k) < 18446744073709551616 := by
  have h := (TX.qdiv hn hk).2.1
  have hb := FM.infR_lt
  refine ⟨FM.word_sgn _ (by omega), FM.word_rg _ (by omega), ?_, word_lt64 _ (by omega)⟩
  unfold FM.nan
  rw [FM.word_rg _ (by omega), decide_eq_false_iff_not]; omega

theorem quo_is (a b : Int) (ha : 0 ≤ a) (ha2 : a ≤ 4000000000000000) (hb : 0 < b) : IntKind.i64.wrap (a.tdiv b) = a / b := by
  have h1 : a.tdiv b = a / b := Int.tdiv_eq_ediv_of_nonneg ha
  have h2 : 0 ≤ a / b := Int.ediv_nonneg ha (by omega)
  have h3 : a / b ≤ a := Int.ediv_le_self b ha
  rw [h1]
  generalize a / b = q at *
  simp [IntKind.wrap, IntKind.bits, IntKind.signed]
  omega
theorem run_quo (a b : Int) (ha : 0 ≤ a) (ha2 : a ≤ 1000000000000000) (hb : 0 < b) (t : TypeId) (w : World) : (binOp .quo t (.int .i64 a) (.int .i64 b)).run Tryd.prog w = .ok (.int .i64 (a / b)) w := by
  have h0 : b ≠ 0 := by omega
  rw [binOp_quo]
  simp [Op.intDiv, h0, quo_is a b ha (by omega) hb]
theorem run_rem (a b : Int) (ha : 0 ≤ a) (hb : 0 < b) (t : TypeId) (w : World) : (binOp .rem t (.int .i64 a) (.int .i64 b)).run Tryd.prog w = .ok (.int .i64 (a % b)) w := by
  have h0 : b ≠ 0 := by omega
  rw [binOp_rem]
  simp [Op.intDiv, h0, Int.tmod_eq_emod_of_nonneg ha]
theorem ten6_le {k : Nat} (hk : k ≤ 6) : 1000000000 * 10 ^ k ≤ 1000000000000000 := by have := TX.ten_le hk; omega
set_option maxHeartbeats 1000000 in
theorem nearest_any (r k : Nat) (hk : k ≤ 6) (hr : FM.val r < 1000000000 * FM.U) (hi : r < FM.infR) (w : World) (ht : PowIs w) :
    Calls Tryd.prog 51 #[.float .f64 r, .int .i64 (k : Int)] w fun e w' => e = .returned (.string ⟨(TX.pnt (TX.allOf r k / 10 ^ k) (TX.allOf r k % 10 ^ k) k).toArray⟩) ∧ Below w.heap.size w w' := by
  have HT := Lib.hid ht
  clear ht
  obtain ⟨m1, m2, m3, m4⟩ := TX.mmul hk hr hi
  have hal := TX.allOf_le hk hr hi
  have h15 := ten6_le hk
  have hmul : ∀ w t, (binOp .mul t (.float .f64 r) (.float .f64 (floatOfInt .f64 ((10 ^ k : Nat) : Int)))).run Tryd.prog w = .ok (.float .f64 (TX.mw r k)) w := fun w t => run_float_arith w .mul t .f64 _ _ _ m1
  have hrd := Lib.hid (fun w => mround_any (TX.mw r k) m2 w)
  have hval : FM.val (FM.rndW (TX.mw r k)) / FM.U = TX.allOf r k := FM.rndW_num
  have hcv := fun w => conv_int (r := FM.rndW (TX.mw r k)) (FM.rndW_lt m2) (by rw [hval]; omega) w
  rw [hval] at hcv
  have hp := TX.ten_pos k; have hp6 := TX.ten_le hk
  obtain ⟨T, hT⟩ : ∃ T, T = 10 ^ k := ⟨_, rfl⟩
  obtain ⟨A, hA⟩ : ∃ A, A = TX.allOf r k := ⟨_, rfl⟩
  have hdig : k = 0 ∨ Lib.nDigits (A % T) ≤ k := by
    by_cases h0 : k = 0
    · exact .inl h0
    · exact .inr (TX.nDigits_lt (by rw [hT]; exact Nat.mod_lt _ hp) h0)
  rw [← hA] at hal hcv ⊢
  have HTN := Lib.hid (fun w => tenTo_any k (by omega) w)
  rw [← hT] at hmul hp hp6 HTN ⊢
  have hdl : A / T ≤ A := Nat.div_le_self _ _
  have hml : A % T ≤ A := Nat.mod_le _ _
  have HPT := Lib.hid (fun w ht => pointed_any (A / T) (A % T) k (by omega) (by omega) hk hdig w ht)
  have hA15 : A ≤ 1000000000000000 := by omega
  have q1 : (A : Int) / (T : Int) = ((A / T : Nat) : Int) := by simp
  have q2 : (A : Int) % (T : Int) = ((A % T : Nat) : Int) := by simp
  have HTP := Lib.hid hp
  obtain ⟨AI, hAI⟩ : ∃ AI : Int, (A : Int) = AI := ⟨_, rfl⟩
  obtain ⟨TI, hTI⟩ : ∃ TI : Int, (T : Int) = TI := ⟨_, rfl⟩
  have t0 : 0 < TI := by omega
  have a0 : 0 ≤ AI := by omega
  have tb : TI ≤ 1000000 := by omega
  have ab : AI ≤ 1000000000000000 := by omega
  rw [hAI] at hcv q1 q2
  rw [hTI] at hmul HTN q1 q2
  obtain ⟨S, hS⟩ : ∃ S, S = TX.pnt (A / T) (A % T) k := ⟨_, rfl⟩
  rw [← hS] at HPT ⊢
  rw [← q1, ← q2] at HPT
  obtain ⟨P, hP⟩ : ∃ P, P = TX.mw r k := ⟨_, rfl⟩
  rw [← hP] at hmul hrd hcv
  obtain ⟨F, hF⟩ : ∃ F, F = FM.rndW P := ⟨_, rfl⟩
  rw [← hF] at hrd hcv
  have hne : ¬ TI = 0 := by omega
  have hquo := quo_is AI TI a0 (by omega) t0
  have hrem : AI.tmod TI = AI % TI := Int.tmod_eq_emod_of_nonneg a0
  clear hS q1 q2 hAI hTI hal h15 hdig hT hA hdl hml hA15 hp hp6 m1 m2 m3 m4 hval hr hi hP hF
  go_enter Tryd.func51, Tryd.ntmps51
  go_wp2_with (first | (go_at_call 50; refine (HTN.out _).mono ?_; rintro e w' ⟨rfl, rfl⟩) | (go_at_call 61; refine (hrd.out _).mono ?_; rintro e w' ⟨rfl, rfl⟩))
  go_region_held3 (fun _ => True) (trivial) (first | (go_at_call 44; refine (HPT.out _ (HT.out.below (below_drew _))).mono ?_; rintro e w1 ⟨rfl, b1⟩))
  have B1 := Lib.hid (below_trans (below_drew w) b1)
  clear b1
  go_wp2
  go_ret
  exact ⟨rfl, B1.out⟩

/-- What a round of Write asks of its text. -/
theorem wk_asks {x k : Nat} (_bx : x < 18446744073709551616) (hn : isNam x = false) (hk : k ≤ 6) (hr : FM.val (FM.rg x) < 1000000000 * FM.U) :
    ∃ S, S = TX.mns x ++ TX.pnt (TX.allOf (FM.rg x) k / 10 ^ k) (TX.allOf (FM.rg x) k % 10 ^ k) k ∧ parF S < 18446744073709551616 ∧
      (if (parOk S && (ordI (parF S) x == 0)) = true then wk x k = some S else wk x k = none) ∧ (parOk S = false → wk x k = none) := by
  obtain ⟨h1, h2, h3⟩ := not_nam hn
  have hal := TX.allOf_le hk hr h3
  have h15 := ten6_le hk
  have hp := parse_pnt x (TX.allOf (FM.rg x) k) k hk
  refine ⟨_, rfl, ?_⟩
  obtain ⟨S, hS⟩ : ∃ S, S = TX.mns x ++ TX.pnt (TX.allOf (FM.rg x) k / 10 ^ k) (TX.allOf (FM.rg x) k % 10 ^ k) k := ⟨_, rfl⟩
  have hwk : wk x k = if TX.allOf (FM.rg x) k / 10 ^ k ≤ 999999999 ∧ TX.qw (TX.allOf (FM.rg x) k) k = FM.rg x then some S else none := by unfold wk; rw [← hS]
  rw [← hS] at hp ⊢
  obtain ⟨g1, g2, g3, g4⟩ := qw_good (n := TX.allOf (FM.rg x) k) (k := k) (by omega) hk (FM.sgn x)
  unfold parF parOk
  rw [hp, hwk]
  by_cases hw : TX.allOf (FM.rg x) k / 10 ^ k ≤ 999999999
  · rw [if_pos hw]
    simp only [Option.getD_some, Option.isSome_some, Bool.true_and]
    refine ⟨g4, ?_, fun h => by cases h⟩
    rw [ordI_zero h1 g3 g1, g2]
    by_cases hq : TX.qw (TX.allOf (FM.rg x) k) k = FM.rg x
    · rw [if_pos (decide_eq_true hq), if_pos ⟨hw, hq⟩]
    · rw [decide_eq_false hq, if_neg (by simp), if_neg (fun h => hq h.2)]
  · rw [if_neg hw]
    simp
    exact fun h => absurd h hw
theorem nine_word : ∃ C, floatOfInt .f64 ((10 ^ 9 : Nat) : Int) = C ∧ FM.nan C = false ∧ FM.sv C = (FM.val C : Int) ∧ FM.val C = 1000000000 * FM.U := by
  obtain ⟨C, h1, h2, h3⟩ := FM.ofInt_small ((10 ^ 9 : Nat) : Int) (by decide) (by decide)
  have hb := FM.infR_lt
  refine ⟨C, h1, ?_, ?_, ?_⟩
  · unfold FM.nan FM.rg; rw [decide_eq_false_iff_not]; omega
  · have : FM.sgn C = false := by unfold FM.sgn; simp; omega
    unfold FM.sv; rw [this, rg_of_lt h2]; rfl
  · rw [h3, Int.toNat_natCast]
theorem text_len {x : Nat} {a b k : Nat} (ha : a ≤ 9223372036854775807) (hb : b ≤ 9223372036854775807) (hk : k ≤ 6) : (TX.mns x ++ TX.pnt a b k).length ≤ 51 := by
  have h1 := mns_len x; have h2 := pnt_len ha hb hk
  rw [List.length_append]; omega
set_option maxHeartbeats 2000000 in
theorem write_any (x : Nat) (bx : x < 18446744073709551616) (w : World) (ht : PowIs w) :
    Calls Tryd.prog 33 #[.float .f64 x] w fun e w' => e = .returned (.tuple #[.string ⟨(wrS x).toArray⟩, .bool (wrOk x)]) ∧ Below w.heap.size w w' := by
  have BX := Lib.hid bx; have HT := Lib.hid ht
  clear bx ht
  cases hn : isNam x
  · obtain ⟨h1, h2, h3⟩ := not_nam hn
    have HM := Lib.hid (fun w => minus_any x BX.out w)
    have HAB := Lib.hid (fun w => abs_any x BX.out w)
    have HTN := Lib.hid (fun w => tenTo_any 9 (by decide) w)
    obtain ⟨C, hC, c1, c2, c3⟩ := nine_word
    obtain ⟨NI, hNI⟩ : ∃ NI : Int, NI = ((10 ^ 9 : Nat) : Int) := ⟨_, rfl⟩
    rw [← hNI] at HTN hC
    clear hNI
    rcases size3 (c := C) h1 c1 c2 with ⟨ho, hr⟩ | hge
    · have hlt : FM.val (FM.rg x) < 1000000000 * FM.U := by rw [← c3]; exact FM.val_lt hr
      have HNR := Lib.hid (fun k hk w ht => nearest_any (FM.rg x) k hk hlt h3 w ht)
      have HASK := Lib.hid (fun k hk => wk_asks (k := k) BX.out hn hk hlt)
      have HAT := Lib.hid (fun k s => wr_at (x := x) (k := k) (s := s) hn (by omega))
      have HNOT := Lib.hid (wr_not (x := x) hn (by omega))
      have HALL := Lib.hid (fun k hk => TX.allOf_le (r := FM.rg x) (k := k) hk hlt h3)
      obtain ⟨r, hrr⟩ : ∃ r, r = FM.rg x := ⟨_, rfl⟩
      rw [← hrr] at HAB HNR ho HASK HALL
      clear hrr h1 h2 h3 hr hlt c1 c2 c3
      go_enter Tryd.func33, Tryd.ntmps33
      go_wp2_with (first | (go_at_call 42; refine (named_any _ BX.out _).mono ?_; rintro e w' ⟨rfl, rfl⟩) | (go_at_call 36; refine (HAB.out _).mono ?_; rintro e w' ⟨rfl, rfl⟩) | (go_at_call 50; refine (HTN.out _).mono ?_; rintro e w' ⟨rfl, rfl⟩))
      go_loopw [24] (fun i wr => ∃ (k : Nat), k ≤ 7 ∧ i = .int .i64 (k : Int) ∧ Below w.heap.size w wr ∧ Hid (∀ j < k, wk x j = none)) (fun i _ => 7 - (intOf i).toNat)
      case atStart => exact ⟨0, by decide, rfl, Below.refl _ _, by show ∀ _, _; omega⟩
      case round =>
        obtain ⟨k, hk, rfl, hbw, HJ⟩ := hrel
        have HB := Lib.hid hbw
        have HTW := Lib.hid (HT.out.below hbw)
        clear hbw
        by_cases hlt : k < 7
        · obtain ⟨S, hS, hp64, hask, hnok⟩ := HASK.out k (by omega)
          have HALk := HALL.out k (by omega)
          have h15 := ten6_le (k := k) (by omega)
          have hdl : TX.allOf r k / 10 ^ k ≤ TX.allOf r k := Nat.div_le_self _ _
          have hml : TX.allOf r k % 10 ^ k ≤ TX.allOf r k := Nat.mod_le _ _
          have hSl : S.length ≤ 51 := by rw [hS]; exact text_len (by omega) (by omega) (by omega)
          have hpl := pnt_len (a := TX.allOf r k / 10 ^ k) (b := TX.allOf r k % 10 ^ k) (k := k) (by omega) (by omega) (by omega)
          have HN := Lib.hid (fun w ht => HNR.out k (by omega) w ht)
          obtain ⟨Q, hQ⟩ : ∃ Q, Q = TX.pnt (TX.allOf r k / 10 ^ k) (TX.allOf r k % 10 ^ k) k := ⟨_, rfl⟩
          rw [← hQ] at HN hS hpl
          have happ := str_app (TX.mns x) Q
          rw [← hS] at happ
          have hml2 := mns_len x
          have hs1 := str_size (TX.mns x); have hs2 := str_size Q
          have HPA := Lib.hid (fun w => parse_any S (by unfold maxLen; omega) w)
          have HSM := Lib.hid (fun w => same_any (parF S) x hp64 BX.out w)
          have HASKk := Lib.hid hask
          have HNOK := Lib.hid hnok
          clear hask hnok hp64 hS hQ hdl hml h15 HALk hSl
          go_wp2_with (go_at_call 43; refine (HM.out _).mono ?_; rintro e w' ⟨rfl, rfl⟩)
          refine (HN.out _ HTW.out).mono ?_
          rintro e w1 ⟨rfl, b1⟩
          have B1 := Lib.hid (HB.out.trans (b1.mono HB.out.size))
          clear b1
          go_wp2_with fail
          refine (HPA.out _).mono ?_
          rintro e w2 ⟨rfl, b2⟩
          have B2 := Lib.hid (B1.out.trans (b2.mono B1.out.size))
          clear b2
          cases hok : parOk S
          · have hw0 := HNOK.out hok
            have HJ2 : Hid (∀ j < k + 1, wk x j = none) := Lib.hid (by
              intro j hj
              by_cases h : j = k
              · rw [h]; exact hw0
              · exact HJ.out j (by omega))
            clear hw0
            go_wp2
            go_roundw
            case rel => exact ⟨k + 1, by omega, by go_num, B2.out, HJ2.out⟩
            case measure => simp [intOf]; omega
          · cases hz : (ordI (parF S) x == 0)
            · have hw0 : wk x k = none := by have := HASKk.out; rw [hok, hz] at this; simpa using this
              have HJ2 : Hid (∀ j < k + 1, wk x j = none) := Lib.hid (by
                intro j hj
                by_cases h : j = k
                · rw [h]; exact hw0
                · exact HJ.out j (by omega))
              clear hw0
              go_wp2_with (go_at_call 23; refine (HSM.out _).mono ?_; rintro e w' ⟨rfl, rfl⟩)
              go_roundw
              case rel => exact ⟨k + 1, by omega, by go_num, B2.out, HJ2.out⟩
              case measure => simp [intOf]; omega
            · have hw1 : wk x k = some S := by have := HASKk.out; rw [hok, hz] at this; simpa using this
              obtain ⟨f1, f2⟩ := HAT.out k S hlt HJ.out hw1
              have F1 := Lib.hid f1; have F2 := Lib.hid f2
              clear hw1 f1 f2
              go_wp2_with (go_at_call 23; refine (HSM.out _).mono ?_; rintro e w' ⟨rfl, rfl⟩)
              go_ret2
              exact ret_sb F1.out.symm F2.out.symm B2.out
        · obtain rfl : k = 7 := by omega
          obtain ⟨f1, f2⟩ := HNOT.out HJ.out
          have F1 := Lib.hid f1; have F2 := Lib.hid f2
          clear f1 f2
          go_wp2
          go_ret2
          exact ret_sb F1.out.symm F2.out.symm HB.out
    · have hle : C ≤ FM.rg x := by rcases hge with h | h; exact h.2; exact h.2
      have hbig : 1000000000 * FM.U ≤ FM.val (FM.rg x) := by rw [← c3]; exact FM.val_le hle
      obtain ⟨f1, f2⟩ := wr_big hn hbig
      have F1 := Lib.hid f1; have F2 := Lib.hid f2
      clear f1 f2 hle hbig h1 h2 h3 c1 c2 c3
      rcases hge with ⟨ho, _⟩ | ⟨ho, _⟩
      all_goals
        go_enter Tryd.func33, Tryd.ntmps33
        go_wp2_with (first | (go_at_call 42; refine (named_any _ BX.out _).mono ?_; rintro e w' ⟨rfl, rfl⟩) | (go_at_call 36; refine (HAB.out _).mono ?_; rintro e w' ⟨rfl, rfl⟩) | (go_at_call 50; refine (HTN.out _).mono ?_; rintro e w' ⟨rfl, rfl⟩))
        go_ret2
        exact ret_sb F1.out.symm F2.out.symm (Below.refl _ _)
  · obtain ⟨f1, f2⟩ := wr_nam hn
    have F1 := Lib.hid f1; have F2 := Lib.hid f2
    clear f1 f2
    go_enter Tryd.func33, Tryd.ntmps33
    go_wp2_with (go_at_call 42; refine (named_any _ BX.out _).mono ?_; rintro e w' ⟨rfl, rfl⟩)
    go_ret2
    exact ret_sb F1.out.symm F2.out.symm (Below.refl _ _)
end Go.Proofs.YtbinhlnekhglkaaDoor
