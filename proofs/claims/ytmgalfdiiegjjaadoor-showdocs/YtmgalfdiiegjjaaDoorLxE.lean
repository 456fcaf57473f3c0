/- Walks of lex.escape and lex.plain; how quotes are read, step by step. -/
import Derived.Test.YtmgalfdiiegjjaaDoorSeg06
import Derived.BigQuiet
namespace Go.Proofs.YtmgalfdiiegjjaaDoor
open Go.RowKit

/-- What is told of a text that is quoted, at a call's end. -/
def StrE (o : Option (List UInt8)) (k : Int) : Ending := match o with | some x => .returned (.string ⟨x.toArray⟩) | none => .panicked (gave k)
def EscE (o : Option (UInt8 × Nat)) : Ending := match o with | some x => .returned (.tuple #[.int .u8 (x.1.toNat : Int), .int .i64 (x.2 : Int)]) | none => .panicked (gave 3)
def hexes : List UInt8 := [48, 49, 50, 51, 52, 53, 54, 55, 56, 57, 97, 98, 99, 100, 101, 102]
def hxi (c : UInt8) : Int := match LX.hx c with | some x => (x : Int) | none => -1
theorem hx_index : ∀ n : Fin 256, Lib.indexByte hexes (UInt8.ofNat n.val) = hxi (UInt8.ofNat n.val) := by decide +kernel
theorem hx_any (c : UInt8) : Lib.indexByte hexes c = hxi c := by
  have := hx_index ⟨c.toNat, c.toNat_lt⟩
  simpa using this
theorem hxi_some {c : UInt8} {x : Nat} (h : LX.hx c = some x) : hxi c = (x : Int) ∧ x < 16 := by
  refine ⟨by unfold hxi; rw [h], ?_⟩
  unfold LX.hx at h
  split at h
  · cases h; omega
  · split at h
    · cases h; omega
    · cases h
theorem hxi_none {c : UInt8} (h : LX.hx c = none) : hxi c = -1 := by unfold hxi; rw [h]
theorem ibyte_any (c : UInt8) (z : Int) (hz : (c.toNat : Int) = z) (h : Int) (hh : hxi c = h) (w : World) : Calls Tryd.prog 79 #[.string ⟨#[48, 49, 50, 51, 52, 53, 54, 55, 56, 57, 97, 98, 99, 100, 101, 102]⟩, .int .u8 z] w fun e w' => e = .returned (.int .i64 h) ∧ w' = w := by
  subst hz hh
  have := Tryd.strings_IndexByte ⟨#[48, 49, 50, 51, 52, 53, 54, 55, 56, 57, 97, 98, 99, 100, 101, 102]⟩ (c.toNat : Int) w
  have e1 : Lib.indexByte (ByteArray.mk #[48, 49, 50, 51, 52, 53, 54, 55, 56, 57, 97, 98, 99, 100, 101, 102]).data.toList (c.toNat : Int).toNat.toUInt8 = hxi c := by
    rw [← hx_any]; simp [hexes]
  rw [e1] at this
  exact this
def oddi (c : UInt8) : Int := Lib.indexByte LX.bars c
theorem odd_index : ∀ n : Fin 256, Lib.indexByte LX.bars (UInt8.ofNat n.val) < 0 ↔ LX.odd (UInt8.ofNat n.val) = false := by decide +kernel
theorem oddi_any (c : UInt8) : oddi c < 0 ↔ LX.odd c = false := by
  have := odd_index ⟨c.toNat, c.toNat_lt⟩
  simp only [UInt8.ofNat_toNat] at this
  exact this
theorem bbyte_any (c : UInt8) (z : Int) (hz : (c.toNat : Int) = z) (w : World) : Calls Tryd.prog 79 #[.string ⟨#[91, 93, 123, 125, 38, 42, 33, 124, 62, 37, 64, 44, 63, 96]⟩, .int .u8 z] w fun e w' => e = .returned (.int .i64 (oddi c)) ∧ w' = w := by
  subst hz
  have := Tryd.strings_IndexByte ⟨#[91, 93, 123, 125, 38, 42, 33, 124, 62, 37, 64, 44, 63, 96]⟩ (c.toNat : Int) w
  have e1 : Lib.indexByte (ByteArray.mk #[91, 93, 123, 125, 38, 42, 33, 124, 62, 37, 64, 44, 63, 96]).data.toList (c.toNat : Int).toNat.toUInt8 = oddi c := by
    simp [oddi, LX.bars]
  rw [e1] at this
  exact this

theorem esc_no {d : UInt8} {u : List UInt8} (h1 : d ≠ 92) (h2 : d ≠ 34) (h3 : d ≠ 110) (h4 : d ≠ 116) (h5 : d ≠ 120) : LX.esc (d :: u) = none := by
  simp [LX.esc, h1, h2, h3, h4, h5]
theorem esc_xs {a b : UInt8} {v : List UInt8} {x y : Nat} (ha : LX.hx a = some x) (hb : LX.hx b = some y) : LX.esc (120 :: a :: b :: v) = some (UInt8.ofNat (16 * x + y), 3) := by
  simp [LX.esc, ha, hb]
theorem esc_xa {a b : UInt8} {v : List UInt8} (ha : LX.hx a = none) : LX.esc (120 :: a :: b :: v) = none := by
  simp [LX.esc, ha]
theorem esc_xb {a b : UInt8} {v : List UInt8} (hb : LX.hx b = none) : LX.esc (120 :: a :: b :: v) = none := by
  cases ha : LX.hx a <;> simp [LX.esc, ha, hb]

theorem lmust_any (b : Bool) (k : Int) (w : World) :
    Calls Tryd.prog 64 #[.bool b, .int .i64 k] w fun e w' => e = (if b then .returned (.tuple #[]) else .panicked (gave k)) ∧ w' = w := by
  cases b
  · exact lmust_false k w
  · exact lmust_true k w
theorem zne {c : UInt8} {z : Int} (hz : (c.toNat : Int) = z) (k : Nat) (_hk : k < 256) (h : c ≠ UInt8.ofNat k) : (z == (k : Int)) = false := by
  refine beq_eq_false_iff_ne.2 fun e => h ?_
  have : c.toNat = k := by omega
  rw [← this]; simp
theorem or_all : ∀ x y : Fin 16, bits .or .i64 ((x.val : Int) * 16) (y.val : Int) % 256 = ((UInt8.ofNat (16 * x.val + y.val)).toNat : Int) := by decide +kernel
theorem or_hex {x y : Nat} (hx : x < 16) (hy : y < 16) : bits .or .i64 ((x : Int) * 16) (y : Int) % 256 = ((UInt8.ofNat (16 * x + y)).toNat : Int) := or_all ⟨x, hx⟩ ⟨y, hy⟩
theorem first_z {d : UInt8} {u : List UInt8} {z : Int} (hz : (d.toNat : Int) = z) (h : 0 < (⟨(d :: u).toArray⟩ : ByteArray).size) : ((((⟨(d :: u).toArray⟩ : ByteArray)[0]'h).toNat : Nat) : Int) = z := at_z (l := d :: u) (p := 0) rfl hz h
set_option maxHeartbeats 4000000 in
theorem escape_any (l : List UInt8) (w : World) (hl : l.length ≤ 100000) :
    Calls Tryd.prog 90 #[.string ⟨l.toArray⟩] w fun e w' => e = EscE (LX.esc l) ∧ Below w.heap.size w w' := by
  cases l with
  | nil =>
    have HM := Lib.hid (fun x => lmust_false 3 x)
    go_enter Tryd.func90, Tryd.ntmps90
    go_wp2_with fail
    refine (HM.out _).mono ?_
    rintro e w1 ⟨rfl, rfl⟩
    exact ⟨rfl, rfl, Below.refl _ _⟩
  | cons d u =>
    have hne : ((d :: u) == ([] : List UInt8)) = false := rfl
    have hsz := str_size (d :: u)
    obtain ⟨z, hz⟩ : ∃ z : Int, (d.toNat : Int) = z := ⟨_, rfl⟩
    have hp : 0 < (⟨(d :: u).toArray⟩ : ByteArray).size := by rw [hsz]; simp
    have hi := first_z (u := u) hz hp
    have hub := d.toNat_lt
    have hz0 : 0 ≤ z := by omega
    have hz1 : z < 256 := by omega
    have HM := Lib.hid (fun x => lmust_true 3 x)
    have HZ := Lib.hid hz
    obtain ⟨n, hn⟩ : ∃ n, (d :: u).length = n := ⟨_, rfl⟩
    have HN := Lib.hid hn
    rw [hn] at hsz hl
    clear hz hub hn
    have path : (d = 92 ∨ d = 34 ∨ d = 110 ∨ d = 116) ∨ d = 120 ∨ (d ≠ 92 ∧ d ≠ 34 ∧ d ≠ 110 ∧ d ≠ 116 ∧ d ≠ 120) := by
      by_cases h1 : d = 92
      · exact .inl (.inl h1)
      · by_cases h2 : d = 34
        · exact .inl (.inr (.inl h2))
        · by_cases h3 : d = 110
          · exact .inl (.inr (.inr (.inl h3)))
          · by_cases h4 : d = 116
            · exact .inl (.inr (.inr (.inr h4)))
            · by_cases h5 : d = 120
              · exact .inr (.inl h5)
              · exact .inr (.inr ⟨h1, h2, h3, h4, h5⟩)
    rcases path with h | rfl | ⟨h1, h2, h3, h4, h5⟩
    · rcases h with rfl | rfl | rfl | rfl
      all_goals
        obtain rfl := HZ.out
        go_enter Tryd.func90, Tryd.ntmps90
        go_wp2_with (go_at_call 64; refine (HM.out _).mono ?_; rintro e w1 ⟨rfl, hw1⟩; replace hw1 := hw1.symm; subst hw1)
        go_ret2
        exact ⟨rfl, Below.refl _ _⟩
    · obtain rfl : z = 120 := HZ.out.symm
      match u, hp, hi, hsz, HN, hne with
      | [], hp, hi, hsz, HN, hne =>
        have HF := Lib.hid (fun x => lmust_false 3 x)
        obtain rfl : n = 1 := HN.out.symm
        go_enter Tryd.func90, Tryd.ntmps90
        go_wp2_with fail
        refine (HM.out _).mono ?_
        rintro e w1 ⟨rfl, hw1⟩
        replace hw1 := hw1.symm
        subst hw1
        go_wp2_with fail
        refine (HF.out _).mono ?_
        rintro e w1 ⟨rfl, rfl⟩
        exact ⟨rfl, rfl, Below.refl _ _⟩
      | [a], hp, hi, hsz, HN, hne =>
        have HF := Lib.hid (fun x => lmust_false 3 x)
        obtain rfl : n = 2 := HN.out.symm
        go_enter Tryd.func90, Tryd.ntmps90
        go_wp2_with fail
        refine (HM.out _).mono ?_
        rintro e w1 ⟨rfl, hw1⟩
        replace hw1 := hw1.symm
        subst hw1
        go_wp2_with fail
        refine (HF.out _).mono ?_
        rintro e w1 ⟨rfl, rfl⟩
        exact ⟨rfl, rfl, Below.refl _ _⟩
      | a :: b :: v, hp, hi, hsz, HN, hne =>
        have h3 : 3 ≤ n := by have := HN.out; simp at this; omega
        have hgt : (2 : Int) < (n : Int) := by omega
        obtain ⟨za, hza⟩ : ∃ z : Int, (a.toNat : Int) = z := ⟨_, rfl⟩
        obtain ⟨zb, hzb⟩ : ∃ z : Int, (b.toNat : Int) = z := ⟨_, rfl⟩
        have hl1 : 1 < (⟨(120 :: a :: b :: v).toArray⟩ : ByteArray).size := by omega
        have hl2 : 2 < (⟨(120 :: a :: b :: v).toArray⟩ : ByteArray).size := by omega
        have i1 := at_z (l := 120 :: a :: b :: v) (p := 1) rfl hza hl1
        have i2 := at_z (l := 120 :: a :: b :: v) (p := 2) rfl hzb hl2
        have hua := a.toNat_lt
        have hub := b.toNat_lt
        have a0 : 0 ≤ za := by omega
        have a1 : za < 256 := by omega
        have b0 : 0 ≤ zb := by omega
        have b1 : zb < 256 := by omega
        have HA := Lib.hid (fun x => ibyte_any a za hza _ rfl x)
        have HB := Lib.hid (fun x => ibyte_any b zb hzb _ rfl x)
        clear hza hzb hua hub
        cases ha : LX.hx a with
        | none =>
          have E := Lib.hid (esc_xa (b := b) (v := v) ha)
          rw [hxi_none ha] at HA
          have HF := Lib.hid (fun x => lmust_false 3 x)
          generalize hxi b = hb' at HB
          clear ha
          go_enter Tryd.func90, Tryd.ntmps90
          go_wp2_with fail
          refine (HM.out _).mono ?_
          rintro e w1 ⟨rfl, hw1⟩
          replace hw1 := hw1.symm
          subst hw1
          go_wp2_with fail
          refine (HM.out _).mono ?_
          rintro e w1 ⟨rfl, hw1⟩
          replace hw1 := hw1.symm
          subst hw1
          go_wp2_with fail
          go_quiet (first | (with_reducible refine Calls.quiet_of_same (HA.out _)) | (with_reducible refine Calls.quiet_of_same (HB.out _)))
          go_wp2_with fail
          refine (HF.out _).mono ?_
          rintro e w1 ⟨rfl, rfl⟩
          exact ⟨rfl, by rw [E.out]; rfl, below_drewN _ _⟩
        | some x =>
          obtain ⟨hx1, hx2⟩ := hxi_some ha
          rw [hx1] at HA
          cases hb : LX.hx b with
          | none =>
            have E := Lib.hid (esc_xb (a := a) (v := v) hb)
            rw [hxi_none hb] at HB
            have HF := Lib.hid (fun x => lmust_false 3 x)
            clear ha hb hx1
            go_enter Tryd.func90, Tryd.ntmps90
            go_wp2_with fail
            refine (HM.out _).mono ?_
            rintro e w1 ⟨rfl, hw1⟩
            replace hw1 := hw1.symm
            subst hw1
            go_wp2_with fail
            refine (HM.out _).mono ?_
            rintro e w1 ⟨rfl, hw1⟩
            replace hw1 := hw1.symm
            subst hw1
            go_wp2_with fail
            go_quiet (first | (with_reducible refine Calls.quiet_of_same (HA.out _)) | (with_reducible refine Calls.quiet_of_same (HB.out _)))
            go_wp2_with fail
            refine (HF.out _).mono ?_
            rintro e w1 ⟨rfl, rfl⟩
            exact ⟨rfl, by rw [E.out]; rfl, below_drewN _ _⟩
          | some y =>
            obtain ⟨hy1, hy2⟩ := hxi_some hb
            rw [hy1] at HB
            have E := Lib.hid (esc_xs (v := v) ha hb)
            clear ha hb hx1 hy1
            go_enter Tryd.func90, Tryd.ntmps90
            go_wp2_with fail
            refine (HM.out _).mono ?_
            rintro e w1 ⟨rfl, hw1⟩
            replace hw1 := hw1.symm
            subst hw1
            go_wp2_with fail
            refine (HM.out _).mono ?_
            rintro e w1 ⟨rfl, hw1⟩
            replace hw1 := hw1.symm
            subst hw1
            go_wp2_with fail
            go_quiet (first | (with_reducible refine Calls.quiet_of_same (HA.out _)) | (with_reducible refine Calls.quiet_of_same (HB.out _)))
            go_wp2_with fail
            refine (HM.out _).mono ?_
            rintro e w1 ⟨rfl, hw1⟩
            replace hw1 := hw1.symm
            subst hw1
            go_wp2
            go_ret2
            refine ⟨?_, below_drewN _ _⟩
            rw [E.out]
            show Ending.returned (.tuple #[.int .u8 _, .int .i64 3]) = _
            rw [or_hex hx2 hy2]
            rfl
    · have E := Lib.hid (esc_no (u := u) h1 h2 h3 h4 h5)
      have q92 := zne HZ.out 92 (by decide) h1
      have q34 := zne HZ.out 34 (by decide) h2
      have q110 := zne HZ.out 110 (by decide) h3
      have q116 := zne HZ.out 116 (by decide) h4
      have q120 := zne HZ.out 120 (by decide) h5
      clear h1 h2 h3 h4 h5
      go_enter Tryd.func90, Tryd.ntmps90
      go_wp2_with (go_at_call 64; refine (HM.out _).mono ?_; rintro e w1 ⟨rfl, hw1⟩; replace hw1 := hw1.symm; subst hw1)
      exact ⟨rfl, by rw [E.out]; rfl, Below.refl _ _⟩

def okPlain (l : List UInt8) : Bool := match l with | [] => false | c :: t => !(LX.odd c || LX.dash (c :: t) || decide (0 < LX.key (c :: t)))
def PlE (l : List UInt8) : Ending := if okPlain l then .returned (.string ⟨l.toArray⟩) else .panicked (gave 4)
theorem ple_no {l : List UInt8} (h : okPlain l = false) : PlE l = .panicked (gave 4) := by unfold PlE; rw [h]; rfl
theorem ple_yes {l : List UInt8} (h : okPlain l = true) : PlE l = .returned (.string ⟨l.toArray⟩) := by unfold PlE; rw [h]; rfl
set_option maxHeartbeats 4000000 in
theorem plain_any (c : UInt8) (t : List UInt8) (w : World) (hl : (c :: t).length ≤ 100000) :
    Calls Tryd.prog 77 #[.string ⟨(c :: t).toArray⟩] w fun e w' => e = PlE (c :: t) ∧ w' = w := by
  have hsz := str_size (c :: t)
  obtain ⟨z, hz⟩ : ∃ z : Int, (c.toNat : Int) = z := ⟨_, rfl⟩
  have hp : 0 < (⟨(c :: t).toArray⟩ : ByteArray).size := by rw [hsz]; simp
  have hi := first_z (u := t) hz hp
  have hub := c.toNat_lt
  have hz0 : 0 ≤ z := by omega
  have hz1 : z < 256 := by omega
  have HI := Lib.hid (bbyte_any c z hz w)
  have HT := Lib.hid (lmust_true 4 w)
  have HF := Lib.hid (lmust_false 4 w)
  have HD := Lib.hid (ldash_any (c :: t) w)
  have HK := Lib.hid (keySize_any (c :: t) w hl)
  have ho := oddi_any c
  obtain ⟨o, hoo⟩ : ∃ o, oddi c = o := ⟨_, rfl⟩
  rw [hoo] at HI ho
  have ok : okPlain (c :: t) = !(LX.odd c || LX.dash (c :: t) || decide (0 < LX.key (c :: t))) := rfl
  obtain ⟨n, hn⟩ : ∃ n, (c :: t).length = n := ⟨_, rfl⟩
  rw [hn] at hsz hl
  clear hz hub hn hoo
  generalize LX.dash (c :: t) = db at *
  generalize LX.key (c :: t) = kn at *
  cases hodd : LX.odd c with
  | true =>
    have E := Lib.hid (show okPlain (c :: t) = false by rw [ok, hodd]; rfl)
    have h0 : decide (o < 0) = false := decide_eq_false fun h => by rw [ho.1 h] at hodd; cases hodd
    clear ok ho hodd
    go_enter Tryd.func77, Tryd.ntmps77
    go_wp2_with fail
    refine HI.out.mono ?_
    rintro e w1 ⟨rfl, hw1⟩
    replace hw1 := hw1.symm
    subst hw1
    go_wp2_with fail
    refine HF.out.mono ?_
    rintro e w1 ⟨rfl, rfl⟩
    exact ⟨rfl, (ple_no E.out).symm, rfl⟩
  | false =>
    have h0 : o < 0 := ho.2 hodd
    rw [hodd] at ok
    clear ho hodd
    cases db with
    | true =>
      have E := Lib.hid (show okPlain (c :: t) = false by rw [ok]; rfl)
      clear ok
      go_enter Tryd.func77, Tryd.ntmps77
      go_wp2_with fail
      refine HI.out.mono ?_
      rintro e w1 ⟨rfl, hw1⟩
      replace hw1 := hw1.symm
      subst hw1
      go_wp2_with fail
      refine HT.out.mono ?_
      rintro e w1 ⟨rfl, hw1⟩
      replace hw1 := hw1.symm
      subst hw1
      go_wp2_with (go_at_call 66; refine HD.out.mono ?_; rintro e w1 ⟨rfl, hw1⟩; replace hw1 := hw1.symm; subst hw1)
      refine HF.out.mono ?_
      rintro e w1 ⟨rfl, rfl⟩
      exact ⟨rfl, (ple_no E.out).symm, rfl⟩
    | false =>
      by_cases hk : kn = 0
      · have E := Lib.hid (show okPlain (c :: t) = true by rw [ok, hk]; rfl)
        subst hk
        clear ok
        go_enter Tryd.func77, Tryd.ntmps77
        go_wp2_with fail
        refine HI.out.mono ?_
        rintro e w1 ⟨rfl, hw1⟩
        replace hw1 := hw1.symm
        subst hw1
        go_wp2_with fail
        refine HT.out.mono ?_
        rintro e w1 ⟨rfl, hw1⟩
        replace hw1 := hw1.symm
        subst hw1
        go_wp2_with (first
          | (go_at_call 66; refine HD.out.mono ?_; rintro e w1 ⟨rfl, hw1⟩; replace hw1 := hw1.symm; subst hw1)
          | (go_at_call 68; refine HK.out.mono ?_; rintro e w1 ⟨rfl, hw1⟩; replace hw1 := hw1.symm; subst hw1)
          | (go_at_call 64; refine HT.out.mono ?_; rintro e w1 ⟨rfl, hw1⟩; replace hw1 := hw1.symm; subst hw1))
        go_ret
        exact ⟨(ple_yes E.out).symm, rfl⟩
      · have E := Lib.hid (show okPlain (c :: t) = false by rw [ok, decide_eq_true (by omega)]; rfl)
        have hk1 : ((kn : Int) == 0) = false := beq_eq_false_iff_ne.2 (by omega)
        have hk2 : ¬ (kn : Int) = 0 := by omega
        clear ok
        go_enter Tryd.func77, Tryd.ntmps77
        go_wp2_with fail
        refine HI.out.mono ?_
        rintro e w1 ⟨rfl, hw1⟩
        replace hw1 := hw1.symm
        subst hw1
        go_wp2_with fail
        refine HT.out.mono ?_
        rintro e w1 ⟨rfl, hw1⟩
        replace hw1 := hw1.symm
        subst hw1
        go_wp2_with (first
          | (go_at_call 66; refine HD.out.mono ?_; rintro e w1 ⟨rfl, hw1⟩; replace hw1 := hw1.symm; subst hw1)
          | (go_at_call 68; refine HK.out.mono ?_; rintro e w1 ⟨rfl, hw1⟩; replace hw1 := hw1.symm; subst hw1))
        refine HF.out.mono ?_
        rintro e w1 ⟨rfl, rfl⟩
        exact ⟨rfl, (ple_no E.out).symm, rfl⟩
end Go.Proofs.YtmgalfdiiegjjaaDoor
