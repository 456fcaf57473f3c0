/- The walk of AskMakes. -/
import Derived.Test.YthbmmnjpiflgdaaAkL
namespace Go.Proofs.Ythbmmnjpiflgdaa
open Go.RowKit

theorem LA.four {w x : World} {p : Nat} {a : K.A} {vd : Value} (h : LA w p a vd x) : x.cell? ⟨p, 0, none⟩ = some (.int .i64 a.1) ∧ x.cell? ⟨p, 1, none⟩ = some (.string ⟨a.2.1.toArray⟩) ∧ x.cell? ⟨p, 2, none⟩ = some (.int .i64 a.2.2.1) ∧ x.cell? ⟨p, 3, none⟩ = some vd := h.st.cells
/-- What both Encodes answer: the same bytes. -/
def Enc2 (w : World) (c : Bool) (bs : List UInt8) (e : Ending) (w' : World) : Prop := ∃ ao n cap, e = .returned (.tuple #[.slice ao n cap, .int .i64 (errOf c)]) ∧ Rdv w' (.slice ao n cap) (bv bs) ∧ Below w.heap.size w w'
def encOf (a : K.A) : List UInt8 := if K.chk a then K.enc a else []
theorem enc2_of {w : World} {a : K.A} {e : Ending} {w' : World} (h : Enc w a e w') : Enc2 w (K.chk a) (encOf a) e w' := by
  obtain ⟨b, hc⟩ := h
  rcases hc with ⟨h1, v', rfl, hv⟩ | ⟨h1, rfl⟩
  · unfold encOf
    rw [h1, if_pos rfl]
    obtain ⟨ao, cap, rfl, -⟩ := id hv
    exact ⟨ao, _, cap, rfl, hv, b⟩
  · unfold encOf
    rw [h1]
    exact ⟨none, 0, 0, rfl, Rdv.nil _, b⟩

set_option maxHeartbeats 8000000 in
theorem askMakes_walk (vd : Value) (a : K.A) (w : World) (hr : Rdd w vd a.2.2.2) (hf : FitA a) :
    Calls Try.prog 3 #[.agg #[.int .i64 a.1, .string ⟨a.2.1.toArray⟩, .int .i64 a.2.2.1, vd]] w (Holds w) := by
  have HA0 := Lib.hid (LA.start hr)
  have HHV := Lib.hid (fun x (h : LA w w.heap.size a vd x) => heavy_any a vd x h.rd)
  have HE1 := Lib.hid (fun x (h : LA w w.heap.size a vd x) => (encode_any a vd x h.rd hf).mono fun _ _ => enc2_of)
  have HE2 := Lib.hid (fun x (h : LA w w.heap.size a vd x) => (rencode_any a vd x h.rd hf).mono fun _ _ => enc2_of)
  have HC1 := Lib.hid (fun x (h : LA w w.heap.size a vd x) => acheck_any a vd x h.rd hf)
  have HC2 := Lib.hid (fun x (h : LA w w.heap.size a vd x) => rcheckAsk_any a vd x h.rd hf)
  have HH1 := Lib.hid (fun x (h : LA w w.heap.size a vd x) => hits_any a vd x h.rd)
  have HH2 := Lib.hid (fun x (h : LA w w.heap.size a vd x) => rhits_any a vd x h.rd)
  obtain ⟨ad, cd, rfl, -⟩ := hr
  generalize K.chk a = r at *
  generalize encOf a = bs at *
  generalize K.hits a = hh at *
  go_enter Try.func3, Try.ntmps3
  go_wp2_with fail
  refine (HHV.out _ HA0.out).mono ?_
  rintro e w1 ⟨b, rfl, b1⟩
  have HA1 := Lib.hid (HA0.out.later b1)
  clear b1 HA0 HHV
  cases b
  case true =>
    go_wp2_with fail
    refine (awake7 _).mono ?_
    rintro e w2 ⟨rfl, b2⟩
    have HB2 := Lib.hid (below_trans HA1.out.below b2)
    clear b2
    go_wp2
    go_ret
    exact ⟨rfl, HB2.out⟩
  obtain ⟨k0, k1, k2, k3⟩ := HA1.out.four
  go_wp2_with fail
  refine (HE1.out _ HA1.out).mono ?_
  rintro e w2 ⟨a2, n2, c2, rfl, hv2, b2⟩
  have HA2 := Lib.hid (HA1.out.later b2)
  have HV2 := Lib.hid hv2
  clear b2 HA1 HE1 hv2 k0 k1 k2 k3
  obtain ⟨k0, k1, k2, k3⟩ := HA2.out.four
  go_wp2_with fail
  refine (HE2.out _ HA2.out).mono ?_
  rintro e w3 ⟨a3, n3, c3, rfl, hv3, b3⟩
  have HA3 := Lib.hid (HA2.out.later b3)
  have HV3 := Lib.hid hv3
  have HU3 := Lib.hid (HV2.out.below b3)
  have HBY := Lib.hid (fun x (h : Below w3.heap.size w3 x) => rbytes_true (HU3.out.below h) (HV3.out.below h) rfl)
  have HA4 := Lib.hid (HA3.out.later (below_drew _))
  clear b3 HA2 HV2 HE2 hv3 k0 k1 k2 k3
  have er : ((errOf r) == (errOf r)) = true := by simp
  have eh : (hh == hh) = true := by simp
  go_wp2
  go_region_held3 (fun x => x.cell? ⟨w.heap.size, 0, none⟩ = some (.int .i64 a.1) ∧ x.cell? ⟨w.heap.size, 1, none⟩ = some (.string ⟨a.2.1.toArray⟩) ∧ x.cell? ⟨w.heap.size, 2, none⟩ = some (.int .i64 a.2.2.1) ∧ x.cell? ⟨w.heap.size, 3, none⟩ = some (.slice ad a.2.2.2.length cd)) (first | exact HA4.out.four | exact HA5.out.four | exact HA6.out.four | exact HA7.out.four | exact HA8.out.four | exact HA9.out.four) (first
    | (go_at_call 12; refine (HC1.out _ HA4.out).mono ?_; rintro e w5 ⟨rfl, b5⟩; have HA5 := Lib.hid (HA4.out.later b5); have B5 := Lib.hid (below_undrew b5); clear b5)
    | (go_at_call 14; refine (HC2.out _ HA5.out).mono ?_; rintro e w6 ⟨rfl, b6⟩; have HA6 := Lib.hid (HA5.out.later b6); have B6 := Lib.hid (below_trans B5.out b6); clear b6)
    | (go_at_call 13; refine (code_any _ _).mono ?_; rintro e w66 ⟨rfl, hw66⟩; subst hw66)
    | (go_at_call 15; refine (HH1.out _ HA6.out).mono ?_; rintro e w7 ⟨rfl, b7⟩; have HA7 := Lib.hid (HA6.out.later b7); have B7 := Lib.hid (below_trans B6.out b7); clear b7)
    | (go_at_call 16; refine (HH2.out _ HA7.out).mono ?_; rintro e w8 ⟨rfl, b8⟩; have HA8 := Lib.hid (HA7.out.later b8); have B8 := Lib.hid (below_trans B7.out b8); clear b8)
    | (go_at_call 17; refine (HBY.out _ B8.out).mono ?_; rintro e w88 ⟨rfl, hw88⟩; subst hw88)
    | (go_at_call 9; refine (awake7 _).mono ?_; rintro e w9 ⟨rfl, b9⟩; have HA9 := Lib.hid (HA8.out.later b9); clear b9))
  have HB9 := Lib.hid HA9.out.below
  clear HA4 HA5 HA6 HA7 HA8 HA9 B5 B6 B7 B8
  go_wp2
  go_ret
  exact ⟨rfl, HB9.out⟩
end Go.Proofs.Ythbmmnjpiflgdaa
