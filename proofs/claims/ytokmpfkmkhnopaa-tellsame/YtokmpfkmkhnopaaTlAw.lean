/- The walk of awake. -/
import Derived.Test.YtokmpfkmkhnopaaTlG
import Derived.Test.YtokmpfkmkhnopaaTlI
import Derived.Test.YtokmpfkmkhnopaaTlQ
import Derived.Test.YtokmpfkmkhnopaaVarP
namespace Go.Proofs.Ytokmpfkmkhnopaa
open Go.RowKit

def tA : TL.T := (1, 1, false, [], [])
def tX : TL.T := (1, 2, true, [(2, 10, 2, 4, 55)], [([97], [98])])
def tN : TL.T := (0, 0, false, [], [])
theorem chk_tA : TL.chk tA = true := by decide
theorem chk_tX : TL.chk tX = true := by decide
theorem chk_tN : TL.chk tN = false := by decide
theorem enc_tA : TL.enc tA = [2, 1, 1, 0, 0, 0] := by
  have p0 : V.put 0 = [0] := by rw [V.put_small (by omega)]; rfl
  have p1 : V.put 1 = [1] := by rw [V.put_small (by omega)]; rfl
  simp [TL.enc, TL.mid, TL.head, TL.fz, TL.enSs, K.enEs, tA, p0, p1]
theorem enc_tX : TL.enc tX = [2, 1, 2, 1, 1, 2, 10, 2, 4, 55, 1, 1, 97, 1, 98] := by
  have p1 : V.put 1 = [1] := by rw [V.put_small (by omega)]; rfl
  have p2 : V.put 2 = [2] := by rw [V.put_small (by omega)]; rfl
  have p4 : V.put 4 = [4] := by rw [V.put_small (by omega)]; rfl
  have p10 : V.put 10 = [10] := by rw [V.put_small (by omega)]; rfl
  have p55 : V.put 55 = [55] := by rw [V.put_small (by omega)]; rfl
  simp [TL.enc, TL.mid, TL.head, TL.fz, TL.enSs, TL.enS, K.enEs, K.enE, K.tx, tX, p1, p2, p4, p10, p55]
theorem dec_tX : TL.dec [2, 1, 2, 1, 1, 2, 10, 2, 4, 55, 1, 1, 97, 1, 98] = some tX := by rw [← enc_tX]; exact TL.dec_enc chk_tX
theorem dec_one : TL.dec [1] = none := rfl
theorem same_tX : TL.same tX tX = true := TL.same_self _
theorem same_tAX : TL.same tA tX = false := by decide
theorem fits_nil : Fits [] := fun _ h => by cases h

/-- Where awake stands: its reply, as it lies. -/
structure AT (w x : World) : Prop where
  below : Below w.heap.size w x
  st : Str x w.heap.size 25 #[.int .i64 1, .int .i64 1, .bool false, .slice none 0 0, .slice none 0 0]
theorem AT.later {w x y : World} (h : AT w x) (hb : Below x.heap.size x y) : AT w y := ⟨below_trans h.below hb, h.st.below hb⟩
theorem AT.start (w : World) : AT w (w.alloc (.cells #[.int .i64 1, .int .i64 1, .bool false, .slice none 0 0, .slice none 0 0] 25)) := ⟨below_alloc _ _, Str.new _ _ _⟩
/-- A reply written out: its slices. -/
def wX (w : World) : World := (w.alloc (.cells #[.int .i64 2, .int .i64 10, .int .i64 2, .int .i64 4, .int .i64 55] 41)).alloc (.cells #[.string ⟨#[97]⟩, .string ⟨#[98]⟩] 39)
theorem wX_below (w : World) : Below w.heap.size w (wX w) := below_trans (below_alloc _ _) (below_alloc _ _)
theorem wX_rd (w : World) : Rdt (wX w) (.slice (some ⟨w.heap.size, 0, none⟩) 1 1) (.slice (some ⟨w.heap.size + 1, 0, none⟩) 1 1) tX.2.2.2.1 tX.2.2.2.2 := by
  constructor
  · refine Rds.below ?_ (below_alloc _ _)
    refine ⟨some ⟨w.heap.size, 0, none⟩, 1, rfl, by decide, by simp [maxLen], by simp, fun j s hs => ?_⟩
    match j, hs with
    | 0, hs =>
      obtain rfl : ((2, 10, 2, 4, 55) : TL.S) = s := Option.some.inj hs
      exact ⟨_, 0, rfl, (Str.new w 41 #[.int .i64 2, .int .i64 10, .int .i64 2, .int .i64 4, .int .i64 55]).at5 (s := (2, 10, 2, 4, 55))⟩
    | j + 1, hs => simp [tX] at hs
  · refine ⟨some ⟨w.heap.size + 1, 0, none⟩, 1, rfl, by decide, by simp [maxLen], by simp, fun j e he => ?_⟩
    match j, he with
    | 0, he =>
      obtain rfl : (([97], [98]) : D.E) = e := Option.some.inj he
      have hs := Str.new (w.alloc (.cells #[.int .i64 2, .int .i64 10, .int .i64 2, .int .i64 4, .int .i64 55] 41)) 39 #[.string ⟨#[97]⟩, .string ⟨#[98]⟩]
      rw [box_size] at hs
      exact ⟨_, 0, rfl, hs.cell 0, hs.cell 1⟩
    | j + 1, he => simp [tX] at he

theorem lit_at {x : World} {g : Nat} {e : TypeId} (bs : List UInt8) (hm : bs.length ≤ maxLen) (hg : x.heap.size = g) : Rdv (x.alloc (.cells (bv bs).toArray e)) (.slice (some ⟨g, 0, none⟩) bs.length bs.length) (bv bs) := by
  subst hg; exact lit_rd bs hm
set_option maxRecDepth 10000 in
set_option maxHeartbeats 16000000 in
theorem awake8 (w : World) :
    Calls Try.prog 8 #[] w fun e w' => e = .returned (.bool true) ∧ Below w.heap.size w w' := by
  have HA0 := Lib.hid (AT.start w)
  have HE := Lib.hid (fun x => tencode_any tA (.slice none 0 0) (.slice none 0 0) x (Rdt.nil x) fits_nil)
  have HD1 := Lib.hid (fun x => tdecode_any _ _ _ (lit_rd (w := x) (e := 5) [2, 1, 2, 1, 1, 2, 10, 2, 4, 55, 1, 1, 97, 1, 98] (by decide)))
  have HD2 := Lib.hid (fun x g (hg : x.heap.size = g) => tdecode_any _ _ _ (lit_at (x := x) (e := 5) [1] (by decide) hg))
  have HC1 := Lib.hid (fun x => tcheck_any tN (.slice none 0 0) (.slice none 0 0) x (Rdt.nil x) fits_nil)
  have HC2 := Lib.hid (fun x => tcheck_any tA (.slice none 0 0) (.slice none 0 0) x (Rdt.nil x) fits_nil)
  have HS1 := Lib.hid (fun x v v' (hx : Rdt (wX x) v v' tX.2.2.2.1 tX.2.2.2.2) => tsame_any tX tX v v' _ _ (wX x) hx (wX_rd x))
  have HS2 := Lib.hid (fun x v v' (hx : Rdt x v v' tX.2.2.2.1 tX.2.2.2.2) => tsame_any tA tX (.slice none 0 0) (.slice none 0 0) v v' x (Rdt.nil x) hx)
  rw [dec_tX] at HD1
  rw [dec_one] at HD2
  rw [chk_tN, terr_false] at HC1
  rw [chk_tA, terr_true] at HC2
  rw [same_tX] at HS1
  rw [same_tAX] at HS2
  go_enter Try.func8, Try.ntmps8
  go_wp2_with fail
  refine (HE.out _).mono ?_
  rintro e w1 ⟨b1, hcase⟩
  rcases hcase with ⟨_, v1, rfl, hv1⟩ | ⟨hno, _⟩
  case inr => rw [chk_tA] at hno; cases hno
  have HA1 := Lib.hid (HA0.out.later b1)
  rw [enc_tA] at hv1
  have HV1 := Lib.hid hv1
  obtain ⟨a1, c1, rfl, -⟩ := hv1
  obtain ⟨N1, hN1⟩ : ∃ N, (bv [2, 1, 1, 0, 0, 0]).length = N := ⟨_, rfl⟩
  rw [hN1] at HV1 ⊢
  clear b1 HA0 HE hN1
  go_wp2_with fail
  refine (HD1.out w1).mono ?_
  rintro e w2 ⟨b2, hcase⟩
  rcases hcase with ⟨t', v2, u2, ho, rfl, hv2⟩ | ⟨hno, _⟩
  case inr => cases hno
  obtain rfl := Option.some.inj ho
  have B2 := below_trans (below_trans (below_alloc w1 _) b2) (below_alloc w2 (.cells #[.int .i64 tX.1, .int .i64 tX.2.1, .bool tX.2.2.1, v2, u2] 25))
  have HA2 := Lib.hid (HA1.out.later B2)
  have HV2 := Lib.hid (HV1.out.below B2)
  have HX2 := Lib.hid (Str.new w2 25 #[.int .i64 tX.1, .int .i64 tX.2.1, .bool tX.2.2.1, v2, u2])
  have HR2 := Lib.hid (hv2.below (below_alloc w2 (.cells #[.int .i64 tX.1, .int .i64 tX.2.1, .bool tX.2.2.1, v2, u2] 25)))
  obtain ⟨⟨a2, c2, rfl, -⟩, ⟨a2', c2', rfl, -⟩⟩ := hv2
  clear b2 B2 HA1 HV1 HD1 ho
  go_wp2_with fail
  refine (HD2.out _ _ (box_size w2 _)).mono ?_
  rintro e w3 ⟨b3, hcase⟩
  rcases hcase with ⟨_, _, _, hno, _⟩ | ⟨_, rfl⟩
  case inl => cases hno
  unfold noTell
  have B3 := below_trans (below_trans (below_alloc _ _) b3) (below_alloc w3 (.cells #[.int .i64 0, .int .i64 0, .bool false, .slice none 0 0, .slice none 0 0] 25))
  have HA3 := Lib.hid (HA2.out.later B3)
  have HV3 := Lib.hid (HV2.out.below B3)
  have HX3 := Lib.hid (HX2.out.below B3)
  have HR3 := Lib.hid (HR2.out.below B3)
  clear b3 B3 HA2 HV2 HX2 HR2 HD2
  have HL3 := Lib.hid (lit_at (e := 5) [2, 1, 1, 0, 0, 0] (by decide) (box_size w3 (.cells #[.int .i64 0, .int .i64 0, .bool false, .slice none 0 0, .slice none 0 0] 25)))
  have B4 := below_alloc (w3.alloc (.cells #[.int .i64 0, .int .i64 0, .bool false, .slice none 0 0, .slice none 0 0] 25)) (.cells (bv [2, 1, 1, 0, 0, 0]).toArray 5)
  have HA4 := Lib.hid (HA3.out.later B4)
  have HX4 := Lib.hid (HX3.out.below B4)
  have HR4 := Lib.hid (HR3.out.below B4)
  have HB4 := Lib.hid (rbytes_true (HV3.out.below B4) HL3.out rfl)
  clear B4 HL3 HA3 HV3 HX3 HR3
  go_wp2_with fail
  refine HB4.out.mono ?_
  rintro e w4 ⟨rfl, hw4⟩
  rw [hw4] at HA4 HX4 HR4
  clear HB4 hw4
  obtain ⟨x0, x1, x2, x3, x4⟩ := HX4.out.cells5
  have HS4 := Lib.hid (HS1.out w4 _ _ (HR4.out.below (wX_below w4)))
  clear HS1
  unfold wX at HS4
  go_wp2_with fail
  refine HS4.out.mono ?_
  rintro e w5 ⟨rfl, b5⟩
  have B5 := below_trans (wX_below w4) b5
  have HA5 := Lib.hid (HA4.out.later B5)
  have HX5 := Lib.hid (HX4.out.below B5)
  have HR5 := Lib.hid (HR4.out.below B5)
  clear b5 B5 HA4 HX4 HR4 HS4 x0 x1 x2 x3 x4
  go_wp2_with fail
  refine (HC1.out w5).mono ?_
  rintro e w6 ⟨rfl, b6⟩
  have HA6 := Lib.hid (HA5.out.later b6)
  have HX6 := Lib.hid (HX5.out.below b6)
  have HR6 := Lib.hid (HR5.out.below b6)
  clear b6 HA5 HX5 HR5 HC1
  obtain ⟨k0, k1, k2, k3, k4⟩ := HA6.out.st.cells5
  go_wp2_with fail
  refine (HC2.out w6).mono ?_
  rintro e w7 ⟨rfl, b7⟩
  have HA7 := Lib.hid (HA6.out.later b7)
  have HX7 := Lib.hid (HX6.out.below b7)
  have HR7 := Lib.hid (HR6.out.below b7)
  clear b7 HA6 HX6 HR6 HC2 k0 k1 k2 k3 k4
  obtain ⟨k0, k1, k2, k3, k4⟩ := HA7.out.st.cells5
  obtain ⟨x0, x1, x2, x3, x4⟩ := HX7.out.cells5
  have HS7 := Lib.hid (HS2.out w7 _ _ HR7.out)
  clear HS2
  go_wp2_with fail
  refine HS7.out.mono ?_
  rintro e w8 ⟨rfl, b8⟩
  have HB8 := Lib.hid (below_trans HA7.out.below b8)
  clear b8 HA7 HX7 HR7 HS7 k0 k1 k2 k3 k4 x0 x1 x2 x3 x4
  go_wp2
  go_ret
  exact ⟨rfl, HB8.out⟩
end Go.Proofs.Ytokmpfkmkhnopaa
