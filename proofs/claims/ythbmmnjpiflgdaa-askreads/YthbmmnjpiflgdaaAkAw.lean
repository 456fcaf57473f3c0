/- The walk of awake. -/
import Derived.Test.YthbmmnjpiflgdaaAkG
import Derived.Test.YthbmmnjpiflgdaaAkI
import Derived.Test.YthbmmnjpiflgdaaAkU
namespace Go.Proofs.Ythbmmnjpiflgdaa
open Go.RowKit

def a0 : K.A := (1, [97], 0, [[([107], [118])]])
def aN : K.A := (0, [], 0, [])
theorem chk_a0 : K.chk a0 = true := by decide
theorem chk_aN : K.chk aN = false := by decide
theorem enc_a0 : K.enc a0 = [1, 1, 1, 97, 0, 1, 1, 1, 107, 1, 118] := by
  have p0 : V.put 0 = [0] := by rw [V.put_small (by omega)]; rfl
  have p1 : V.put 1 = [1] := by rw [V.put_small (by omega)]; rfl
  simp [K.enc, K.head, K.tx, K.enDs, K.enD, K.enEs, K.enE, a0, p0, p1]
theorem dec_nil : K.dec [] = none := rfl
theorem same_a0 : K.same a0 a0 = true := by decide
theorem same_aN : K.same a0 aN = false := by decide
theorem hits_a0 : K.hits a0 = 1 := by decide
theorem fit_a0 : FitA a0 := by
  refine ⟨by decide, fun d hd e he => ?_⟩
  have : d = [([107], [118])] := by simpa [a0] using hd
  subst this
  have : e = ([107], [118]) := by simpa using he
  subst this
  decide
theorem fit_aN : FitA aN := ⟨by decide, fun d hd => by cases hd⟩

/-- Where awake stands: its request, as it lies. -/
structure AW (w x : World) : Prop where
  below : Below w.heap.size w x
  st : Str x (w.heap.size + 2) 24 #[.int .i64 1, .string ⟨#[97]⟩, .int .i64 0, .slice (some ⟨w.heap.size + 1, 0, none⟩) 1 1]
  rd : Rdd x (.slice (some ⟨w.heap.size + 1, 0, none⟩) 1 1) a0.2.2.2
theorem AW.later {w x y : World} (h : AW w x) (hb : Below x.heap.size x y) : AW w y := ⟨below_trans h.below hb, h.st.below hb, h.rd.below hb⟩
def w3 (w : World) : World := ((w.alloc (.cells #[.string ⟨#[107]⟩, .string ⟨#[118]⟩] 44)).alloc (.cells #[.slice (some ⟨w.heap.size, 0, none⟩) 1 1] 42)).alloc (.cells #[.int .i64 1, .string ⟨#[97]⟩, .int .i64 0, .slice (some ⟨w.heap.size + 1, 0, none⟩) 1 1] 24)
theorem AW.start (w : World) : AW w (w3 w) := by
  have B1 := below_alloc w (.cells #[.string ⟨#[107]⟩, .string ⟨#[118]⟩] 44)
  have B2 := below_alloc (w.alloc (.cells #[.string ⟨#[107]⟩, .string ⟨#[118]⟩] 44)) (.cells #[.slice (some ⟨w.heap.size, 0, none⟩) 1 1] 42)
  have B3 := below_alloc ((w.alloc (.cells #[.string ⟨#[107]⟩, .string ⟨#[118]⟩] 44)).alloc (.cells #[.slice (some ⟨w.heap.size, 0, none⟩) 1 1] 42)) (.cells #[.int .i64 1, .string ⟨#[97]⟩, .int .i64 0, .slice (some ⟨w.heap.size + 1, 0, none⟩) 1 1] 24)
  refine ⟨below_trans B1 (below_trans B2 B3), ?_, ?_⟩
  · have := Str.new ((w.alloc (.cells #[.string ⟨#[107]⟩, .string ⟨#[118]⟩] 44)).alloc (.cells #[.slice (some ⟨w.heap.size, 0, none⟩) 1 1] 42)) 24 #[.int .i64 1, .string ⟨#[97]⟩, .int .i64 0, .slice (some ⟨w.heap.size + 1, 0, none⟩) 1 1]
    rwa [box_size, box_size] at this
  · refine Rdd.below ?_ B3
    have c := box_cell (w.alloc (.cells #[.string ⟨#[107]⟩, .string ⟨#[118]⟩] 44)) 42 (.slice (some ⟨w.heap.size, 0, none⟩) 1 1)
    rw [box_size] at c
    refine ⟨some ⟨w.heap.size + 1, 0, none⟩, 1, rfl, by decide, by simp [maxLen], by simp, fun j d hd => ?_⟩
    match j, hd with
    | 0, hd =>
      obtain rfl : [([107], [118])] = d := Option.some.inj hd
      refine ⟨_, 0, _, rfl, c, Rde.below ?_ B2⟩
      refine ⟨some ⟨w.heap.size, 0, none⟩, 1, rfl, by decide, by simp [maxLen], by simp, fun i e he => ?_⟩
      match i, he with
      | 0, he =>
        obtain rfl : (([107], [118]) : D.E) = e := Option.some.inj he
        have hs := Str.new w 44 #[.string ⟨#[107]⟩, .string ⟨#[118]⟩]
        exact ⟨_, 0, rfl, hs.cell 0, hs.cell 1⟩
      | i + 1, he => simp at he
    | j + 1, hd => simp [a0] at hd

theorem AW.cells {w x : World} (h : AW w x) : x.cell? ⟨w.heap.size + 1 + 1, 0, none⟩ = some (.int .i64 1) ∧ x.cell? ⟨w.heap.size + 1 + 1, 1, none⟩ = some (.string ⟨#[97]⟩) ∧ x.cell? ⟨w.heap.size + 1 + 1, 2, none⟩ = some (.int .i64 0) ∧ x.cell? ⟨w.heap.size + 1 + 1, 3, none⟩ = some (.slice (some ⟨w.heap.size + 1, 0, none⟩) 1 1) :=
  ⟨h.st.cell 0, h.st.cell 1, h.st.cell 2, h.st.cell 3⟩
theorem Str.cells {x : World} {p : Nat} {T : TypeId} {a b c d : Value} (h : Str x p T #[a, b, c, d]) : x.cell? ⟨p, 0, none⟩ = some a ∧ x.cell? ⟨p, 1, none⟩ = some b ∧ x.cell? ⟨p, 2, none⟩ = some c ∧ x.cell? ⟨p, 3, none⟩ = some d :=
  ⟨h.cell 0, h.cell 1, h.cell 2, h.cell 3⟩
set_option maxRecDepth 10000 in
set_option maxHeartbeats 8000000 in
theorem awake7 (w : World) :
    Calls Try.prog 9 #[] w fun e w' => e = .returned (.bool true) ∧ Below w.heap.size w w' := by
  have HA0 := Lib.hid (AW.start w)
  have HE := Lib.hid (fun x (h : AW w x) => encode_any a0 _ x h.rd fit_a0)
  have HS := Lib.hid (fun x v (h : AW w x) (hv : Rdd x v a0.2.2.2) => asame_any a0 a0 v _ x hv h.rd)
  have HH := Lib.hid (fun x (h : AW w x) => hits_any a0 _ x h.rd)
  have HC := Lib.hid (fun x (h : AW w x) => acheck_any a0 _ x h.rd fit_a0)
  have HN := Lib.hid (fun x => encode_any aN (.slice none 0 0) x (Rdd.nil x) fit_aN)
  have HSN := Lib.hid (fun x (h : AW w x) => asame_any a0 aN _ (.slice none 0 0) x h.rd (Rdd.nil x))
  have HD0 := Lib.hid (fun x => decode_any (.slice none 0 0) [] x (Rdv.nil x))
  rw [same_a0] at HS
  rw [hits_a0] at HH
  rw [chk_a0, errOf_true] at HC
  rw [same_aN] at HSN
  rw [dec_nil] at HD0
  unfold w3 at HA0
  go_enter Try.func9, Try.ntmps9
  go_wp2_with fail
  refine (HE.out _ HA0.out).mono ?_
  rintro e w4 ⟨b4, hcase⟩
  rcases hcase with ⟨_, v4, rfl, hv4⟩ | ⟨hno, _⟩
  case inr => rw [chk_a0] at hno; cases hno
  have HA4 := Lib.hid (HA0.out.later b4)
  have HV4 := Lib.hid hv4
  have HD4 := Lib.hid (decode_any v4 (K.enc a0) w4 hv4)
  rw [K.dec_enc chk_a0] at HD4
  rw [enc_a0] at HV4
  obtain ⟨a4, c4, rfl, -⟩ := hv4
  clear b4 HA0 HE
  obtain ⟨N4, hN4⟩ : ∃ N, (bv (K.enc a0)).length = N := ⟨_, rfl⟩
  rw [hN4] at HD4 HV4 ⊢
  clear hN4
  go_wp2_with fail
  refine HD4.out.mono ?_
  rintro e w5 ⟨b5, hcase⟩
  rcases hcase with ⟨a', v5, ho, rfl, hv5⟩ | ⟨hno, _⟩
  case inr => cases hno
  obtain rfl := Option.some.inj ho
  obtain ⟨a5, c5, rfl, -⟩ := id hv5
  have B5 := below_alloc w5 (.cells #[.int .i64 a0.1, .string ⟨a0.2.1.toArray⟩, .int .i64 a0.2.2.1, .slice a5 a0.2.2.2.length c5] 24)
  have HA5 := Lib.hid (HA4.out.later (below_trans b5 B5))
  have HS5 := Lib.hid (Str.new w5 24 #[.int .i64 a0.1, .string ⟨a0.2.1.toArray⟩, .int .i64 a0.2.2.1, .slice a5 a0.2.2.2.length c5])
  have HX5 := Lib.hid (hv5.below B5)
  have HV5 := Lib.hid (HV4.out.below (below_trans b5 B5))
  clear b5 B5 hv5 HA4 HV4 HD4 ho
  go_wp2_with fail
  refine (HD0.out _).mono ?_
  rintro e w6 ⟨b6, hcase⟩
  rcases hcase with ⟨_, _, hno, _⟩ | ⟨_, rfl⟩
  case inl => cases hno
  unfold noAsk
  have B6 := below_trans b6 (below_alloc w6 (.cells #[.int .i64 0, .string ⟨#[]⟩, .int .i64 0, .slice none 0 0] 24))
  have HA6 := Lib.hid (HA5.out.later B6)
  have HS6 := Lib.hid (HS5.out.below B6)
  have HX6 := Lib.hid (HX5.out.below B6)
  have HV6 := Lib.hid (HV5.out.below B6)
  clear b6 B6 HA5 HS5 HX5 HV5 HD0
  go_wp2_with fail
  refine (HN.out _).mono ?_
  rintro e w7 ⟨b7, hcase⟩
  rcases hcase with ⟨hno, _⟩ | ⟨_, rfl⟩
  case inl => rw [chk_aN] at hno; cases hno
  have HL7 := Lib.hid (lit_rd (w := w7) (e := 5) [1, 1, 1, 97, 0, 1, 1, 1, 107, 1, 118] (by decide))
  have B7 := below_trans b7 (below_alloc w7 (.cells (bv [1, 1, 1, 97, 0, 1, 1, 1, 107, 1, 118]).toArray 5))
  have HA7 := Lib.hid (HA6.out.later B7)
  have HS7 := Lib.hid (HS6.out.below B7)
  have HX7 := Lib.hid (HX6.out.below B7)
  have HV7 := Lib.hid (HV6.out.below B7)
  have HB7 := Lib.hid (rbytes_true HV7.out HL7.out rfl)
  clear b7 B7 HA6 HS6 HX6 HV6 HN HL7 HV7
  go_wp2_with fail
  refine HB7.out.mono ?_
  rintro e w8 ⟨rfl, rfl⟩
  generalize hw8 : w7.alloc (.cells (bv [1, 1, 1, 97, 0, 1, 1, 1, 107, 1, 118]).toArray 5) = w8 at HA7 HS7 HX7 HB7
  clear hw8 HB7
  obtain ⟨k0, k1, k2, k3⟩ := HA7.out.cells
  obtain ⟨x0, x1, x2, x3⟩ := HS7.out.cells
  have HS8 := Lib.hid (HS.out w8 _ HA7.out HX7.out)
  clear HS
  go_wp2_with fail
  refine HS8.out.mono ?_
  rintro e w9 ⟨rfl, b9⟩
  have HA9 := Lib.hid (HA7.out.later b9)
  clear b9 HA7 HS7 HX7 HS8 k0 k1 k2 k3 x0 x1 x2 x3
  obtain ⟨k0, k1, k2, k3⟩ := HA9.out.cells
  go_wp2_with fail
  refine (HH.out w9 HA9.out).mono ?_
  rintro e w10 ⟨rfl, b10⟩
  have HA10 := Lib.hid (HA9.out.later b10)
  clear b10 HA9 HH k0 k1 k2 k3
  obtain ⟨k0, k1, k2, k3⟩ := HA10.out.cells
  go_wp2_with fail
  refine (HC.out w10 HA10.out).mono ?_
  rintro e w11 ⟨rfl, b11⟩
  have HA11 := Lib.hid (HA10.out.later b11)
  clear b11 HA10 HC k0 k1 k2 k3
  obtain ⟨k0, k1, k2, k3⟩ := HA11.out.cells
  go_wp2_with fail
  refine (HSN.out w11 HA11.out).mono ?_
  rintro e w12 ⟨rfl, b12⟩
  have HB12 := Lib.hid (below_trans HA11.out.below b12)
  clear b12 HA11 HSN k0 k1 k2 k3
  go_wp2
  go_ret
  exact ⟨rfl, HB12.out⟩
end Go.Proofs.Ythbmmnjpiflgdaa
