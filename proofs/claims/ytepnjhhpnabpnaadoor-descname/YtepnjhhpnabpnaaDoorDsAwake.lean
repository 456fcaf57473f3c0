/- The walk of awake. -/
import Derived.Test.YtepnjhhpnabpnaaDoorDsZ
namespace Go.Proofs.YtepnjhhpnabpnaaDoor
open Go.RowKit

def e0 : D.E := ([117, 115, 101, 114], [97, 32, 98])
def s1 : List UInt8 := [117, 115, 101, 114, 61, 97, 37, 50, 48, 98]
def s2 : List UInt8 := [117, 115, 101, 114, 61, 97, 37, 50, 102, 98]
theorem chk0 : D.chk [e0] = true := by decide
theorem txt0 : D.txt [e0] = s1 := by decide
theorem is0 : D.Is s1 [e0] := ⟨chk0, txt0⟩
theorem une2 : D.une [97, 37, 50, 102, 98] = none := by
  rw [D.une_other (by decide), D.une_esc, if_neg (by decide)]; rfl
theorem none2 (es : List D.E) : ¬ D.Is s2 es := by
  refine D.read_fails (j := 0) (p := s2) ?_ (D.no_rd2 (a := [117, 115, 101, 114]) (b := [97, 37, 50, 102, 98]) (by decide) une2) es
  have : (44 : UInt8) ∉ s2 := by decide
  have h : D.jn [s2] = s2 := rfl
  have := D.split_jn [s2] (min 9 (s2.length + 1) - 1) (by intro p hp; simp at hp; rw [hp]; exact this) (by simp) (by decide)
  rw [h] at this
  rw [this]; rfl
theorem fits0 : Fits [e0] := by
  intro e he
  have : e = e0 := by simpa using he
  rw [this]; decide

/-- Where awake stands, once the texts have been read. -/
structure AW (w x : World) (b2 : Nat) (vx : Value) : Prop where
  below : Below w.heap.size w x
  env : Env x
  rd : Rde x (.slice (some ⟨w.heap.size, 0, none⟩) 1 1) [e0]
  rx : Rde x vx [e0]
  c1 : x.cell? ⟨w.heap.size + 1, 0, none⟩ = some (.slice (some ⟨w.heap.size, 0, none⟩) 1 1)
  c2 : x.cell? ⟨b2, 0, none⟩ = some vx
theorem AW.later {w x y : World} {b2 : Nat} {vx : Value} (h : AW w x b2 vx) (hb : Below x.heap.size x y) : AW w y b2 vx :=
  ⟨below_trans h.below hb, h.env.below hb, h.rd.below hb, h.rx.below hb, cell_later hb h.c1, cell_later hb h.c2⟩
theorem lit_rde (w : World) : Rde (w.alloc (.cells #[.string ⟨#[117, 115, 101, 114]⟩, .string ⟨#[97, 32, 98]⟩] 38)) (.slice (some ⟨w.heap.size, 0, none⟩) 1 1) [e0] := by
  obtain ⟨h0, h1⟩ := two_cells w 38 (.string ⟨#[117, 115, 101, 114]⟩) (.string ⟨#[97, 32, 98]⟩)
  refine ⟨some ⟨w.heap.size, 0, none⟩, 1, rfl, by simp, by simp [maxLen], by simp, fun j e he => ?_⟩
  match j, he with
  | 0, he =>
    have : e0 = e := by simpa using he
    subst this
    exact ⟨w.heap.size, 0, rfl, h0, h1⟩
  | j + 1, he => simp at he

set_option maxRecDepth 10000 in
set_option maxHeartbeats 8000000 in
theorem awake6 (w : World) (henv : Env w) :
    Calls Tryd.prog 9 #[] w fun e w' => e = .returned (.bool true) ∧ Below w.heap.size w w' := by
  have WA := below_alloc w (.cells #[.string ⟨#[117, 115, 101, 114]⟩, .string ⟨#[97, 32, 98]⟩] 38)
  have WB := below_alloc (w.alloc (.cells #[.string ⟨#[117, 115, 101, 114]⟩, .string ⟨#[97, 32, 98]⟩] 38)) (.cells #[.slice (some ⟨w.heap.size, 0, none⟩) 1 1] 24)
  have HB0 := Lib.hid (below_trans WA WB)
  have HE0 := Lib.hid (henv.below HB0.out)
  have HR0 := Lib.hid ((lit_rde w).below WB)
  have hc1 := box_cell (w.alloc (.cells #[.string ⟨#[117, 115, 101, 114]⟩, .string ⟨#[97, 32, 98]⟩] 38)) 24 (.slice (some ⟨w.heap.size, 0, none⟩) 1 1)
  rw [box_size] at hc1
  have HC1 := Lib.hid hc1
  have HRD1 := Lib.hid (read_any s1 (by decide) _ HE0.out)
  clear WA WB henv hc1
  go_enter Tryd.func9, Tryd.ntmps9
  go_wp2_with fail
  refine HRD1.out.mono ?_
  rintro e w2 ⟨b2, hcase⟩
  rcases hcase with ⟨vs, es, rfl, hrd, _, his⟩ | ⟨rfl, hno⟩
  · obtain rfl : es = [e0] := his.uniq is0
    obtain ⟨ao, cap, rfl, hcap⟩ := rde_slice hrd
    have W2 := below_alloc w2 (.cells #[.slice ao [e0].length cap] 24)
    have HA2 : Hid (AW w (w2.alloc (.cells #[.slice ao [e0].length cap] 24)) w2.heap.size (.slice ao [e0].length cap)) := by
      have b3 := below_trans b2 W2
      exact Lib.hid ⟨below_trans HB0.out b3, HE0.out.below b3, HR0.out.below b3, hrd.below W2, cell_later b3 HC1.out, box_cell _ _ _⟩
    have e1 : [e0].length = 1 := rfl
    rw [e1] at HA2
    have HRD2 := Lib.hid (read_any s2 (by decide) _ HA2.out.env)
    clear b2 hrd his HRD1 HC1 HR0 HE0 HB0 W2 e1
    go_wp2_with fail
    refine HRD2.out.mono ?_
    rintro e w3 ⟨b3, hcase⟩
    rcases hcase with ⟨vs, es, rfl, _, _, his⟩ | ⟨rfl, _⟩
    · exact absurd his (none2 _)
    have HA3 := Lib.hid (HA2.out.later (below_trans b3 (below_alloc w3 (.cells #[.slice none 0 0] 24))))
    have HT3 := Lib.hid (text_any _ [e0] _ HA3.out.rd fits0 HA3.out.env.pl)
    rw [txt0] at HT3
    have k1 := HA3.out.c1
    clear b3 HRD2 HA2
    go_wp2_with fail
    refine HT3.out.mono ?_
    rintro e w4 ⟨rfl, b4⟩
    have HA4 := Lib.hid (HA3.out.later b4)
    clear b4 HA3 HT3 k1
    have k1 := HA4.out.c1
    have k2 := HA4.out.c2
    have HS4 := Lib.hid (same_any _ _ [e0] [e0] w4 HA4.out.rx HA4.out.rd)
    have et : decide ([e0] = [e0]) = true := by simp
    rw [et] at HS4
    have q1 : (s1 == [117, 115, 101, 114, 61, 97, 37, 50, 48, 98]) = true := by decide
    clear et
    go_wp2_with fail
    refine HS4.out.mono ?_
    rintro e w5 ⟨rfl, b5⟩
    have HA5 := Lib.hid (HA4.out.later b5)
    clear b5 HA4 HS4 k1 k2 q1
    have HK5 := Lib.hid (check_any (.slice none 0 0) [] w5 (Rde.nil _) (fun _ h => by cases h))
    have et : errOf (D.chk []) = 1 := rfl
    rw [et] at HK5
    clear et
    go_wp2_with fail
    refine HK5.out.mono ?_
    rintro e w6 ⟨rfl, b6⟩
    have HA6 := Lib.hid (HA5.out.later b6)
    clear b6 HA5 HK5
    have k1 := HA6.out.c1
    have HK6 := Lib.hid (check_any _ [e0] w6 HA6.out.rd fits0)
    rw [chk0] at HK6
    have et : errOf true = 0 := rfl
    rw [et] at HK6
    clear et
    go_wp2_with fail
    refine HK6.out.mono ?_
    rintro e w7 ⟨rfl, b7⟩
    have HA7 := Lib.hid (HA6.out.later b7)
    clear b7 HA6 HK6 k1
    have HN7 := Lib.hid (name_any [97] (by decide) w7)
    have et : D.nm [97] = true := by decide
    rw [et] at HN7
    clear et
    go_wp2_with fail
    refine HN7.out.mono ?_
    rintro e w8 ⟨rfl, b8⟩
    have HA8 := Lib.hid (HA7.out.later b8)
    clear b8 HA7 HN7
    have HN8 := Lib.hid (name_any [97, 32, 98] (by decide) w8)
    have et : D.nm [97, 32, 98] = false := by decide
    rw [et] at HN8
    clear et
    go_wp2_with fail
    refine HN8.out.mono ?_
    rintro e w9 ⟨rfl, b9⟩
    have HA9 := Lib.hid (HA8.out.later b9)
    clear b9 HA8 HN8
    have HE9 := Lib.hid (escape_any [97, 37] (by decide) w9 HA9.out.env.pl)
    have et : D.escL [97, 37] = [97, 37, 50, 53] := by decide
    rw [et] at HE9
    clear et
    go_wp2_with fail
    refine HE9.out.mono ?_
    rintro e w10 ⟨rfl, b10⟩
    have HA10 := Lib.hid (HA9.out.later b10)
    clear b10 HA9 HE9
    have HT10 := Lib.hid (text_any (.slice none 0 0) [] w10 (Rde.nil _) (fun _ h => by cases h) HA10.out.env.pl)
    have et : D.txt [] = [] := rfl
    rw [et] at HT10
    clear et
    go_wp2_with fail
    refine HT10.out.mono ?_
    rintro e w11 ⟨rfl, b11⟩
    have HB11 := Lib.hid (below_trans HA10.out.below b11)
    clear b11 HA10 HT10
    go_wp2
    go_ret
    exact ⟨rfl, HB11.out⟩
  · exact absurd is0 (hno _)
end Go.Proofs.YtepnjhhpnabpnaaDoor
