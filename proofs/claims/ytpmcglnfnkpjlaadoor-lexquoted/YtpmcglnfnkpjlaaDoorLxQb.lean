/- Walks of the document's own fits, walk, Check, show and Text, at a document of one quoted text. -/
import Derived.Test.YtpmcglnfnkpjlaaDoorLxQa
import Derived.Deep.RegionHeld3
namespace Go.Proofs.YtpmcglnfnkpjlaaDoor
open Go.RowKit

/-- A node of one quoted text lies at b, from cell o on. -/
structure Nd (w : World) (b o : Nat) (S : List UInt8) : Prop where
  c0 : w.cell? ⟨b, o, none⟩ = some (.int .i64 1)
  c1 : w.cell? ⟨b, o + 1, none⟩ = some (.int .i64 0)
  c2 : w.cell? ⟨b, o + 2, none⟩ = some (.string ⟨S.toArray⟩)
  c3 : w.cell? ⟨b, o + 3, none⟩ = some (.bool true)
  c4 : w.cell? ⟨b, o + 4, none⟩ = some (.slice none 0 0)
  c5 : w.cell? ⟨b, o + 5, none⟩ = some (.slice none 0 0)
theorem Nd.below {w w' : World} {b o : Nat} {S : List UInt8} (h : Nd w b o S) (hb : Below w.heap.size w w') : Nd w' b o S :=
  ⟨(hb.cell (cell_lt h.c0)).trans h.c0, (hb.cell (cell_lt h.c1)).trans h.c1, (hb.cell (cell_lt h.c2)).trans h.c2, (hb.cell (cell_lt h.c3)).trans h.c3, (hb.cell (cell_lt h.c4)).trans h.c4, (hb.cell (cell_lt h.c5)).trans h.c5⟩
abbrev ndV (S : List UInt8) : Value := .agg #[.int .i64 1, .int .i64 0, .string ⟨S.toArray⟩, .bool true, .slice none 0 0, .slice none 0 0]

set_option maxHeartbeats 4000000 in
theorem fits_any (S : List UInt8) (w : World) (hl : S.length ≤ 200) :
    Calls Tryd.prog 49 #[.agg #[.int .i64 1, .int .i64 0, .string ⟨S.toArray⟩, .bool true, .slice none 0 0, .slice none 0 0]] w fun e w' => e = .returned (.bool true) ∧ Below w.heap.size w w' := by
  have hsz := str_size S
  obtain ⟨n, hn⟩ : ∃ n, S.length = n := ⟨_, rfl⟩
  rw [hn] at hsz hl
  have hni : (n : Int) ≤ 200 := by omega
  have HB := Lib.hid (below_alloc w (.cells #[.int .i64 1, .int .i64 0, .string ⟨S.toArray⟩, .bool true, .slice none 0 0, .slice none 0 0] 44))
  clear hn
  go_enter Tryd.func49, Tryd.ntmps49
  go_wp2
  go_ret
  exact ⟨rfl, HB.out⟩

set_option maxHeartbeats 4000000 in
theorem walk_any (S : List UInt8) (b o c : Nat) (w : World) (hl : S.length ≤ 200) (h : Nd w b o S) :
    Calls Tryd.prog 34 #[.agg #[.slice (some ⟨b, o, none⟩) 1 c], .int .i64 0, .int .i64 1] w fun e w' => e = .returned (.int .i64 1) ∧ Below w.heap.size w w' := by
  have HF := Lib.hid (fun x => fits_any S x hl)
  have B1 := below_alloc w (.cells #[.slice (some ⟨b, o, none⟩) 1 c] 47)
  have HB := Lib.hid B1
  have HN := Lib.hid (h.below B1)
  have HS := Lib.hid (Str.new w 47 #[.slice (some ⟨b, o, none⟩) 1 c])
  obtain ⟨d0, d1, d2, d3, d4, d5⟩ := h.below B1
  clear h B1
  go_enter Tryd.func34, Tryd.ntmps34
  go_wp2_with fail
  refine (HF.out _).mono ?_
  rintro e w1 ⟨rfl, b1⟩
  have HB1 := Lib.hid (below_trans HB.out b1)
  obtain ⟨-, -, -, -, -, e5⟩ := HN.out.below b1
  have e0 : w1.cell? ⟨w.heap.size, 0, none⟩ = some (.slice (some ⟨b, o, none⟩) 1 c) := (HS.out.below b1).cell 0
  clear d0 d1 d2 d3 d4 d5 b1 HB HN HS HF
  go_wp2
  go_loopg [7, 8] 0 (fun g s7 s8 wx => g = 0 ∧ s7 = .int .i64 1 ∧ s8 = .int .i64 0 ∧ wx = w1)
  case atStart => exact ⟨rfl, rfl, rfl, rfl⟩
  case round =>
    obtain ⟨rfl, rfl, rfl, rfl⟩ := hrel
    go_wp2
    go_ret
    exact ⟨rfl, HB1.out⟩

set_option maxHeartbeats 8000000 in
theorem check_any (S : List UInt8) (b o c : Nat) (w : World) (hl : S.length ≤ 200) (h : Nd w b o S) :
    Calls Tryd.prog 23 #[.agg #[.slice (some ⟨b, o, none⟩) 1 c]] w fun e w' => e = .returned (.bool true) ∧ Below w.heap.size w w' := by
  have B1 := below_trans (below_alloc w (.cells #[.slice (some ⟨b, o, none⟩) 1 c] 47)) (below_drew _)
  have HB := Lib.hid B1
  have HS := Lib.hid ((Str.new w 47 #[.slice (some ⟨b, o, none⟩) 1 c]).below (below_drew _))
  have HK := Lib.hid (walk_any S b o c _ hl (h.below B1))
  have e0 : (w.alloc (.cells #[.slice (some ⟨b, o, none⟩) 1 c] 47)).drew.cell? ⟨w.heap.size, 0, none⟩ = some (.slice (some ⟨b, o, none⟩) 1 c) := HS.out.cell 0
  clear h B1
  go_enter Tryd.func23, Tryd.ntmps23
  go_wp2
  go_region_held3 (fun x => x.cell? ⟨w.heap.size, 0, none⟩ = some (.slice (some ⟨b, o, none⟩) 1 c)) (first | exact e0 | exact f0) (first
    | (go_at_call 34; refine HK.out.mono ?_; rintro e w4 ⟨rfl, b4⟩; have f0 : w4.cell? ⟨w.heap.size, 0, none⟩ = some (.slice (some ⟨b, o, none⟩) 1 c) := (HS.out.below b4).cell 0; have B4 := Lib.hid (below_trans HB.out b4); clear b4))
  all_goals
    go_wp2
    go_ret
    exact ⟨rfl, B4.out⟩

theorem quo_pos (S : List UInt8) : (LX.quo S).length ≤ 4 * S.length + 2 := LX.quo_len S
set_option maxHeartbeats 8000000 in
theorem show_any (S : List UInt8) (b o c : Nat) (w : World) (hl : S.length ≤ 200) (h : Nd w b o S) :
    Calls Tryd.prog 24 #[.slice none 0 0, .agg #[.slice (some ⟨b, o, none⟩) 1 c], .int .i64 0, .int .i64 0] w fun e w' => ∃ v, e = .returned v ∧ Own w' w.heap.size 5 v (bv (LX.quo S ++ [10])) ∧ Below w.heap.size w w' := by
  have B1 := below_alloc w (.cells #[.slice (some ⟨b, o, none⟩) 1 c] 47)
  obtain ⟨d0, d1, d2, d3, d4, d5⟩ := h.below B1
  have B2 := below_alloc (w.alloc (.cells #[.slice (some ⟨b, o, none⟩) 1 c] 47)) (.cells #[.int .i64 1, .int .i64 0, .string ⟨S.toArray⟩, .bool true, .slice none 0 0, .slice none 0 0] 44)
  have HB := Lib.hid (below_trans B1 B2)
  have HQ := Lib.hid (fun x => quote_any S x (by omega))
  have HQL := Lib.hid (LX.quo_len S)
  clear h B1 B2
  go_enter Tryd.func24, Tryd.ntmps24
  go_wp2_with fail
  refine (HQ.out _).mono ?_
  rintro e w1 ⟨v1, rfl, o1, b1⟩
  have HB1 := Lib.hid (below_trans HB.out b1)
  have HR1 := Lib.hid o1.rd
  clear o1 b1 HB HQ d0 d1 d2 d3 d4 d5
  go_wp2_with (first
    | (at_builtin; refine wpList_append_bytes (xs := []) rfl (.tmp 21) (.tmp 24) 37 rfl w.heap.size 5 Tryd.underlying37 Tryd.linfo_u8 (by rfl) (Own.nil _ _ _) (by rfl) HR1.out (by have := HQL.out; simp; omega) HB1.out.size ?_; intro v2 w2 ho2 hg2 hb2; have O2 := Lib.hid ho2; have B2 := Lib.hid (HB1.out.trans hb2); clear ho2 hg2 hb2)
    | (at_builtin; refine wpList_append_bytes rfl (.tmp 31) (.tmp 32) 37 rfl w.heap.size 5 Tryd.underlying37 Tryd.linfo_u8 (by rfl) (O2.out.alloc _) (by rfl) (one_rd (b := 10) rfl) (by have := HQL.out; simp; omega) (by have := B2.out.size; rw [bx_size]; omega) ?_; intro v3 w3 ho3 hg3 hb3; have O3 := Lib.hid ho3; have B3 := Lib.hid (B2.out.trans (((Below.refl _ _).alloc B2.out.size _).trans hb3)); clear ho3 hg3 hb3))
  go_ret
  exact ⟨_, rfl, O3.out, B3.out⟩

set_option maxHeartbeats 8000000 in
theorem rtext_any (S : List UInt8) (b o c : Nat) (w : World) (hl : S.length ≤ 200) (h : Nd w b o S) :
    Calls Tryd.prog 14 #[.agg #[.slice (some ⟨b, o, none⟩) 1 c]] w fun e w' => ∃ ao m cap, e = .returned (.tuple #[.slice ao m cap, .int .i64 0]) ∧ m = (LX.quo S ++ [10]).length ∧ Rdv w' (.slice ao m cap) (bv (LX.quo S ++ [10])) ∧ Below w.heap.size w w' := by
  have B1 := below_alloc w (.cells #[.slice (some ⟨b, o, none⟩) 1 c] 47)
  have HB := Lib.hid B1
  have HS := Lib.hid (Str.new w 47 #[.slice (some ⟨b, o, none⟩) 1 c])
  have HN := Lib.hid (h.below B1)
  have HK := Lib.hid (check_any S b o c _ hl HN.out)
  have HSH := Lib.hid (fun x (hx : Nd x b o S) => show_any S b o c x hl hx)
  have HQL := Lib.hid (LX.quo_len S)
  clear h B1
  go_enter Tryd.func14, Tryd.ntmps14
  go_wp2_with fail
  refine HK.out.mono ?_
  rintro e w1 ⟨rfl, b1⟩
  have HB1 := Lib.hid (below_trans HB.out b1)
  have HN1 := Lib.hid (HN.out.below b1)
  have e0 : w1.cell? ⟨w.heap.size, 0, none⟩ = some (.slice (some ⟨b, o, none⟩) 1 c) := (HS.out.below b1).cell 0
  have H2 := Lib.hid (HSH.out w1 HN1.out)
  clear b1 HB HS HN HK HSH HN1
  go_wp2_with fail
  refine H2.out.mono ?_
  rintro e w2 ⟨v2, rfl, o2, b2⟩
  have HB2 := Lib.hid (below_trans HB1.out b2)
  have HR2 := Lib.hid o2.rd
  obtain ⟨ao, cap, hv, -⟩ := o2.rd
  rw [bv_len] at hv
  have HL : Hid ((LX.quo S ++ [10]).length ≤ 60000) := by show _ ≤ _; have := HQL.out; simp only [List.length_append, List.length_cons, List.length_nil]; omega
  obtain ⟨m, hm⟩ : ∃ m, (LX.quo S ++ [10]).length = m := ⟨_, rfl⟩
  rw [hm] at hv HL
  have HM := Lib.hid hm
  subst hv
  have hm6 : ¬ (60000 : Int) < (m : Int) := by have := HL.out; omega
  clear o2 b2 H2 HB1 hm e0
  go_wp2
  go_ret2
  exact ⟨_, _, _, rfl, HM.out.symm, HR2.out, HB2.out⟩
end Go.Proofs.YtpmcglnfnkpjlaaDoor
