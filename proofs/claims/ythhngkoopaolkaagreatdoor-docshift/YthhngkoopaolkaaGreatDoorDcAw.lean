/- What the document fixes of chapter 12: awake. -/
import Derived.Test.YthhngkoopaolkaaGreatDoorDcL
import Derived.Test.YthhngkoopaolkaaGreatDoorDcQ
import Derived.Test.YthhngkoopaolkaaGreatDoorLnF
import Derived.Lib.SlBytesConst
namespace Go.Proofs.YthhngkoopaolkaaGreatDoor
open Go.RowKit

theorem MaxIs.shaped {w : World} (h : w.ShapedOpen Tryz.prog) : MaxIs w := cell_of_shapedOpen_int (zero := #[.int .i64 0]) (t := 3) h (of_decide_eq_true (by kernel_rfl)) (by kernel_rfl) rfl (by kernel_rfl) (by kernel_rfl) Tryz.underlying3

theorem Rdoc.slice {w : World} {v : Value} {ns : List DC.Nd} (h : Rdoc w v ns) : ∃ ao cap, v = .slice ao ns.length cap := by
  obtain ⟨vs, rfl, ⟨ao, cap, e, _⟩, _⟩ := h
  exact ⟨ao, cap, by rw [e]; simp⟩
def awd1 : List UInt8 := [97, 58, 32, 98]
def awd2 : List UInt8 := [97, 58]
def awn : List DC.Nd := [⟨3, 1, [], false, [[97]], [1]⟩, ⟨1, 1, [98], false, [], []⟩]
theorem aw_p1 : DC.parse awd1 = .ok awn := by decide +kernel
theorem aw_p2 : DC.parse awd2 = .bad 10 1 := by decide +kernel
theorem aw_p3 : DC.doc [] = .bad 10 1 := by decide +kernel
theorem aw_par {o : DC.Out (List DC.Nd)} {ns : List DC.Nd} {k n : Int} {m : Nat} (h1 : DC.told o = ns) (h2 : DC.wrong o = (k, n)) (hm : ns.length = m) {w : World} {e : Ending} {w' : World} (h : ParE w o e w') : ∃ ao c, e = .returned (.tuple #[.agg #[.slice ao m c], .agg #[.int .i64 k, .int .i64 n]]) ∧ Rdoc w' (.slice ao m c) ns ∧ Below w.heap.size w w' := by
  obtain ⟨hb, v, he, hr⟩ := h
  rw [h2] at he
  rw [h1] at hr
  obtain ⟨ao, c, rfl⟩ := hr.slice
  rw [hm] at he hr
  exact ⟨ao, c, he, hr, hb⟩
theorem aw_of {w : World} {l : List LX.Pc} {ns : List DC.Nd} {k n : Int} {m : Nat} (h1 : DC.nodes l = ns) (h2 : DC.fault l = (k, n)) (hm : ns.length = m) {e : Ending} {w' : World} (h : OfE w l e w') : ∃ ao c, e = .returned (.tuple #[.agg #[.slice ao m c], .agg #[.int .i64 k, .int .i64 n]]) ∧ Rdoc w' (.slice ao m c) ns ∧ Below w.heap.size w w' := by
  obtain ⟨hb, v, S, he, hr⟩ := h
  rw [h2] at he
  rw [h1] at hr
  obtain ⟨ao, c, rfl⟩ := hr.slice
  rw [hm] at he hr
  exact ⟨ao, c, he, hr.rd, hb⟩
theorem dconv_const {P : Program} (w : World) (t e : TypeId) (C : Array Value) (n c g : Nat) (hg : w.heap.size = g) (ht : P.underlying t = some (.slice e)) (he : P.underlying e = some (.int .u8)) :
    (convert t t (.slice (some ⟨g, 0, none⟩) n c)).run P (w.alloc (.cells C e)) = .ok (.slice (some ⟨g, 0, none⟩) n c) (w.alloc (.cells C e (C.size, C.size + 1))) := by
  subst hg; exact Lib.run_convert_bytes_const w t e C n c ht he
theorem dmark_rd {w : World} {e : TypeId} (bs : List UInt8) (fr : Nat × Nat) (g : Nat) (hg : w.heap.size = g) (hm : bs.length ≤ maxLen) : Rdv (w.alloc (.cells (bv bs).toArray e fr)) (.slice (some ⟨g, 0, none⟩) bs.length bs.length) (bv bs) := by
  subst hg
  refine ⟨some ⟨w.heap.size, 0, none⟩, bs.length, by rw [bv_len], by rw [bv_len]; omega, hm, (by intro h; cases h), fun j u hu => ⟨_, rfl, ?_⟩⟩
  rw [Addr.add_lit]
  have := World.cell?_alloc_mark w (bv bs).toArray e fr (0 + j)
  rw [this]
  simpa using hu
theorem aw_t1 (x : World) (g : Nat) (hg : x.heap.size = g) : Rdv (x.alloc (.cells #[.int .u8 97, .int .u8 58, .int .u8 32, .int .u8 98] 5 (4, 5))) (.slice (some ⟨g, 0, none⟩) 4 4) (bv awd1) := dmark_rd awd1 (4, 5) g hg (by decide)
theorem aw_t2 (x : World) (g : Nat) (hg : x.heap.size = g) : Rdv (x.alloc (.cells #[.int .u8 97, .int .u8 58] 5 (2, 3))) (.slice (some ⟨g, 0, none⟩) 2 2) (bv awd2) := dmark_rd awd2 (2, 3) g hg (by decide)
/-- The document that is written out. -/
theorem aw_doc (x : World) (g : Nat) (hg : x.heap.size = g) : Rdoc (((x.alloc (.cells #[.string ⟨#[97]⟩] 9)).alloc (.cells #[.int .i64 1] 3)).alloc (.cells #[.int .i64 3, .int .i64 1, .string ⟨#[]⟩, .bool false, .slice (some ⟨g, 0, none⟩) 1 1, .slice (some ⟨g + 1, 0, none⟩) 1 1, .int .i64 1, .int .i64 1, .string ⟨#[98]⟩, .bool false, .slice none 0 0, .slice none 0 0] 52)) (.slice (some ⟨g + 1 + 1, 0, none⟩) 2 2) awn := by
  have z1 := bx_size x (.cells #[.string ⟨#[97]⟩] 9)
  have z2 := bx_size (x.alloc (.cells #[.string ⟨#[97]⟩] 9)) (.cells #[.int .i64 1] 3)
  have r1 := one_rd_at (w := x) (e := 9) (.string ⟨#[97]⟩) g hg
  have b2 := below_alloc (x.alloc (.cells #[.string ⟨#[97]⟩] 9)) (.cells #[.int .i64 1] 3)
  have r2 := one_rd_at (w := x.alloc (.cells #[.string ⟨#[97]⟩] 9)) (e := 3) (.int .i64 1) (g + 1) (by omega)
  have b3 := below_alloc ((x.alloc (.cells #[.string ⟨#[97]⟩] 9)).alloc (.cells #[.int .i64 1] 3)) (.cells #[.int .i64 3, .int .i64 1, .string ⟨#[]⟩, .bool false, .slice (some ⟨g, 0, none⟩) 1 1, .slice (some ⟨g + 1, 0, none⟩) 1 1, .int .i64 1, .int .i64 1, .string ⟨#[98]⟩, .bool false, .slice none 0 0, .slice none 0 0] 52)
  have s3 := Str.new ((x.alloc (.cells #[.string ⟨#[97]⟩] 9)).alloc (.cells #[.int .i64 1] 3)) 52 #[.int .i64 3, .int .i64 1, .string ⟨#[]⟩, .bool false, .slice (some ⟨g, 0, none⟩) 1 1, .slice (some ⟨g + 1, 0, none⟩) 1 1, .int .i64 1, .int .i64 1, .string ⟨#[98]⟩, .bool false, .slice none 0 0, .slice none 0 0]
  rw [show ((x.alloc (.cells #[.string ⟨#[97]⟩] 9)).alloc (.cells #[.int .i64 1] 3)).heap.size = g + 1 + 1 by omega] at s3
  refine ⟨[(⟨3, 1, [], false, [[97]], [1]⟩, .slice (some ⟨g, 0, none⟩) 1 1, .slice (some ⟨g + 1, 0, none⟩) 1 1), (⟨1, 1, [98], false, [], []⟩, .slice none 0 0, .slice none 0 0)], rfl, ⟨some ⟨g + 1 + 1, 0, none⟩, 2, rfl, Nat.le_refl _, by decide, (by intro h; cases h), fun j a ha => ⟨g + 1 + 1, 0, rfl, ?_⟩⟩, fun a ha => ?_⟩
  · match j, ha with
    | 0, ha =>
      obtain rfl := Option.some.inj ha
      exact ⟨s3.cell 0, s3.cell 1, s3.cell 2, s3.cell 3, s3.cell 4, s3.cell 5⟩
    | 1, ha =>
      obtain rfl := Option.some.inj ha
      exact ⟨s3.cell 6, s3.cell 7, s3.cell 8, s3.cell 9, s3.cell 10, s3.cell 11⟩
    | j + 2, ha => simp at ha
  · simp only [List.mem_cons, List.not_mem_nil, or_false] at ha
    rcases ha with rfl | rfl
    · exact ⟨(r1.below b2).below b3, r2.below b3⟩
    · exact ⟨Rdv.nil _, Rdv.nil _⟩

/-- Two variables, of a document and of a fault, as they are made. -/
theorem var2 (w : World) : ((w.alloc (.cells #[.slice none 0 0] 26)).alloc (.cells #[.int .i64 0, .int .i64 0] 28)).cell? ⟨w.heap.size, 0, none⟩ = some (.slice none 0 0) ∧ ((w.alloc (.cells #[.slice none 0 0] 26)).alloc (.cells #[.int .i64 0, .int .i64 0] 28)).frozen? ⟨w.heap.size, 0, none⟩ = false := by
  have h := (Str.new w 26 #[.slice none 0 0]).below (below_alloc _ (.cells #[.int .i64 0, .int .i64 0] 28))
  exact ⟨h.cell 0, h.frozen 0⟩
set_option maxRecDepth 10000 in
set_option maxHeartbeats 8000000 in
theorem awake12 (w : World) (hm : MaxIs w) :
    Calls Tryz.prog 6 #[] w fun e w' => e = .returned (.bool true) ∧ Below w.heap.size w w' := by
  have hq1 := eq_fault 0 0
  have hq2 := eq_fault 10 1
  have hg2 := fault_guard
  have HM := Lib.hid hm
  have BL := below_alloc w (.cells #[.int .u8 97, .int .u8 58, .int .u8 32, .int .u8 98] 5 (4, 5))
  have cv1 := dconv_const w 22 5 #[.int .u8 97, .int .u8 58, .int .u8 32, .int .u8 98] 4 4 w.heap.size rfl Tryz.underlying22 Tryz.underlying5
  have HBL := Lib.hid BL
  have H1 := Lib.hid (parse_any _ awd1 _ (aw_t1 w w.heap.size rfl) (hm.below BL))
  clear hm BL
  go_enter Tryz.func6, Tryz.ntmps6
  go_wp2_with fail
  refine H1.out.mono ?_
  rintro e w1 he
  obtain ⟨a1, c1, rfl, r1, b1⟩ := aw_par (ns := awn) (k := 0) (n := 0) (m := 2) (congrArg DC.told aw_p1) (congrArg DC.wrong aw_p1) rfl he
  obtain ⟨z1, z2⟩ := var2 w1
  have C1 := below_alloc w1 (.cells #[.slice a1 2 c1] 26)
  have C2 := below_alloc (w1.alloc (.cells #[.slice a1 2 c1] 26)) (.cells #[.int .i64 0, .int .i64 0] 28)
  have C3 := below_alloc ((w1.alloc (.cells #[.slice a1 2 c1] 26)).alloc (.cells #[.int .i64 0, .int .i64 0] 28)) (.cells #[.int .u8 97, .int .u8 58] 5 (2, 3))
  have zz : ((w1.alloc (.cells #[.slice a1 2 c1] 26)).alloc (.cells #[.int .i64 0, .int .i64 0] 28)).heap.size = w1.heap.size + 1 + 1 := by rw [bx_size, bx_size]
  have cv2 := dconv_const ((w1.alloc (.cells #[.slice a1 2 c1] 26)).alloc (.cells #[.int .i64 0, .int .i64 0] 28)) 22 5 #[.int .u8 97, .int .u8 58] 2 2 (w1.heap.size + 1 + 1) zz Tryz.underlying22 Tryz.underlying5
  have S1 := (Str.new w1 26 #[.slice a1 2 c1]).below C2
  have S2 := Str.new (w1.alloc (.cells #[.slice a1 2 c1] 26)) 28 #[.int .i64 0, .int .i64 0]
  rw [bx_size] at S2
  have C123 := below_trans C1 (below_trans C2 C3)
  have HB1 := Lib.hid (below_trans (below_trans HBL.out b1) C123)
  have HS1 := Lib.hid (S1.below C3)
  have HF1 := Lib.hid (S2.below C3)
  have HR1 := Lib.hid (r1.below C123)
  have H2 := Lib.hid (parse_any _ awd2 _ (aw_t2 _ (w1.heap.size + 1 + 1) zz) (HM.out.below HB1.out))
  clear he r1 b1 C1 C2 C3 zz S1 S2 C123 H1 HBL cv1
  go_wp2_with fail
  clear z1 z2
  refine H2.out.mono ?_
  rintro e w2 he
  obtain ⟨a2, c2, rfl, r2, b2⟩ := aw_par (ns := []) (k := 10) (n := 1) (m := 0) (congrArg DC.told aw_p2) (congrArg DC.wrong aw_p2) rfl he
  obtain ⟨z1, z2⟩ := var2 w2
  have C1 := below_alloc w2 (.cells #[.slice a2 0 c2] 26)
  have C2 := below_alloc (w2.alloc (.cells #[.slice a2 0 c2] 26)) (.cells #[.int .i64 10, .int .i64 1] 28)
  have S2 := Str.new (w2.alloc (.cells #[.slice a2 0 c2] 26)) 28 #[.int .i64 10, .int .i64 1]
  rw [bx_size] at S2
  have C12 := below_trans (below_trans b2 C1) C2
  have HB2 := Lib.hid (below_trans HB1.out C12)
  have HS2 := Lib.hid (HS1.out.below C12)
  have HF2 := Lib.hid (HF1.out.below C12)
  have HG2 := Lib.hid S2
  have HR2 := Lib.hid (HR1.out.below C12)
  have H3 := Lib.hid (of_any (.slice none 0 0) [] _ (Rdp.nil ((w2.alloc (.cells #[.slice a2 0 c2] 26)).alloc (.cells #[.int .i64 10, .int .i64 1] 28))) (by intro x hx; cases hx))
  clear he r2 b2 C1 C2 S2 C12 H2 HB1 HS1 HF1 HR1 cv2
  go_wp2_with fail
  clear z1 z2
  refine H3.out.mono ?_
  rintro e w3 he
  obtain ⟨a3, c3, rfl, r3, b3⟩ := aw_of (ns := []) (k := 10) (n := 1) (m := 0) (by unfold DC.nodes; rw [aw_p3]) (by unfold DC.fault; rw [aw_p3]) rfl he
  obtain ⟨z1, z2⟩ := var2 w3
  have C1 := below_alloc w3 (.cells #[.slice a3 0 c3] 26)
  have C2 := below_alloc (w3.alloc (.cells #[.slice a3 0 c3] 26)) (.cells #[.int .i64 10, .int .i64 1] 28)
  have S2 := Str.new (w3.alloc (.cells #[.slice a3 0 c3] 26)) 28 #[.int .i64 10, .int .i64 1]
  rw [bx_size] at S2
  have zz : ((w3.alloc (.cells #[.slice a3 0 c3] 26)).alloc (.cells #[.int .i64 10, .int .i64 1] 28)).heap.size = w3.heap.size + 1 + 1 := by rw [bx_size, bx_size]
  have C12 := below_trans (below_trans b3 C1) C2
  have HB3 := Lib.hid (below_trans HB2.out C12)
  have HS3 := Lib.hid (HS2.out.below C12)
  have HF3 := Lib.hid (HF2.out.below C12)
  have HG3 := Lib.hid (HG2.out.below C12)
  have HH3 := Lib.hid S2
  have HR3 := Lib.hid (HR2.out.below C12)
  have HZ := Lib.hid zz
  obtain ⟨f0, f1⟩ := HF3.out.cells2
  have s0 := HS3.out.cell 0
  simp only [List.getElem?_toArray, List.getElem?_cons_zero] at s0
  have D1 := below_alloc ((w3.alloc (.cells #[.slice a3 0 c3] 26)).alloc (.cells #[.int .i64 10, .int .i64 1] 28)) (.cells #[.string ⟨#[97]⟩] 9)
  have D2 := below_trans D1 (below_alloc _ (.cells #[.int .i64 1] 3))
  have D3 := below_trans D2 (below_alloc _ (.cells #[.int .i64 3, .int .i64 1, .string ⟨#[]⟩, .bool false, .slice (some ⟨w3.heap.size + 1 + 1, 0, none⟩) 1 1, .slice (some ⟨w3.heap.size + 1 + 1 + 1, 0, none⟩) 1 1, .int .i64 1, .int .i64 1, .string ⟨#[98]⟩, .bool false, .slice none 0 0, .slice none 0 0] 52))
  have HAL := Lib.hid (dalike_any _ _ awn _ (HR3.out.below D3) (aw_doc _ (w3.heap.size + 1 + 1) zz) (by decide))
  have HB4 := Lib.hid (below_trans HB3.out D3)
  have HG4 := Lib.hid (HG3.out.below D3)
  have HH4 := Lib.hid (HH3.out.below D3)
  clear he r3 b3 C1 C2 S2 C12 H3 HB2 HS2 HF2 HG2 HR2 zz D1 D2 D3 HB3 HS3 HF3 HG3 HH3 HR3 HZ
  go_wp2_with fail
  refine HAL.out.mono ?_
  rintro e w4 ⟨rfl, b4⟩
  have HB5 := Lib.hid (below_trans HB4.out b4)
  obtain ⟨g0, g1⟩ := (HG4.out.below b4).cells2
  obtain ⟨k0, k1⟩ := (HH4.out.below b4).cells2
  clear b4 HB4 HG4 HH4 HAL f0 f1 s0
  go_wp2
  go_ret
  exact ret_b rfl HB5.out
end Go.Proofs.YthhngkoopaolkaaGreatDoor
