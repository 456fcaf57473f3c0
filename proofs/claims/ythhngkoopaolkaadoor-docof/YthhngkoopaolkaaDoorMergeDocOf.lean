/- Several texts in one. -/
import Derived.Test.YthhngkoopaolkaaDoorDsA
import Derived.Laws.StructEq
import Derived.Test.YthhngkoopaolkaaDoorDcL
import Derived.Test.YthhngkoopaolkaaDoorDcQ
import Derived.Lib.SlBytesConst
import Derived.Test.YthhngkoopaolkaaDoorDcTB
import Derived.Test.YthhngkoopaolkaaDoorLxB
import Derived.ProofKit
import Derived.OpenShut
import Derived.ChangeOld
import Derived.SizedLaws
import Derived.Deep.SlicePairs
import Derived.Lib.SmallJoins
/- '==' of faults. -/
namespace Go.Proofs.YthhngkoopaolkaaDoor
open Go.RowKit

theorem fpart0 (x y : Value) (w : World) : (part 3 #[x, y] 0).run Tryd.prog w = .ok x w := by kernel_rfl
theorem fpart1 (x y : Value) (w : World) : (part 3 #[x, y] 1).run Tryd.prog w = .ok y w := by kernel_rfl
theorem llist_beq (a : List UInt8) : ((⟨a.toArray⟩ : ByteArray).toList == (⟨a.toArray⟩ : ByteArray).toList) = true := by simp
theorem fault_under : Tryd.prog.underlying 30 = some (.struct (Tryd.prog.fieldsOf 30)) := by kernel_rfl
theorem fault_held : Tryd.prog.stoodInHeld 30 = false := by kernel_rfl
theorem fault_guard : Tryd.prog.eqGuardType Tryd.prog.depth 30 = false := by kernel_rfl
theorem fault_fields : ∃ f0 f1, (Tryd.prog.fieldsOf 30).toList = [f0, f1] ∧ f0.type = 3 ∧ f1.type = 3 ∧ f0.offset = 0 ∧ f1.offset = 1 ∧ f0.name = "Kind" ∧ f1.name = "Line" := by
  refine ⟨(Tryd.prog.fieldsOf 30).getD 0 default, (Tryd.prog.fieldsOf 30).getD 1 default, ?_, ?_, ?_, ?_, ?_, ?_, ?_⟩ <;> kernel_rfl
theorem eq_fault (a b : Int) (w : World) : (binOp .eql 30 (.agg #[.int .i64 a, .int .i64 b]) (.agg #[.int .i64 a, .int .i64 b])).run Tryd.prog w = .ok (.bool true) w := by
  rw [run_eql_struct, run_equalIn_agg w 9999 _ _ _ fault_under fault_held]
  obtain ⟨f0, f1, hl, t0, t1, o0, o1, n0, n1⟩ := fault_fields
  rw [hl]
  have k0 : f0.name ≠ "_" := by rw [n0]; decide
  have k1 : f1.name ≠ "_" := by rw [n1]; decide
  simp only [Op.eqFields, k0, k1, if_true, ne_eq, not_false_eq_true, t0, t1, o0, o1, Sem.run_bind, fpart0, fpart1, Result.andThen_ok, run_equalIn_int w 9998 _ .i64 _ _ _ Tryd.underlying3, Sem.run_ite, Sem.run_pure]
  simp
end Go.Proofs.YthhngkoopaolkaaDoor

/- What the document fixes of chapter 12: awake. -/
namespace Go.Proofs.YthhngkoopaolkaaDoor
open Go.RowKit

theorem MaxIs.shaped {w : World} (h : w.ShapedOpen Tryd.prog) : MaxIs w := cell_of_shapedOpen_int (zero := #[.int .i64 0]) (t := 3) h (of_decide_eq_true (by kernel_rfl)) (by kernel_rfl) rfl (by kernel_rfl) (by kernel_rfl) Tryd.underlying3

theorem Rdoc.slice {w : World} {v : Value} {ns : List DC.Nd} (h : Rdoc w v ns) : ∃ ao cap, v = .slice ao ns.length cap := by
  obtain ⟨vs, rfl, ⟨ao, cap, e, _⟩, _⟩ := h
  exact ⟨ao, cap, by rw [e]; simp⟩
def awd1 : List UInt8 := [97, 58, 32, 98]
def awd2 : List UInt8 := [97, 58]
def awn : List DC.Nd := [⟨3, 1, [], false, [[97]], [1]⟩, ⟨1, 1, [98], false, [], []⟩]
theorem aw_p1 : DC.parse awd1 = .ok awn := by decide +kernel
theorem aw_p2 : DC.parse awd2 = .bad 10 1 := by decide +kernel
theorem aw_p3 : DC.doc [] = .bad 10 1 := by decide +kernel
theorem aw_par {o : DC.Out (List DC.Nd)} {ns : List DC.Nd} {k n : Int} {m : Nat} (h1 : DC.told o = ns) (h2 : DC.wrong o = (k, n)) (hm : ns.length = m) {w : World} {e : Ending} {w' : World} (h : ParE w o e w') : ∃ ao c, e = .returned (.tuple #[.agg #[.slice ao m c], .agg #[.int .i64 k, .int .i64 n]]) ∧ Rdoc w' (.slice ao m c) ns ∧ Below w.heap.size w w' := by
  obtain ⟨hb, v, he, hr⟩ := h
  rw [h2] at he
  rw [h1] at hr
  obtain ⟨ao, c, rfl⟩ := hr.slice
  rw [hm] at he hr
  exact ⟨ao, c, he, hr, hb⟩
theorem aw_of {w : World} {l : List LX.Pc} {ns : List DC.Nd} {k n : Int} {m : Nat} (h1 : DC.nodes l = ns) (h2 : DC.fault l = (k, n)) (hm : ns.length = m) {e : Ending} {w' : World} (h : OfE w l e w') : ∃ ao c, e = .returned (.tuple #[.agg #[.slice ao m c], .agg #[.int .i64 k, .int .i64 n]]) ∧ Rdoc w' (.slice ao m c) ns ∧ Below w.heap.size w w' := by
  obtain ⟨hb, v, S, he, hr⟩ := h
  rw [h2] at he
  rw [h1] at hr
  obtain ⟨ao, c, rfl⟩ := hr.slice
  rw [hm] at he hr
  exact ⟨ao, c, he, hr.rd, hb⟩
theorem dconv_const {P : Program} (w : World) (t e : TypeId) (C : Array Value) (n c g : Nat) (hg : w.heap.size = g) (ht : P.underlying t = some (.slice e)) (he : P.underlying e = some (.int .u8)) :
    (convert t t (.slice (some ⟨g, 0, none⟩) n c)).run P (w.alloc (.cells C e)) = .ok (.slice (some ⟨g, 0, none⟩) n c) (w.alloc (.cells C e (C.size, C.size + 1))) := by
  subst hg; exact Lib.run_convert_bytes_const w t e C n c ht he
theorem dmark_rd {w : World} {e : TypeId} (bs : List UInt8) (fr : Nat × Nat) (g : Nat) (hg : w.heap.size = g) (hm : bs.length ≤ maxLen) : Rdv (w.alloc (.cells (bv bs).toArray e fr)) (.slice (some ⟨g, 0, none⟩) bs.length bs.length) (bv bs) := by
  subst hg
  refine ⟨some ⟨w.heap.size, 0, none⟩, bs.length, by rw [bv_len], by rw [bv_len]; omega, hm, (by intro h; cases h), fun j u hu => ⟨_, rfl, ?_⟩⟩
  rw [Addr.add_lit]
  have := World.cell?_alloc_mark w (bv bs).toArray e fr (0 + j)
  rw [this]
  simpa using hu
theorem aw_t1 (x : World) (g : Nat) (hg : x.heap.size = g) : Rdv (x.alloc (.cells #[.int .u8 97, .int .u8 58, .int .u8 32, .int .u8 98] 5 (4, 5))) (.slice (some ⟨g, 0, none⟩) 4 4) (bv awd1) := dmark_rd awd1 (4, 5) g hg (by decide)
theorem aw_t2 (x : World) (g : Nat) (hg : x.heap.size = g) : Rdv (x.alloc (.cells #[.int .u8 97, .int .u8 58] 5 (2, 3))) (.slice (some ⟨g, 0, none⟩) 2 2) (bv awd2) := dmark_rd awd2 (2, 3) g hg (by decide)
/-- The document that is written out. -/
theorem aw_doc (x : World) (g : Nat) (hg : x.heap.size = g) : Rdoc (((x.alloc (.cells #[.string ⟨#[97]⟩] 9)).alloc (.cells #[.int .i64 1] 3)).alloc (.cells #[.int .i64 3, .int .i64 1, .string ⟨#[]⟩, .bool false, .slice (some ⟨g, 0, none⟩) 1 1, .slice (some ⟨g + 1, 0, none⟩) 1 1, .int .i64 1, .int .i64 1, .string ⟨#[98]⟩, .bool false, .slice none 0 0, .slice none 0 0] 47)) (.slice (some ⟨g + 1 + 1, 0, none⟩) 2 2) awn := by
  have z1 := bx_size x (.cells #[.string ⟨#[97]⟩] 9)
  have z2 := bx_size (x.alloc (.cells #[.string ⟨#[97]⟩] 9)) (.cells #[.int .i64 1] 3)
  have r1 := one_rd_at (w := x) (e := 9) (.string ⟨#[97]⟩) g hg
  have b2 := below_alloc (x.alloc (.cells #[.string ⟨#[97]⟩] 9)) (.cells #[.int .i64 1] 3)
  have r2 := one_rd_at (w := x.alloc (.cells #[.string ⟨#[97]⟩] 9)) (e := 3) (.int .i64 1) (g + 1) (by omega)
  have b3 := below_alloc ((x.alloc (.cells #[.string ⟨#[97]⟩] 9)).alloc (.cells #[.int .i64 1] 3)) (.cells #[.int .i64 3, .int .i64 1, .string ⟨#[]⟩, .bool false, .slice (some ⟨g, 0, none⟩) 1 1, .slice (some ⟨g + 1, 0, none⟩) 1 1, .int .i64 1, .int .i64 1, .string ⟨#[98]⟩, .bool false, .slice none 0 0, .slice none 0 0] 47)
  have s3 := Str.new ((x.alloc (.cells #[.string ⟨#[97]⟩] 9)).alloc (.cells #[.int .i64 1] 3)) 47 #[.int .i64 3, .int .i64 1, .string ⟨#[]⟩, .bool false, .slice (some ⟨g, 0, none⟩) 1 1, .slice (some ⟨g + 1, 0, none⟩) 1 1, .int .i64 1, .int .i64 1, .string ⟨#[98]⟩, .bool false, .slice none 0 0, .slice none 0 0]
  rw [show ((x.alloc (.cells #[.string ⟨#[97]⟩] 9)).alloc (.cells #[.int .i64 1] 3)).heap.size = g + 1 + 1 by omega] at s3
  refine ⟨[(⟨3, 1, [], false, [[97]], [1]⟩, .slice (some ⟨g, 0, none⟩) 1 1, .slice (some ⟨g + 1, 0, none⟩) 1 1), (⟨1, 1, [98], false, [], []⟩, .slice none 0 0, .slice none 0 0)], rfl, ⟨some ⟨g + 1 + 1, 0, none⟩, 2, rfl, Nat.le_refl _, by decide, (by intro h; cases h), fun j a ha => ⟨g + 1 + 1, 0, rfl, ?_⟩⟩, fun a ha => ?_⟩
  · match j, ha with
    | 0, ha =>
      obtain rfl := Option.some.inj ha
      exact ⟨s3.cell 0, s3.cell 1, s3.cell 2, s3.cell 3, s3.cell 4, s3.cell 5⟩
    | 1, ha =>
      obtain rfl := Option.some.inj ha
      exact ⟨s3.cell 6, s3.cell 7, s3.cell 8, s3.cell 9, s3.cell 10, s3.cell 11⟩
    | j + 2, ha => simp at ha
  · simp only [List.mem_cons, List.not_mem_nil, or_false] at ha
    rcases ha with rfl | rfl
    · exact ⟨(r1.below b2).below b3, r2.below b3⟩
    · exact ⟨Rdv.nil _, Rdv.nil _⟩

/-- Two variables, of a document and of a fault, as they are made. -/
theorem var2 (w : World) : ((w.alloc (.cells #[.slice none 0 0] 28)).alloc (.cells #[.int .i64 0, .int .i64 0] 30)).cell? ⟨w.heap.size, 0, none⟩ = some (.slice none 0 0) ∧ ((w.alloc (.cells #[.slice none 0 0] 28)).alloc (.cells #[.int .i64 0, .int .i64 0] 30)).frozen? ⟨w.heap.size, 0, none⟩ = false := by
  have h := (Str.new w 28 #[.slice none 0 0]).below (below_alloc _ (.cells #[.int .i64 0, .int .i64 0] 30))
  exact ⟨h.cell 0, h.frozen 0⟩
set_option maxRecDepth 10000 in
set_option maxHeartbeats 8000000 in
theorem awake12 (w : World) (hm : MaxIs w) :
    Calls Tryd.prog 7 #[] w fun e w' => e = .returned (.bool true) ∧ Below w.heap.size w w' := by
  have hq1 := eq_fault 0 0
  have hq2 := eq_fault 10 1
  have hg2 := fault_guard
  have HM := Lib.hid hm
  have BL := below_alloc w (.cells #[.int .u8 97, .int .u8 58, .int .u8 32, .int .u8 98] 5 (4, 5))
  have cv1 := dconv_const w 37 5 #[.int .u8 97, .int .u8 58, .int .u8 32, .int .u8 98] 4 4 w.heap.size rfl Tryd.underlying37 Tryd.underlying5
  have HBL := Lib.hid BL
  have H1 := Lib.hid (parse_any _ awd1 _ (aw_t1 w w.heap.size rfl) (hm.below BL))
  clear hm BL
  go_enter Tryd.func7, Tryd.ntmps7
  go_wp2_with fail
  refine H1.out.mono ?_
  rintro e w1 he
  obtain ⟨a1, c1, rfl, r1, b1⟩ := aw_par (ns := awn) (k := 0) (n := 0) (m := 2) (congrArg DC.told aw_p1) (congrArg DC.wrong aw_p1) rfl he
  obtain ⟨z1, z2⟩ := var2 w1
  have C1 := below_alloc w1 (.cells #[.slice a1 2 c1] 28)
  have C2 := below_alloc (w1.alloc (.cells #[.slice a1 2 c1] 28)) (.cells #[.int .i64 0, .int .i64 0] 30)
  have C3 := below_alloc ((w1.alloc (.cells #[.slice a1 2 c1] 28)).alloc (.cells #[.int .i64 0, .int .i64 0] 30)) (.cells #[.int .u8 97, .int .u8 58] 5 (2, 3))
  have zz : ((w1.alloc (.cells #[.slice a1 2 c1] 28)).alloc (.cells #[.int .i64 0, .int .i64 0] 30)).heap.size = w1.heap.size + 1 + 1 := by rw [bx_size, bx_size]
  have cv2 := dconv_const ((w1.alloc (.cells #[.slice a1 2 c1] 28)).alloc (.cells #[.int .i64 0, .int .i64 0] 30)) 37 5 #[.int .u8 97, .int .u8 58] 2 2 (w1.heap.size + 1 + 1) zz Tryd.underlying37 Tryd.underlying5
  have S1 := (Str.new w1 28 #[.slice a1 2 c1]).below C2
  have S2 := Str.new (w1.alloc (.cells #[.slice a1 2 c1] 28)) 30 #[.int .i64 0, .int .i64 0]
  rw [bx_size] at S2
  have C123 := below_trans C1 (below_trans C2 C3)
  have HB1 := Lib.hid (below_trans (below_trans HBL.out b1) C123)
  have HS1 := Lib.hid (S1.below C3)
  have HF1 := Lib.hid (S2.below C3)
  have HR1 := Lib.hid (r1.below C123)
  have H2 := Lib.hid (parse_any _ awd2 _ (aw_t2 _ (w1.heap.size + 1 + 1) zz) (HM.out.below HB1.out))
  clear he r1 b1 C1 C2 C3 zz S1 S2 C123 H1 HBL cv1
  go_wp2_with fail
  clear z1 z2
  refine H2.out.mono ?_
  rintro e w2 he
  obtain ⟨a2, c2, rfl, r2, b2⟩ := aw_par (ns := []) (k := 10) (n := 1) (m := 0) (congrArg DC.told aw_p2) (congrArg DC.wrong aw_p2) rfl he
  obtain ⟨z1, z2⟩ := var2 w2
  have C1 := below_alloc w2 (.cells #[.slice a2 0 c2] 28)
  have C2 := below_alloc (w2.alloc (.cells #[.slice a2 0 c2] 28)) (.cells #[.int .i64 10, .int .i64 1] 30)
  have S2 := Str.new (w2.alloc (.cells #[.slice a2 0 c2] 28)) 30 #[.int .i64 10, .int .i64 1]
  rw [bx_size] at S2
  have C12 := below_trans (below_trans b2 C1) C2
  have HB2 := Lib.hid (below_trans HB1.out C12)
  have HS2 := Lib.hid (HS1.out.below C12)
  have HF2 := Lib.hid (HF1.out.below C12)
  have HG2 := Lib.hid S2
  have HR2 := Lib.hid (HR1.out.below C12)
  have H3 := Lib.hid (of_any (.slice none 0 0) [] _ (Rdp.nil ((w2.alloc (.cells #[.slice a2 0 c2] 28)).alloc (.cells #[.int .i64 10, .int .i64 1] 30))) (by intro x hx; cases hx))
  clear he r2 b2 C1 C2 S2 C12 H2 HB1 HS1 HF1 HR1 cv2
  go_wp2_with fail
  clear z1 z2
  refine H3.out.mono ?_
  rintro e w3 he
  obtain ⟨a3, c3, rfl, r3, b3⟩ := aw_of (ns := []) (k := 10) (n := 1) (m := 0) (by unfold DC.nodes; rw [aw_p3]) (by unfold DC.fault; rw [aw_p3]) rfl he
  obtain ⟨z1, z2⟩ := var2 w3
  have C1 := below_alloc w3 (.cells #[.slice a3 0 c3] 28)
  have C2 := below_alloc (w3.alloc (.cells #[.slice a3 0 c3] 28)) (.cells #[.int .i64 10, .int .i64 1] 30)
  have S2 := Str.new (w3.alloc (.cells #[.slice a3 0 c3] 28)) 30 #[.int .i64 10, .int .i64 1]
  rw [bx_size] at S2
  have zz : ((w3.alloc (.cells #[.slice a3 0 c3] 28)).alloc (.cells #[.int .i64 10, .int .i64 1] 30)).heap.size = w3.heap.size + 1 + 1 := by rw [bx_size, bx_size]
  have C12 := below_trans (below_trans b3 C1) C2
  have HB3 := Lib.hid (below_trans HB2.out C12)
  have HS3 := Lib.hid (HS2.out.below C12)
  have HF3 := Lib.hid (HF2.out.below C12)
  have HG3 := Lib.hid (HG2.out.below C12)
  have HH3 := Lib.hid S2
  have HR3 := Lib.hid (HR2.out.below C12)
  have HZ := Lib.hid zz
  obtain ⟨f0, f1⟩ := HF3.out.cells2
  have s0 := HS3.out.cell 0
  simp only [List.getElem?_toArray, List.getElem?_cons_zero] at s0
  have D1 := below_alloc ((w3.alloc (.cells #[.slice a3 0 c3] 28)).alloc (.cells #[.int .i64 10, .int .i64 1] 30)) (.cells #[.string ⟨#[97]⟩] 9)
  have D2 := below_trans D1 (below_alloc _ (.cells #[.int .i64 1] 3))
  have D3 := below_trans D2 (below_alloc _ (.cells #[.int .i64 3, .int .i64 1, .string ⟨#[]⟩, .bool false, .slice (some ⟨w3.heap.size + 1 + 1, 0, none⟩) 1 1, .slice (some ⟨w3.heap.size + 1 + 1 + 1, 0, none⟩) 1 1, .int .i64 1, .int .i64 1, .string ⟨#[98]⟩, .bool false, .slice none 0 0, .slice none 0 0] 47))
  have HAL := Lib.hid (dalike_any _ _ awn _ (HR3.out.below D3) (aw_doc _ (w3.heap.size + 1 + 1) zz) (by decide))
  have HB4 := Lib.hid (below_trans HB3.out D3)
  have HG4 := Lib.hid (HG3.out.below D3)
  have HH4 := Lib.hid (HH3.out.below D3)
  clear he r3 b3 C1 C2 S2 C12 H3 HB2 HS2 HF2 HG2 HR2 zz D1 D2 D3 HB3 HS3 HF3 HG3 HH3 HR3 HZ
  go_wp2_with fail
  refine HAL.out.mono ?_
  rintro e w4 ⟨rfl, b4⟩
  have HB5 := Lib.hid (below_trans HB4.out b4)
  obtain ⟨g0, g1⟩ := (HG4.out.below b4).cells2
  obtain ⟨k0, k1⟩ := (HH4.out.below b4).cells2
  clear b4 HB4 HG4 HH4 HAL f0 f1 s0
  go_wp2
  go_ret
  exact ret_b rfl HB5.out
end Go.Proofs.YthhngkoopaolkaaDoor

/- A text's bytes; what Parse told, laid in two variables. -/
namespace Go.Proofs.YthhngkoopaolkaaDoor
open Go.RowKit

/-- '[]byte(s)': what it reads as. -/
theorem conv_text (l : List UInt8) (hl : l.length ≤ 9223372036854775807) (w : World) : ∃ (W : World) (v : Value), (convert 9 37 (.string ⟨l.toArray⟩)).run Tryd.prog w = .ok v W ∧ Below w.heap.size w W ∧ Rdv W v (bv l) := by
  have h := Lib.run_convert_string_bytes (P := Tryd.prog) w 9 37 5 ⟨l.toArray⟩ (u := .string) Tryd.underlying9 Tryd.underlying37 Tryd.underlying5
  rw [str_size] at h
  refine ⟨_, _, h, ⟨rfl, rfl, rfl, ?_, ?_⟩, ?_⟩
  · rw [Lib.bytesWorld_size]; omega
  · intro j hj
    exact Lib.bytesWorld_at_old _ _ _ _ hj
  · refine ⟨some ⟨w.heap.size, 0, none⟩, _, by rw [bv_len], by rw [bv_len]; exact grownCap_ge _ _ _ _, grownCap_le_maxLen _ _ _ _ (by unfold maxLen; omega), (by intro h; cases h), fun j u hu => ⟨_, rfl, ?_⟩⟩
    rw [Addr.add_lit, Nat.zero_add]
    have hj : j < l.length := by
      have := (List.getElem?_eq_some_iff.1 hu).1
      rwa [bv_len] at this
    rw [bv_get hj] at hu
    have := Lib.bytesWorld_cell w 5 ⟨l.toArray⟩ j (by rw [str_size]; exact hj)
    rw [this, ← hu]
    simp [List.getD, hj]
/-- What Parse told, laid in two variables. -/
theorem two_vars (w : World) (x f g : Value) : Str ((w.alloc (.cells #[x] 28)).alloc (.cells #[f, g] 30)) w.heap.size 28 #[x] ∧ Str ((w.alloc (.cells #[x] 28)).alloc (.cells #[f, g] 30)) (w.heap.size + 1) 30 #[f, g] ∧ Below w.heap.size w ((w.alloc (.cells #[x] 28)).alloc (.cells #[f, g] 30)) := by
  have b1 := below_alloc w (.cells #[x] 28)
  have b2 := below_alloc (w.alloc (.cells #[x] 28)) (.cells #[f, g] 30)
  have s2 := Str.new (w.alloc (.cells #[x] 28)) 30 #[f, g]
  rw [bx_size] at s2
  exact ⟨(Str.new w 28 #[x]).below b2, s2, below_trans b1 b2⟩
end Go.Proofs.YthhngkoopaolkaaDoor

/- The walk of the document's own Of. -/
namespace Go.Proofs.YthhngkoopaolkaaDoor
open Go.RowKit

theorem rof_ret {tmps : Array Value} {w : World} {p q : Nat} {x y z : Value} (hp : tmps.getD 2 undef = .pointer (some ⟨p, 0, none⟩)) (hq : tmps.getD 3 undef = .pointer (some ⟨q, 0, none⟩)) (h1 : Str w p 28 #[x]) (h2 : Str w q 30 #[y, z]) :
    (results Tryd.f9 tmps).run Tryd.prog w = .ok (.tuple #[.agg #[x], .agg #[y, z]]) w := by
  have hs' : w.heap[q]? = some (.cells #[y, z] 30 (0, 0)) := h2
  have hs1 : w.heap[p]? = some (.cells #[x] 28 (0, 0)) := h1
  have l2 := run_loadVar_row (P := Tryd.prog) w q 30 30 #[y, z] (0, 0) _ hs' Tryd.underlying30 rfl fault_size
  have l1 := run_loadVar_row (P := Tryd.prog) w p 28 28 #[x] (0, 0) _ hs1 Tryd.underlying28 rfl doc_size
  have hp' : (asAddr (tmps.getD 2 undef)).run Tryd.prog w = .ok ⟨p, 0, none⟩ w := by rw [hp]; simp [asAddr]
  have hq' : (asAddr (tmps.getD 3 undef)).run Tryd.prog w = .ok ⟨q, 0, none⟩ w := by rw [hq]; simp [asAddr]
  simp only [Array.getD_eq_getD_getElem?] at hp' hq'
  simp only [results, Tryd.results9]
  simp [Sem.run_bind, Result.andThen, hp', hq', l1, l2]
/-- The results' variables, where the first has been laid. -/
theorem DoD.lay {w wr : World} {x y z : Value} (h : DoD w wr x y z) (v : Value) :
    wr.cell? ⟨w.heap.size, 0, none⟩ = some x ∧ wr.frozen? ⟨w.heap.size, 0, none⟩ = false ∧ (wr.setCell ⟨w.heap.size, 0, none⟩ v).cell? ⟨w.heap.size + 1, 0, none⟩ = some y ∧ (wr.setCell ⟨w.heap.size, 0, none⟩ v).cell? ⟨w.heap.size + 1, 1, none⟩ = some z ∧ (wr.setCell ⟨w.heap.size, 0, none⟩ v).frozen? ⟨w.heap.size + 1, 0, none⟩ = false ∧ (wr.setCell ⟨w.heap.size, 0, none⟩ v).frozen? ⟨w.heap.size + 1, 1, none⟩ = false := by
  have sc : Str (wr.setCell ⟨w.heap.size, 0, none⟩ v) (w.heap.size + 1) 30 #[y, z] := h.c.kb (Kb.set wr w.heap.size 0 _ none) (by simp) (by simp)
  exact ⟨h.b.cell 0, h.b.frozen 0, sc.cell 0, sc.cell 1, sc.frozen 0, sc.frozen 1⟩
theorem own_low {w w1 : World} {x y z v : Value} {S : Nat → Prop} {ns : List DC.Nd} (h : Nds w1 w.heap.size S v ns) (d : DoD w w1 x y z) {g : Nat} (hg : v.ownBlock = some g) : w.heap.size + 2 ≤ g := by
  have h1 := (h.ge hg).1
  have h2 : g ≠ w.heap.size := fun e => by
    rcases h.off d.b (by decide) with e1 | e1
    · rw [e1] at hg; cases hg
    · exact e1 (by rw [hg, e])
  have h3 : g ≠ w.heap.size + 1 := fun e => by
    rcases h.off d.c (by decide) with e1 | e1
    · rw [e1] at hg; cases hg
    · exact e1 (by rw [hg, e])
  omega
theorem rof_start (w : World) (lv : Value) (l : List LX.Pc) (hr : Rdp w lv l) :
    Rst w (((w.alloc (.cells #[.slice none 0 0] 28)).alloc (.cells #[.int .i64 0, .int .i64 0] 30)).alloc (.cells #[lv, .int .i64 0, .slice none 0 0, .int .i64 0, .int .i64 0] 54)) (w.heap.size + 1 + 1) lv l 0 (.slice none 0 0) [] 0 0 (fun _ => False) ∧
    DoD w (((w.alloc (.cells #[.slice none 0 0] 28)).alloc (.cells #[.int .i64 0, .int .i64 0] 30)).alloc (.cells #[lv, .int .i64 0, .slice none 0 0, .int .i64 0, .int .i64 0] 54)) (.slice none 0 0) (.int .i64 0) (.int .i64 0) := by
  have hd := pars_start w
  have zz : ((w.alloc (.cells #[.slice none 0 0] 28)).alloc (.cells #[.int .i64 0, .int .i64 0] 30)).heap.size = w.heap.size + 1 + 1 := by rw [bx_size, bx_size]
  generalize (w.alloc (.cells #[.slice none 0 0] 28)).alloc (.cells #[.int .i64 0, .int .i64 0] 30) = W at *
  have b := below_alloc W (.cells #[lv, .int .i64 0, .slice none 0 0, .int .i64 0, .int .i64 0] 54)
  have s := Str.new W 54 #[lv, .int .i64 0, .slice none 0 0, .int .i64 0, .int .i64 0]
  rw [zz] at s
  exact ⟨⟨below_trans hd.bl b, by omega, s, hr, Nat.zero_le _, Nds.nil _ _ _, fun _ hg => hg.elim⟩, hd.calm b⟩
theorem ofe_bad {w w' : World} {l : List LX.Pc} {k n : Int} (h : DC.doc l = .bad k n) (hb : Below w.heap.size w w') : OfE w l (.returned (.tuple #[.agg #[.slice none 0 0], .agg #[.int .i64 k, .int .i64 n]])) w' := by
  refine ⟨hb, .slice none 0 0, fun _ => False, ?_, ?_⟩
  · simp only [DC.fault, h]
  · simp only [DC.nodes, h]; exact Nds.nil _ _ _
theorem ofe_ok {w w' : World} {l : List LX.Pc} {ns : List DC.Nd} {v : Value} {S : Nat → Prop} (h : DC.doc l = .ok ns) (hb : Below w.heap.size w w') (hn : Nds w' w.heap.size S v ns) : OfE w l (.returned (.tuple #[.agg #[v], .agg #[.int .i64 0, .int .i64 0]])) w' := by
  refine ⟨hb, v, S, ?_, ?_⟩
  · simp only [DC.fault, h]
  · simp only [DC.nodes, h]; exact hn
section
variable {l : List LX.Pc} (h0 : l ≠ [])
include h0
theorem doc_bad {a b : Int} (hA : DC.blk (2 * l.length + 2) 1 0 l = .bad a b) : DC.doc l = .bad a b := by
  unfold DC.doc DC.fuel
  rw [if_neg h0, hA]; rfl
theorem doc_nil {E : List DC.Nd} (hA : DC.blk (2 * l.length + 2) 1 0 l = .ok (E, [])) : DC.doc l = .ok E := by
  unfold DC.doc DC.fuel
  rw [if_neg h0, hA]; rfl
theorem doc_more {E : List DC.Nd} {q : LX.Pc} {r : List LX.Pc} (hA : DC.blk (2 * l.length + 2) 1 0 l = .ok (E, q :: r)) : DC.doc l = .bad 6 q.2.1 := by
  unfold DC.doc DC.fuel
  rw [if_neg h0, hA]; rfl
end
set_option maxRecDepth 10000 in
set_option maxHeartbeats 8000000 in
theorem rof_any (lv : Value) (l : List LX.Pc) (w : World) (hr : Rdp w lv l) (hl : l.length ≤ 1000000) :
    Calls Tryd.prog 9 #[lv] w (OfE w l) := by
  have hs := rof_start w lv l hr
  obtain ⟨al, cl, rfl, _, _⟩ := hr.slice
  have HS := Lib.hid hs.1
  have HD := Lib.hid hs.2
  have HD0 := Lib.hid (pars_start w)
  by_cases h0 : l = []
  · subst h0
    have HE := Lib.hid (fun (w' : World) (hb : Below w.heap.size w w') => ofe_bad (w := w) (w' := w') (l := []) (k := 10) (n := 1) (by decide) hb)
    have HZ := Lib.hid (HD0.out.laid (.slice none 0 0) (.int .i64 10) (.int .i64 1)).1
    obtain ⟨d0, df, c0, c1, cf0, cf1⟩ := HD0.out.lay (.slice none 0 0)
    clear HS HD hr hl hs
    go_enter Tryd.func9, Tryd.ntmps9
    go_upto_region 2 with fail
    generalize World.alloc (World.alloc _ _) _ = W at *
    go_wp2
    (try rw [Exit.noGoto_ret])
    (try simp only [Exit.inBlock, Exit.then])
    refine bodyPost_ret (rof_ret rfl rfl HZ.out.b HZ.out.c) rfl ?_
    exact HE.out _ HZ.out.bl
  · have hpos : 0 < l.length := by
      cases l with
      | nil => exact absurd rfl h0
      | cons x l => simp
    obtain ⟨n, hn⟩ : ∃ n, l.length = n := ⟨_, rfl⟩
    obtain ⟨A, hA⟩ : ∃ A, DC.blk (2 * l.length + 2) 1 0 l = A := ⟨_, rfl⟩
    have HB := Lib.hid (rbc_all (2 * l.length + 2) w _ _ _ _ l 0 [] (fun _ => False) 1 HS.out hpos hl (by simp) (by simp) (by omega))
    rw [List.drop_zero, List.length_nil, hA] at HB
    have H0 := Lib.hid h0
    have HA := Lib.hid hA
    have HN := Lib.hid hn
    rw [hn] at hpos HS HD HB ⊢
    have hn0 : ¬ (n : Int) = 0 := by omega
    have hnb : ((n : Int) == 0) = false := by simpa using hn0
    have hnc : (n == 0) = false := by simpa using (show ¬ n = 0 by omega)
    have hnd : ¬ n = 0 := by omega
    clear hA hr hl h0 hn hs HD0
    go_enter Tryd.func9, Tryd.ntmps9
    go_upto_region 4 with fail
    generalize World.alloc (World.alloc (World.alloc _ _) _) _ = W at *
    clear hnb hnc hn0 hnd hpos
    go_wp2_with fail
    refine HB.out.mono ?_
    rintro e w1 ⟨z, t', nv', ns', k, m, rfl, hp, hk, hnr, hR⟩
    have HP := Lib.hid hp
    have HD1 := Lib.hid (HD.out.far hk (by intro g hg; cases hg))
    have r1 : w1.cell? ⟨w.heap.size + 1 + 1, 1, none⟩ = some (.int .i64 (t' : Int)) := hp.st.cell 1
    have r2 : w1.cell? ⟨w.heap.size + 1 + 1, 2, none⟩ = some nv' := hp.st.cell 2
    have r3 : w1.cell? ⟨w.heap.size + 1 + 1, 3, none⟩ = some (.int .i64 k) := hp.st.cell 3
    have r4 : w1.cell? ⟨w.heap.size + 1 + 1, 4, none⟩ = some (.int .i64 m) := hp.st.cell 4
    clear hp hk hnr HB HS HD
    cases A with
    | bad a b =>
      obtain ⟨rfl, rfl, _, _⟩ := hR
      have hne := DC.blk_bad HA.out
      have hb1 : (k == 0) = false := by simpa using hne
      have hb2 : (k != 0) = true := by simpa using hne
      have HE := Lib.hid (fun (w' : World) (hb : Below w.heap.size w w') => ofe_bad (w := w) (w' := w') (l := l) (k := k) (n := m) (doc_bad H0.out HA.out) hb)
      clear HA H0 hne
      go_upto_region 8 with fail
      have HZ := Lib.hid (HD1.out.laid (.slice none 0 0) (.int .i64 k) (.int .i64 m)).1
      obtain ⟨d0, df, -⟩ := HD1.out.lay (.slice none 0 0)
      obtain ⟨-, -, c0', c1', cf0', cf1'⟩ := HD1.out.lay (.slice none 0 0)
      have c0 : w1.cell? ⟨w.heap.size + 1, 0, none⟩ = some (.int .i64 0) := HD1.out.c.cell 0
      have c1 : w1.cell? ⟨w.heap.size + 1, 1, none⟩ = some (.int .i64 0) := HD1.out.c.cell 1
      have cf0 := HD1.out.c.frozen 0
      have cf1 := HD1.out.c.frozen 1
      have hqd : w.heap.size + 1 + 1 ≠ w.heap.size := by omega
      have S1 := HP.out.st.kb (Kb.set w1 w.heap.size 0 (.slice none 0 0) none) (fun e => hqd (Option.some.inj e)) (by simp)
      have r3' : (w1.setCell ⟨w.heap.size, 0, none⟩ (.slice none 0 0)).cell? ⟨w.heap.size + 1 + 1, 3, none⟩ = some (.int .i64 k) := S1.cell 3
      have r4' : (w1.setCell ⟨w.heap.size, 0, none⟩ (.slice none 0 0)).cell? ⟨w.heap.size + 1 + 1, 4, none⟩ = some (.int .i64 m) := S1.cell 4
      clear S1 hqd
      go_wp2
      go_region
      all_goals (go_wp2; (try rw [Exit.noGoto_ret]); (try simp only [Exit.inBlock, Exit.then]); refine bodyPost_ret (rof_ret rfl rfl (HZ.out.b.below (below_drew _)) (HZ.out.c.below (below_drew _))) rfl ?_; exact HE.out _ (below_trans HZ.out.bl (below_drew _)))
    | ok a =>
      obtain ⟨E, r⟩ := a
      obtain ⟨rfl, rfl, rfl, rfl, hdr⟩ := hR
      have hle := HP.out.le
      have HNN := HN.out
      cases r with
      | nil =>
        have hti : ¬ (t' : Int) < (n : Int) := fun h => by
          have := congrArg List.length hdr
          simp only [List.length_drop, List.length_nil] at this
          omega
        have htb : ¬ t' < n := by omega
        obtain ⟨an, cn, hnv⟩ := HP.out.nd.slice
        subst hnv
        have HE := Lib.hid (fun (v : Value) (w' : World) (S : Nat → Prop) (hb : Below w.heap.size w w') (h : Nds w' w.heap.size S v _) => ofe_ok (w := w) (w' := w') (l := l) (ns := ns') (S := S) (doc_nil H0.out HA.out) hb h)
        obtain ⟨d0, df, c0, c1, cf0, cf1⟩ := HD1.out.lay (.slice an ns'.length cn)
        have hz := HD1.out.laid (.slice an ns'.length cn) (.int .i64 0) (.int .i64 0)
        have HZ := Lib.hid hz.1
        have HNZ := Lib.hid (HP.out.nd.kb hz.2 (Far.str HD1.out.b (by decide) (by decide)) (Far.str HD1.out.c (by decide) (by decide)) (HP.out.nd.off HD1.out.b (by decide)) (HP.out.nd.off HD1.out.c (by decide)))
        clear HA H0 hle HNN hdr hz
        go_wp2
        (try rw [Exit.noGoto_ret])
        (try simp only [Exit.inBlock, Exit.then])
        refine bodyPost_ret (rof_ret rfl rfl HZ.out.b HZ.out.c) rfl ?_
        exact HE.out _ _ _ HZ.out.bl HNZ.out
      | cons q r =>
        have ht : t' < n := by
          have := congrArg List.length hdr
          simp only [List.length_drop, List.length_cons] at this
          omega
        have hti : (t' : Int) < (n : Int) := by omega
        have ht0 : (0 : Int) ≤ (t' : Int) := by omega
        obtain ⟨q', hq, hdq⟩ := dropt_at (L := l) (t := t') (by omega)
        obtain rfl : q' = q := by rw [hdq] at hdr; exact (List.cons.inj hdr).1
        obtain ⟨b, off, cap, hlv, hq5⟩ := HP.out.at hq
        simp only [Value.slice.injEq] at hlv
        obtain ⟨rfl, -, rfl⟩ := hlv
        have q1 := hq5.c1
        obtain ⟨qk, qn, qc, qt, qq⟩ := q'
        simp only at q1
        have HF := Lib.hid (rfail_any HP.out 6 qn)
        have HE := Lib.hid (fun (w' : World) (hb : Below w.heap.size w w') => ofe_bad (w := w) (w' := w') (l := l) (k := 6) (n := qn) (doc_more H0.out HA.out) hb)
        clear HA H0 hle HNN hdr hdq hq hq5
        go_upto_region 7 with (go_at_call 17; refine HF.out.mono ?_; rintro e w2 ⟨rfl, hp2, hk2⟩; have HP2 := Lib.hid hp2; have HD2 := Lib.hid (HD1.out.far hk2 (fun g hg => Nat.le_trans (Nat.le_refl _) (own_low HP.out.nd HD1.out hg))); have s3 : w2.cell? ⟨w.heap.size + 1 + 1, 3, none⟩ = some (.int .i64 6) := hp2.st.cell 3; have s4 : w2.cell? ⟨w.heap.size + 1 + 1, 4, none⟩ = some (.int .i64 qn) := hp2.st.cell 4; clear hp2 hk2)
        clear r1 r2 r3 r4 q1 HF HP HD1
        go_upto_region 8 with fail
        have HZ := Lib.hid (HD2.out.laid (.slice none 0 0) (.int .i64 6) (.int .i64 qn)).1
        obtain ⟨d0, df, -⟩ := HD2.out.lay (.slice none 0 0)
        obtain ⟨-, -, c0', c1', cf0', cf1'⟩ := HD2.out.lay (.slice none 0 0)
        have c0 : w2.cell? ⟨w.heap.size + 1, 0, none⟩ = some (.int .i64 0) := HD2.out.c.cell 0
        have c1 : w2.cell? ⟨w.heap.size + 1, 1, none⟩ = some (.int .i64 0) := HD2.out.c.cell 1
        have cf0 := HD2.out.c.frozen 0
        have cf1 := HD2.out.c.frozen 1
        have hqd : w.heap.size + 1 + 1 ≠ w.heap.size := by omega
        have S1 := HP2.out.st.kb (Kb.set w2 w.heap.size 0 (.slice none 0 0) none) (fun e => hqd (Option.some.inj e)) (by simp)
        have r3' : (w2.setCell ⟨w.heap.size, 0, none⟩ (.slice none 0 0)).cell? ⟨w.heap.size + 1 + 1, 3, none⟩ = some (.int .i64 6) := S1.cell 3
        have r4' : (w2.setCell ⟨w.heap.size, 0, none⟩ (.slice none 0 0)).cell? ⟨w.heap.size + 1 + 1, 4, none⟩ = some (.int .i64 qn) := S1.cell 4
        clear S1 hqd
        go_wp2
        go_region
        all_goals (go_wp2; (try rw [Exit.noGoto_ret]); (try simp only [Exit.inBlock, Exit.then]); refine bodyPost_ret (rof_ret rfl rfl (HZ.out.b.below (below_drew _)) (HZ.out.c.below (below_drew _))) rfl ?_; exact HE.out _ (below_trans HZ.out.bl (below_drew _)))
end Go.Proofs.YthhngkoopaolkaaDoor

/- The law DocOf. -/
namespace Go.Proofs.YthhngkoopaolkaaDoor
open Go.RowKit

theorem nodes_len (l : List LX.Pc) : (DC.nodes l).length ≤ 2000 := by
  unfold DC.nodes
  cases h : DC.doc l with
  | bad k n => simp
  | ok E =>
    unfold DC.doc at h
    split at h
    · cases h
    · obtain ⟨a, h1, h2⟩ := DC.bind_ok h
      obtain ⟨e, r⟩ := a
      have h3 := (DC.blk_fine h1).1.many
      cases r with
      | nil => simp only [DC.Out.ok.injEq] at h2; subst h2; simpa using h3
      | cons q r => cases h2
set_option maxRecDepth 10000 in
set_option maxHeartbeats 8000000 in
theorem docOf_walk (v : Value) (ls : List LX.Pc) (w : World) (hr : Rdp w v ls) (hf : ∀ x ∈ ls, x.2.2.2.1.length ≤ 9223372036854775807) (hm : MaxIs w) :
    Calls Tryd.prog 3 #[v] w fun e w' => e = .returned (.bool true) ∧ Below w.heap.size w w' := by
  have HAW := Lib.hid (awake12 w hm)
  have HM := Lib.hid hm
  have HF := Lib.hid hf
  have HRD := Lib.hid hr
  obtain ⟨ao, cap, rfl, h1, h2, h3, h4⟩ := hr
  obtain ⟨L, hL⟩ : ∃ L, ls.length = L := ⟨_, rfl⟩
  have HL := Lib.hid hL
  have H4 := Lib.hid h4
  rw [hL] at h1 HRD ⊢
  unfold maxLen at h2
  have hll : (L : Int) ≤ 9223372036854775807 := by omega
  clear h1 h2 h3 h4 hf hL hm
  by_cases hbig : 2100 < L
  · have hb1 : (2100 : Int) < (L : Int) := by omega
    go_enter Tryd.func3, Tryd.ntmps3
    go_wp2_with (go_at_call 7; refine HAW.out.mono ?_; rintro e w1 ⟨rfl, hb⟩)
    go_ret
    exact ⟨rfl, hb⟩
  have hb1 : ¬ (2100 : Int) < (L : Int) := by omega
  obtain ⟨NS, hNS⟩ : ∃ NS, DC.nodes ls = NS := ⟨_, rfl⟩
  obtain ⟨M, hMM⟩ : ∃ M, NS.length = M := ⟨_, rfl⟩
  obtain ⟨K, N, hKN⟩ : ∃ K N, DC.fault ls = (K, N) := ⟨_, _, rfl⟩
  have hq := eq_fault K N
  have hg2 := fault_guard
  have HNS := Lib.hid hNS
  have HMM := Lib.hid hMM
  have HKN := Lib.hid hKN
  have HNL : Hid (NS.length ≤ 2000) := by show _ ≤ _; rw [← hNS]; exact nodes_len ls
  have HO := Lib.hid (of_any _ ls w HRD.out HF.out)
  have HRO := Lib.hid (fun (u : World) (h : Rdp u (.slice ao L cap) ls) => rof_any _ ls u h (by have := HL.out; omega))
  clear hNS hMM hKN hbig
  go_enter Tryd.func3, Tryd.ntmps3
  go_wp2
  go_loopg [3] L (fun g s3 wx => ∃ (i : Nat), i + g = L ∧ s3 = .int .i64 (i : Int) ∧ wx = w)
  case atStart => exact ⟨0, by omega, rfl, rfl⟩
  case round =>
    obtain ⟨i, hi, rfl, rfl⟩ := hrel
    cases gk with
    | succ g =>
      have hin : (i : Int) < (L : Int) := by omega
      have hi0 : (0 : Int) ≤ (i : Int) := by omega
      obtain ⟨x, hx⟩ : ∃ x, ls[i]? = some x := ⟨ls[i]'(by have := HL.out; omega), List.getElem?_eq_getElem _⟩
      obtain ⟨b, off, rfl, c⟩ := H4.out i x hx
      have d3 := c.c3
      have xsz := str_size x.2.2.2.1
      have hxl := HF.out x (List.mem_of_getElem? hx)
      obtain ⟨m, hm⟩ : ∃ m, x.2.2.2.1.length = m := ⟨_, rfl⟩
      rw [hm] at xsz hxl
      clear c hx hm
      by_cases h3 : 300 < m
      · have h3i : (300 : Int) < (m : Int) := by omega
        go_wp2_with (go_at_call 7; refine HAW.out.mono ?_; rintro e w1 ⟨rfl, hb⟩)
        go_ret
        exact ⟨rfl, hb⟩
      · have h3i : ¬ (300 : Int) < (m : Int) := by omega
        go_wp2
        go_roundg g
        case rel => exact ⟨i + 1, by omega, by first | rfl | (simp; done), rfl⟩
        case measure => omega
    | zero =>
      obtain rfl : i = L := by omega
      clear HAW
      go_wp2_with fail
      refine HO.out.mono ?_
      rintro e w1 he
      obtain ⟨a1, c1, rfl, r1, b1⟩ := aw_of HNS.out HKN.out HMM.out he
      obtain ⟨z1, z2⟩ := var2 w1
      obtain ⟨s1, s2, s3⟩ := two_vars w1 (.slice a1 M c1) (.int .i64 K) (.int .i64 N)
      have HB1 := Lib.hid (below_trans b1 s3)
      have HS1 := Lib.hid s1
      have HF1 := Lib.hid s2
      have HR1 := Lib.hid (r1.below s3)
      have H2 := Lib.hid (HRO.out _ (HRD.out.below HB1.out))
      clear he r1 b1 s1 s2 s3 HO HRO
      go_wp2_with fail
      clear z1 z2
      refine H2.out.mono ?_
      rintro e w2 he
      obtain ⟨a2, c2, rfl, r2, b2⟩ := aw_of HNS.out HKN.out HMM.out he
      obtain ⟨z1, z2⟩ := var2 w2
      obtain ⟨s1, s2, s3⟩ := two_vars w2 (.slice a2 M c2) (.int .i64 K) (.int .i64 N)
      have b3 := below_trans b2 s3
      have HB2 := Lib.hid (below_trans HB1.out b3)
      have HF2 := Lib.hid (HF1.out.below b3)
      have HG2 := Lib.hid s2
      have e1 := (HS1.out.below b3).cell 0
      have e2 := s1.cell 0
      have HAL := Lib.hid (dalike_any _ _ NS _ (HR1.out.below b3) (r2.below s3) (by have := HNL.out; omega))
      simp only [List.getElem?_toArray, List.getElem?_cons_zero] at e1 e2
      clear he r2 b2 s1 s2 s3 b3 H2 HB1 HS1 HF1 HR1
      go_wp2_with fail
      refine HAL.out.mono ?_
      rintro e w3 ⟨rfl, b4⟩
      have HB3 := Lib.hid (below_trans HB2.out b4)
      obtain ⟨f0, f1⟩ := (HF2.out.below b4).cells2
      obtain ⟨g0, g1⟩ := (HG2.out.below b4).cells2
      clear b4 HAL HF2 HG2 e1 e2 z1 z2
      go_wp2_with (go_at_call 7; refine (awake12 _ (HM.out.below HB3.out)).mono ?_; rintro e w4 ⟨rfl, hb4⟩)
      go_ret
      exact ⟨rfl, below_trans HB3.out hb4⟩
end Go.Proofs.YthhngkoopaolkaaDoor

/- An argument that is pieces of lines, opened for a walk. -/
namespace Go.Proofs.YthhngkoopaolkaaDoor
open Go.RowKit Go.ChangeShapes Go.WideShapes Go.Joins

/-- Pieces. -/
theorem open_pieces {H : Type} {enc : TypeId × Value → H} {P : Program} {W : World} {s e : TypeId} {f0 f1 f2 f3 f4 : Field} {a0 : Option Addr} {len0 cap0 : Nat} {d : DataW H} {p : List MemPlace}
    (hs : P.underlying s = some (.slice e)) (he : P.underlying e = some (.struct #[f0, f1, f2, f3, f4])) (ce : P.cellsOf e = 5) (o0 : f0.offset = 0) (o1 : f1.offset = 1) (o2 : f2.offset = 2) (o3 : f3.offset = 3) (o4 : f4.offset = 4)
    (w0 : P.underlying f0.type = some (.int .i64)) (w1 : P.underlying f1.type = some (.int .i64)) (w2 : P.underlying f2.type = some (.int .i64)) (w3 : P.underlying f3.type = some .string) (w4 : P.underlying f4.type = some .bool) (z0 : P.cellsOf f0.type = 1) (z1 : P.cellsOf f1.type = 1) (z2 : P.cellsOf f2.type = 1) (z3 : P.cellsOf f3.type = 1) (z4 : P.cellsOf f4.type = 1)
    (h : DataW.Trod enc P W 0 (fun _ => true) true s (.slice a0 len0 cap0) d p) : ∃ ls : List LX.Pc, Rdp W (.slice a0 len0 cap0) ls ∧ ∀ x ∈ ls, x.2.2.2.1.length ≤ 9223372036854775807 := by
  obtain ⟨fuel, h2⟩ := h
  rcases Deep.open_slice hs h2 with ⟨hcs, _⟩ | ⟨a, len, cap, m, n', Dt, Pl, hcs, _, hl, hm, hmm, _, hrow⟩
  · simp [Value.cells] at hcs
    obtain ⟨rfl, rfl, rfl⟩ := hcs
    exact ⟨[], ⟨none, 0, rfl, by simp, by simp [maxLen], fun _ => rfl, by simp⟩, by simp⟩
  · simp [Value.cells] at hcs
    obtain ⟨rfl, rfl, rfl⟩ := hcs
    simp only [if_true] at hmm
    have each : ∀ i, i < len0 → ∃ q : LX.Pc, (W.cell? (a.add (i * 5)) = some (.int .i64 q.1) ∧ W.cell? (a.add (i * 5 + 1)) = some (.int .i64 q.2.1) ∧ W.cell? (a.add (i * 5 + 2)) = some (.int .i64 q.2.2.1) ∧ W.cell? (a.add (i * 5 + 3)) = some (.string ⟨q.2.2.2.1.toArray⟩) ∧ W.cell? (a.add (i * 5 + 4)) = some (.bool q.2.2.2.2)) ∧ q.2.2.2.1.length ≤ 9223372036854775807 := by
      intro i hi
      obtain ⟨cs, h1, h3⟩ := hrow i (by omega)
      rw [ce] at h1
      obtain ⟨_, hlen, hcell⟩ := World.cells?_some h1
      obtain ⟨xs, k, _, _, _, hxl, hf⟩ := DataW.trod_struct he h3
      have hxl5 : xs.length = 5 := hxl
      match cs, hlen with
      | [v0, v1, v2, v3, v4], _ =>
        have g0 := hf 0 f0 rfl
        have g1 := hf 1 f1 rfl
        have g2 := hf 2 f2 rfl
        have g3 := hf 3 f3 rfl
        have g4 := hf 4 f4 rfl
        rw [o0, z0, List.getElem?_eq_getElem (by omega)] at g0
        rw [o1, z1, List.getElem?_eq_getElem (by omega)] at g1
        rw [o2, z2, List.getElem?_eq_getElem (by omega)] at g2
        rw [o3, z3, List.getElem?_eq_getElem (by omega)] at g3
        rw [o4, z4, List.getElem?_eq_getElem (by omega)] at g4
        obtain ⟨i0, e0, _⟩ := DataW.trod_int w0 g0
        obtain ⟨i1, e1, _⟩ := DataW.trod_int w1 g1
        obtain ⟨i2, e2, _⟩ := DataW.trod_int w2 g2
        obtain ⟨s3, e3, _, zz⟩ := DataW.trod_string w3 g3
        obtain ⟨b4, e4, _⟩ := DataW.trod_bool w4 g4
        obtain rfl : v0 = .int .i64 i0 := by simpa using e0
        obtain rfl : v1 = .int .i64 i1 := by simpa using e1
        obtain rfl : v2 = .int .i64 i2 := by simpa using e2
        obtain rfl : v3 = .string s3 := by simpa using e3
        obtain rfl : v4 = .bool b4 := by simpa using e4
        obtain ⟨⟨l3⟩⟩ := s3
        have hlz : l3.length ≤ maxLen := zz
        unfold maxLen at hlz
        have c0 := hcell 0 (by omega)
        have c1 := hcell 1 (by omega)
        have c2 := hcell 2 (by omega)
        have c3 := hcell 3 (by omega)
        have c4 := hcell 4 (by omega)
        rw [Deep.add_add] at c0 c1 c2 c3 c4
        exact ⟨(i0, i1, i2, l3, b4), ⟨by simpa using c0, by simpa using c1, by simpa using c2, by simpa using c3, by simpa using c4⟩, by show l3.length ≤ _; omega⟩
    obtain ⟨F, hF⟩ := Deep.choose_lt each
    refine ⟨(List.range len0).map F, ⟨some a, cap0, by simp, by simpa using hl, hm, by simp, fun j q hq => ?_⟩, fun x hx => ?_⟩
    · have hj : j < len0 := by
        have := (List.getElem?_eq_some_iff.1 hq).1
        simpa using this
      rw [List.getElem?_map, List.getElem?_range hj] at hq
      simp only [Option.map_some] at hq
      obtain rfl := Option.some.inj hq
      obtain ⟨⟨k0, k1, k2, k3, k4⟩, -⟩ := hF j hj
      obtain ⟨b, off, spot⟩ := a
      have hspot : spot = none := by simpa [Addr.add] using World.cell?_spot (hF 0 (by omega)).1.1
      subst hspot
      rw [Addr.add_lit] at k0 k1 k2 k3 k4
      exact ⟨b, off, rfl, k0, by rw [Nat.add_assoc]; exact k1, by rw [Nat.add_assoc]; exact k2, by rw [Nat.add_assoc]; exact k3, by rw [Nat.add_assoc]; exact k4⟩
    · obtain ⟨j, hj, rfl⟩ := List.mem_map.1 hx
      exact (hF j (by simpa using hj)).2
end Go.Proofs.YthhngkoopaolkaaDoor
