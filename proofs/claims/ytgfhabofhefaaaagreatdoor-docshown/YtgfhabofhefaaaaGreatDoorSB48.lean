/- A part of the proof. -/
import Derived.Test.YtgfhabofhefaaaaGreatDoorSB46
import Derived.Test.YtgfhabofhefaaaaGreatDoorSB47
import Derived.Test.YtgfhabofhefaaaaGreatDoorSB06
import Derived.ProofKit
import Derived.OpenShut
import Derived.ChangeOld
import Derived.Test.YtgfhabofhefaaaaGreatDoorSB31
import Derived.Test.YtgfhabofhefaaaaGreatDoorSB36
import Derived.Test.YtgfhabofhefaaaaGreatDoorSB37
import Derived.Test.YtgfhabofhefaaaaGreatDoorSB38
import Derived.Test.YtgfhabofhefaaaaGreatDoorSB24
import Derived.Test.YtgfhabofhefaaaaGreatDoorSB09
import Derived.Shelf.Vars
import Derived.Test.YtgfhabofhefaaaaGreatDoorSB40
import Derived.Lib.SlBytesConst
import Derived.Lib.ConvBytes
import Derived.Test.YtgfhabofhefaaaaGreatDoorSB13
import Derived.Test.YtgfhabofhefaaaaGreatDoorSB19
import Derived.Test.YtgfhabofhefaaaaGreatDoorSB03
import Derived.Deep.LoopGhost
namespace Go.Proofs.YtgfhabofhefaaaaGreatDoor
open Go.RowKit
namespace LX
end LX
end Go.Proofs.YtgfhabofhefaaaaGreatDoor
namespace Go.Proofs.YtgfhabofhefaaaaGreatDoor
open Go.RowKit
def iv (q : IntKind) (zs : List Int) : List Value := zs.map (Value.int q)
theorem iv_len (q : IntKind) (zs : List Int) : (iv q zs).length = zs.length := by simp [iv]
end Go.Proofs.YtgfhabofhefaaaaGreatDoor
namespace Go.Proofs.YtgfhabofhefaaaaGreatDoor
open Go.RowKit Go.ChangeShapes Go.WideShapes
theorem open_nums {H : Type} {enc : TypeId × Value → H} {P : Program} {W : World} {t e : TypeId} {q : IntKind} {a : Option Addr} {len cap : Nat} {d : DataW H} {p : List MemPlace} (ht : P.underlying t = some (.slice e)) (he : P.underlying e = some (.int q)) (hc : P.cellsOf e = 1)
    (h : DataW.Trod enc P W 0 (fun _ => true) true t (.slice a len cap) d p) : ∃ zs : List Int, Rdv W (.slice a len cap) (iv q zs) ∧ ∀ z ∈ zs, (Lit.int q z).wf = true := by
  obtain ⟨fuel, hf⟩ := h
  rcases open_ints ht he hc hf with ⟨hcs, hx⟩ | ⟨x, l, c, zs, hcs, _, hl, hm, hz, hx, hcell, hwz⟩
  · simp [Value.cells] at hcs
    obtain ⟨rfl, rfl, rfl⟩ := hcs
    exact ⟨[], Rdv.nil W, by simp⟩
  · simp [Value.cells] at hcs
    obtain ⟨rfl, rfl, rfl⟩ := hcs
    simp only [if_true] at hz
    have hbl : (zs.take len).length = len := by simp; omega
    refine ⟨zs.take len, ⟨some x, cap, by rw [iv_len, hbl], by rw [iv_len]; omega, hm, (by intro h; cases h), fun j u hu => ⟨x, rfl, ?_⟩⟩, fun n hn => hwz n (List.mem_of_mem_take hn)⟩
    have hj : j < len := by
      have := (List.getElem?_eq_some_iff.1 hu).1
      rw [iv_len] at this; omega
    rw [iv, List.getElem?_map, List.getElem?_take, if_pos hj] at hu
    rw [hcell j (by omega)]
    rw [List.getElem?_eq_getElem (by omega : j < zs.length)] at hu
    simp only [Option.map_some] at hu
    rw [← hu]
    simp [List.getD, show j < zs.length by omega]
end Go.Proofs.YtgfhabofhefaaaaGreatDoor
namespace Go.Proofs.YtgfhabofhefaaaaGreatDoor
open Go.RowKit
def Dmd (ns : List SH.Ni) (k : Int) : Prop := (k = 1 ∧ ns = []) ∨ (k = 0 ∧ SH.chkb ns = true ∧ ∃ t, SH.Of t ns ∧ (SH.showT t 0).length ≤ 60000)
def DmE (w : World) (e : Ending) (w' : World) : Prop := Below w.heap.size w w' ∧ ∃ (ao : Option Addr) (n cap : Nat) (ns : List SH.Ni) (k : Int), e = .returned (.tuple #[.agg #[.slice ao n cap], .int .i64 k]) ∧ ns.length = n ∧ Rdi w' (.slice ao n cap) ns ∧ Dmd ns k
theorem cde_made {w : World} {c : CF.Cf} {e : Ending} {w' : World} (h : CdE w c e w') (hm : Mad c) : DmE w e w' := by
  obtain ⟨hb, v, rfl, hr⟩ := h
  refine ⟨hb, ?_⟩
  by_cases hc : SH.chkb (CF.doc c) = true
  · rw [if_pos ⟨hm.chk, hc⟩] at hr ⊢
    obtain ⟨ao, cap, rfl, -⟩ := hr.slice
    obtain ⟨t, ht⟩ := SH.chk_of (of_decide_eq_true hc)
    obtain ⟨d1, d2⟩ := CF.doc_small hm.small hm.chk hm.brs hm.doms
    exact ⟨ao, _, cap, _, 0, rfl, rfl, hr, .inr ⟨rfl, hc, t, ht, SH.small_len ht d2 d1⟩⟩
  · rw [if_neg (fun h => hc h.2)] at hr ⊢
    obtain ⟨ao, cap, rfl, -⟩ := hr.slice
    exact ⟨ao, 0, cap, [], 1, rfl, rfl, hr, .inl ⟨rfl, rfl⟩⟩
theorem made_doc {c : CF.Cf} {vd vb : Value} {w : World} (hd : RdD w vd c.doms) (hb : RdB w vb c.brs) (hm : Mad c) : Calls Tryz.prog 6 #[.agg #[vd, vb]] w (DmE w) :=
  (cfdoc_any c vd vb w hd hb hm.ok).mono fun _ _ h => cde_made h hm
theorem iv_ints (zs : List Int) : iv .i64 zs = ints zs := rfl
end Go.Proofs.YtgfhabofhefaaaaGreatDoor
namespace Go.Proofs.YtgfhabofhefaaaaGreatDoor
open Go.RowKit
theorem MaxIs.shaped {w : World} (h : w.ShapedOpen Tryz.prog) : MaxIs w := cell_of_shapedOpen_int (zero := #[.int .i64 0]) (t := 3) h (of_decide_eq_true (by kernel_rfl)) (by kernel_rfl) rfl (by kernel_rfl) (by kernel_rfl) Tryz.underlying3
end Go.Proofs.YtgfhabofhefaaaaGreatDoor
namespace Go.Proofs.YtgfhabofhefaaaaGreatDoor
open Go.RowKit
theorem Rdoc.slice {w : World} {v : Value} {ns : List DC.Nd} (h : Rdoc w v ns) : ∃ ao cap, v = .slice ao ns.length cap := by
  obtain ⟨vs, rfl, ⟨ao, cap, e, _⟩, _⟩ := h
  exact ⟨ao, cap, by rw [e]; simp⟩
def awd1 : List UInt8 := [97, 58, 32, 98]
def awd2 : List UInt8 := [97, 58]
def awn : List DC.Nd := [⟨3, 1, [], false, [[97]], [1]⟩, ⟨1, 1, [98], false, [], []⟩]
theorem aw_p1 : DC.parse awd1 = .ok awn := by decide +kernel
theorem aw_p2 : DC.parse awd2 = .bad 10 1 := by decide +kernel
theorem aw_p3 : DC.doc [] = .bad 10 1 := by decide +kernel
theorem aw_par {o : DC.Out (List DC.Nd)} {ns : List DC.Nd} {k n : Int} {m : Nat} (h1 : DC.told o = ns) (h2 : DC.wrong o = (k, n)) (hm : ns.length = m) {w : World} {e : Ending} {w' : World} (h : ParE w o e w') : ∃ ao c, e = .returned (.tuple #[.agg #[.slice ao m c], .agg #[.int .i64 k, .int .i64 n]]) ∧ Rdoc w' (.slice ao m c) ns ∧ Below w.heap.size w w' := by
  obtain ⟨hb, v, he, hr⟩ := h
  rw [h2] at he
  rw [h1] at hr
  obtain ⟨ao, c, rfl⟩ := hr.slice
  rw [hm] at he hr
  exact ⟨ao, c, he, hr, hb⟩
theorem dw_of {w : World} {l : List LX.Pc} {ns : List DC.Nd} {k n : Int} {m : Nat} (h1 : DC.nodes l = ns) (h2 : DC.fault l = (k, n)) (hm : ns.length = m) {e : Ending} {w' : World} (h : OfE w l e w') : ∃ ao c, e = .returned (.tuple #[.agg #[.slice ao m c], .agg #[.int .i64 k, .int .i64 n]]) ∧ Rdoc w' (.slice ao m c) ns ∧ Below w.heap.size w w' := by
  obtain ⟨hb, v, S, he, hr⟩ := h
  rw [h2] at he
  rw [h1] at hr
  obtain ⟨ao, c, rfl⟩ := hr.slice
  rw [hm] at he hr
  exact ⟨ao, c, he, hr.rd, hb⟩
theorem dconv_const {P : Program} (w : World) (t e : TypeId) (C : Array Value) (n c g : Nat) (hg : w.heap.size = g) (ht : P.underlying t = some (.slice e)) (he : P.underlying e = some (.int .u8)) :
    (convert t t (.slice (some ⟨g, 0, none⟩) n c)).run P (w.alloc (.cells C e)) = .ok (.slice (some ⟨g, 0, none⟩) n c) (w.alloc (.cells C e (C.size, C.size + 1))) := by
  subst hg; exact Lib.run_convert_bytes_const w t e C n c ht he
theorem dmark_rd {w : World} {e : TypeId} (bs : List UInt8) (fr : Nat × Nat) (g : Nat) (hg : w.heap.size = g) (hm : bs.length ≤ maxLen) : Rdv (w.alloc (.cells (bv bs).toArray e fr)) (.slice (some ⟨g, 0, none⟩) bs.length bs.length) (bv bs) := by
  subst hg
  refine ⟨some ⟨w.heap.size, 0, none⟩, bs.length, by rw [bv_len], by rw [bv_len]; omega, hm, (by intro h; cases h), fun j u hu => ⟨_, rfl, ?_⟩⟩
  rw [Addr.add_lit]
  have := World.cell?_alloc_mark w (bv bs).toArray e fr (0 + j)
  rw [this]
  simpa using hu
theorem aw_t1 (x : World) (g : Nat) (hg : x.heap.size = g) : Rdv (x.alloc (.cells #[.int .u8 97, .int .u8 58, .int .u8 32, .int .u8 98] 5 (4, 5))) (.slice (some ⟨g, 0, none⟩) 4 4) (bv awd1) := dmark_rd awd1 (4, 5) g hg (by decide)
theorem aw_t2 (x : World) (g : Nat) (hg : x.heap.size = g) : Rdv (x.alloc (.cells #[.int .u8 97, .int .u8 58] 5 (2, 3))) (.slice (some ⟨g, 0, none⟩) 2 2) (bv awd2) := dmark_rd awd2 (2, 3) g hg (by decide)
theorem dw_doc (x : World) (g : Nat) (hg : x.heap.size = g) : Rdoc (((x.alloc (.cells #[.string ⟨#[97]⟩] 9)).alloc (.cells #[.int .i64 1] 3)).alloc (.cells #[.int .i64 3, .int .i64 1, .string ⟨#[]⟩, .bool false, .slice (some ⟨g, 0, none⟩) 1 1, .slice (some ⟨g + 1, 0, none⟩) 1 1, .int .i64 1, .int .i64 1, .string ⟨#[98]⟩, .bool false, .slice none 0 0, .slice none 0 0] 48)) (.slice (some ⟨g + 1 + 1, 0, none⟩) 2 2) awn := by
  have z1 := bx_size x (.cells #[.string ⟨#[97]⟩] 9)
  have z2 := bx_size (x.alloc (.cells #[.string ⟨#[97]⟩] 9)) (.cells #[.int .i64 1] 3)
  have r1 := one_rd_at (w := x) (e := 9) (.string ⟨#[97]⟩) g hg
  have b2 := below_alloc (x.alloc (.cells #[.string ⟨#[97]⟩] 9)) (.cells #[.int .i64 1] 3)
  have r2 := one_rd_at (w := x.alloc (.cells #[.string ⟨#[97]⟩] 9)) (e := 3) (.int .i64 1) (g + 1) (by omega)
  have b3 := below_alloc ((x.alloc (.cells #[.string ⟨#[97]⟩] 9)).alloc (.cells #[.int .i64 1] 3)) (.cells #[.int .i64 3, .int .i64 1, .string ⟨#[]⟩, .bool false, .slice (some ⟨g, 0, none⟩) 1 1, .slice (some ⟨g + 1, 0, none⟩) 1 1, .int .i64 1, .int .i64 1, .string ⟨#[98]⟩, .bool false, .slice none 0 0, .slice none 0 0] 48)
  have s3 := Str.new ((x.alloc (.cells #[.string ⟨#[97]⟩] 9)).alloc (.cells #[.int .i64 1] 3)) 48 #[.int .i64 3, .int .i64 1, .string ⟨#[]⟩, .bool false, .slice (some ⟨g, 0, none⟩) 1 1, .slice (some ⟨g + 1, 0, none⟩) 1 1, .int .i64 1, .int .i64 1, .string ⟨#[98]⟩, .bool false, .slice none 0 0, .slice none 0 0]
  rw [show ((x.alloc (.cells #[.string ⟨#[97]⟩] 9)).alloc (.cells #[.int .i64 1] 3)).heap.size = g + 1 + 1 by omega] at s3
  refine ⟨[(⟨3, 1, [], false, [[97]], [1]⟩, .slice (some ⟨g, 0, none⟩) 1 1, .slice (some ⟨g + 1, 0, none⟩) 1 1), (⟨1, 1, [98], false, [], []⟩, .slice none 0 0, .slice none 0 0)], rfl, ⟨some ⟨g + 1 + 1, 0, none⟩, 2, rfl, Nat.le_refl _, by decide, (by intro h; cases h), fun j a ha => ⟨g + 1 + 1, 0, rfl, ?_⟩⟩, fun a ha => ?_⟩
  · match j, ha with
    | 0, ha =>
      obtain rfl := Option.some.inj ha
      exact ⟨s3.cell 0, s3.cell 1, s3.cell 2, s3.cell 3, s3.cell 4, s3.cell 5⟩
    | 1, ha =>
      obtain rfl := Option.some.inj ha
      exact ⟨s3.cell 6, s3.cell 7, s3.cell 8, s3.cell 9, s3.cell 10, s3.cell 11⟩
    | j + 2, ha => simp at ha
  · simp only [List.mem_cons, List.not_mem_nil, or_false] at ha
    rcases ha with rfl | rfl
    · exact ⟨(r1.below b2).below b3, r2.below b3⟩
    · exact ⟨Rdv.nil _, Rdv.nil _⟩
theorem var2 (w : World) : ((w.alloc (.cells #[.slice none 0 0] 26)).alloc (.cells #[.int .i64 0, .int .i64 0] 39)).cell? ⟨w.heap.size, 0, none⟩ = some (.slice none 0 0) ∧ ((w.alloc (.cells #[.slice none 0 0] 26)).alloc (.cells #[.int .i64 0, .int .i64 0] 39)).frozen? ⟨w.heap.size, 0, none⟩ = false := by
  have h := (Str.new w 26 #[.slice none 0 0]).below (below_alloc _ (.cells #[.int .i64 0, .int .i64 0] 39))
  exact ⟨h.cell 0, h.frozen 0⟩
set_option maxRecDepth 10000 in
set_option maxHeartbeats 8000000 in
theorem awake12 (w : World) (hm : MaxIs w) :
    Calls Tryz.prog 5 #[] w fun e w' => e = .returned (.bool true) ∧ Below w.heap.size w w' := by
  have hq1 := eq_fault 0 0
  have hq2 := eq_fault 10 1
  have hg2 := fault_guard
  have HM := Lib.hid hm
  have BL := below_alloc w (.cells #[.int .u8 97, .int .u8 58, .int .u8 32, .int .u8 98] 5 (4, 5))
  have cv1 := dconv_const w 35 5 #[.int .u8 97, .int .u8 58, .int .u8 32, .int .u8 98] 4 4 w.heap.size rfl Tryz.underlying35 Tryz.underlying5
  have HBL := Lib.hid BL
  have H1 := Lib.hid (parse_any _ awd1 _ (aw_t1 w w.heap.size rfl) (hm.below BL))
  clear hm BL
  go_enter Tryz.func5, Tryz.ntmps5
  go_wp2_with fail
  refine H1.out.mono ?_
  rintro e w1 he
  obtain ⟨a1, c1, rfl, r1, b1⟩ := aw_par (ns := awn) (k := 0) (n := 0) (m := 2) (congrArg DC.told aw_p1) (congrArg DC.wrong aw_p1) rfl he
  obtain ⟨z1, z2⟩ := var2 w1
  have C1 := below_alloc w1 (.cells #[.slice a1 2 c1] 26)
  have C2 := below_alloc (w1.alloc (.cells #[.slice a1 2 c1] 26)) (.cells #[.int .i64 0, .int .i64 0] 39)
  have C3 := below_alloc ((w1.alloc (.cells #[.slice a1 2 c1] 26)).alloc (.cells #[.int .i64 0, .int .i64 0] 39)) (.cells #[.int .u8 97, .int .u8 58] 5 (2, 3))
  have zz : ((w1.alloc (.cells #[.slice a1 2 c1] 26)).alloc (.cells #[.int .i64 0, .int .i64 0] 39)).heap.size = w1.heap.size + 1 + 1 := by rw [bx_size, bx_size]
  have cv2 := dconv_const ((w1.alloc (.cells #[.slice a1 2 c1] 26)).alloc (.cells #[.int .i64 0, .int .i64 0] 39)) 35 5 #[.int .u8 97, .int .u8 58] 2 2 (w1.heap.size + 1 + 1) zz Tryz.underlying35 Tryz.underlying5
  have S1 := (Str.new w1 26 #[.slice a1 2 c1]).below C2
  have S2 := Str.new (w1.alloc (.cells #[.slice a1 2 c1] 26)) 39 #[.int .i64 0, .int .i64 0]
  rw [bx_size] at S2
  have C123 := below_trans C1 (below_trans C2 C3)
  have HB1 := Lib.hid (below_trans (below_trans HBL.out b1) C123)
  have HS1 := Lib.hid (S1.below C3)
  have HF1 := Lib.hid (S2.below C3)
  have HR1 := Lib.hid (r1.below C123)
  have H2 := Lib.hid (parse_any _ awd2 _ (aw_t2 _ (w1.heap.size + 1 + 1) zz) (HM.out.below HB1.out))
  clear he r1 b1 C1 C2 C3 zz S1 S2 C123 H1 HBL cv1
  go_wp2_with fail
  clear z1 z2
  refine H2.out.mono ?_
  rintro e w2 he
  obtain ⟨a2, c2, rfl, r2, b2⟩ := aw_par (ns := []) (k := 10) (n := 1) (m := 0) (congrArg DC.told aw_p2) (congrArg DC.wrong aw_p2) rfl he
  obtain ⟨z1, z2⟩ := var2 w2
  have C1 := below_alloc w2 (.cells #[.slice a2 0 c2] 26)
  have C2 := below_alloc (w2.alloc (.cells #[.slice a2 0 c2] 26)) (.cells #[.int .i64 10, .int .i64 1] 39)
  have S2 := Str.new (w2.alloc (.cells #[.slice a2 0 c2] 26)) 39 #[.int .i64 10, .int .i64 1]
  rw [bx_size] at S2
  have C12 := below_trans (below_trans b2 C1) C2
  have HB2 := Lib.hid (below_trans HB1.out C12)
  have HS2 := Lib.hid (HS1.out.below C12)
  have HF2 := Lib.hid (HF1.out.below C12)
  have HG2 := Lib.hid S2
  have HR2 := Lib.hid (HR1.out.below C12)
  have H3 := Lib.hid (of_any (.slice none 0 0) [] _ (Rdp.nil ((w2.alloc (.cells #[.slice a2 0 c2] 26)).alloc (.cells #[.int .i64 10, .int .i64 1] 39))) (by intro x hx; cases hx))
  clear he r2 b2 C1 C2 S2 C12 H2 HB1 HS1 HF1 HR1 cv2
  go_wp2_with fail
  clear z1 z2
  refine H3.out.mono ?_
  rintro e w3 he
  obtain ⟨a3, c3, rfl, r3, b3⟩ := dw_of (ns := []) (k := 10) (n := 1) (m := 0) (by unfold DC.nodes; rw [aw_p3]) (by unfold DC.fault; rw [aw_p3]) rfl he
  obtain ⟨z1, z2⟩ := var2 w3
  have C1 := below_alloc w3 (.cells #[.slice a3 0 c3] 26)
  have C2 := below_alloc (w3.alloc (.cells #[.slice a3 0 c3] 26)) (.cells #[.int .i64 10, .int .i64 1] 39)
  have S2 := Str.new (w3.alloc (.cells #[.slice a3 0 c3] 26)) 39 #[.int .i64 10, .int .i64 1]
  rw [bx_size] at S2
  have zz : ((w3.alloc (.cells #[.slice a3 0 c3] 26)).alloc (.cells #[.int .i64 10, .int .i64 1] 39)).heap.size = w3.heap.size + 1 + 1 := by rw [bx_size, bx_size]
  have C12 := below_trans (below_trans b3 C1) C2
  have HB3 := Lib.hid (below_trans HB2.out C12)
  have HS3 := Lib.hid (HS2.out.below C12)
  have HF3 := Lib.hid (HF2.out.below C12)
  have HG3 := Lib.hid (HG2.out.below C12)
  have HH3 := Lib.hid S2
  have HR3 := Lib.hid (HR2.out.below C12)
  have HZ := Lib.hid zz
  obtain ⟨f0, f1⟩ := HF3.out.cells2
  have s0 := HS3.out.cell 0
  simp only [List.getElem?_toArray, List.getElem?_cons_zero] at s0
  have D1 := below_alloc ((w3.alloc (.cells #[.slice a3 0 c3] 26)).alloc (.cells #[.int .i64 10, .int .i64 1] 39)) (.cells #[.string ⟨#[97]⟩] 9)
  have D2 := below_trans D1 (below_alloc _ (.cells #[.int .i64 1] 3))
  have D3 := below_trans D2 (below_alloc _ (.cells #[.int .i64 3, .int .i64 1, .string ⟨#[]⟩, .bool false, .slice (some ⟨w3.heap.size + 1 + 1, 0, none⟩) 1 1, .slice (some ⟨w3.heap.size + 1 + 1 + 1, 0, none⟩) 1 1, .int .i64 1, .int .i64 1, .string ⟨#[98]⟩, .bool false, .slice none 0 0, .slice none 0 0] 48))
  have HAL := Lib.hid (dalike_any _ _ awn _ (HR3.out.below D3) (dw_doc _ (w3.heap.size + 1 + 1) zz) (by decide))
  have HB4 := Lib.hid (below_trans HB3.out D3)
  have HG4 := Lib.hid (HG3.out.below D3)
  have HH4 := Lib.hid (HH3.out.below D3)
  clear he r3 b3 C1 C2 S2 C12 H3 HB2 HS2 HF2 HG2 HR2 zz D1 D2 D3 HB3 HS3 HF3 HG3 HH3 HR3 HZ
  go_wp2_with fail
  refine HAL.out.mono ?_
  rintro e w4 ⟨rfl, b4⟩
  have HB5 := Lib.hid (below_trans HB4.out b4)
  obtain ⟨g0, g1⟩ := (HG4.out.below b4).cells2
  obtain ⟨k0, k1⟩ := (HH4.out.below b4).cells2
  clear b4 HB4 HG4 HH4 HAL f0 f1 s0
  go_wp2
  go_ret
  exact ret_b rfl HB5.out
end Go.Proofs.YtgfhabofhefaaaaGreatDoor
namespace Go.Proofs.YtgfhabofhefaaaaGreatDoor
open Go.RowKit
theorem conv_text (l : List UInt8) (hl : l.length ≤ 9223372036854775807) (w : World) : ∃ (W : World) (v : Value), (convert 9 35 (.string ⟨l.toArray⟩)).run Tryz.prog w = .ok v W ∧ Below w.heap.size w W ∧ Rdv W v (bv l) := by
  have h := Lib.run_convert_string_bytes (P := Tryz.prog) w 9 35 5 ⟨l.toArray⟩ (u := .string) Tryz.underlying9 Tryz.underlying35 Tryz.underlying5
  rw [str_size] at h
  refine ⟨_, _, h, ⟨rfl, rfl, rfl, ?_, ?_⟩, ?_⟩
  · rw [Lib.bytesWorld_size]; omega
  · intro j hj
    exact Lib.bytesWorld_at_old _ _ _ _ hj
  · refine ⟨some ⟨w.heap.size, 0, none⟩, _, by rw [bv_len], by rw [bv_len]; exact grownCap_ge _ _ _ _, grownCap_le_maxLen _ _ _ _ (by unfold maxLen; omega), (by intro h; cases h), fun j u hu => ⟨_, rfl, ?_⟩⟩
    rw [Addr.add_lit, Nat.zero_add]
    have hj : j < l.length := by
      have := (List.getElem?_eq_some_iff.1 hu).1
      rwa [bv_len] at this
    rw [bv_get hj] at hu
    have := Lib.bytesWorld_cell w 5 ⟨l.toArray⟩ j (by rw [str_size]; exact hj)
    rw [this, ← hu]
    simp [List.getD, hj]
end Go.Proofs.YtgfhabofhefaaaaGreatDoor
namespace Go.Proofs.YtgfhabofhefaaaaGreatDoor
open Go.RowKit
def Ku (wa w : World) : Prop := ∀ (g : Nat) (cs : Array Value) (T : TypeId), wa.heap[g]? = some (.cells cs T (0, 0)) → T ≠ 5 → w.heap[g]? = some (.cells cs T (0, 0))
theorem Ku.refl (w : World) : Ku w w := fun _ _ _ h _ => h
theorem Ku.trans {a b c : World} (h : Ku a b) (k : Ku b c) : Ku a c := fun g cs T h1 h3 => k g cs T (h g cs T h1 h3) h3
theorem Ku.calm {a w w' : World} (h : Ku a w) (hb : Below w.heap.size w w') : Ku a w' := fun g cs T h1 h3 => by
  have := h g cs T h1 h3
  exact (hb.block g (Array.getElem?_eq_some_iff.1 this).1).trans this
theorem Ku.str {a w : World} {g : Nat} {T : TypeId} {cs : Array Value} (h : Ku a w) (hs : Str a g T cs) (h2 : T ≠ 5) : Str w g T cs := h g cs T hs h2
structure Tw (w0 wa w : World) (v : Value) (bs : List UInt8) : Prop where
  bl : Below w0.heap.size w0 w
  kt : Ku wa w
  own : Own w w0.heap.size 5 v (bv bs)
theorem Tw.calm {w0 wa w w' : World} {v : Value} {bs : List UInt8} (h : Tw w0 wa w v bs) (hb : Below w.heap.size w w') : Tw w0 wa w' v bs :=
  ⟨h.bl.trans (hb.mono h.bl.size), h.kt.calm hb, h.own.below hb⟩
theorem Tw.here {w0 wa w : World} {v : Value} {bs : List UInt8} (h : Tw w0 wa w v bs) : Tw w0 w w v bs := ⟨h.bl, Ku.refl _, h.own⟩
theorem Tw.back {w0 wa wb w : World} {v : Value} {bs : List UInt8} (h : Tw w0 wb w v bs) (k : Ku wa wb) : Tw w0 wa w v bs := ⟨h.bl, k.trans h.kt, h.own⟩
theorem Tw.grown {w0 wa w w1 : World} {v v' : Value} {bs bs' : List UInt8} (h : Tw w0 wa w v bs) (hg : w.grownBy w1 v.ownBlock) (ho : Own w1 w0.heap.size 5 v' (bv bs')) : Tw w0 wa w1 v' bs' := by
  refine ⟨h.bl.trans (below_of_grown h.own hg h.bl.size), ?_, ho⟩
  intro g cs T h1 h3
  have k := h.kt g cs T h1 h3
  exact (hg.block g (Array.getElem?_eq_some_iff.1 k).1 (by
    intro e
    obtain ⟨c, hc⟩ := h.own.block e.symm
    rw [hc] at k
    simp at k
    exact h3 k.2.symm)).trans k
theorem Tw.size {w0 wa w : World} {v : Value} {bs : List UInt8} (h : Tw w0 wa w v bs) : w0.heap.size ≤ w.heap.size := h.bl.size
def TwE (w0 wa : World) (bs : List UInt8) (e : Ending) (w' : World) : Prop := ∃ a n c, e = .returned (.slice a n c) ∧ Tw w0 wa w' (.slice a n c) bs
theorem TwE.mk {w0 wa w' : World} {v : Value} {bs : List UInt8} (h : Tw w0 wa w' v bs) : TwE w0 wa bs (.returned v) w' := by
  obtain ⟨a, c, hv, -⟩ := h.own.rd
  subst hv
  exact ⟨_, _, _, rfl, h⟩
set_option maxHeartbeats 8000000 in
theorem tin_any (k : Nat) {w0 wa w : World} {v : Value} {bs : List UInt8} (h : Tw w0 wa w v bs) (hl : bs.length + k ≤ 1000000000) :
    Calls Tryz.prog 53 #[v, .int .i64 (k : Int)] w (TwE w0 wa (bs ++ DC.bl k)) := by
  have H := Lib.hid h
  have HL := Lib.hid hl
  clear h hl
  go_enter Tryz.func53, Tryz.ntmps53
  go_wp2
  go_loopg [0, 5] k (fun g s0 s5 wx => ∃ (i : Nat) (u : Value), i + g = k ∧ s5 = .int .i64 (i : Int) ∧ u = s0 ∧ Hid (Tw w0 wa wx u (bs ++ DC.bl i)))
  case atStart => exact ⟨0, v, by omega, rfl, rfl, by simpa [DC.bl] using H⟩
  case round =>
    clear H
    obtain ⟨i, u, hi, rfl, rfl, H⟩ := hrel
    cases gk with
    | zero =>
      obtain rfl : i = k := by omega
      go_wp2
      go_ret
      exact TwE.mk H.out
    | succ g =>
      have hik : (i : Int) < (k : Int) := by omega
      have hkm : (k : Int) ≤ 1000000000 := by have := HL.out; omega
      have HX := Lib.hid (H.out.calm (below_alloc wr (.cells #[.int .u8 32] 5)))
      go_wp2_with (at_builtin; refine wpList_append_bytes rfl (.tmp 11) (.tmp 12) 35 rfl w0.heap.size 5 Tryz.underlying35 Tryz.linfo_u8 (by rfl) HX.out.own (by rfl) (one_rd (b := 32) rfl) (by have := HL.out; rw [List.length_append]; simp only [DC.bl, List.length_replicate, List.length_cons, List.length_nil]; omega) HX.out.size ?_; intro u2 w2 ho2 hg2 hb2; have H2 := Lib.hid (HX.out.grown hg2 ho2); clear ho2 hg2 hb2)
      go_roundg g
      case rel => exact ⟨i + 1, u2, by omega, by first | rfl | (simp; done), rfl, by rw [bl_succ, ← List.append_assoc]; exact H2⟩
      case measure => omega
end Go.Proofs.YtgfhabofhefaaaaGreatDoor
namespace Go.Proofs.YtgfhabofhefaaaaGreatDoor
open Go.RowKit
theorem twrap_small {z : Int} (h0 : 0 ≤ z) (h1 : z ≤ 2000000) : IntKind.i64.wrap z = z := by
  unfold IntKind.wrap
  simp [IntKind.signed, IntKind.bits]
  omega
theorem tshowL_cons (key : LX.B) (t : SH.Tr) (r : SH.Fo) (c : Nat) (f : Bool) : SH.showL (.cons key t r) c f = (if f then [] else DC.bl c) ++ ([45, 32] ++ SH.showT t (c + 2)) ++ SH.showL r c false := by
  simp [SH.showL]
def tisTx : SH.Tr → Bool
  | .text _ _ => true
  | _ => false
def tknd : SH.Tr → Int
  | .text _ _ => 1
  | .list _ => 2
  | .map _ => 3
theorem tshowM_cons (key : LX.B) (t : SH.Tr) (r : SH.Fo) (c : Nat) (f : Bool) : SH.showM (.cons key t r) c f = (if f then [] else DC.bl c) ++ ((key ++ [58]) ++ ((if tisTx t then [32] else 10 :: DC.bl (c + 2)) ++ SH.showT t (c + 2))) ++ SH.showM r c false := by
  cases t <;> simp [SH.showM, SH.showT, tisTx]
theorem tflat_ne (t : SH.Tr) (N : Nat) : ∃ x l, SH.flatT t N = x :: l ∧ x.kind = tknd t := by cases t <;> exact ⟨_, _, rfl, rfl⟩
def ticast (l : List Nat) : List Int := l.map fun n : Nat => (n : Int)
theorem ticast_len (l : List Nat) : (ticast l).length = l.length := by simp [ticast]
theorem tkids_len : ∀ (k : SH.Fo) (N : Nat), (SH.kidsF k N).length = (SH.keysF k).length
  | .nil, _ => rfl
  | .cons _ t r, N => by rw [SH.kidsF, SH.keysF, List.length_cons, List.length_cons, tkids_len r]
def SwC (s : Nat) : Prop := ∀ (t : SH.Tr) (ns : List SH.Ni) (n c : Nat) (w0 wa w : World) (vd v : Value) (bs : List UInt8), SH.sizeT t ≤ s → Rdi w0 vd ns → SH.At ns n (SH.flatT t n) → Tw w0 wa w v bs →
  (∀ x ∈ ns, x.text.length ≤ 5000 ∧ ∀ k ∈ x.keys, k.length ≤ 15000) → bs.length + (SH.showT t c).length ≤ 600000000 → c + 2 * SH.sizeT t ≤ 1000000 →
  Calls Tryz.prog 28 #[v, .agg #[vd], .int .i64 (n : Int), .int .i64 (c : Int)] w (TwE w0 wa (bs ++ SH.showT t c))
theorem tw_boxes {w0 wa w : World} {v vd : Value} {bs : List UInt8} (h : Tw w0 wa w v bs) (cs : Array Value) :
    Tw w0 ((w.alloc (.cells #[vd] 26)).alloc (.cells cs 48)) ((w.alloc (.cells #[vd] 26)).alloc (.cells cs 48)) v bs ∧ Ku wa ((w.alloc (.cells #[vd] 26)).alloc (.cells cs 48)) ∧ Str ((w.alloc (.cells #[vd] 26)).alloc (.cells cs 48)) w.heap.size 26 #[vd] ∧ Str ((w.alloc (.cells #[vd] 26)).alloc (.cells cs 48)) (w.heap.size + 1) 48 cs := by
  have b1 := below_alloc w (.cells #[vd] 26)
  have b2 := below_alloc (w.alloc (.cells #[vd] 26)) (.cells cs 48)
  have s2 := Str.new (w.alloc (.cells #[vd] 26)) 48 cs
  rw [bx_size] at s2
  exact ⟨((h.calm b1).calm b2).here, (h.kt.calm b1).calm b2, (Str.new w _ _).below b2, s2⟩
set_option maxRecDepth 10000 in
set_option maxHeartbeats 16000000 in
theorem tshow_text (ns : List SH.Ni) (n c : Nat) (w0 wa w : World) (vd v : Value) (bs : List UInt8) (S : List UInt8) (q : Bool) (hr : Rdi w0 vd ns) (ha : SH.At ns n (SH.flatT (.text S q) n)) (h : Tw w0 wa w v bs)
    (hln : ∀ x ∈ ns, x.text.length ≤ 5000 ∧ ∀ k ∈ x.keys, k.length ≤ 15000) (hl : bs.length ≤ 600000000) :
    Calls Tryz.prog 28 #[v, .agg #[vd], .int .i64 (n : Int), .int .i64 (c : Int)] w (TwE w0 wa (bs ++ (SH.wr S q ++ [10]))) := by
  obtain ⟨y, hy, hyx⟩ := (show SH.At ns n [_] from ha).head
  obtain ⟨b5, o5, cap5, ka, kc, ia, ic, hv5, c6, -, -⟩ := hr.at hy
  have hNl : n < ns.length := (List.getElem?_eq_some_iff.1 hy).1
  have hnm : ns.length ≤ maxLen := by obtain ⟨_, _, _, h9⟩ := hr.slice; exact h9
  obtain ⟨NL, hNL⟩ : ∃ NL, ns.length = NL := ⟨_, rfl⟩
  rw [hNL] at hv5 hNl hnm
  unfold maxLen at hnm
  have hN0 : (0 : Int) ≤ (n : Int) := by omega
  have hN1 : (n : Int) < (NL : Int) := by omega
  subst hv5
  have hlny := (hln y (List.mem_of_getElem? hy)).1
  obtain ⟨kd, ln, tx, qq, ks, is⟩ := y
  obtain ⟨rfl, rfl, rfl⟩ : kd = 1 ∧ tx = S ∧ qq = q := by
    unfold SH.zi SH.up at hyx
    simp only [SH.Ni.mk.injEq] at hyx
    exact ⟨hyx.1, hyx.2.2.1, hyx.2.2.2.1⟩
  simp only at c6 hlny
  obtain ⟨kn, hkn⟩ : ∃ kn, ks.length = kn := ⟨_, rfl⟩
  obtain ⟨im, him⟩ : ∃ im, is.length = im := ⟨_, rfl⟩
  rw [hkn, him] at c6
  obtain ⟨d0, d1, d2, d3, d4, d5⟩ := (c6.below h.bl).below (below_alloc w (.cells #[.slice (some ⟨b5, o5, none⟩) NL cap5] 26))
  simp only at d0 d1 d2 d3 d4 d5
  obtain ⟨h1, h2, h3, h4⟩ := tw_boxes (vd := .slice (some ⟨b5, o5, none⟩) NL cap5) h #[.int .i64 1, .int .i64 ln, .string ⟨tx.toArray⟩, .bool qq, .slice ka kn kc, .slice ia im ic]
  have H := Lib.hid h1
  have HKU := Lib.hid h2
  have HLY := Lib.hid hlny
  have HL := Lib.hid hl
  clear hr ha h hln hl hy hyx hNl hnm hNL hlny c6 hkn him h1 h2 h3 h4
  cases qq with
  | true =>
    have HQ := Lib.hid (fun x => quote_any tx x HLY.out)
    have HQL : Hid ((LX.quo tx).length ≤ 4 * tx.length + 2) := LX.quo_len tx
    rw [show SH.wr tx true = LX.quo tx from rfl]
    go_enter Tryz.func28, Tryz.ntmps28
    go_wp2_with (first
      | (go_at_call 52; refine (HQ.out _).mono ?_; rintro e w3 ⟨v3, rfl, o3, b3⟩; have H3 := Lib.hid (H.out.calm b3); have HR3 := Lib.hid o3.rd; clear o3 b3)
      | (at_builtin; refine wpList_append_bytes rfl (.tmp 31) (.tmp 32) 35 rfl w0.heap.size 5 Tryz.underlying35 Tryz.linfo_u8 (by rfl) (H4.out.calm (below_alloc _ _)).own (by rfl) (one_rd (b := 10) rfl) (by have := HL.out; have := HQL.out; have := HLY.out; rw [List.length_append]; simp only [List.length_cons, List.length_nil]; omega) (H4.out.calm (below_alloc _ _)).size ?_; intro u5 w5 ho5 hg5 hb5; have H5 := Lib.hid ((H4.out.calm (below_alloc _ _)).grown hg5 ho5); clear ho5 hg5 hb5)
      | (at_builtin; refine wpList_append_bytes rfl (.tmp 21) (.tmp 24) 35 rfl w0.heap.size 5 Tryz.underlying35 Tryz.linfo_u8 (by rfl) H3.out.own (by rfl) HR3.out (by have := HL.out; have := HQL.out; have := HLY.out; omega) H3.out.size ?_; intro u4 w4 ho4 hg4 hb4; have H4 := Lib.hid (H3.out.grown hg4 ho4); clear ho4 hg4 hb4))
    go_ret
    rw [← List.append_assoc]
    exact TwE.mk (H5.out.back HKU.out)
  | false =>
    rw [show SH.wr tx false = tx from rfl]
    obtain ⟨WC, vc, hcv, hbw, hrd⟩ := conv_text tx (by have := HLY.out; omega) (((w.alloc (.cells #[.slice (some ⟨b5, o5, none⟩) NL cap5] 26)).alloc (.cells #[.int .i64 1, .int .i64 ln, .string ⟨tx.toArray⟩, .bool false, .slice ka kn kc, .slice ia im ic] 48)))
    have H3 := Lib.hid (H.out.calm hbw)
    have HR3 := Lib.hid hrd
    clear hbw hrd
    go_enter Tryz.func28, Tryz.ntmps28
    go_wp2_with (first
      | (at_builtin; refine wpList_append_bytes rfl (.tmp 31) (.tmp 32) 35 rfl w0.heap.size 5 Tryz.underlying35 Tryz.linfo_u8 (by rfl) (H4.out.calm (below_alloc _ _)).own (by rfl) (one_rd (b := 10) rfl) (by have := HL.out; have := HLY.out; rw [List.length_append]; simp only [List.length_cons, List.length_nil]; omega) (H4.out.calm (below_alloc _ _)).size ?_; intro u5 w5 ho5 hg5 hb5; have H5 := Lib.hid ((H4.out.calm (below_alloc _ _)).grown hg5 ho5); clear ho5 hg5 hb5)
      | (at_builtin; refine wpList_append_bytes rfl (.tmp 26) (.tmp 29) 35 rfl w0.heap.size 5 Tryz.underlying35 Tryz.linfo_u8 (by rfl) H3.out.own (by rfl) HR3.out (by have := HL.out; have := HLY.out; omega) H3.out.size ?_; intro u4 w4 ho4 hg4 hb4; have H4 := Lib.hid (H3.out.grown hg4 ho4); clear ho4 hg4 hb4))
    go_ret
    rw [← List.append_assoc]
    exact TwE.mk (H5.out.back HKU.out)
end Go.Proofs.YtgfhabofhefaaaaGreatDoor
