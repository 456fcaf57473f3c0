/- Several texts in one. -/
import Derived.Test.YtmgalfdiiegjjaaDoorSeg43
import Derived.Test.YtmgalfdiiegjjaaDoorSeg44
import Derived.Deep.CutBlock
import Derived.Deep.DeepCutAuto
import Derived.Test.YtmgalfdiiegjjaaDoorSeg02
import Derived.Lib.ConvBytes
import Derived.Test.YtmgalfdiiegjjaaDoorSeg20
import Derived.Test.YtmgalfdiiegjjaaDoorLxQa
import Derived.Test.YtmgalfdiiegjjaaDoorShW5
import Derived.Deep.LoopGhost
namespace Go.Proofs.YtmgalfdiiegjjaaDoor
open Go.RowKit

def awns : List SH.Ni := [⟨3, 0, [], false, [[97]], [1]⟩, ⟨2, 0, [], false, [], [2, 3]⟩, ⟨1, 0, [98], false, [], []⟩, ⟨1, 0, [99], true, [], []⟩]
def awtr : SH.Tr := .map (.cons [97] (.list (.cons [] (.text [98] false) (.cons [] (.text [99] true) .nil))) .nil)
def awT : List UInt8 := [97, 58, 10, 32, 32, 45, 32, 98, 10, 32, 32, 45, 32, 34, 99, 34, 10]
theorem aw_chk : SH.chkb awns = true := by decide +kernel
theorem aw_key : SH.Key [97] := SH.keyb_key (by decide +kernel)
theorem aw_of : SH.Of awtr awns := by
  refine ⟨?_, ?_, ?_, by decide, rfl⟩
  · simp [awtr, SH.okT, SH.okF, SH.keysF]
  · simp only [awtr, SH.godT, SH.godF, SH.keysF, List.mem_singleton, forall_eq, and_true]
    refine ⟨aw_key, SH.leaf_plain (by decide +kernel), SH.leaf_quo (by decide)⟩
  · simp [awtr, SH.depT, SH.depF]
theorem aw_tx : SH.Tx awns 0 awT := .inr ⟨aw_chk, awtr, aw_of, .inr ⟨by decide +kernel, rfl, by decide +kernel⟩⟩
theorem aw_tx0 : SH.Tx [] 1 [] := .inl ⟨by decide +kernel, rfl, rfl⟩
theorem aw_same : SH.sameb awns [] = false := by decide +kernel
theorem Rdi.nil (w : World) : Rdi w (.slice none 0 0) [] := ⟨[], none, 0, rfl, rfl, by simp, by simp [maxLen], fun _ => rfl, by simp, by simp⟩
theorem aw_lens : Lens2 awns := by
  intro x hx
  simp only [awns, List.mem_cons, List.not_mem_nil, or_false] at hx
  rcases hx with rfl | rfl | rfl | rfl <;> refine ⟨by simp, by simp, by simp⟩
def awA (n : Nat) : Value := .slice (some ⟨n, 0, none⟩) 1 1
def awcs (p q r : Nat) : Array Value := #[.int .i64 3, .int .i64 0, .string ⟨#[]⟩, .bool false, .slice (some ⟨p, 0, none⟩) 1 1, .slice (some ⟨q, 0, none⟩) 1 1, .int .i64 2, .int .i64 0, .string ⟨#[]⟩, .bool false, .slice none 0 0, .slice (some ⟨r, 0, none⟩) 2 2, .int .i64 1, .int .i64 0, .string ⟨#[98]⟩, .bool false, .slice none 0 0, .slice none 0 0, .int .i64 1, .int .i64 0, .string ⟨#[99]⟩, .bool true, .slice none 0 0, .slice none 0 0]
abbrev awW (w : World) : World := ((((w.alloc (.cells #[.string ⟨#[97]⟩] 9)).alloc (.cells #[.int .i64 1] 3)).alloc (.cells #[.int .i64 2, .int .i64 3] 3)).alloc (.cells #[.int .i64 3, .int .i64 0, .string ⟨#[]⟩, .bool false, .slice (some ⟨w.heap.size, 0, none⟩) 1 1, .slice (some ⟨w.heap.size + 1, 0, none⟩) 1 1, .int .i64 2, .int .i64 0, .string ⟨#[]⟩, .bool false, .slice none 0 0, .slice (some ⟨w.heap.size + 1 + 1, 0, none⟩) 2 2, .int .i64 1, .int .i64 0, .string ⟨#[98]⟩, .bool false, .slice none 0 0, .slice none 0 0, .int .i64 1, .int .i64 0, .string ⟨#[99]⟩, .bool true, .slice none 0 0, .slice none 0 0] 37)).alloc (.cells #[.slice (some ⟨w.heap.size + 1 + 1 + 1, 0, none⟩) 4 4] 24)
theorem lit_at1 (w : World) (T : TypeId) (cs : List Value) (h : cs.length ≤ maxLen) (g : Nat) (hg : w.heap.size = g) : Rdv (w.alloc (.cells cs.toArray T)) (.slice (some ⟨g, 0, none⟩) cs.length cs.length) cs := by
  subst hg
  exact (Own.lit (base := 0) w (e := T) cs (Nat.zero_le _) h).rd
theorem aw_doc (w : World) : Rdi (awW w) (.slice (some ⟨w.heap.size + 1 + 1 + 1, 0, none⟩) 4 4) awns ∧ (awW w).cell? ⟨w.heap.size + 1 + 1 + 1 + 1, 0, none⟩ = some (.slice (some ⟨w.heap.size + 1 + 1 + 1, 0, none⟩) 4 4) ∧ Below w.heap.size w (awW w) := by
  have z1 := bx_size w (.cells #[.string ⟨#[97]⟩] 9)
  obtain ⟨w1, h1⟩ : ∃ w1, w.alloc (.cells #[.string ⟨#[97]⟩] 9) = w1 := ⟨_, rfl⟩
  have r1 := lit_at1 w 9 [.string ⟨#[97]⟩] (by simp [maxLen]) _ rfl
  have b1 := below_alloc w (.cells #[.string ⟨#[97]⟩] 9)
  have r2 := lit_at1 w1 3 [.int .i64 1] (by simp [maxLen]) (w.heap.size + 1) (by rw [← h1, z1])
  have b2 := below_alloc w1 (.cells #[.int .i64 1] 3)
  have z2 := bx_size w1 (.cells #[.int .i64 1] 3)
  have r3 := lit_at1 (w1.alloc (.cells #[.int .i64 1] 3)) 3 [.int .i64 2, .int .i64 3] (by simp [maxLen]) (w.heap.size + 1 + 1) (by rw [z2, ← h1, z1])
  have b3 := below_alloc (w1.alloc (.cells #[.int .i64 1] 3)) (.cells #[.int .i64 2, .int .i64 3] 3)
  have z3 := bx_size (w1.alloc (.cells #[.int .i64 1] 3)) (.cells #[.int .i64 2, .int .i64 3] 3)
  unfold awW
  rw [h1] at r1 b1 ⊢
  obtain ⟨w2, h2⟩ : ∃ w2, w1.alloc (.cells #[.int .i64 1] 3) = w2 := ⟨_, rfl⟩
  rw [h2] at r3 b2 b3 z3 ⊢
  have r2' : Rdv w2 (.slice (some ⟨w.heap.size + 1, 0, none⟩) 1 1) [.int .i64 1] := by rw [← h2]; exact r2
  obtain ⟨w3, h3⟩ : ∃ w3, w2.alloc (.cells #[.int .i64 2, .int .i64 3] 3) = w3 := ⟨_, rfl⟩
  have r3' : Rdv w3 (.slice (some ⟨w.heap.size + 1 + 1, 0, none⟩) 2 2) [.int .i64 2, .int .i64 3] := by rw [← h3]; exact r3
  rw [h3] at b3 z3 ⊢
  have e3 : w3.heap.size = w.heap.size + 1 + 1 + 1 := by rw [z3, ← h2, z2, ← h1, z1]
  have st := Str.new w3 37 #[.int .i64 3, .int .i64 0, .string ⟨#[]⟩, .bool false, .slice (some ⟨w.heap.size, 0, none⟩) 1 1, .slice (some ⟨w.heap.size + 1, 0, none⟩) 1 1, .int .i64 2, .int .i64 0, .string ⟨#[]⟩, .bool false, .slice none 0 0, .slice (some ⟨w.heap.size + 1 + 1, 0, none⟩) 2 2, .int .i64 1, .int .i64 0, .string ⟨#[98]⟩, .bool false, .slice none 0 0, .slice none 0 0, .int .i64 1, .int .i64 0, .string ⟨#[99]⟩, .bool true, .slice none 0 0, .slice none 0 0]
  have b4 := below_alloc w3 (.cells #[.int .i64 3, .int .i64 0, .string ⟨#[]⟩, .bool false, .slice (some ⟨w.heap.size, 0, none⟩) 1 1, .slice (some ⟨w.heap.size + 1, 0, none⟩) 1 1, .int .i64 2, .int .i64 0, .string ⟨#[]⟩, .bool false, .slice none 0 0, .slice (some ⟨w.heap.size + 1 + 1, 0, none⟩) 2 2, .int .i64 1, .int .i64 0, .string ⟨#[98]⟩, .bool false, .slice none 0 0, .slice none 0 0, .int .i64 1, .int .i64 0, .string ⟨#[99]⟩, .bool true, .slice none 0 0, .slice none 0 0] 37)
  have z4 := bx_size w3 (.cells #[.int .i64 3, .int .i64 0, .string ⟨#[]⟩, .bool false, .slice (some ⟨w.heap.size, 0, none⟩) 1 1, .slice (some ⟨w.heap.size + 1, 0, none⟩) 1 1, .int .i64 2, .int .i64 0, .string ⟨#[]⟩, .bool false, .slice none 0 0, .slice (some ⟨w.heap.size + 1 + 1, 0, none⟩) 2 2, .int .i64 1, .int .i64 0, .string ⟨#[98]⟩, .bool false, .slice none 0 0, .slice none 0 0, .int .i64 1, .int .i64 0, .string ⟨#[99]⟩, .bool true, .slice none 0 0, .slice none 0 0] 37)
  rw [e3] at st
  generalize w3.alloc (.cells _ 37) = w4 at *
  have b5 := below_alloc w4 (.cells #[.slice (some ⟨w.heap.size + 1 + 1 + 1, 0, none⟩) 4 4] 24)
  have s5 := Str.new w4 24 #[.slice (some ⟨w.heap.size + 1 + 1 + 1, 0, none⟩) 4 4]
  have e4 : w4.heap.size = w.heap.size + 1 + 1 + 1 + 1 := by rw [z4, e3]
  rw [e4] at s5
  have st5 := st.below b5
  generalize w4.alloc (.cells _ 24) = w5 at *
  have b14 : Below w1.heap.size w1 w5 := below_trans b2 (below_trans b3 (below_trans b4 b5))
  have b24 : Below w2.heap.size w2 w5 := below_trans b3 (below_trans b4 b5)
  have b34 : Below w3.heap.size w3 w5 := below_trans b4 b5
  refine ⟨⟨[(⟨3, 0, [], false, [[97]], [1]⟩, .slice (some ⟨w.heap.size, 0, none⟩) 1 1, .slice (some ⟨w.heap.size + 1, 0, none⟩) 1 1), (⟨2, 0, [], false, [], [2, 3]⟩, .slice none 0 0, .slice (some ⟨w.heap.size + 1 + 1, 0, none⟩) 2 2), (⟨1, 0, [98], false, [], []⟩, .slice none 0 0, .slice none 0 0), (⟨1, 0, [99], true, [], []⟩, .slice none 0 0, .slice none 0 0)], _, 4, rfl, rfl, by decide, by simp [maxLen], (by intro h; cases h), ?_, ?_⟩, s5.cell 0, below_trans b1 b14⟩
  · intro j x hx
    refine ⟨_, 0, rfl, ?_⟩
    match j, hx with
    | 0, hx =>
      obtain rfl := Option.some.inj hx
      exact ⟨st5.cell 0, st5.cell 1, st5.cell 2, st5.cell 3, st5.cell 4, st5.cell 5⟩
    | 1, hx =>
      obtain rfl := Option.some.inj hx
      exact ⟨st5.cell 6, st5.cell 7, st5.cell 8, st5.cell 9, st5.cell 10, st5.cell 11⟩
    | 2, hx =>
      obtain rfl := Option.some.inj hx
      exact ⟨st5.cell 12, st5.cell 13, st5.cell 14, st5.cell 15, st5.cell 16, st5.cell 17⟩
    | 3, hx =>
      obtain rfl := Option.some.inj hx
      exact ⟨st5.cell 18, st5.cell 19, st5.cell 20, st5.cell 21, st5.cell 22, st5.cell 23⟩
    | j + 4, hx => simp at hx
  · intro a ha
    simp only [List.mem_cons, List.not_mem_nil, or_false] at ha
    rcases ha with rfl | rfl | rfl | rfl
    · exact ⟨r1.below b14, r2'.below b24⟩
    · exact ⟨Rdv.nil _, r3'.below b34⟩
    · exact ⟨Rdv.nil _, Rdv.nil _⟩
    · exact ⟨Rdv.nil _, Rdv.nil _⟩
set_option maxRecDepth 10000 in
set_option maxHeartbeats 8000000 in
theorem awake13 (w : World) (hm : MaxIs w) :
    Calls Tryd.prog 6 #[] w fun e w' => e = .returned (.bool true) ∧ Below w.heap.size w w' := by
  obtain ⟨hd, k0, b0⟩ := aw_doc w
  have HM := Lib.hid (hm.below b0)
  have HD := Lib.hid hd
  have HB := Lib.hid b0
  unfold awW at HM HD HB k0
  clear hd b0 hm
  go_enter Tryd.func6, Tryd.ntmps6
  go_upto_region 2 with fail
  generalize World.alloc (World.alloc (World.alloc (World.alloc (World.alloc _ _) _) _) _) _ = W at *
  generalize w.heap.size + 1 + 1 + 1 + 1 = P at *
  generalize w.heap.size + 1 + 1 + 1 = Q at *
  have HT1 := Lib.hid (shtext_any _ awns 0 awT W HD.out aw_lens HM.out aw_tx)
  have HT2 := Lib.hid (fun (u : World) (hu : MaxIs u) => shtext_any (.slice none 0 0) [] 1 [] u (Rdi.nil u) (by intro x hx; cases hx) hu aw_tx0)
  have HCK := Lib.hid (fun (u : World) (hu : Below W.heap.size W u) => check_any _ awns u (HD.out.below hu) aw_lens (HM.out.below hu))
  have HS1 := Lib.hid (fun (u : World) (hu : Below W.heap.size W u) => shsame_any _ _ awns awns u (HD.out.below hu) (HD.out.below hu))
  have HS2 := Lib.hid (fun (u : World) (hu : Below W.heap.size W u) => shsame_any _ (.slice none 0 0) awns [] u (HD.out.below hu) (Rdi.nil u))
  rw [aw_chk, show okI true = 0 from rfl] at HCK
  rw [SH.sameb_refl] at HS1
  rw [aw_same] at HS2
  have HTL : Hid (awT = [97, 58, 10, 32, 32, 45, 32, 98, 10, 32, 32, 45, 32, 34, 99, 34, 10]) := rfl
  go_wp2_with (first
    | (go_at_call 12; refine (HS2.out _ B4.out).mono ?_; rintro e w5 ⟨rfl, b5⟩; have B5 := Lib.hid (below_trans B4.out b5); clear b5)
    | (go_at_call 12; refine (HS1.out _ B3.out).mono ?_; rintro e w4 ⟨rfl, b4⟩; have B4 := Lib.hid (below_trans B3.out b4); have k4 := (B4.out.cell (cell_lt k0)).trans k0; clear b4)
    | (go_at_call 9; refine (HCK.out _ B2.out).mono ?_; rintro e w3 ⟨rfl, b3⟩; have B3 := Lib.hid (below_trans B2.out b3); have k3 := (B3.out.cell (cell_lt k0)).trans k0; have cs3 := run_string_rd (P := Tryd.prog) 27 5 9 Tryd.underlying27 Tryd.underlying5 Tryd.underlying9 ((R1.out.below b2).below b3); rw [HTL.out] at cs3; clear b2 b3)
    | (go_at_call 7; refine (HT2.out _ (HM.out.below B1.out)).mono ?_; rintro e w2 ⟨v2, rfl, r2, b2⟩; obtain ⟨ao2, cp2, rfl, -⟩ := r2; have B2 := Lib.hid (below_trans B1.out b2); have k2 := (B2.out.cell (cell_lt k0)).trans k0)
    | (go_at_call 7; refine HT1.out.mono ?_; rintro e w1 ⟨v1, rfl, r1, b1⟩; have R1 := Lib.hid r1; obtain ⟨ao1, cp1, hv1, -⟩ := r1; rw [show (bv awT).length = 17 from rfl] at hv1; subst hv1; have B1 := Lib.hid b1; have k1 := (B1.out.cell (cell_lt k0)).trans k0; clear b1))
  go_ret
  exact ⟨rfl, below_trans HB.out B5.out⟩
end Go.Proofs.YtmgalfdiiegjjaaDoor

/- A text's bytes. -/
namespace Go.Proofs.YtmgalfdiiegjjaaDoor
open Go.RowKit

/-- '[]byte(s)': what it reads as. -/
theorem conv_text (l : List UInt8) (hl : l.length ≤ 9223372036854775807) (w : World) : ∃ (W : World) (v : Value), (convert 9 27 (.string ⟨l.toArray⟩)).run Tryd.prog w = .ok v W ∧ Below w.heap.size w W ∧ Rdv W v (bv l) := by
  have h := Lib.run_convert_string_bytes (P := Tryd.prog) w 9 27 5 ⟨l.toArray⟩ (u := .string) Tryd.underlying9 Tryd.underlying27 Tryd.underlying5
  rw [str_size] at h
  refine ⟨_, _, h, ⟨rfl, rfl, rfl, ?_, ?_⟩, ?_⟩
  · rw [Lib.bytesWorld_size]; omega
  · intro j hj
    exact Lib.bytesWorld_at_old _ _ _ _ hj
  · refine ⟨some ⟨w.heap.size, 0, none⟩, _, by rw [bv_len], by rw [bv_len]; exact grownCap_ge _ _ _ _, grownCap_le_maxLen _ _ _ _ (by unfold maxLen; omega), (by intro h; cases h), fun j u hu => ⟨_, rfl, ?_⟩⟩
    rw [Addr.add_lit, Nat.zero_add]
    have hj : j < l.length := by
      have := (List.getElem?_eq_some_iff.1 hu).1
      rwa [bv_len] at this
    rw [bv_get hj] at hu
    have := Lib.bytesWorld_cell w 5 ⟨l.toArray⟩ j (by rw [str_size]; exact hj)
    rw [this, ← hu]
    simp [List.getD, hj]
end Go.Proofs.YtmgalfdiiegjjaaDoor

/- Bytes that a call tells one behind the other, beside structs that stand; the walk of the document's own in. -/
namespace Go.Proofs.YtmgalfdiiegjjaaDoor
open Go.RowKit

/-- Structs of wa stand in w. -/
def Ku (wa w : World) : Prop := ∀ (g : Nat) (cs : Array Value) (T : TypeId), wa.heap[g]? = some (.cells cs T (0, 0)) → T ≠ 5 → w.heap[g]? = some (.cells cs T (0, 0))
theorem Ku.refl (w : World) : Ku w w := fun _ _ _ h _ => h
theorem Ku.trans {a b c : World} (h : Ku a b) (k : Ku b c) : Ku a c := fun g cs T h1 h3 => k g cs T (h g cs T h1 h3) h3
theorem Ku.calm {a w w' : World} (h : Ku a w) (hb : Below w.heap.size w w') : Ku a w' := fun g cs T h1 h3 => by
  have := h g cs T h1 h3
  exact (hb.block g (Array.getElem?_eq_some_iff.1 this).1).trans this
theorem Ku.str {a w : World} {g : Nat} {T : TypeId} {cs : Array Value} (h : Ku a w) (hs : Str a g T cs) (h2 : T ≠ 5) : Str w g T cs := h g cs T hs h2
/-- Bytes told so far, in v. -/
structure Tw (w0 wa w : World) (v : Value) (bs : List UInt8) : Prop where
  bl : Below w0.heap.size w0 w
  kt : Ku wa w
  own : Own w w0.heap.size 5 v (bv bs)
theorem Tw.calm {w0 wa w w' : World} {v : Value} {bs : List UInt8} (h : Tw w0 wa w v bs) (hb : Below w.heap.size w w') : Tw w0 wa w' v bs :=
  ⟨h.bl.trans (hb.mono h.bl.size), h.kt.calm hb, h.own.below hb⟩
theorem Tw.here {w0 wa w : World} {v : Value} {bs : List UInt8} (h : Tw w0 wa w v bs) : Tw w0 w w v bs := ⟨h.bl, Ku.refl _, h.own⟩
theorem Tw.back {w0 wa wb w : World} {v : Value} {bs : List UInt8} (h : Tw w0 wb w v bs) (k : Ku wa wb) : Tw w0 wa w v bs := ⟨h.bl, k.trans h.kt, h.own⟩
theorem Tw.grown {w0 wa w w1 : World} {v v' : Value} {bs bs' : List UInt8} (h : Tw w0 wa w v bs) (hg : w.grownBy w1 v.ownBlock) (ho : Own w1 w0.heap.size 5 v' (bv bs')) : Tw w0 wa w1 v' bs' := by
  refine ⟨h.bl.trans (below_of_grown h.own hg h.bl.size), ?_, ho⟩
  intro g cs T h1 h3
  have k := h.kt g cs T h1 h3
  exact (hg.block g (Array.getElem?_eq_some_iff.1 k).1 (by
    intro e
    obtain ⟨c, hc⟩ := h.own.block e.symm
    rw [hc] at k
    simp at k
    exact h3 k.2.symm)).trans k
theorem Tw.size {w0 wa w : World} {v : Value} {bs : List UInt8} (h : Tw w0 wa w v bs) : w0.heap.size ≤ w.heap.size := h.bl.size
/-- What a function that tells bytes answers. -/
def TwE (w0 wa : World) (bs : List UInt8) (e : Ending) (w' : World) : Prop := ∃ a n c, e = .returned (.slice a n c) ∧ Tw w0 wa w' (.slice a n c) bs
theorem TwE.mk {w0 wa w' : World} {v : Value} {bs : List UInt8} (h : Tw w0 wa w' v bs) : TwE w0 wa bs (.returned v) w' := by
  obtain ⟨a, c, hv, -⟩ := h.own.rd
  subst hv
  exact ⟨_, _, _, rfl, h⟩
set_option maxHeartbeats 8000000 in
theorem tin_any (k : Nat) {w0 wa w : World} {v : Value} {bs : List UInt8} (h : Tw w0 wa w v bs) (hl : bs.length + k ≤ 1000000000) :
    Calls Tryd.prog 24 #[v, .int .i64 (k : Int)] w (TwE w0 wa (bs ++ DC.bl k)) := by
  have H := Lib.hid h
  have HL := Lib.hid hl
  clear h hl
  go_enter Tryd.func24, Tryd.ntmps24
  go_wp2
  go_loopg [0, 5] k (fun g s0 s5 wx => ∃ (i : Nat) (u : Value), i + g = k ∧ s5 = .int .i64 (i : Int) ∧ u = s0 ∧ Hid (Tw w0 wa wx u (bs ++ DC.bl i)))
  case atStart => exact ⟨0, v, by omega, rfl, rfl, by simpa [DC.bl] using H⟩
  case round =>
    clear H
    obtain ⟨i, u, hi, rfl, rfl, H⟩ := hrel
    cases gk with
    | zero =>
      obtain rfl : i = k := by omega
      go_wp2
      go_ret
      exact TwE.mk H.out
    | succ g =>
      have hik : (i : Int) < (k : Int) := by omega
      have hkm : (k : Int) ≤ 1000000000 := by have := HL.out; omega
      have HX := Lib.hid (H.out.calm (below_alloc wr (.cells #[.int .u8 32] 5)))
      go_wp2_with (at_builtin; refine wpList_append_bytes rfl (.tmp 11) (.tmp 12) 27 rfl w0.heap.size 5 Tryd.underlying27 Tryd.linfo_u8 (by rfl) HX.out.own (by rfl) (one_rd (b := 32) rfl) (by have := HL.out; rw [List.length_append]; simp only [DC.bl, List.length_replicate, List.length_cons, List.length_nil]; omega) HX.out.size ?_; intro u2 w2 ho2 hg2 hb2; have H2 := Lib.hid (HX.out.grown hg2 ho2); clear ho2 hg2 hb2)
      go_roundg g
      case rel => exact ⟨i + 1, u2, by omega, by first | rfl | (simp; done), rfl, by rw [bl_succ, ← List.append_assoc]; exact H2⟩
      case measure => omega
end Go.Proofs.YtmgalfdiiegjjaaDoor

/- The walk of the document's own show: texts. -/
namespace Go.Proofs.YtmgalfdiiegjjaaDoor
open Go.RowKit

theorem twrap_small {z : Int} (h0 : 0 ≤ z) (h1 : z ≤ 2000000) : IntKind.i64.wrap z = z := by
  unfold IntKind.wrap
  simp [IntKind.signed, IntKind.bits]
  omega
theorem tshowL_cons (key : LX.B) (t : SH.Tr) (r : SH.Fo) (c : Nat) (f : Bool) : SH.showL (.cons key t r) c f = (if f then [] else DC.bl c) ++ ([45, 32] ++ SH.showT t (c + 2)) ++ SH.showL r c false := by
  simp [SH.showL]
def tisTx : SH.Tr → Bool
  | .text _ _ => true
  | _ => false
def tknd : SH.Tr → Int
  | .text _ _ => 1
  | .list _ => 2
  | .map _ => 3
theorem tshowM_cons (key : LX.B) (t : SH.Tr) (r : SH.Fo) (c : Nat) (f : Bool) : SH.showM (.cons key t r) c f = (if f then [] else DC.bl c) ++ ((key ++ [58]) ++ ((if tisTx t then [32] else 10 :: DC.bl (c + 2)) ++ SH.showT t (c + 2))) ++ SH.showM r c false := by
  cases t <;> simp [SH.showM, SH.showT, tisTx]
theorem tflat_ne (t : SH.Tr) (N : Nat) : ∃ x l, SH.flatT t N = x :: l ∧ x.kind = tknd t := by cases t <;> exact ⟨_, _, rfl, rfl⟩
def ticast (l : List Nat) : List Int := l.map fun n : Nat => (n : Int)
theorem ticast_len (l : List Nat) : (ticast l).length = l.length := by simp [ticast]
theorem tkids_len : ∀ (k : SH.Fo) (N : Nat), (SH.kidsF k N).length = (SH.keysF k).length
  | .nil, _ => rfl
  | .cons _ t r, N => by rw [SH.kidsF, SH.keysF, List.length_cons, List.length_cons, tkids_len r]
/-- A block's text has been told, by the document's own show. -/
def SwC (s : Nat) : Prop := ∀ (t : SH.Tr) (ns : List SH.Ni) (n c : Nat) (w0 wa w : World) (vd v : Value) (bs : List UInt8), SH.sizeT t ≤ s → Rdi w0 vd ns → SH.At ns n (SH.flatT t n) → Tw w0 wa w v bs →
  (∀ x ∈ ns, x.text.length ≤ 5000 ∧ ∀ k ∈ x.keys, k.length ≤ 15000) → bs.length + (SH.showT t c).length ≤ 600000000 → c + 2 * SH.sizeT t ≤ 1000000 →
  Calls Tryd.prog 15 #[v, .agg #[vd], .int .i64 (n : Int), .int .i64 (c : Int)] w (TwE w0 wa (bs ++ SH.showT t c))
/-- Behind the two boxes: where the walk of show stands. -/
theorem tw_boxes {w0 wa w : World} {v vd : Value} {bs : List UInt8} (h : Tw w0 wa w v bs) (cs : Array Value) :
    Tw w0 ((w.alloc (.cells #[vd] 24)).alloc (.cells cs 37)) ((w.alloc (.cells #[vd] 24)).alloc (.cells cs 37)) v bs ∧ Ku wa ((w.alloc (.cells #[vd] 24)).alloc (.cells cs 37)) ∧ Str ((w.alloc (.cells #[vd] 24)).alloc (.cells cs 37)) w.heap.size 24 #[vd] ∧ Str ((w.alloc (.cells #[vd] 24)).alloc (.cells cs 37)) (w.heap.size + 1) 37 cs := by
  have b1 := below_alloc w (.cells #[vd] 24)
  have b2 := below_alloc (w.alloc (.cells #[vd] 24)) (.cells cs 37)
  have s2 := Str.new (w.alloc (.cells #[vd] 24)) 37 cs
  rw [bx_size] at s2
  exact ⟨((h.calm b1).calm b2).here, (h.kt.calm b1).calm b2, (Str.new w _ _).below b2, s2⟩
set_option maxRecDepth 10000 in
set_option maxHeartbeats 16000000 in
theorem tshow_text (ns : List SH.Ni) (n c : Nat) (w0 wa w : World) (vd v : Value) (bs : List UInt8) (S : List UInt8) (q : Bool) (hr : Rdi w0 vd ns) (ha : SH.At ns n (SH.flatT (.text S q) n)) (h : Tw w0 wa w v bs)
    (hln : ∀ x ∈ ns, x.text.length ≤ 5000 ∧ ∀ k ∈ x.keys, k.length ≤ 15000) (hl : bs.length ≤ 600000000) :
    Calls Tryd.prog 15 #[v, .agg #[vd], .int .i64 (n : Int), .int .i64 (c : Int)] w (TwE w0 wa (bs ++ (SH.wr S q ++ [10]))) := by
  obtain ⟨y, hy, hyx⟩ := (show SH.At ns n [_] from ha).head
  obtain ⟨b5, o5, cap5, ka, kc, ia, ic, hv5, c6, -, -⟩ := hr.at hy
  have hNl : n < ns.length := (List.getElem?_eq_some_iff.1 hy).1
  have hnm : ns.length ≤ maxLen := by obtain ⟨_, _, _, h9⟩ := hr.slice; exact h9
  obtain ⟨NL, hNL⟩ : ∃ NL, ns.length = NL := ⟨_, rfl⟩
  rw [hNL] at hv5 hNl hnm
  unfold maxLen at hnm
  have hN0 : (0 : Int) ≤ (n : Int) := by omega
  have hN1 : (n : Int) < (NL : Int) := by omega
  subst hv5
  have hlny := (hln y (List.mem_of_getElem? hy)).1
  obtain ⟨kd, ln, tx, qq, ks, is⟩ := y
  obtain ⟨rfl, rfl, rfl⟩ : kd = 1 ∧ tx = S ∧ qq = q := by
    unfold SH.zi SH.up at hyx
    simp only [SH.Ni.mk.injEq] at hyx
    exact ⟨hyx.1, hyx.2.2.1, hyx.2.2.2.1⟩
  simp only at c6 hlny
  obtain ⟨kn, hkn⟩ : ∃ kn, ks.length = kn := ⟨_, rfl⟩
  obtain ⟨im, him⟩ : ∃ im, is.length = im := ⟨_, rfl⟩
  rw [hkn, him] at c6
  obtain ⟨d0, d1, d2, d3, d4, d5⟩ := (c6.below h.bl).below (below_alloc w (.cells #[.slice (some ⟨b5, o5, none⟩) NL cap5] 24))
  simp only at d0 d1 d2 d3 d4 d5
  obtain ⟨h1, h2, h3, h4⟩ := tw_boxes (vd := .slice (some ⟨b5, o5, none⟩) NL cap5) h #[.int .i64 1, .int .i64 ln, .string ⟨tx.toArray⟩, .bool qq, .slice ka kn kc, .slice ia im ic]
  have H := Lib.hid h1
  have HKU := Lib.hid h2
  have HLY := Lib.hid hlny
  have HL := Lib.hid hl
  clear hr ha h hln hl hy hyx hNl hnm hNL hlny c6 hkn him h1 h2 h3 h4
  cases qq with
  | true =>
    have HQ := Lib.hid (fun x => quote_any tx x HLY.out)
    have HQL : Hid ((LX.quo tx).length ≤ 4 * tx.length + 2) := LX.quo_len tx
    rw [show SH.wr tx true = LX.quo tx from rfl]
    go_enter Tryd.func15, Tryd.ntmps15
    go_wp2_with (first
      | (go_at_call 23; refine (HQ.out _).mono ?_; rintro e w3 ⟨v3, rfl, o3, b3⟩; have H3 := Lib.hid (H.out.calm b3); have HR3 := Lib.hid o3.rd; clear o3 b3)
      | (at_builtin; refine wpList_append_bytes rfl (.tmp 31) (.tmp 32) 27 rfl w0.heap.size 5 Tryd.underlying27 Tryd.linfo_u8 (by rfl) (H4.out.calm (below_alloc _ _)).own (by rfl) (one_rd (b := 10) rfl) (by have := HL.out; have := HQL.out; have := HLY.out; rw [List.length_append]; simp only [List.length_cons, List.length_nil]; omega) (H4.out.calm (below_alloc _ _)).size ?_; intro u5 w5 ho5 hg5 hb5; have H5 := Lib.hid ((H4.out.calm (below_alloc _ _)).grown hg5 ho5); clear ho5 hg5 hb5)
      | (at_builtin; refine wpList_append_bytes rfl (.tmp 21) (.tmp 24) 27 rfl w0.heap.size 5 Tryd.underlying27 Tryd.linfo_u8 (by rfl) H3.out.own (by rfl) HR3.out (by have := HL.out; have := HQL.out; have := HLY.out; omega) H3.out.size ?_; intro u4 w4 ho4 hg4 hb4; have H4 := Lib.hid (H3.out.grown hg4 ho4); clear ho4 hg4 hb4))
    go_ret
    rw [← List.append_assoc]
    exact TwE.mk (H5.out.back HKU.out)
  | false =>
    rw [show SH.wr tx false = tx from rfl]
    obtain ⟨WC, vc, hcv, hbw, hrd⟩ := conv_text tx (by have := HLY.out; omega) (((w.alloc (.cells #[.slice (some ⟨b5, o5, none⟩) NL cap5] 24)).alloc (.cells #[.int .i64 1, .int .i64 ln, .string ⟨tx.toArray⟩, .bool false, .slice ka kn kc, .slice ia im ic] 37)))
    have H3 := Lib.hid (H.out.calm hbw)
    have HR3 := Lib.hid hrd
    clear hbw hrd
    go_enter Tryd.func15, Tryd.ntmps15
    go_wp2_with (first
      | (at_builtin; refine wpList_append_bytes rfl (.tmp 31) (.tmp 32) 27 rfl w0.heap.size 5 Tryd.underlying27 Tryd.linfo_u8 (by rfl) (H4.out.calm (below_alloc _ _)).own (by rfl) (one_rd (b := 10) rfl) (by have := HL.out; have := HLY.out; rw [List.length_append]; simp only [List.length_cons, List.length_nil]; omega) (H4.out.calm (below_alloc _ _)).size ?_; intro u5 w5 ho5 hg5 hb5; have H5 := Lib.hid ((H4.out.calm (below_alloc _ _)).grown hg5 ho5); clear ho5 hg5 hb5)
      | (at_builtin; refine wpList_append_bytes rfl (.tmp 26) (.tmp 29) 27 rfl w0.heap.size 5 Tryd.underlying27 Tryd.linfo_u8 (by rfl) H3.out.own (by rfl) HR3.out (by have := HL.out; have := HLY.out; omega) H3.out.size ?_; intro u4 w4 ho4 hg4 hb4; have H4 := Lib.hid (H3.out.grown hg4 ho4); clear ho4 hg4 hb4))
    go_ret
    rw [← List.append_assoc]
    exact TwE.mk (H5.out.back HKU.out)
end Go.Proofs.YtmgalfdiiegjjaaDoor
