/- Several texts in one. -/
import Derived.Test.YtmgalfdiiegjjaaGreatDoorSeg07
import Derived.Test.YtmgalfdiiegjjaaGreatDoorShW5
import Derived.Lib.AppendStr
import Derived.Test.YtmgalfdiiegjjaaGreatDoorSeg01
import Derived.Laws.StructEq
import Derived.Test.YtmgalfdiiegjjaaGreatDoorLxB
import Derived.Test.YtmgalfdiiegjjaaGreatDoorSeg13
import Derived.Test.YtmgalfdiiegjjaaGreatDoorSeg16
import Derived.BigQuiet
import Derived.Deep.CutBlock
import Derived.Deep.DeepCutAuto
import Derived.Test.YtmgalfdiiegjjaaGreatDoorSeg06
import Derived.Deep.AppendLies
namespace Go.Proofs.YtmgalfdiiegjjaaGreatDoor
open Go.RowKit

theorem strc_bv (s : List UInt8) : Lib.strCells ⟨s.toArray⟩ = bv s := rfl
theorem own_str {w : World} {base : Nat} {e : TypeId} {v : Value} {bs s : List UInt8} (h : w.ownsRow base e 1 v ((bv bs).length + (⟨s.toArray⟩ : ByteArray).size) (bv bs ++ Lib.strCells ⟨s.toArray⟩)) : Own w base e v (bv (bs ++ s)) := by
  rw [strc_bv, str_size] at h
  show w.ownsRow base e 1 v (bv (bs ++ s)).length (bv (bs ++ s))
  rw [bv_app, List.length_append, bv_len s]
  exact h
/-- Structs of wa stand in w, but for p. -/
def Kt (wa w : World) (p : Nat) : Prop := ∀ g cs T, wa.heap[g]? = some (.cells cs T (0, 0)) → g ≠ p → T ≠ 5 → w.heap[g]? = some (.cells cs T (0, 0))
theorem Kt.refl (w : World) (p : Nat) : Kt w w p := fun _ _ _ h _ _ => h
theorem Kt.trans {a b c : World} {p : Nat} (h : Kt a b p) (k : Kt b c p) : Kt a c p := fun g cs T h1 h2 h3 => k g cs T (h g cs T h1 h2 h3) h2 h3
theorem Kt.calm {a w w' : World} {p : Nat} (h : Kt a w p) (hb : Below w.heap.size w w') : Kt a w' p := fun g cs T h1 h2 h3 => by
  have := h g cs T h1 h2 h3
  exact (hb.block g (Array.getElem?_eq_some_iff.1 this).1).trans this
theorem Kt.str {a w : World} {p g : Nat} {T : TypeId} {cs : Array Value} (h : Kt a w p) (hs : Str a g T cs) (h1 : g ≠ p) (h2 : T ≠ 5) : Str w g T cs := h g cs T hs h1 h2
/-- A writer at p: its nodes, what it told so far. -/
structure Wrs (w0 wa w : World) (p : Nat) (v ov : Value) (bs : List UInt8) : Prop where
  bl : Below w0.heap.size w0 w
  lo : w0.heap.size ≤ p
  kt : Kt wa w p
  st : Str w p 76 #[v, ov]
  own : Own w w0.heap.size 5 ov (bv bs)
theorem Wrs.off {w0 wa w : World} {p : Nat} {v ov : Value} {bs : List UInt8} (h : Wrs w0 wa w p v ov bs) : ov.ownBlock = none ∨ ov.ownBlock ≠ some p := .inr (h.st.apart h.own (by decide))
theorem Wrs.size {w0 wa w : World} {p : Nat} {v ov : Value} {bs : List UInt8} (h : Wrs w0 wa w p v ov bs) : w0.heap.size ≤ w.heap.size := h.bl.size
theorem Wrs.calm {w0 wa w w' : World} {p : Nat} {v ov : Value} {bs : List UInt8} (h : Wrs w0 wa w p v ov bs) (hb : Below w.heap.size w w') : Wrs w0 wa w' p v ov bs :=
  ⟨h.bl.trans (hb.mono h.bl.size), h.lo, h.kt.calm hb, h.st.below hb, h.own.below hb⟩
/-- From here on. -/
theorem Wrs.here {w0 wa w : World} {p : Nat} {v ov : Value} {bs : List UInt8} (h : Wrs w0 wa w p v ov bs) : Wrs w0 w w p v ov bs := ⟨h.bl, h.lo, Kt.refl _ _, h.st, h.own⟩
theorem Wrs.back {w0 wa wb w : World} {p : Nat} {v ov : Value} {bs : List UInt8} (h : Wrs w0 wb w p v ov bs) (k : Kt wa wb p) : Wrs w0 wa w p v ov bs := ⟨h.bl, h.lo, k.trans h.kt, h.st, h.own⟩
/-- What was told has grown. -/
theorem Wrs.grown {w0 wa w w1 : World} {p : Nat} {v ov ov' : Value} {bs bs' : List UInt8} (h : Wrs w0 wa w p v ov bs) (hg : w.grownBy w1 ov.ownBlock) (ho : Own w1 w0.heap.size 5 ov' (bv bs')) :
    Str w1 p 76 #[v, ov] ∧ Wrs w0 wa (w1.setCell ⟨p, 1, none⟩ ov') p v ov' bs' := by
  have hs1 : Str w1 p 76 #[v, ov] := h.st.kb (Kb.of_grown hg none) (by simp) (by
    rcases h.off with h1 | h1
    · rw [h1]; simp
    · exact fun e => h1 e.symm)
  have kb := Kb.set w1 p 1 ov' none
  have hb : Below w0.heap.size w0 w1 := h.bl.trans (below_of_grown h.own hg h.size)
  refine ⟨hs1, ⟨hb.trans (kb.below hb.size (by intro g e; cases e; exact h.lo) (by simp)), h.lo, ?_, by simpa using hs1.set 1 ov', ho.kb kb (.inr (hs1.apart ho (by decide))) no_or⟩⟩
  intro g cs T h1 h2 h3
  have k := h.kt g cs T h1 h2 h3
  have k1 : w1.heap[g]? = some (.cells cs T (0, 0)) := (hg.block g (Array.getElem?_eq_some_iff.1 k).1 (by
    intro e
    obtain ⟨c, hc⟩ := h.own.block e.symm
    rw [hc] at k
    simp at k
    exact h3 k.2.symm)).trans k
  exact (kb.block g (Array.getElem?_eq_some_iff.1 k1).1 (by intro e; exact h2 (Option.some.inj e)) (by simp)).trans k1
/-- What a writer's method answers, at its end: it told those bytes. -/
def WrE (w0 wa : World) (p : Nat) (v : Value) (bs : List UInt8) (e : Ending) (w' : World) : Prop := e = .returned (.tuple #[]) ∧ ∃ ov, Wrs w0 wa w' p v ov bs
set_option maxHeartbeats 4000000 in
theorem wput_any {w0 wa w : World} {p : Nat} {v ov : Value} {bs : List UInt8} (h : Wrs w0 wa w p v ov bs) (s : List UInt8) (hl : bs.length + s.length ≤ 1000000000) :
    Calls Tryz.prog 91 #[.pointer (some ⟨p, 0, none⟩), .string ⟨s.toArray⟩] w (WrE w0 wa p v (bs ++ s)) := by
  obtain ⟨i, hi, hz0, hz1, hz2⟩ := info_parts Tryz.linfo_u8
  have H := Lib.hid h
  have HL := Lib.hid hl
  have c1 : w.cell? ⟨p, 1, none⟩ = some ov := h.st.cell 1
  clear h hl
  go_enter Tryz.func91, Tryz.ntmps91
  go_wp2_with (at_builtin; refine Lib.wpList_append_own_string _ rfl (.tmp 8) (.tmp 9) 35 9 rfl w0.heap.size 5 i Tryz.underlying35 Tryz.underlying9 hi hz0 hz1 hz2 _ _ _ (by rfl) H.out.own ⟨s.toArray⟩ (by rfl) (by have := HL.out; rw [bv_len, str_size]; unfold maxLen; omega) (by have := HL.out; rw [bv_len, str_size]; omega) H.out.size ?_; intro v2 w2 ho2 hg2 _; have ho3 := own_str ho2; clear ho2; obtain ⟨ao2, cp2, rfl, -⟩ := ho3.rd; have G2 := Lib.hid (H.out.grown hg2 ho3); have f1 := G2.out.1.frozen 1; have k1 := G2.out.1.cell 1; clear ho3 hg2)
  go_end0
  exact ⟨rfl, _, G2.out.2⟩
set_option maxHeartbeats 8000000 in
theorem windent_any (k : Nat) {w0 wa w : World} {p : Nat} {v ov : Value} {bs : List UInt8} (h : Wrs w0 wa w p v ov bs) (hl : bs.length + k ≤ 1000000000) :
    Calls Tryz.prog 92 #[.pointer (some ⟨p, 0, none⟩), .int .i64 (k : Int)] w (WrE w0 wa p v (bs ++ DC.bl k)) := by
  have H := Lib.hid h
  have HL := Lib.hid hl
  clear h hl
  go_enter Tryz.func92, Tryz.ntmps92
  go_wp2
  go_loopg [5] k (fun g s5 wx => ∃ (i : Nat) (u : Value), i + g = k ∧ s5 = .int .i64 (i : Int) ∧ Hid (Wrs w0 wa wx p v u (bs ++ DC.bl i)))
  case atStart => exact ⟨0, ov, by omega, rfl, by simpa [DC.bl] using H⟩
  case round =>
    clear H
    obtain ⟨i, u, hi, rfl, H⟩ := hrel
    cases gk with
    | zero =>
      obtain rfl : i = k := by omega
      go_wp2
      go_end0
      exact ⟨rfl, _, H.out⟩
    | succ g =>
      have hik : (i : Int) < (k : Int) := by omega
      have hkm : (k : Int) ≤ 1000000000 := by have := HL.out; omega
      have BX := below_alloc wr (.cells #[.int .u8 32] 5)
      have HX := Lib.hid (H.out.calm BX)
      have c1 : wr.cell? ⟨p, 1, none⟩ = some u := H.out.st.cell 1
      clear BX
      go_wp2_with (at_builtin; refine wpList_append_rd rfl (.tmp 11) (.tmp 12) 35 rfl w0.heap.size 5 (.int .u8 0) 1 Tryz.underlying35 Tryz.linfo_u8 rfl (by rfl) HX.out.own (by rfl) (one_rd (b := 32) rfl) bv_one (by have := HL.out; rw [bv_len, bv_len, List.length_append]; simp only [DC.bl, List.length_replicate, List.length_cons, List.length_nil]; unfold maxLen; omega) (by have := HL.out; rw [bv_len, bv_len, List.length_append]; simp only [DC.bl, List.length_replicate, List.length_cons, List.length_nil]; omega) HX.out.size ?_; intro u2 w2 ho2 hg2 hb2; rw [← bv_app] at ho2; obtain ⟨ao2, cp2, rfl, -⟩ := ho2.rd; have G2 := Lib.hid (HX.out.grown hg2 ho2); have f1 := G2.out.1.frozen 1; have k1 := G2.out.1.cell 1; clear ho2 hg2 hb2)
      go_roundg g
      case rel => exact ⟨i + 1, _, by omega, by first | rfl | (simp; done), by rw [bl_succ, ← List.append_assoc]; exact Lib.hid G2.out.2⟩
      case measure => omega
end Go.Proofs.YtmgalfdiiegjjaaGreatDoor

/- '==' of faults. -/
namespace Go.Proofs.YtmgalfdiiegjjaaGreatDoor
open Go.RowKit

theorem fpart0 (x y : Value) (w : World) : (part 3 #[x, y] 0).run Tryz.prog w = .ok x w := by kernel_rfl
theorem fpart1 (x y : Value) (w : World) : (part 3 #[x, y] 1).run Tryz.prog w = .ok y w := by kernel_rfl
theorem llist_beq (a : List UInt8) : ((⟨a.toArray⟩ : ByteArray).toList == (⟨a.toArray⟩ : ByteArray).toList) = true := by simp
theorem fault_under : Tryz.prog.underlying 39 = some (.struct (Tryz.prog.fieldsOf 39)) := by kernel_rfl
theorem fault_held : Tryz.prog.stoodInHeld 39 = false := by kernel_rfl
theorem fault_guard : Tryz.prog.eqGuardType Tryz.prog.depth 39 = false := by kernel_rfl
theorem fault_fields : ∃ f0 f1, (Tryz.prog.fieldsOf 39).toList = [f0, f1] ∧ f0.type = 3 ∧ f1.type = 3 ∧ f0.offset = 0 ∧ f1.offset = 1 ∧ f0.name = "Kind" ∧ f1.name = "Line" := by
  refine ⟨(Tryz.prog.fieldsOf 39).getD 0 default, (Tryz.prog.fieldsOf 39).getD 1 default, ?_, ?_, ?_, ?_, ?_, ?_, ?_⟩ <;> kernel_rfl
theorem eq_fault (a b : Int) (w : World) : (binOp .eql 39 (.agg #[.int .i64 a, .int .i64 b]) (.agg #[.int .i64 a, .int .i64 b])).run Tryz.prog w = .ok (.bool true) w := by
  rw [run_eql_struct, run_equalIn_agg w 9999 _ _ _ fault_under fault_held]
  obtain ⟨f0, f1, hl, t0, t1, o0, o1, n0, n1⟩ := fault_fields
  rw [hl]
  have k0 : f0.name ≠ "_" := by rw [n0]; decide
  have k1 : f1.name ≠ "_" := by rw [n1]; decide
  simp only [Op.eqFields, k0, k1, if_true, ne_eq, not_false_eq_true, t0, t1, o0, o1, Sem.run_bind, fpart0, fpart1, Result.andThen_ok, run_equalIn_int w 9998 _ .i64 _ _ _ Tryz.underlying3, Sem.run_ite, Sem.run_pure]
  simp
end Go.Proofs.YtmgalfdiiegjjaaGreatDoor

/- The parts of a piece, for its comparison. -/
namespace Go.Proofs.YtmgalfdiiegjjaaGreatDoor
open Go.RowKit

theorem ppart0 (a b c d e : Value) (w : World) : (part 3 #[a, b, c, d, e] 0).run Tryz.prog w = .ok a w := by kernel_rfl
theorem ppart1 (a b c d e : Value) (w : World) : (part 3 #[a, b, c, d, e] 1).run Tryz.prog w = .ok b w := by kernel_rfl
theorem ppart2 (a b c d e : Value) (w : World) : (part 3 #[a, b, c, d, e] 2).run Tryz.prog w = .ok c w := by kernel_rfl
theorem ppart3 (a b c d e : Value) (w : World) : (part 9 #[a, b, c, d, e] 3).run Tryz.prog w = .ok d w := by kernel_rfl
theorem ppart4 (a b c d e : Value) (w : World) : (part 4 #[a, b, c, d, e] 4).run Tryz.prog w = .ok e w := by kernel_rfl
theorem piece_under : Tryz.prog.underlying 119 = some (.struct (Tryz.prog.fieldsOf 119)) := by kernel_rfl
theorem piece_held : Tryz.prog.stoodInHeld 119 = false := by kernel_rfl
theorem piece_guard : Tryz.prog.eqGuardType Tryz.prog.depth 119 = false := by kernel_rfl
theorem piece_fields : ∃ f0 f1 f2 f3 f4, (Tryz.prog.fieldsOf 119).toList = [f0, f1, f2, f3, f4] ∧ f0.type = 3 ∧ f1.type = 3 ∧ f2.type = 3 ∧ f3.type = 9 ∧ f4.type = 4 ∧ f0.offset = 0 ∧ f1.offset = 1 ∧ f2.offset = 2 ∧ f3.offset = 3 ∧ f4.offset = 4 ∧ f0.name = "Kind" ∧ f1.name = "Line" ∧ f2.name = "Col" ∧ f3.name = "Text" ∧ f4.name = "Quoted" := by
  refine ⟨(Tryz.prog.fieldsOf 119).getD 0 default, (Tryz.prog.fieldsOf 119).getD 1 default, (Tryz.prog.fieldsOf 119).getD 2 default, (Tryz.prog.fieldsOf 119).getD 3 default, (Tryz.prog.fieldsOf 119).getD 4 default, ?_, ?_, ?_, ?_, ?_, ?_, ?_, ?_, ?_, ?_, ?_, ?_, ?_, ?_, ?_, ?_⟩ <;> kernel_rfl
end Go.Proofs.YtmgalfdiiegjjaaGreatDoor

/- Keys that are read as such; which documents are alike; which may be. No program is named here. -/
namespace Go.Proofs.YtmgalfdiiegjjaaGreatDoor
namespace SH
open LX (B Pc Lz)
open DC (Nd bl)

/-- A text with a colon behind it is read as one key just if it may be a key. -/
theorem key_row {k : B} : ((LX.row (0, 0, k ++ [58])).1 = 0 ∧ (LX.row (0, 0, k ++ [58])).2 = [(2, 0, 0, k, false)]) ↔ keyb k = true := by
  constructor
  · rintro ⟨hr, hp⟩
    unfold LX.row at hr hp
    simp only at hr hp
    rw [if_neg (by omega)] at hr hp
    obtain ⟨l, hl⟩ : ∃ l, LX.tl (k ++ [58]) = l := ⟨_, rfl⟩
    rw [hl] at hr hp
    have hd : LX.dash l = false := by
      cases hd : LX.dash l with
      | false => rfl
      | true =>
        have hlen := LX.dash_len hd
        obtain ⟨n, hn⟩ : ∃ n, l.length = n + 1 := ⟨l.length - 1, by omega⟩
        rw [hn, LX.go_dash hd] at hr hp
        obtain ⟨L, hL⟩ := go_pre hr
        rw [hp] at hL
        simp only [List.nil_append, List.cons_append, List.cons.injEq, Prod.mk.injEq] at hL
        exact absurd hL.1.1 (by decide)
    rw [LX.go_mid hd] at hr hp
    unfold LX.mid at hr hp
    by_cases hk : LX.key l = 0
    · rw [if_pos hk] at hr hp
      unfold LX.fin at hr hp
      split at hp
      · simp at hp
      · split at hp
        · simp at hp
        · simp at hp
    · rw [if_neg hk] at hr hp
      split at hr
      · cases hr
      rename_i h64
      rw [if_neg h64] at hp
      obtain ⟨k2, r, h1, h2, h3, h4, h5, h6, h7⟩ := key_split hk
      obtain ⟨L, hL⟩ := fin_pre hr
      rw [hp, h3] at hL
      simp only [List.nil_append, List.cons_append, List.cons.injEq, Prod.mk.injEq] at hL
      obtain ⟨⟨_, _, _, e, _⟩, _⟩ := hL
      subst e
      unfold keyb
      rw [Bool.and_eq_true, List.all_eq_true]
      exact ⟨decide_eq_true ⟨h5, by omega⟩, h6⟩
  · intro h
    have hk := keyb_key h
    have := Rw.row (r := ⟨0, 0, .key k⟩) hk 0 (Nat.zero_le _)
    have e : (Rw.c ⟨0, 0, .key k⟩) = k ++ [58] := by simp [Rw.c, Rt.b, dashes]
    rw [e] at this
    have e2 : LX.row (0, 0, k ++ [58]) = (0, Rw.ps 0 ⟨0, 0, .key k⟩) := this
    rw [e2]
    exact ⟨rfl, by simp [Rw.ps, Rt.ps, dashP]⟩
/-- Alike in all but lines? -/
def sameb (a b : List Ni) : Bool := decide (a.map zi = b.map zi)
theorem sameb_refl (a : List Ni) : sameb a a = true := decide_eq_true rfl
instance (ns : List Ni) : Decidable (chk ns) := by unfold chk; exact inferInstance
def chkb (ns : List Ni) : Bool := decide (chk ns)
end SH
end Go.Proofs.YtmgalfdiiegjjaaGreatDoor

/- Pieces compared; walks of show.needsEscape and show.isRead. -/
namespace Go.Proofs.YtmgalfdiiegjjaaGreatDoor
open Go.RowKit

theorem plist_beq (a b : List UInt8) : ((⟨a.toArray⟩ : ByteArray).toList == (⟨b.toArray⟩ : ByteArray).toList) = decide (a = b) := by
  rw [ByteArray.toList_eq, ByteArray.toList_eq, Bool.eq_iff_iff, beq_iff_eq, decide_eq_true_eq]
abbrev pcv (p : LX.Pc) : Value := .agg #[.int .i64 p.1, .int .i64 p.2.1, .int .i64 p.2.2.1, .string ⟨p.2.2.2.1.toArray⟩, .bool p.2.2.2.2]
theorem eq_piece (a b c : Int) (s : List UInt8) (q : Bool) (a' b' c' : Int) (s' : List UInt8) (q' : Bool) (w : World) : (binOp .eql 119 (.agg #[.int .i64 a, .int .i64 b, .int .i64 c, .string ⟨s.toArray⟩, .bool q]) (.agg #[.int .i64 a', .int .i64 b', .int .i64 c', .string ⟨s'.toArray⟩, .bool q'])).run Tryz.prog w = .ok (.bool (decide ((a, b, c, s, q) = (a', b', c', s', q')))) w := by
  rw [run_eql_struct, run_equalIn_agg w 9999 _ _ _ piece_under piece_held]
  obtain ⟨f0, f1, f2, f3, f4, hl, t0, t1, t2, t3, t4, o0, o1, o2, o3, o4, n0, n1, n2, n3, n4⟩ := piece_fields
  rw [hl]
  have k0 : f0.name ≠ "_" := by rw [n0]; decide
  have k1 : f1.name ≠ "_" := by rw [n1]; decide
  have k2 : f2.name ≠ "_" := by rw [n2]; decide
  have k3 : f3.name ≠ "_" := by rw [n3]; decide
  have k4 : f4.name ≠ "_" := by rw [n4]; decide
  simp only [Op.eqFields, k0, k1, k2, k3, k4, if_true, ne_eq, not_false_eq_true, t0, t1, t2, t3, t4, o0, o1, o2, o3, o4, Sem.run_bind, ppart0, ppart1, ppart2, ppart3, ppart4, Result.andThen_ok, run_equalIn_int w 9998 _ .i64 _ _ _ Tryz.underlying3, run_equalIn_string w 9998 _ _ _ Tryz.underlying9, run_equalIn_bool w 9998 _ _ _ Tryz.underlying4, plist_beq, Sem.run_ite, Sem.run_pure]
  by_cases e1 : a = a' <;> by_cases e2 : b = b' <;> by_cases e3 : c = c' <;> by_cases e4 : s = s' <;> by_cases e5 : q = q' <;> simp [e1, e2, e3, e4, e5]
/-- Is a text read as that one piece? -/
def rdb (l : LX.B) (p : LX.Pc) : Bool := decide ((LX.row (0, 0, l)).1 = 0) && decide ((LX.row (0, 0, l)).2 = [p])
def esb (z : Int) : Bool := decide (z < 32) || decide (z = 127)
set_option maxHeartbeats 4000000 in
theorem escapes_any (z : Int) (w : World) :
    Calls Tryz.prog 135 #[.int .u8 z] w fun e w' => e = .returned (.bool (esb z)) ∧ w' = w := by
  unfold esb
  by_cases h1 : z < 32
  · rw [decide_eq_true h1, Bool.true_or]
    go_enter Tryz.func135, Tryz.ntmps135
    go_wp2
    go_ret
    exact ⟨rfl, rfl⟩
  · rw [decide_eq_false h1, Bool.false_or]
    by_cases h2 : z = 127
    · subst h2
      go_enter Tryz.func135, Tryz.ntmps135
      go_wp2
      go_ret
      exact ⟨rfl, rfl⟩
    · have h3 : (z == 127) = false := by simpa using h2
      rw [decide_eq_false h2]
      go_enter Tryz.func135, Tryz.ntmps135
      go_wp2
      go_ret
      exact ⟨rfl, rfl⟩
set_option maxRecDepth 10000 in
set_option maxHeartbeats 16000000 in
theorem isRead_any (l : LX.B) (p : LX.Pc) (w : World) (hl : l.length ≤ 16000) (hm : MaxIs w) :
    Calls Tryz.prog 136 #[.string ⟨l.toArray⟩, .agg #[.int .i64 p.1, .int .i64 p.2.1, .int .i64 p.2.2.1, .string ⟨p.2.2.2.1.toArray⟩, .bool p.2.2.2.2]] w fun e w' => e = .returned (.bool (rdb l p)) ∧ Below w.heap.size w w' := by
  obtain ⟨a, b, c, s, q⟩ := p
  obtain ⟨R, hR⟩ : ∃ R, (LX.row (0, 0, l)).1 = R := ⟨_, rfl⟩
  obtain ⟨P, hP⟩ : ∃ P, (LX.row (0, 0, l)).2 = P := ⟨_, rfl⟩
  obtain ⟨K, HK⟩ : ∃ K, Hid (K = rdb l (a, b, c, s, q)) := ⟨_, Lib.hid rfl⟩
  rw [← HK.out]
  have HKD : Hid (K = (decide (R = 0) && decide (P = [(a, b, c, s, q)]))) := by
    show K = _
    rw [HK.out]; unfold rdb; rw [hR, hP]
  have B0 := below_alloc w (.cells #[.int .i64 a, .int .i64 b, .int .i64 c, .string ⟨s.toArray⟩, .bool q] 119)
  have HB0 := Lib.hid B0
  have HS := Lib.hid (Str.new w 119 #[.int .i64 a, .int .i64 b, .int .i64 c, .string ⟨s.toArray⟩, .bool q])
  have HRO := Lib.hid (fun (u : World) (hu : MaxIs u) => show Calls Tryz.prog 59 #[.agg #[.int .i64 0, .int .i64 0, .string ⟨l.toArray⟩]] u (fun e w' => ∃ a c, e = .returned (.tuple #[.slice a P.length c, .agg #[.int .i64 R, .int .i64 0]]) ∧ Rdp w' (.slice a P.length c) P ∧ Below u.heap.size u w') from by
    refine (lexRow_any (0, 0, l) u (by show l.length ≤ _; omega) hu).mono ?_
    rintro e w' ⟨hb, v, rfl, ho⟩
    rw [hP] at ho
    obtain ⟨a, c, rfl⟩ := ho.slice
    refine ⟨a, c, ?_, ho.rd, hb⟩
    rw [hR]
    simp)
  have HM := Lib.hid (hm.below B0)
  clear hR hP hl hm B0 HK
  simp only
  go_enter Tryz.func136, Tryz.ntmps136
  go_upto_region 2 with (first
    | (go_at_call 59; refine (HRO.out _ HM.out).mono ?_; rintro e w2 ⟨a2, c2, rfl, hrd, hb2⟩))
  have BX := below_alloc w2 (.cells #[.int .i64 R, .int .i64 0] 39)
  have HBE := Lib.hid (below_trans (below_trans HB0.out hb2) BX)
  have r0 := (Str.new w2 39 #[.int .i64 R, .int .i64 0]).cell 0
  have HRD := Lib.hid (hrd.below BX)
  have HSX := Lib.hid ((HS.out.below hb2).below BX)
  obtain ⟨qq, hq⟩ : ∃ q, w2.heap.size = q := ⟨_, rfl⟩
  rw [hq] at r0 ⊢
  simp only [List.getElem?_toArray, List.getElem?_cons_zero] at r0
  clear BX hb2 hrd
  generalize w2.alloc (.cells #[.int .i64 R, .int .i64 0] 39) = W at *
  clear hq
  obtain ⟨N, hN⟩ : ∃ N, P.length = N := ⟨_, rfl⟩
  have HN := Lib.hid hN
  rw [hN] at HRD ⊢
  clear hN
  by_cases hR : R = 0
  · subst hR
    by_cases h1 : N = 1
    · subst h1
      obtain ⟨p, hp⟩ : ∃ p, P = [p] := List.length_eq_one_iff.1 HN.out
      subst hp
      obtain ⟨ao, cc, hv, _, _, _, h4⟩ := HRD.out
      obtain ⟨b5, off, rfl, c5⟩ := h4 0 p rfl
      simp only [Value.slice.injEq] at hv
      obtain ⟨rfl, -, -⟩ := hv
      obtain ⟨d0, d1, d2, d3, d4⟩ := c5
      obtain ⟨pk, pn, pc, pt, pq⟩ := p
      simp only [Nat.zero_mul, Nat.add_zero] at d0 d1 d2 d3 d4
      have s0 := HSX.out.cell 0
      have s1 := HSX.out.cell 1
      have s2 := HSX.out.cell 2
      have s3 := HSX.out.cell 3
      have s4 := HSX.out.cell 4
      simp only [List.getElem?_toArray, List.getElem?_cons_zero, List.getElem?_cons_succ] at s0 s1 s2 s3 s4
      have hq := fun u => eq_piece pk pn pc pt pq a b c s q u
      have hg := piece_guard
      have E : decide ((pk, pn, pc, pt, pq) = (a, b, c, s, q)) = K := by
        rw [HKD.out]; simp
      rw [E] at hq
      clear h4 E HKD
      go_quiet (fail)
      go_wp2
      go_ret
      exact ⟨rfl, below_trans HBE.out (below_drewN _ _)⟩
    · have h1b : (N == 1) = false := by simpa using h1
      have h1c : ((N : Int) == 1) = false := by simp; omega
      have h1d : ¬ (N : Int) = 1 := by omega
      have E : K = false := by
        rw [HKD.out]
        rw [decide_eq_false (p := P = _)]
        · simp
        · intro h
          have := HN.out
          rw [h] at this
          exact h1 this.symm
      subst E
      go_quiet (fail)
      go_wp2
      go_ret
      exact ⟨rfl, below_trans HBE.out (below_drewN _ _)⟩
  · have hRb : (R == 0) = false := by simpa using hR
    have E : K = false := by
      rw [HKD.out, decide_eq_false hR]; rfl
    subst E
    go_quiet (fail)
    go_wp2
    go_ret
    exact ⟨rfl, below_trans HBE.out (below_drewN _ _)⟩
end Go.Proofs.YtmgalfdiiegjjaaGreatDoor

/- Bytes appended at a step of a region that draws, and which block turned. No program is named here. -/
namespace Go.Proofs.YtmgalfdiiegjjaaGreatDoor
open Go.RowKit

/-- As step_append_bytes, and which block turned. -/
theorem step_append_turned {P : Program} {w : World} {ops : Array Oper} {o : Oper} {a : Act} {K : Act → World → Prop} {Q : Exit → Act → World → Prop} {E : Prop} (hgd : o.guard = none) (s x : Operand) (t : TypeId)
    (ho : o.op = .call { callee := .builtin .append, args := #[s, x], argTypes := #[t, t] })
    (base : Nat) (e : TypeId) (ht : P.underlying t = some (.slice e)) (hinfo : (P.info? e).map (fun i => (i.zero, i.size, i.bytes)) = some (some (.int .u8 0), 1, 1))
    {v vx : Value} {xs news : List UInt8} (hs : a.eval s = v) (hown : Own w base e v (bv xs)) (hx : a.eval x = vx) (hrd : Rdv w vx (bv news)) (hne : 0 < news.length)
    (hlen : xs.length + news.length ≤ 140737488355328) (hbase : base ≤ w.heap.size)
    (h : ∀ g cap w', Own w' base e (.slice (some ⟨g, 0, none⟩) (xs.length + news.length) cap) (bv (xs ++ news)) → w.grownBy w' v.ownBlock → K (a.put o.dst (.slice (some ⟨g, 0, none⟩) (xs.length + news.length) cap)) w') :
    if Region.wanted o (yielded ops a.tmps) = true then Oper.wp P o a w K Q else E := by
  obtain ⟨i, hi, hz0, hz1, hz2⟩ := info_parts hinfo
  obtain ⟨b, off, cap, rfl, _, hc⟩ := hrd.at hne
  refine step_append_lies _ hgd s x t ho base e i (.int .u8 0) 1 1 ht hi hz0 hz1 hz2 rfl (by decide) v (bv xs).length (bv xs) hs hown ⟨b, off, none⟩ news.length cap (bv news) hx (by simp [bv_len]) ?_ bv_one hne (by rw [bv_len]; unfold maxLen; omega) (by rw [bv_len]; omega) hbase _ rfl ?_
  · intro j u hu
    have hj : j < news.length := by
      have := (List.getElem?_eq_some_iff.1 hu).1
      rwa [bv_len] at this
    rw [bv_get hj] at hu
    rw [Addr.add_lit, hc j hj, ← hu]
  · intro g cap' w' ho' hg _ _
    rw [bv_len] at ho' ⊢
    refine h g cap' w' ?_ hg
    show w'.ownsRow base e 1 _ (bv (xs ++ news)).length (bv (xs ++ news))
    rw [bv_len, bv_app, List.length_append]; exact ho'
end Go.Proofs.YtmgalfdiiegjjaaGreatDoor
