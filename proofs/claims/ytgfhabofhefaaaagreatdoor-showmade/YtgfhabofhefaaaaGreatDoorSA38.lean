/- A part of the proof. -/
import Derived.Test.YtgfhabofhefaaaaGreatDoorSA37
import Derived.Test.YtgfhabofhefaaaaGreatDoorSA03
import Derived.Test.YtgfhabofhefaaaaGreatDoorSA13
import Derived.Test.YtgfhabofhefaaaaGreatDoorSA01
import Derived.Deep.RegionLaw
import Derived.Test.YtgfhabofhefaaaaGreatDoorSA20
import Derived.Lib.AppendStr
import Derived.Deep.AppendLies
import Derived.Test.YtgfhabofhefaaaaGreatDoorSA36
import Derived.Deep.LoopGhost
namespace Go.Proofs.YtgfhabofhefaaaaGreatDoor
open Go.RowKit
theorem up_lens {t : SH.Tr} {ns : List SH.Ni} (h : SH.Of t ns) : Lens2 ns := fun x hx => by
  obtain ⟨a1, a2, a3⟩ := h.lens x hx
  exact ⟨by omega, fun k hk => by have := a2 k hk; omega, by omega⟩
end Go.Proofs.YtgfhabofhefaaaaGreatDoor
namespace Go.Proofs.YtgfhabofhefaaaaGreatDoor
open Go.RowKit
theorem two_rd {w : World} {e : TypeId} {A B : Int} {a b : UInt8} (h1 : A = (a.toNat : Int)) (h2 : B = (b.toNat : Int)) : Rdv (w.alloc (.cells #[.int .u8 A, .int .u8 B] e)) (.slice (some ⟨w.heap.size, 0, none⟩) 2 2) (bv [a, b]) := by
  subst h1 h2
  exact lit_rd [a, b] (by simp [maxLen])
theorem four_rd {w : World} {e : TypeId} {A B C D : Int} {a b c d : UInt8} (h1 : A = (a.toNat : Int)) (h2 : B = (b.toNat : Int)) (h3 : C = (c.toNat : Int)) (h4 : D = (d.toNat : Int)) : Rdv (w.alloc (.cells #[.int .u8 A, .int .u8 B, .int .u8 C, .int .u8 D] e)) (.slice (some ⟨w.heap.size, 0, none⟩) 4 4) (bv [a, b, c, d]) := by
  subst h1 h2 h3 h4
  exact lit_rd [a, b, c, d] (by simp [maxLen])
def quf (s : List UInt8) (k : Nat) : List UInt8 := 34 :: (s.take k).flatMap LX.q1
theorem quf_next {s : List UInt8} {k : Nat} {c : UInt8} (h : s[k]? = some c) : quf s (k + 1) = quf s k ++ LX.q1 c := by
  have h' := List.getElem?_eq_some_iff.1 h
  unfold quf
  rw [List.take_succ_eq_append_getElem h'.1, h'.2, List.flatMap_append]
  simp
theorem quf_len (s : List UInt8) (k : Nat) : (quf s k).length ≤ 4 * k + 1 := by
  have h1 := LX.flat_len (fun c => (LX.q1_len c).2) (s.take k)
  have h2 : (s.take k).length ≤ k := by rw [List.length_take]; omega
  simp only [quf, List.length_cons]
  omega
theorem quf_end (s : List UInt8) {n : Nat} (h : s.length = n) : quf s n ++ [34] = LX.quo s := by
  unfold quf LX.quo
  rw [List.take_of_length_le (by omega)]
  rfl
end Go.Proofs.YtgfhabofhefaaaaGreatDoor
namespace Go.Proofs.YtgfhabofhefaaaaGreatDoor
open Go.RowKit
theorem strc_bv (s : List UInt8) : Lib.strCells ⟨s.toArray⟩ = bv s := rfl
theorem own_str {w : World} {base : Nat} {e : TypeId} {v : Value} {bs s : List UInt8} (h : w.ownsRow base e 1 v ((bv bs).length + (⟨s.toArray⟩ : ByteArray).size) (bv bs ++ Lib.strCells ⟨s.toArray⟩)) : Own w base e v (bv (bs ++ s)) := by
  rw [strc_bv, str_size] at h
  show w.ownsRow base e 1 v (bv (bs ++ s)).length (bv (bs ++ s))
  rw [bv_app, List.length_append, bv_len s]
  exact h
def Kt (wa w : World) (p : Nat) : Prop := ∀ g cs T, wa.heap[g]? = some (.cells cs T (0, 0)) → g ≠ p → T ≠ 5 → w.heap[g]? = some (.cells cs T (0, 0))
theorem Kt.refl (w : World) (p : Nat) : Kt w w p := fun _ _ _ h _ _ => h
theorem Kt.trans {a b c : World} {p : Nat} (h : Kt a b p) (k : Kt b c p) : Kt a c p := fun g cs T h1 h2 h3 => k g cs T (h g cs T h1 h2 h3) h2 h3
theorem Kt.calm {a w w' : World} {p : Nat} (h : Kt a w p) (hb : Below w.heap.size w w') : Kt a w' p := fun g cs T h1 h2 h3 => by
  have := h g cs T h1 h2 h3
  exact (hb.block g (Array.getElem?_eq_some_iff.1 this).1).trans this
theorem Kt.str {a w : World} {p g : Nat} {T : TypeId} {cs : Array Value} (h : Kt a w p) (hs : Str a g T cs) (h1 : g ≠ p) (h2 : T ≠ 5) : Str w g T cs := h g cs T hs h1 h2
structure Wrs (w0 wa w : World) (p : Nat) (v ov : Value) (bs : List UInt8) : Prop where
  bl : Below w0.heap.size w0 w
  lo : w0.heap.size ≤ p
  kt : Kt wa w p
  st : Str w p 75 #[v, ov]
  own : Own w w0.heap.size 5 ov (bv bs)
theorem Wrs.off {w0 wa w : World} {p : Nat} {v ov : Value} {bs : List UInt8} (h : Wrs w0 wa w p v ov bs) : ov.ownBlock = none ∨ ov.ownBlock ≠ some p := .inr (h.st.apart h.own (by decide))
theorem Wrs.size {w0 wa w : World} {p : Nat} {v ov : Value} {bs : List UInt8} (h : Wrs w0 wa w p v ov bs) : w0.heap.size ≤ w.heap.size := h.bl.size
theorem Wrs.calm {w0 wa w w' : World} {p : Nat} {v ov : Value} {bs : List UInt8} (h : Wrs w0 wa w p v ov bs) (hb : Below w.heap.size w w') : Wrs w0 wa w' p v ov bs :=
  ⟨h.bl.trans (hb.mono h.bl.size), h.lo, h.kt.calm hb, h.st.below hb, h.own.below hb⟩
theorem Wrs.here {w0 wa w : World} {p : Nat} {v ov : Value} {bs : List UInt8} (h : Wrs w0 wa w p v ov bs) : Wrs w0 w w p v ov bs := ⟨h.bl, h.lo, Kt.refl _ _, h.st, h.own⟩
theorem Wrs.back {w0 wa wb w : World} {p : Nat} {v ov : Value} {bs : List UInt8} (h : Wrs w0 wb w p v ov bs) (k : Kt wa wb p) : Wrs w0 wa w p v ov bs := ⟨h.bl, h.lo, k.trans h.kt, h.st, h.own⟩
theorem Wrs.grown {w0 wa w w1 : World} {p : Nat} {v ov ov' : Value} {bs bs' : List UInt8} (h : Wrs w0 wa w p v ov bs) (hg : w.grownBy w1 ov.ownBlock) (ho : Own w1 w0.heap.size 5 ov' (bv bs')) :
    Str w1 p 75 #[v, ov] ∧ Wrs w0 wa (w1.setCell ⟨p, 1, none⟩ ov') p v ov' bs' := by
  have hs1 : Str w1 p 75 #[v, ov] := h.st.kb (Kb.of_grown hg none) (by simp) (by
    rcases h.off with h1 | h1
    · rw [h1]; simp
    · exact fun e => h1 e.symm)
  have kb := Kb.set w1 p 1 ov' none
  have hb : Below w0.heap.size w0 w1 := h.bl.trans (below_of_grown h.own hg h.size)
  refine ⟨hs1, ⟨hb.trans (kb.below hb.size (by intro g e; cases e; exact h.lo) (by simp)), h.lo, ?_, by simpa using hs1.set 1 ov', ho.kb kb (.inr (hs1.apart ho (by decide))) no_or⟩⟩
  intro g cs T h1 h2 h3
  have k := h.kt g cs T h1 h2 h3
  have k1 : w1.heap[g]? = some (.cells cs T (0, 0)) := (hg.block g (Array.getElem?_eq_some_iff.1 k).1 (by
    intro e
    obtain ⟨c, hc⟩ := h.own.block e.symm
    rw [hc] at k
    simp at k
    exact h3 k.2.symm)).trans k
  exact (kb.block g (Array.getElem?_eq_some_iff.1 k1).1 (by intro e; exact h2 (Option.some.inj e)) (by simp)).trans k1
def WrE (w0 wa : World) (p : Nat) (v : Value) (bs : List UInt8) (e : Ending) (w' : World) : Prop := e = .returned (.tuple #[]) ∧ ∃ ov, Wrs w0 wa w' p v ov bs
set_option maxHeartbeats 4000000 in
theorem wput_any {w0 wa w : World} {p : Nat} {v ov : Value} {bs : List UInt8} (h : Wrs w0 wa w p v ov bs) (s : List UInt8) (hl : bs.length + s.length ≤ 1000000000) :
    Calls Tryz.prog 88 #[.pointer (some ⟨p, 0, none⟩), .string ⟨s.toArray⟩] w (WrE w0 wa p v (bs ++ s)) := by
  obtain ⟨i, hi, hz0, hz1, hz2⟩ := info_parts Tryz.linfo_u8
  have H := Lib.hid h
  have HL := Lib.hid hl
  have c1 : w.cell? ⟨p, 1, none⟩ = some ov := h.st.cell 1
  clear h hl
  go_enter Tryz.func88, Tryz.ntmps88
  go_wp2_with (at_builtin; refine Lib.wpList_append_own_string _ rfl (.tmp 8) (.tmp 9) 35 9 rfl w0.heap.size 5 i Tryz.underlying35 Tryz.underlying9 hi hz0 hz1 hz2 _ _ _ (by rfl) H.out.own ⟨s.toArray⟩ (by rfl) (by have := HL.out; rw [bv_len, str_size]; unfold maxLen; omega) (by have := HL.out; rw [bv_len, str_size]; omega) H.out.size ?_; intro v2 w2 ho2 hg2 _; have ho3 := own_str ho2; clear ho2; obtain ⟨ao2, cp2, rfl, -⟩ := ho3.rd; have G2 := Lib.hid (H.out.grown hg2 ho3); have f1 := G2.out.1.frozen 1; have k1 := G2.out.1.cell 1; clear ho3 hg2)
  go_end0
  exact ⟨rfl, _, G2.out.2⟩
set_option maxHeartbeats 8000000 in
theorem windent_any (k : Nat) {w0 wa w : World} {p : Nat} {v ov : Value} {bs : List UInt8} (h : Wrs w0 wa w p v ov bs) (hl : bs.length + k ≤ 1000000000) :
    Calls Tryz.prog 89 #[.pointer (some ⟨p, 0, none⟩), .int .i64 (k : Int)] w (WrE w0 wa p v (bs ++ DC.bl k)) := by
  have H := Lib.hid h
  have HL := Lib.hid hl
  clear h hl
  go_enter Tryz.func89, Tryz.ntmps89
  go_wp2
  go_loopg [5] k (fun g s5 wx => ∃ (i : Nat) (u : Value), i + g = k ∧ s5 = .int .i64 (i : Int) ∧ Hid (Wrs w0 wa wx p v u (bs ++ DC.bl i)))
  case atStart => exact ⟨0, ov, by omega, rfl, by simpa [DC.bl] using H⟩
  case round =>
    clear H
    obtain ⟨i, u, hi, rfl, H⟩ := hrel
    cases gk with
    | zero =>
      obtain rfl : i = k := by omega
      go_wp2
      go_end0
      exact ⟨rfl, _, H.out⟩
    | succ g =>
      have hik : (i : Int) < (k : Int) := by omega
      have hkm : (k : Int) ≤ 1000000000 := by have := HL.out; omega
      have BX := below_alloc wr (.cells #[.int .u8 32] 5)
      have HX := Lib.hid (H.out.calm BX)
      have c1 : wr.cell? ⟨p, 1, none⟩ = some u := H.out.st.cell 1
      clear BX
      go_wp2_with (at_builtin; refine wpList_append_rd rfl (.tmp 11) (.tmp 12) 35 rfl w0.heap.size 5 (.int .u8 0) 1 Tryz.underlying35 Tryz.linfo_u8 rfl (by rfl) HX.out.own (by rfl) (one_rd (b := 32) rfl) bv_one (by have := HL.out; rw [bv_len, bv_len, List.length_append]; simp only [DC.bl, List.length_replicate, List.length_cons, List.length_nil]; unfold maxLen; omega) (by have := HL.out; rw [bv_len, bv_len, List.length_append]; simp only [DC.bl, List.length_replicate, List.length_cons, List.length_nil]; omega) HX.out.size ?_; intro u2 w2 ho2 hg2 hb2; rw [← bv_app] at ho2; obtain ⟨ao2, cp2, rfl, -⟩ := ho2.rd; have G2 := Lib.hid (HX.out.grown hg2 ho2); have f1 := G2.out.1.frozen 1; have k1 := G2.out.1.cell 1; clear ho2 hg2 hb2)
      go_roundg g
      case rel => exact ⟨i + 1, _, by omega, by first | rfl | (simp; done), by rw [bl_succ, ← List.append_assoc]; exact Lib.hid G2.out.2⟩
      case measure => omega
end Go.Proofs.YtgfhabofhefaaaaGreatDoor
namespace Go.Proofs.YtgfhabofhefaaaaGreatDoor
open Go.RowKit
theorem step_append_turned {P : Program} {w : World} {ops : Array Oper} {o : Oper} {a : Act} {K : Act → World → Prop} {Q : Exit → Act → World → Prop} {E : Prop} (hgd : o.guard = none) (s x : Operand) (t : TypeId)
    (ho : o.op = .call { callee := .builtin .append, args := #[s, x], argTypes := #[t, t] })
    (base : Nat) (e : TypeId) (ht : P.underlying t = some (.slice e)) (hinfo : (P.info? e).map (fun i => (i.zero, i.size, i.bytes)) = some (some (.int .u8 0), 1, 1))
    {v vx : Value} {xs news : List UInt8} (hs : a.eval s = v) (hown : Own w base e v (bv xs)) (hx : a.eval x = vx) (hrd : Rdv w vx (bv news)) (hne : 0 < news.length)
    (hlen : xs.length + news.length ≤ 140737488355328) (hbase : base ≤ w.heap.size)
    (h : ∀ g cap w', Own w' base e (.slice (some ⟨g, 0, none⟩) (xs.length + news.length) cap) (bv (xs ++ news)) → w.grownBy w' v.ownBlock → K (a.put o.dst (.slice (some ⟨g, 0, none⟩) (xs.length + news.length) cap)) w') :
    if Region.wanted o (yielded ops a.tmps) = true then Oper.wp P o a w K Q else E := by
  obtain ⟨i, hi, hz0, hz1, hz2⟩ := info_parts hinfo
  obtain ⟨b, off, cap, rfl, _, hc⟩ := hrd.at hne
  refine step_append_lies _ hgd s x t ho base e i (.int .u8 0) 1 1 ht hi hz0 hz1 hz2 rfl (by decide) v (bv xs).length (bv xs) hs hown ⟨b, off, none⟩ news.length cap (bv news) hx (by simp [bv_len]) ?_ bv_one hne (by rw [bv_len]; unfold maxLen; omega) (by rw [bv_len]; omega) hbase _ rfl ?_
  · intro j u hu
    have hj : j < news.length := by
      have := (List.getElem?_eq_some_iff.1 hu).1
      rwa [bv_len] at this
    rw [bv_get hj] at hu
    rw [Addr.add_lit, hc j hj, ← hu]
  · intro g cap' w' ho' hg _ _
    rw [bv_len] at ho' ⊢
    refine h g cap' w' ?_ hg
    show w'.ownsRow base e 1 _ (bv (xs ++ news)).length (bv (xs ++ news))
    rw [bv_len, bv_app, List.length_append]; exact ho'
end Go.Proofs.YtgfhabofhefaaaaGreatDoor
namespace Go.Proofs.YtgfhabofhefaaaaGreatDoor
open Go.RowKit
theorem low4_all : ∀ n : Fin 256, bits .and .u8 (n.val : Int) 15 = ((n.val % 16 : Nat) : Int) := by decide +kernel
theorem low4 (c : UInt8) : bits .and .u8 (c.toNat : Int) 15 = ((c.toNat % 16 : Nat) : Int) := low4_all ⟨c.toNat, c.toNat_lt⟩
set_option maxRecDepth 10000 in
set_option maxHeartbeats 16000000 in
theorem wsign_any (c : UInt8) (z : Int) (hz : (c.toNat : Int) = z) {w0 wa w : World} {p : Nat} {v ov : Value} {bs : List UInt8} (h : Wrs w0 wa w p v ov bs) (hl : bs.length ≤ 900000000) :
    Calls Tryz.prog 128 #[.pointer (some ⟨p, 0, none⟩), .int .u8 z] w (WrE w0 wa p v (bs ++ LX.q1 c)) := by
  have H := Lib.hid h
  have HL := Lib.hid hl
  have HZ := Lib.hid hz
  have hub := c.toNat_lt
  have hz0 : 0 ≤ z := by omega
  have hz1 : z < 256 := by omega
  have c1 : w.cell? ⟨p, 1, none⟩ = some ov := h.st.cell 1
  have B2 : ∀ A B : Int, Wrs w0 wa (w.alloc (.cells #[.int .u8 A, .int .u8 B] 5)) p v ov bs := fun A B => h.calm (below_alloc _ _)
  have B1 : ∀ A : Int, Wrs w0 wa (w.alloc (.cells #[.int .u8 A] 5)) p v ov bs := fun A => h.calm (below_alloc _ _)
  have H1 := Lib.hid B1
  have H2 := Lib.hid B2
  have HES := Lib.hid (escapes_any z w)
  clear h hl hub hz B1 B2
  by_cases h92 : c = 92
  · subst h92
    obtain rfl : z = 92 := HZ.out.symm
    rw [show LX.q1 92 = [92, 92] from rfl]
    go_enter Tryz.func128, Tryz.ntmps128
    go_wp2_with (at_builtin; refine wpList_append_rd rfl (.tmp 23) (.tmp 25) 35 rfl w0.heap.size 5 (.int .u8 0) 1 Tryz.underlying35 Tryz.linfo_u8 rfl (by rfl) (H2.out 92 92).own (by rfl) (two_rd (a := 92) (b := 92) rfl rfl) bv_one (by have := HL.out; rw [bv_len, bv_len]; simp only [List.length_cons, List.length_nil]; unfold maxLen; omega) (by have := HL.out; rw [bv_len, bv_len]; simp only [List.length_cons, List.length_nil]; omega) (H2.out 92 92).size ?_; intro u2 w2 ho2 hg2 hb2; rw [← bv_app] at ho2; obtain ⟨ao2, cp2, rfl, -⟩ := ho2.rd; have G2 := Lib.hid ((H2.out 92 92).grown hg2 ho2); have f1 := G2.out.1.frozen 1; have k1 := G2.out.1.cell 1; clear ho2 hg2 hb2)
    go_end0
    exact ⟨rfl, _, G2.out.2⟩
  have q92 : (z == 92) = false := zne HZ.out 92 (by decide) h92
  have q92' : ¬ z = 92 := beq_eq_false_iff_ne.1 q92
  by_cases h34 : c = 34
  · subst h34
    obtain rfl : z = 34 := HZ.out.symm
    rw [show LX.q1 34 = [92, 34] from rfl]
    go_enter Tryz.func128, Tryz.ntmps128
    go_wp2_with (at_builtin; refine wpList_append_rd rfl (.tmp 23) (.tmp 25) 35 rfl w0.heap.size 5 (.int .u8 0) 1 Tryz.underlying35 Tryz.linfo_u8 rfl (by rfl) (H2.out 92 34).own (by rfl) (two_rd (a := 92) (b := 34) rfl rfl) bv_one (by have := HL.out; rw [bv_len, bv_len]; simp only [List.length_cons, List.length_nil]; unfold maxLen; omega) (by have := HL.out; rw [bv_len, bv_len]; simp only [List.length_cons, List.length_nil]; omega) (H2.out 92 34).size ?_; intro u2 w2 ho2 hg2 hb2; rw [← bv_app] at ho2; obtain ⟨ao2, cp2, rfl, -⟩ := ho2.rd; have G2 := Lib.hid ((H2.out 92 34).grown hg2 ho2); have f1 := G2.out.1.frozen 1; have k1 := G2.out.1.cell 1; clear ho2 hg2 hb2)
    go_end0
    exact ⟨rfl, _, G2.out.2⟩
  have q34 : (z == 34) = false := zne HZ.out 34 (by decide) h34
  have q34' : ¬ z = 34 := beq_eq_false_iff_ne.1 q34
  by_cases h10 : c = 10
  · subst h10
    obtain rfl : z = 10 := HZ.out.symm
    rw [show LX.q1 10 = [92, 110] from rfl]
    have HP := Lib.hid (wput_any H.out [92, 110] (by have := HL.out; simp; omega))
    go_enter Tryz.func128, Tryz.ntmps128
    go_wp2_with (go_at_call 88; refine HP.out.mono ?_; rintro e w2 ⟨rfl, ov2, s2⟩; have S2 := Lib.hid s2; clear s2)
    go_end0
    exact ⟨rfl, _, S2.out⟩
  have q10 : (z == 10) = false := zne HZ.out 10 (by decide) h10
  have q10' : ¬ z = 10 := beq_eq_false_iff_ne.1 q10
  by_cases h9 : c = 9
  · subst h9
    obtain rfl : z = 9 := HZ.out.symm
    rw [show LX.q1 9 = [92, 116] from rfl]
    have HP := Lib.hid (wput_any H.out [92, 116] (by have := HL.out; simp; omega))
    go_enter Tryz.func128, Tryz.ntmps128
    go_wp2_with (go_at_call 88; refine HP.out.mono ?_; rintro e w2 ⟨rfl, ov2, s2⟩; have S2 := Lib.hid s2; clear s2)
    go_end0
    exact ⟨rfl, _, S2.out⟩
  have q9 : (z == 9) = false := zne HZ.out 9 (by decide) h9
  have q9' : ¬ z = 9 := beq_eq_false_iff_ne.1 q9
  by_cases hlow : c.toNat < 32 ∨ c = 127
  · have E : LX.q1 c = _ := LX.q1_hex h92 h34 h10 h9 hlow
    have hes : esb z = true := by
      unfold esb
      rw [Bool.or_eq_true, decide_eq_true_eq, decide_eq_true_eq]
      have := HZ.out
      rcases hlow with h | h
      · exact .inl (by omega)
      · right; rw [h] at this; exact this.symm
    rw [hes] at HES
    have hc256 := c.toNat_lt
    obtain ⟨x, hx⟩ : ∃ x, c.toNat / 16 = x := ⟨_, rfl⟩
    obtain ⟨y, hy⟩ : ∃ y, c.toNat % 16 = y := ⟨_, rfl⟩
    have hx16 : x < 16 := by omega
    have hy16 : y < 16 := by omega
    have HX := Lib.hid (LX.hexs_at ⟨x, hx16⟩)
    have HY := Lib.hid (LX.hexs_at ⟨y, hy16⟩)
    rw [hx, hy] at E
    simp only at HX HY
    obtain ⟨a, ha⟩ : ∃ a, LX.hexd x = a := ⟨_, rfl⟩
    obtain ⟨b, hb⟩ : ∃ b, LX.hexd y = b := ⟨_, rfl⟩
    rw [ha] at HX E
    rw [hb] at HY E
    rw [E]
    have hs16 := str_size LX.hexs
    have e16 : LX.hexs.length = 16 := rfl
    rw [e16] at hs16
    have hlx : x < (⟨LX.hexs.toArray⟩ : ByteArray).size := by omega
    have hly : y < (⟨LX.hexs.toArray⟩ : ByteArray).size := by omega
    obtain ⟨za, hza⟩ : ∃ za : Int, (a.toNat : Int) = za := ⟨_, rfl⟩
    obtain ⟨zb, hzb⟩ : ∃ zb : Int, (b.toNat : Int) = zb := ⟨_, rfl⟩
    have q1 : z / 16 = (x : Int) := by have := HZ.out; omega
    have q2 : bits .and .u8 z 15 = (y : Int) := by rw [← HZ.out, low4, hy]
    have ia := at_z HX.out hza hlx
    have ib := at_z HY.out hzb hly
    have HZA := Lib.hid hza
    have HZB := Lib.hid hzb
    have x0 : (x : Int) < 16 := by omega
    have y0 : (y : Int) < 16 := by omega
    unfold LX.hexs at ia ib hlx hly hs16
    clear hza hzb ha hb hx hy hc256 HX HY e16 E hes
    go_enter Tryz.func128, Tryz.ntmps128
    go_upto_region 9 with (go_at_call 131; refine HES.out.mono ?_; rintro e w1 ⟨rfl, hw1⟩; replace hw1 := hw1.symm; subst hw1)
    have H4 : Hid (∀ A B C D : Int, Wrs w0 wa ((w.alloc (.cells #[.int .u8 A, .int .u8 B, .int .u8 C, .int .u8 D] 5)).drew) p v ov bs) := fun A B C D => (H.out.calm (below_alloc _ _)).calm (below_drew _)
    have c1l : (w.alloc (.cells #[.int .u8 92, .int .u8 120, .int .u8 za, .int .u8 zb] 5)).cell? ⟨p, 1, none⟩ = some ov := (H.out.calm (below_alloc _ _)).st.cell 1
    go_region_law (refine step_append_turned (news := [92, 120, a, b]) (by rfl) (.tmp 46) (.tmp 53) 35 (by rfl) w0.heap.size 5 Tryz.underlying35 Tryz.linfo_u8 (by rfl) (H4.out _ _ _ _).own (by rfl) ((four_rd (a := 92) (b := 120) rfl rfl HZA.out.symm HZB.out.symm).below (below_drew _)) (by simp) (by have := HL.out; simp; omega) (H4.out 92 120 za zb).size ?_; intro g3 cap3 w3 ho3 hg3; have G3 := Lib.hid ((H4.out 92 120 za zb).grown hg3 ho3); have f1 := G3.out.1.frozen 1; have k1 := G3.out.1.cell 1; clear ho3 hg3)
    all_goals
      go_wp2
      go_end0
      exact ⟨rfl, _, G3.out.2⟩
  · have hes : esb z = false := by
      unfold esb
      rw [Bool.or_eq_false_iff, decide_eq_false_iff_not, decide_eq_false_iff_not]
      have := HZ.out
      refine ⟨fun h => hlow (.inl (by omega)), fun h => hlow (.inr ?_)⟩
      exact UInt8.toNat_inj.1 (show c.toNat = 127 by omega)
    rw [hes] at HES
    rw [LX.q1_self h92 h34 h10 h9 hlow]
    clear hes
    go_enter Tryz.func128, Tryz.ntmps128
    go_wp2_with (first
      | (go_at_call 131; refine HES.out.mono ?_; rintro e w1 ⟨rfl, hw1⟩; replace hw1 := hw1.symm; subst hw1)
      | (at_builtin; refine wpList_append_rd rfl (.tmp 8) (.tmp 10) 35 rfl w0.heap.size 5 (.int .u8 0) 1 Tryz.underlying35 Tryz.linfo_u8 rfl (by rfl) (H1.out z).own (by rfl) (one_rd (b := c) HZ.out.symm) bv_one (by have := HL.out; rw [bv_len, bv_len]; simp only [List.length_cons, List.length_nil]; unfold maxLen; omega) (by have := HL.out; rw [bv_len, bv_len]; simp only [List.length_cons, List.length_nil]; omega) (H1.out z).size ?_; intro u2 w2 ho2 hg2 hb2; rw [← bv_app] at ho2; obtain ⟨ao2, cp2, rfl, -⟩ := ho2.rd; have G2 := Lib.hid ((H1.out z).grown hg2 ho2); have f1 := G2.out.1.frozen 1; have k1 := G2.out.1.cell 1; clear ho2 hg2 hb2))
    go_end0
    exact ⟨rfl, _, G2.out.2⟩
end Go.Proofs.YtgfhabofhefaaaaGreatDoor
namespace Go.Proofs.YtgfhabofhefaaaaGreatDoor
open Go.RowKit
set_option maxRecDepth 10000 in
set_option maxHeartbeats 16000000 in
theorem wquoted_any (S : List UInt8) {w0 wa w : World} {p : Nat} {v ov : Value} {bs : List UInt8} (h : Wrs w0 wa w p v ov bs) (hs : S.length ≤ 10000) (hl : bs.length ≤ 800000000) :
    Calls Tryz.prog 87 #[.pointer (some ⟨p, 0, none⟩), .string ⟨S.toArray⟩] w (WrE w0 wa p v (bs ++ LX.quo S)) := by
  have hsz := str_size S
  obtain ⟨n, hn⟩ : ∃ n, S.length = n := ⟨_, rfl⟩
  have HN := Lib.hid hn
  rw [hn] at hsz hs
  have HL := Lib.hid hl
  have HP := Lib.hid (wput_any h [34] (by simp; omega))
  clear hn h hl
  go_enter Tryz.func87, Tryz.ntmps87
  go_wp2_with (go_at_call 88; refine HP.out.mono ?_; rintro e w2 ⟨rfl, ov2, s2⟩; have S2 := Lib.hid s2; clear s2)
  go_loopg [9] n (fun g s9 wx => ∃ (i : Nat) (u : Value), i + g = n ∧ s9 = .int .i64 (i : Int) ∧ Hid (Wrs w0 wa wx p v u (bs ++ quf S i)))
  case atStart => exact ⟨0, ov2, by omega, rfl, S2⟩
  case round =>
    clear S2 HP
    obtain ⟨i, u, hi, rfl, H⟩ := hrel
    have HQ := Lib.hid (quf_len S i)
    cases gk with
    | zero =>
      obtain rfl : i = n := by omega
      have HP := Lib.hid (wput_any H.out [34] (by have := HQ.out; have := HL.out; rw [List.length_append]; simp; omega))
      rw [List.append_assoc, quf_end S HN.out] at HP
      go_wp2_with (go_at_call 88; refine HP.out.mono ?_; rintro e w2 ⟨rfl, ov2, s2⟩; have S2 := Lib.hid s2; clear s2)
      go_end0
      exact ⟨rfl, _, S2.out⟩
    | succ g =>
      have hin : (i : Int) < (n : Int) := by omega
      obtain ⟨c, hc⟩ : ∃ c, S[i]? = some c := ⟨S[i]'(by have := HN.out; omega), List.getElem?_eq_getElem _⟩
      have hil : i < (⟨S.toArray⟩ : ByteArray).size := by omega
      obtain ⟨z, hz⟩ : ∃ z : Int, (c.toNat : Int) = z := ⟨_, rfl⟩
      have hiz := at_z hc hz hil
      have HSG := Lib.hid (wsign_any c z hz H.out (by have := HQ.out; have := HL.out; rw [List.length_append]; omega))
      rw [List.append_assoc, ← quf_next hc] at HSG
      clear hc hz
      go_wp2_with (go_at_call 128; refine HSG.out.mono ?_; rintro e w2 ⟨rfl, ov2, s2⟩; have S2 := Lib.hid s2; clear s2)
      go_roundg g
      case rel => exact ⟨i + 1, ov2, by omega, by first | rfl | (simp; done), S2⟩
      case measure => omega
set_option maxRecDepth 10000 in
set_option maxHeartbeats 16000000 in
theorem wtext_any (kd ln : Int) (S : List UInt8) (q : Bool) (va vi : Value) {w0 wa w : World} {p : Nat} {v ov : Value} {bs : List UInt8} (h : Wrs w0 wa w p v ov bs) (hs : S.length ≤ 10000) (hl : bs.length ≤ 700000000)
    (hva : ∃ a m c, va = .slice a m c) (hvi : ∃ a m c, vi = .slice a m c) :
    Calls Tryz.prog 57 #[.pointer (some ⟨p, 0, none⟩), .agg #[.int .i64 kd, .int .i64 ln, .string ⟨S.toArray⟩, .bool q, va, vi]] w (WrE w0 wa p v (bs ++ (SH.wr S q ++ [10]))) := by
  obtain ⟨ka, kn, kc, rfl⟩ := hva
  obtain ⟨ia, im, ic, rfl⟩ := hvi
  have H := Lib.hid (h.calm (below_alloc w (.cells #[.int .i64 kd, .int .i64 ln, .string ⟨S.toArray⟩, .bool q, .slice ka kn kc, .slice ia im ic] 48)))
  have HQ : Hid ((SH.wr S q).length ≤ 4 * S.length + 2) := by
    show _ ≤ _
    unfold SH.wr
    split
    · exact LX.quo_len S
    · omega
  have HL := Lib.hid hl
  have HS := Lib.hid hs
  clear h hl hs
  cases q with
  | true =>
    have HP := Lib.hid (wquoted_any S H.out HS.out (by have := HL.out; omega))
    rw [← List.append_assoc]
    rw [show SH.wr S true = LX.quo S from rfl] at HQ ⊢
    have HN : Hid (∀ (u : World) (o : Value), Wrs w0 wa u p v o (bs ++ LX.quo S) → Calls Tryz.prog 88 #[.pointer (some ⟨p, 0, none⟩), .string ⟨#[10]⟩] u (WrE w0 wa p v (bs ++ LX.quo S ++ [10]))) := fun u o hu => wput_any hu [10] (by have := HQ.out; have := HL.out; have := HS.out; rw [List.length_append]; simp; omega)
    go_enter Tryz.func57, Tryz.ntmps57
    go_wp2_with (first
      | (go_at_call 88; refine (HN.out _ _ S2.out).mono ?_; rintro e w3 ⟨rfl, ov3, s3⟩; have S3 := Lib.hid s3; clear s3)
      | (go_at_call 87; refine HP.out.mono ?_; rintro e w2 ⟨rfl, ov2, s2⟩; have S2 := Lib.hid s2; clear s2))
    go_end0
    exact ⟨rfl, _, S3.out⟩
  | false =>
    have HP := Lib.hid (wput_any H.out S (by have := HL.out; have := HS.out; omega))
    rw [← List.append_assoc]
    rw [show SH.wr S false = S from rfl] at HQ ⊢
    have HN : Hid (∀ (u : World) (o : Value), Wrs w0 wa u p v o (bs ++ S) → Calls Tryz.prog 88 #[.pointer (some ⟨p, 0, none⟩), .string ⟨#[10]⟩] u (WrE w0 wa p v (bs ++ S ++ [10]))) := fun u o hu => wput_any hu [10] (by have := HQ.out; have := HL.out; have := HS.out; rw [List.length_append]; simp; omega)
    go_enter Tryz.func57, Tryz.ntmps57
    go_wp2_with (first
      | (go_at_call 88; refine (HN.out _ _ S2.out).mono ?_; rintro e w3 ⟨rfl, ov3, s3⟩; have S3 := Lib.hid s3; clear s3)
      | (go_at_call 88; refine HP.out.mono ?_; rintro e w2 ⟨rfl, ov2, s2⟩; have S2 := Lib.hid s2; clear s2))
    go_end0
    exact ⟨rfl, _, S3.out⟩
end Go.Proofs.YtgfhabofhefaaaaGreatDoor
namespace Go.Proofs.YtgfhabofhefaaaaGreatDoor
open Go.RowKit
namespace SH
def isTx : Tr → Bool
  | .text _ _ => true
  | _ => false
def knd : Tr → Int
  | .text _ _ => 1
  | .list _ => 2
  | .map _ => 3
theorem showM_cons (key : LX.B) (t : Tr) (r : Fo) (c : Nat) (f : Bool) : showM (.cons key t r) c f = (if f then [] else DC.bl c) ++ ((key ++ [58]) ++ ((if isTx t then [32] else 10 :: DC.bl (c + 2)) ++ showT t (c + 2))) ++ showM r c false := by
  cases t <;> simp [showM, showT, isTx]
theorem showL_cons (key : LX.B) (t : Tr) (r : Fo) (c : Nat) (f : Bool) : showL (.cons key t r) c f = (if f then [] else DC.bl c) ++ ([45, 32] ++ showT t (c + 2)) ++ showL r c false := by
  simp [showL]
theorem flat_ne (t : Tr) (N : Nat) : ∃ x l, flatT t N = x :: l ∧ x.kind = knd t := by cases t <;> exact ⟨_, _, rfl, rfl⟩
end SH
def icast (l : List Nat) : List Int := l.map fun n : Nat => (n : Int)
theorem icast_len (l : List Nat) : (icast l).length = l.length := by simp [icast]
theorem kids_len : ∀ (k : SH.Fo) (N : Nat), (SH.kidsF k N).length = (SH.keysF k).length
  | .nil, _ => rfl
  | .cons _ t r, N => by rw [SH.kidsF, SH.keysF, List.length_cons, List.length_cons, kids_len r _]
def BlW (s : Nat) : Prop := ∀ (t : SH.Tr) (ns : List SH.Ni) (n c p : Nat) (w0 wa w : World) (v ov : Value) (bs : List UInt8), SH.sizeT t ≤ s → Rdi w0 v ns → SH.At ns n (SH.flatT t n) → Wrs w0 wa w p v ov bs →
  (∀ x ∈ ns, x.text.length ≤ 10000 ∧ ∀ k ∈ x.keys, k.length ≤ 15000) → bs.length + (SH.showT t c).length ≤ 600000000 → c + 2 * SH.sizeT t ≤ 1000000 →
  Calls Tryz.prog 31 #[.pointer (some ⟨p, 0, none⟩), .int .i64 (n : Int), .int .i64 (c : Int)] w (WrE w0 wa p v (bs ++ SH.showT t c))
set_option maxRecDepth 10000 in
set_option maxHeartbeats 16000000 in
theorem shitems_any {s : Nat} (ih : BlW s) (k : SH.Fo) (ns : List SH.Ni) (N c p : Nat) (w0 wa w : World) (v ov : Value) (bs : List UInt8) (kd ln : Int) (S : List UInt8) (q : Bool) (va vi : Value) (hk : SH.sizeF k ≤ s) (hr : Rdi w0 v ns) (ha : SH.At ns N (SH.flatF k N)) (h : Wrs w0 wa w p v ov bs)
    (hln : ∀ x ∈ ns, x.text.length ≤ 10000 ∧ ∀ k ∈ x.keys, k.length ≤ 15000) (hl : bs.length + (SH.showL k c true).length ≤ 600000000) (hc : c + 2 * SH.sizeF k + 2 ≤ 1000000) (hva : ∃ a m c, va = .slice a m c) (hvi : Rdv w0 vi (ints (icast (SH.kidsF k N)))) :
    Calls Tryz.prog 58 #[.pointer (some ⟨p, 0, none⟩), .agg #[.int .i64 kd, .int .i64 ln, .string ⟨S.toArray⟩, .bool q, va, vi], .int .i64 (c : Int)] w (WrE w0 wa p v (bs ++ SH.showL k c true)) := by
  obtain ⟨ka, kn, kc, rfl⟩ := hva
  obtain ⟨ia, ic, rfl⟩ := hvi.slice
  have him := hvi.len_le
  unfold maxLen at him
  rw [ints_len, icast_len] at him hvi ⊢
  obtain ⟨L, hL⟩ : ∃ L, (SH.kidsF k N).length = L := ⟨_, rfl⟩
  have HL := Lib.hid hL
  rw [hL] at him hvi ⊢
  have hL9 : (L : Int) ≤ 9223372036854775807 := by omega
  have HVI := Lib.hid hvi
  have HR := Lib.hid hr
  have HI := Lib.hid ih
  have HLN := Lib.hid hln
  have HLL := Lib.hid hl
  have HCC := Lib.hid hc
  have hc9 : (c : Int) ≤ 1000000 := by omega
  have H := Lib.hid (h.calm (below_alloc w (.cells #[.int .i64 kd, .int .i64 ln, .string ⟨S.toArray⟩, .bool q, .slice ka kn kc, .slice ia L ic] 48)))
  have HA0 : Hid (∃ k', SH.kidsF k' N = (SH.kidsF k N).drop 0 ∧ SH.At ns N (SH.flatF k' N) ∧ SH.sizeF k' ≤ SH.sizeF k ∧ SH.showL k c true = [] ++ SH.showL k' c (decide (0 = 0))) := ⟨k, rfl, ha, Nat.le_refl _, by rw [List.nil_append, decide_eq_true rfl]⟩
  clear hvi hr ih ha h hln hl hc hL him
  obtain ⟨T, hT⟩ : ∃ T, SH.showL k c true = T := ⟨_, rfl⟩
  rw [hT] at HLL HA0 ⊢
  have HK := Lib.hid hk
  clear hT hk
  go_enter Tryz.func58, Tryz.ntmps58
  go_wp2
  go_loopg [11] L (fun g s11 wx => ∃ (i N' : Nat) (pre : List UInt8) (u : Value), i + g = L ∧ s11 = .int .i64 (i : Int) ∧ Hid (Wrs w0 wa wx p v u (bs ++ pre)) ∧ Hid (∃ k', SH.kidsF k' N' = (SH.kidsF k N).drop i ∧ SH.At ns N' (SH.flatF k' N') ∧ SH.sizeF k' ≤ SH.sizeF k ∧ T = pre ++ SH.showL k' c (decide (i = 0))))
  case atStart => exact ⟨0, N, [], ov, by omega, rfl, by rw [List.append_nil]; exact H, HA0⟩
  case round =>
    clear H HA0
    obtain ⟨i, N', pre, u, hi, rfl, H, HA⟩ := hrel
    obtain ⟨k', a1, a2, a3, a4⟩ := HA.out
    cases gk with
    | zero =>
      obtain rfl : i = L := by omega
      rw [List.drop_eq_nil_of_le (by have := HL.out; omega)] at a1
      cases k' with
      | cons key t r => rw [SH.kidsF] at a1; cases a1
      | nil =>
        rw [SH.showL, List.append_nil] at a4
        subst a4
        clear a1 a2 a3 HA
        go_wp2
        go_end0
        exact ⟨rfl, _, H.out⟩
    | succ g =>
      have hin : (i : Int) < (L : Int) := by omega
      have hi0 : (0 : Int) ≤ (i : Int) := by omega
      cases k' with
      | nil =>
        rw [SH.kidsF] at a1
        have := congrArg List.length a1
        rw [List.length_drop] at this
        simp only [List.length_nil] at this
        have := HL.out
        omega
      | cons key t r =>
        rw [SH.kidsF] at a1
        rw [SH.flatF] at a2
        rw [SH.sizeF] at a3
        rw [SH.showL_cons] at a4
        have hget : (SH.kidsF k N)[i]? = some N' := by
          have := congrArg (fun l => l[0]?) a1
          simpa using this.symm
        have hki : (ints (icast (SH.kidsF k N)))[i]? = some (.int .i64 (N' : Int)) := by simp [ints, icast, hget]
        obtain ⟨b3, o3, c3, e3, u3⟩ := (HVI.out.below H.out.bl).atv hki
        simp only [Value.slice.injEq] at e3
        obtain ⟨rfl, -, -⟩ := e3
        have HN : Hid (∃ k'', SH.kidsF k'' (N' + SH.sizeT t) = (SH.kidsF k N).drop (i + 1) ∧ SH.At ns (N' + SH.sizeT t) (SH.flatF k'' (N' + SH.sizeT t)) ∧ SH.sizeF k'' ≤ SH.sizeF k ∧ T = (pre ++ (if decide (i = 0) = true then [] else DC.bl c) ++ [45, 32] ++ SH.showT t (c + 2)) ++ SH.showL k'' c (decide (i + 1 = 0))) := by
          refine ⟨r, ?_, ?_, by omega, ?_⟩
          · have := congrArg (List.drop 1) a1
            rw [List.drop_drop] at this
            rw [List.drop_succ_cons, List.drop_zero] at this
            exact this
          · have := a2.right
            rwa [SH.flatT_len] at this
          · rw [a4, decide_eq_false (show ¬ i + 1 = 0 by omega)]
            simp
        have HTL : Hid ((pre ++ (if decide (i = 0) = true then [] else DC.bl c) ++ [45, 32] ++ SH.showT t (c + 2)).length ≤ T.length) := by
          show _ ≤ _
          obtain ⟨k2, _, _, _, e⟩ := HN.out
          have := congrArg List.length e
          rw [List.length_append] at this
          omega
        have HIT := Lib.hid (fun (u2 : World) (o2 : Value) (bs2 : List UInt8) (h2 : Wrs w0 wa u2 p v o2 bs2) (h3 : bs2.length + (SH.showT t (c + 2)).length ≤ 600000000) => HI.out t ns N' (c + 2) p w0 wa u2 v o2 bs2 (by have := HK.out; omega) HR.out a2.left h2 HLN.out h3 (by have := HCC.out; omega))
        have hcc : ((c + 2 : Nat) : Int) = (c : Int) + 2 := rfl
        rw [hcc] at HIT
        clear hki hget a1 a2 a3 a4 hcc HA
        by_cases h0 : i = 0
        · subst h0
          have hd0 : decide (0 < L) = true := decide_eq_true (by omega)
          rw [Nat.add_zero] at u3
          rw [decide_eq_true (show (0 : Nat) = 0 from rfl)] at HN HTL
          simp only [if_true, List.append_nil] at HN HTL
          have HP := Lib.hid (wput_any H.out [45, 32] (by have := HTL.out; have := HLL.out; simp only [List.length_append] at this ⊢; simp only [List.length_append, List.length_cons, List.length_nil] at *; omega))
          have HB := Lib.hid (fun (u2 : World) (o2 : Value) (h2 : Wrs w0 wa u2 p v o2 (bs ++ pre ++ [45, 32])) => HIT.out u2 o2 _ h2 (by have := HTL.out; have := HLL.out; simp only [List.length_append, List.length_cons, List.length_nil] at *; omega))
          go_wp2_with (first
            | (go_at_call 88; refine HP.out.mono ?_; rintro e w3 ⟨rfl, ov3, s3⟩; have S3 := Lib.hid s3; clear s3)
            | (go_at_call 31; refine (HB.out _ _ S3.out).mono ?_; rintro e w4 ⟨rfl, ov4, s4⟩; have S4 := Lib.hid s4; clear s4))
          go_roundg g
          case rel => exact ⟨1, N' + SH.sizeT t, pre ++ [45, 32] ++ SH.showT t (c + 2), ov4, by omega, by first | rfl | (simp; done), by have := S4; simp only [List.append_assoc] at this ⊢; exact this, HN⟩
          case measure => omega
        · have hg0 : (0 : Int) < (i : Int) := by omega
          rw [decide_eq_false h0] at HN HTL
          simp only [Bool.false_eq_true, if_false] at HN HTL
          have hbl : (DC.bl c).length = c := by simp [DC.bl]
          have HD := Lib.hid (windent_any c H.out (by have := HTL.out; have := HLL.out; simp only [List.length_append, hbl] at *; omega))
          have HP := Lib.hid (fun (u2 : World) (o2 : Value) (h2 : Wrs w0 wa u2 p v o2 (bs ++ pre ++ DC.bl c)) => wput_any h2 [45, 32] (by have := HTL.out; have := HLL.out; simp only [List.length_append, List.length_cons, List.length_nil] at *; omega))
          have HB := Lib.hid (fun (u2 : World) (o2 : Value) (h2 : Wrs w0 wa u2 p v o2 (bs ++ pre ++ DC.bl c ++ [45, 32])) => HIT.out u2 o2 _ h2 (by have := HTL.out; have := HLL.out; simp only [List.length_append, List.length_cons, List.length_nil] at *; omega))
          clear hbl h0
          go_wp2_with (first
            | (go_at_call 89; refine HD.out.mono ?_; rintro e w2 ⟨rfl, ov2, s2⟩; have S2 := Lib.hid s2; clear s2)
            | (go_at_call 88; refine (HP.out _ _ S2.out).mono ?_; rintro e w3 ⟨rfl, ov3, s3⟩; have S3 := Lib.hid s3; clear s3)
            | (go_at_call 31; refine (HB.out _ _ S3.out).mono ?_; rintro e w4 ⟨rfl, ov4, s4⟩; have S4 := Lib.hid s4; clear s4))
          go_roundg g
          case rel => exact ⟨i + 1, N' + SH.sizeT t, pre ++ DC.bl c ++ [45, 32] ++ SH.showT t (c + 2), ov4, by omega, by first | rfl | (simp; done), by have := S4; simp only [List.append_assoc] at this ⊢; exact this, HN⟩
          case measure => omega
end Go.Proofs.YtgfhabofhefaaaaGreatDoor
