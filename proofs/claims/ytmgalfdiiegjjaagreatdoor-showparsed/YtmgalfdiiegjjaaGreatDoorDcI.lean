/- Where items and entries stand: rows of their own beside the parser's nodes; the walk of items. -/
import Derived.Test.YtmgalfdiiegjjaaGreatDoorDcC
import Derived.Deep.LoopGhost
namespace Go.Proofs.YtmgalfdiiegjjaaGreatDoor
open Go.RowKit

/-- Items or entries, called at w, now at wr: the parser, the keys and kids so far in rows of their own. -/
structure ItS (w0 w wr : World) (p : Nat) (nv lv' nv' kv v : Value) (l' : List LX.Pc) (ns : List DC.Nd) (S Sk : Nat → Prop) (ks : List LX.B) (is : List Nat) : Prop where
  ps : Pst w0 wr p lv' nv' l' ns Sk
  kb : Kb w wr (some p) nv.ownBlock
  nr : Near w nv nv'
  keys : Own wr w.heap.size 9 kv (sv ks)
  kids : Own wr w.heap.size 3 v (nats is)
  sub : ∀ g, Sk g → More S w wr g
  ak : ∀ g, kv.ownBlock = some g → ¬ Sk g
  ai : ∀ g, v.ownBlock = some g → ¬ Sk g
  gz : w0.heap.size ≤ w.heap.size
theorem ItS.start {w0 w : World} {p : Nat} {lv nv : Value} {l : List LX.Pc} {ns : List DC.Nd} {S : Nat → Prop} (h : Pst w0 w p lv nv l ns S) : ItS w0 w w p nv lv nv (.slice none 0 0) (.slice none 0 0) l ns S S [] [] :=
  ⟨h, Kb.refl _ _ _, Near.refl _ _, Own.nil _ _ _, Own.nil _ _ _, fun g hg => .inl hg, (by intro g h; cases h), (by intro g h; cases h), h.bl.size⟩
section
variable {w0 w wr : World} {p : Nat} {nv lv' nv' kv v : Value} {l' : List LX.Pc} {ns : List DC.Nd} {S Sk : Nat → Prop} {ks : List LX.B} {is : List Nat}
theorem Own.ne_str {w : World} {base : Nat} {e T : TypeId} {v : Value} {xs : List Value} {p : Nat} {cs : Array Value} (h : Own w base e v xs) (hs : Str w p T cs) (hne : T ≠ e) : v.ownBlock = none ∨ v.ownBlock ≠ some p := by
  cases hg : v.ownBlock with
  | none => exact .inl rfl
  | some g => exact .inr (by rw [← hg]; exact hs.apart h hne)
theorem Own.ne_nds {w : World} {base base' : Nat} {S : Nat → Prop} {e : TypeId} {v nv : Value} {xs : List Value} {ns : List DC.Nd} (h : Own w base e v xs) (hn : Nds w base' S nv ns) (hne : e ≠ 50) : (v.ownBlock = none ∨ v.ownBlock ≠ nv.ownBlock) ∧ (nv.ownBlock = none ∨ nv.ownBlock ≠ v.ownBlock) := by
  obtain ⟨vs, _, ho, _⟩ := hn
  have key : ∀ g, v.ownBlock = some g → nv.ownBlock = some g → False := fun g h1 h2 => by
    obtain ⟨c, hc⟩ := h.block h1
    obtain ⟨⟨c', hc'⟩, _⟩ := ho.ownBlock h2
    rw [hc] at hc'
    simp at hc'
    exact hne hc'.2
  constructor
  · cases hg : v.ownBlock with
    | none => exact .inl rfl
    | some g => exact .inr fun e => key g hg e.symm
  · cases hg : nv.ownBlock with
    | none => exact .inl rfl
    | some g => exact .inr fun e => key g e.symm hg
/-- A block has been told. -/
theorem ItS.fed (h : ItS w0 w wr p nv lv' nv' kv v l' ns S Sk ks is) {w2 : World} {lv2 nv2 : Value} {r : List LX.Pc} {ns2 : List DC.Nd} (hk : Kb wr w2 (some p) nv'.ownBlock) (hp : Pst w0 w2 p lv2 nv2 r ns2 (More Sk wr w2)) (hn : Near wr nv' nv2) :
    ItS w0 w w2 p nv lv2 nv2 kv v r ns2 S (More Sk wr w2) ks is := by
  refine ⟨hp, h.kb.near h.nr hk, h.nr.trans hn h.kb.size, h.keys.kb hk (h.keys.ne_str h.ps.st (by decide)) (h.keys.ne_nds h.ps.nd (by decide)).1, h.kids.kb hk (h.kids.ne_str h.ps.st (by decide)) (h.kids.ne_nds h.ps.nd (by decide)).1, fun g hg => ?_, fun g hg => ?_, fun g hg => ?_, h.gz⟩
  · rcases hg with hg | hg
    · rcases h.sub g hg with h1 | h1
      · exact .inl h1
      · exact .inr ⟨h1.1, Nat.lt_of_lt_of_le h1.2 hk.size⟩
    · exact .inr ⟨Nat.le_trans h.kb.size hg.1, hg.2⟩
  · rintro (h1 | h1)
    · exact h.ak g hg h1
    · have := (h.keys.lt hg).2; omega
  · rintro (h1 | h1)
    · exact h.ai g hg h1
    · have := (h.kids.lt hg).2; omega
theorem ItS.calm (h : ItS w0 w wr p nv lv' nv' kv v l' ns S Sk ks is) {w' : World} (hb : Below wr.heap.size wr w') : ItS w0 w w' p nv lv' nv' kv v l' ns S Sk ks is :=
  ⟨h.ps.calm hb, h.kb.trans (Kb.of_below hb _ _), h.nr, h.keys.below hb, h.kids.below hb, fun g hg => (h.sub g hg).imp id fun hg => ⟨hg.1, Nat.lt_of_lt_of_le hg.2 hb.size⟩, h.ak, h.ai, h.gz⟩
/-- A block of its own that is neither the parser's nor a stored row turns: what stands. -/
theorem ItS.own_turn (h : ItS w0 w wr p nv lv' nv' kv v l' ns S Sk ks is) {w' : World} {x : Value} {e : TypeId} {xs : List Value} (hx : Own wr w.heap.size e x xs) (he1 : e ≠ 86) (he2 : e ≠ 50) (hs : ∀ g, x.ownBlock = some g → ¬ Sk g) (hg : wr.grownBy w' x.ownBlock) :
    Pst w0 w' p lv' nv' l' ns Sk ∧ Kb w w' (some p) nv.ownBlock := by
  have hkb := Kb.of_grown hg none
  have np : some p ≠ x.ownBlock := fun e1 => by
    rcases hx.ne_str h.ps.st (fun e => he1 e.symm) with h1 | h1
    · rw [h1] at e1; cases e1
    · exact h1 e1.symm
  refine ⟨h.ps.kb hkb (Far.none _ _) (Far.not hs) (by simp) np no_or (hx.ne_nds h.ps.nd he2).2 (by simp) (fun g hg => ?_), ?_⟩
  · exact Nat.le_trans h.gz (hx.lt hg).1
  · refine h.kb.trans_new (q' := x.ownBlock) (Kb.of_grown hg _) fun g hg => .inr (hx.lt hg).1
theorem ItS.key (h : ItS w0 w wr p nv lv' nv' kv v l' ns S Sk ks is) {w' : World} {kv' : Value} {ks' : List LX.B} (hg : wr.grownBy w' kv.ownBlock) (ho : Own w' w.heap.size 9 kv' (sv ks')) (hn : Near wr kv kv') : ItS w0 w w' p nv lv' nv' kv' v l' ns S Sk ks' is := by
  obtain ⟨h1, h2⟩ := h.own_turn h.keys (by decide) (by decide) h.ak hg
  refine ⟨h1, h2, h.nr, ho, h.kids.kb (Kb.of_grown hg none) no_or (h.kids.apart h.keys (by decide)), fun g hg' => (h.sub g hg').imp id fun h3 => ⟨h3.1, Nat.lt_of_lt_of_le h3.2 hg.size⟩, fun g hg' => ?_, h.ai, h.gz⟩
  rcases hn with hn | hn
  · exact h.ak g (by rw [← hn]; exact hg')
  · intro hs; have := hn g hg'; have := h.ps.sb g hs; omega
theorem ItS.kid (h : ItS w0 w wr p nv lv' nv' kv v l' ns S Sk ks is) {w' : World} {v' : Value} {is' : List Nat} (hg : wr.grownBy w' v.ownBlock) (ho : Own w' w.heap.size 3 v' (nats is')) (hn : Near wr v v') : ItS w0 w w' p nv lv' nv' kv v' l' ns S Sk ks is' := by
  obtain ⟨h1, h2⟩ := h.own_turn h.kids (by decide) (by decide) h.ai hg
  refine ⟨h1, h2, h.nr, h.keys.kb (Kb.of_grown hg none) no_or (h.keys.apart h.kids (by decide)), ho, fun g hg' => (h.sub g hg').imp id fun h3 => ⟨h3.1, Nat.lt_of_lt_of_le h3.2 hg.size⟩, h.ak, fun g hg' => ?_, h.gz⟩
  rcases hn with hn | hn
  · exact h.ai g (by rw [← hn]; exact hg')
  · intro hs; have := hn g hg'; have := h.ps.sb g hs; omega
theorem ItS.pst (h : ItS w0 w wr p nv lv' nv' kv v l' ns S Sk ks is) (hS : ∀ g, S g → g < w.heap.size) : Pst w0 wr p lv' nv' l' ns (More S w wr) :=
  h.ps.mono h.sub fun g hg => by
    rcases hg with hg | hg
    · exact Nat.lt_of_lt_of_le (hS g hg) h.kb.size
    · exact hg.2
end
theorem Own.slice {w : World} {base : Nat} {e : TypeId} {v : Value} {xs : List Value} (h : Own w base e v xs) : ∃ ao cap, v = .slice ao xs.length cap := by
  rcases h.2 with ⟨hv, hn⟩ | ⟨g, cap, cur, hv, _⟩
  · exact ⟨none, 0, by rw [hv, hn]⟩
  · exact ⟨_, cap, hv⟩
theorem Tryz.info_int : (Tryz.prog.info? 3).map (fun i => (i.zero, i.size, i.bytes)) = some (some (.int .i64 0), 1, 8) := by kernel_rfl
theorem Tryz.info_string : (Tryz.prog.info? 9).map (fun i => (i.zero, i.size, i.bytes)) = some (some (.string ⟨#[]⟩), 1, 16) := by kernel_rfl
theorem one_rd_at {w : World} {e : TypeId} (u : Value) (g : Nat) (hg : w.heap.size = g) : Rdv (w.alloc (.cells #[u] e)) (.slice (some ⟨g, 0, none⟩) 1 1) [u] := by
  have h := Own.lit (base := w.heap.size) (e := e) w [u] (Nat.le_refl _) (by simp [maxLen])
  rw [← hg]
  exact h.rd

/-- What items answers, at its end. -/
def ItE (w0 w : World) (p : Nat) (nv : Value) (ns : List DC.Nd) (S : Nat → Prop) (r : DC.IR) (e : Ending) (w' : World) : Prop :=
  Kb w w' (some p) nv.ownBlock ∧ match r with
  | .bad k n => e = .panicked (gaveD k n)
  | .ok a => ∃ v, e = .returned v ∧ Own w' w.heap.size 3 v (nats a.2.1) ∧ ∃ lv' nv', Pst w0 w' p lv' nv' a.2.2.2 (ns ++ a.2.2.1) (More S w w') ∧ Near w nv nv'
/-- The walk of items, of so much fuel. -/
def ItC (f : Nat) : Prop := ∀ (w0 w : World) (p : Nat) (lv nv : Value) (l : List LX.Pc) (ns : List DC.Nd) (S : Nat → Prop) (c : Int) (d : Nat), Pst w0 w p lv nv l ns S → Texts l → 2 * l.length + 1 ≤ f → ns.length ≤ 2000 → d ≤ 25 →
  Calls Tryz.prog 105 #[.pointer (some ⟨p, 0, none⟩), .int .i64 c, .int .i64 (d : Int)] w (ItE w0 w p nv ns S (DC.itm f 1 c d ns.length [] l))
theorem fine_app {N : Nat} {l : List LX.Pc} {ns ms : List DC.Nd} {r : List LX.Pc} (h : DC.Fine N l ms r) (hN : N = ns.length) : (ns ++ ms).length ≤ 2000 := by
  have := h.many
  rw [List.length_append]; omega

set_option maxRecDepth 10000 in
set_option maxHeartbeats 4000000 in
theorem items_any {f : Nat} (hb : ∀ f', f' < f → BlkC f') : ItC f := by
  intro w0 w p lv nv l ns S c d h ht hf hN hd
  obtain ⟨A, HF⟩ : ∃ A, Hid (A = DC.itm f 1 c d ns.length [] l) := ⟨_, Lib.hid rfl⟩
  rw [show DC.itm f 1 c d ns.length [] l = A from HF.out.symm]
  have HS0 := Lib.hid (ItS.start h)
  have HB := Lib.hid hb
  have HSB := Lib.hid h.sb
  have HT := Lib.hid ht
  have HN := Lib.hid hN
  have HD := Lib.hid hd
  have HF0 := Lib.hid hf
  clear h hb ht hf hN hd
  go_enter Tryz.func105, Tryz.ntmps105
  go_wp2
  go_loopg [7] l.length (fun g s7 wx => ∃ (f' : Nat) (lv' nv' : Value) (l' : List LX.Pc) (is : List Nat) (ms : List DC.Nd) (Sk : Nat → Prop), l'.length ≤ g ∧ Hid (ItS w0 w wx p nv lv' nv' (.slice none 0 0) s7 l' (ns ++ ms) S Sk [] is) ∧ Hid (f' ≤ f ∧ 2 * l'.length + 1 ≤ f' ∧ Texts l' ∧ (ns ++ ms).length ≤ 2000 ∧ is.length ≤ ms.length) ∧ Hid (A = DC.plus [] is ms (DC.itm f' 1 c d (ns ++ ms).length [] l')))
  case atStart =>
    refine ⟨f, lv, nv, l, [], [], S, Nat.le_refl _, ?_, ?_, ?_⟩
    · rw [List.append_nil]; exact HS0
    · rw [List.append_nil]; exact Lib.hid ⟨Nat.le_refl _, HF0.out, HT.out, HN.out, by simp⟩
    · rw [List.append_nil, DC.plus_nil]; exact HF
  case round =>
    clear HS0
    obtain ⟨f', lv', nv', l', is, ms, Sk, hg, HS, HL, HE⟩ := hrel
    have HC := Lib.hid (comes_any HS.out.ps 1 c)
    obtain ⟨f2, rfl⟩ : ∃ f2, f' = f2 + 1 := ⟨f' - 1, by have := HL.out.2.1; omega⟩
    cases hc : DC.comes 1 c l' with
    | false =>
      rw [hc] at HC
      have E := Lib.hid (show A = .ok ([], is, ms, l') by rw [HE.out, DC.itm_end hc]; simp [DC.plus, DC.Out.bind])
      clear hc HE
      go_wp2_with (go_at_call 137; refine HC.out.mono ?_; rintro e w1 ⟨rfl, rfl⟩)
      go_ret
      rw [E.out]
      exact ⟨HS.out.kb, _, rfl, HS.out.kids, _, _, HS.out.pst HSB.out, HS.out.nr⟩
    | true =>
      rw [hc] at HC
      obtain ⟨x, t, rfl⟩ : ∃ x t, l' = x :: t := by
        cases l' with
        | nil => cases hc
        | cons x t => exact ⟨x, t, rfl⟩
      obtain ⟨g, rfl⟩ : ∃ g, gk = g + 1 := ⟨gk - 1, by simp only [List.length_cons] at hg; omega⟩
      obtain ⟨hl1, hl2, hl3, hl4, hl5⟩ := HL.out
      have HIS : Hid (is.length ≤ ms.length) := hl5
      have HI2 : Hid (is.length ≤ 2000) := by show _ ≤ _; simp only [List.length_append] at hl4; omega
      have HU := Lib.hid (under_any (HB.out f2 (by omega)) HS.out.ps d HD.out hl3 (by simp only [List.length_cons] at hl2; omega) hl4)
      obtain ⟨R, hR⟩ : ∃ R, DC.und f2 x.2.1 x.2.2.1 d (ns ++ ms).length t = R := ⟨_, rfl⟩
      rw [hR] at HU
      obtain ⟨ao, cp, rfl⟩ := HS.out.kids.slice
      cases R with
      | bad k n =>
        have E := Lib.hid (show A = .bad k n by rw [HE.out, DC.itm_no hc (by simp) hR]; rfl)
        clear hc hR HE hl1 hl2 hl3 hl4 hl5
        go_wp2_with (first
          | (go_at_call 137; refine HC.out.mono ?_; rintro e w1 ⟨rfl, hw1⟩; replace hw1 := hw1.symm; subst hw1)
          | (go_at_call 138; refine HU.out.mono ?_; rintro e w1 ⟨hk, rfl⟩))
        rw [E.out]
        exact ⟨rfl, HS.out.kb.near HS.out.nr hk, rfl⟩
      | ok a =>
        obtain ⟨b, r⟩ := a
        have HFI := Lib.hid (DC.und_fine hR)
        obtain ⟨M, hM⟩ : ∃ M, (ns ++ ms).length = M := ⟨_, rfl⟩
        have HM := Lib.hid hM
        have E := Lib.hid (show A = DC.plus [] (is ++ [(ns ++ ms).length]) (ms ++ b) (DC.itm f2 1 c d (ns ++ (ms ++ b)).length [] r) by
          rw [HE.out, DC.itm_go hc (by simp) hR, DC.plus_plus]
          simp [Nat.add_assoc])
        clear hc hR HE
        go_wp2_with (first
          | (go_at_call 137; refine HC.out.mono ?_; rintro e w1 ⟨rfl, hw1⟩; replace hw1 := hw1.symm; subst hw1)
          | (go_at_call 138; refine HU.out.mono ?_; rintro e w1 ⟨hk, he, lv2, nv2, hp2, hn2⟩; rw [HM.out] at he; subst he; have HS1 := Lib.hid ((HS.out.fed hk hp2 hn2).calm (below_alloc w1 (.cells #[.int .i64 (M : Int)] 3))); clear hk hp2 hn2)
          | (at_builtin; refine wpList_append_at rfl (.tmp 11) (.tmp 15) 22 rfl w.heap.size 3 (.int .i64 0) 8 Tryz.underlying22 Tryz.info_int rfl (by rfl) HS1.out.kids (by rfl) (one_rd_at (.int .i64 (M : Int)) _ rfl) (by simp [Value.oneCell']) (by have := HI2.out; rw [nats_len]; simp only [List.length_cons, List.length_nil]; unfold maxLen; omega) (by have := HI2.out; rw [nats_len]; simp only [List.length_cons, List.length_nil]; omega) (Nat.le_trans HS1.out.kb.size (Nat.le_refl _)) ?_; intro v4 w4 ho4 hg4 hn4; have HS4 := Lib.hid (HS1.out.kid (is' := is ++ [M]) hg4 (by rw [nats_app]; exact ho4) hn4); clear ho4 hg4 hn4))
        go_roundg g
        case rel =>
          obtain ⟨hfi, hfj, hfk⟩ := HFI.out
          obtain ⟨t', ht'⟩ := hfi.suf
          obtain ⟨hl1, hl2, hl3, hl4, hl5⟩ := HL.out
          have hlr : r.length ≤ t.length := by omega
          simp only [List.length_cons] at hg hl2
          refine ⟨f2, lv2, nv2, r, is ++ [M], ms ++ b, _, by omega, by rw [← List.append_assoc]; exact HS4, Lib.hid ⟨by omega, by omega, hl3.tail.suf ht', by rw [← List.append_assoc]; exact fine_app hfi rfl, ?_⟩, ?_⟩
          · have h1 := HIS.out
            show (is ++ [M]).length ≤ (ms ++ b).length
            have h2 := hfi.many
            simp only [List.length_append, List.length_cons, List.length_nil] at h1 h2 ⊢
            omega
          · rw [← HM.out]; exact E
        case measure => omega
end Go.Proofs.YtmgalfdiiegjjaaGreatDoor
