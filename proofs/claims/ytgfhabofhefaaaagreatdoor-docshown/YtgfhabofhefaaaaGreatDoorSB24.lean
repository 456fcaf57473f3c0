/- A part of the proof. -/
import Derived.Test.YtgfhabofhefaaaaGreatDoorSB23
import Derived.Deep.LoopGhost
import Derived.Test.YtgfhabofhefaaaaGreatDoorSB19
import Derived.Test.YtgfhabofhefaaaaGreatDoorSB11
import Derived.Test.YtgfhabofhefaaaaGreatDoorSB21
import Derived.Test.YtgfhabofhefaaaaGreatDoorSB22
namespace Go.Proofs.YtgfhabofhefaaaaGreatDoor
open Go.RowKit
structure ItS (w0 w wr : World) (p : Nat) (nv lv' nv' kv v : Value) (l' : List LX.Pc) (ns : List DC.Nd) (S Sk : Nat → Prop) (ks : List LX.B) (is : List Nat) : Prop where
  ps : Pst w0 wr p lv' nv' l' ns Sk
  kb : Kb w wr (some p) nv.ownBlock
  nr : Near w nv nv'
  keys : Own wr w.heap.size 9 kv (sv ks)
  kids : Own wr w.heap.size 3 v (nats is)
  sub : ∀ g, Sk g → More S w wr g
  ak : ∀ g, kv.ownBlock = some g → ¬ Sk g
  ai : ∀ g, v.ownBlock = some g → ¬ Sk g
  gz : w0.heap.size ≤ w.heap.size
theorem ItS.start {w0 w : World} {p : Nat} {lv nv : Value} {l : List LX.Pc} {ns : List DC.Nd} {S : Nat → Prop} (h : Pst w0 w p lv nv l ns S) : ItS w0 w w p nv lv nv (.slice none 0 0) (.slice none 0 0) l ns S S [] [] :=
  ⟨h, Kb.refl _ _ _, Near.refl _ _, Own.nil _ _ _, Own.nil _ _ _, fun g hg => .inl hg, (by intro g h; cases h), (by intro g h; cases h), h.bl.size⟩
section
variable {w0 w wr : World} {p : Nat} {nv lv' nv' kv v : Value} {l' : List LX.Pc} {ns : List DC.Nd} {S Sk : Nat → Prop} {ks : List LX.B} {is : List Nat}
theorem Own.ne_str {w : World} {base : Nat} {e T : TypeId} {v : Value} {xs : List Value} {p : Nat} {cs : Array Value} (h : Own w base e v xs) (hs : Str w p T cs) (hne : T ≠ e) : v.ownBlock = none ∨ v.ownBlock ≠ some p := by
  cases hg : v.ownBlock with
  | none => exact .inl rfl
  | some g => exact .inr (by rw [← hg]; exact hs.apart h hne)
theorem Own.ne_nds {w : World} {base base' : Nat} {S : Nat → Prop} {e : TypeId} {v nv : Value} {xs : List Value} {ns : List DC.Nd} (h : Own w base e v xs) (hn : Nds w base' S nv ns) (hne : e ≠ 48) : (v.ownBlock = none ∨ v.ownBlock ≠ nv.ownBlock) ∧ (nv.ownBlock = none ∨ nv.ownBlock ≠ v.ownBlock) := by
  obtain ⟨vs, _, ho, _⟩ := hn
  have key : ∀ g, v.ownBlock = some g → nv.ownBlock = some g → False := fun g h1 h2 => by
    obtain ⟨c, hc⟩ := h.block h1
    obtain ⟨⟨c', hc'⟩, _⟩ := ho.ownBlock h2
    rw [hc] at hc'
    simp at hc'
    exact hne hc'.2
  constructor
  · cases hg : v.ownBlock with
    | none => exact .inl rfl
    | some g => exact .inr fun e => key g hg e.symm
  · cases hg : nv.ownBlock with
    | none => exact .inl rfl
    | some g => exact .inr fun e => key g e.symm hg
theorem ItS.fed (h : ItS w0 w wr p nv lv' nv' kv v l' ns S Sk ks is) {w2 : World} {lv2 nv2 : Value} {r : List LX.Pc} {ns2 : List DC.Nd} (hk : Kb wr w2 (some p) nv'.ownBlock) (hp : Pst w0 w2 p lv2 nv2 r ns2 (More Sk wr w2)) (hn : Near wr nv' nv2) :
    ItS w0 w w2 p nv lv2 nv2 kv v r ns2 S (More Sk wr w2) ks is := by
  refine ⟨hp, h.kb.near h.nr hk, h.nr.trans hn h.kb.size, h.keys.kb hk (h.keys.ne_str h.ps.st (by decide)) (h.keys.ne_nds h.ps.nd (by decide)).1, h.kids.kb hk (h.kids.ne_str h.ps.st (by decide)) (h.kids.ne_nds h.ps.nd (by decide)).1, fun g hg => ?_, fun g hg => ?_, fun g hg => ?_, h.gz⟩
  · rcases hg with hg | hg
    · rcases h.sub g hg with h1 | h1
      · exact .inl h1
      · exact .inr ⟨h1.1, Nat.lt_of_lt_of_le h1.2 hk.size⟩
    · exact .inr ⟨Nat.le_trans h.kb.size hg.1, hg.2⟩
  · rintro (h1 | h1)
    · exact h.ak g hg h1
    · have := (h.keys.lt hg).2; omega
  · rintro (h1 | h1)
    · exact h.ai g hg h1
    · have := (h.kids.lt hg).2; omega
theorem ItS.calm (h : ItS w0 w wr p nv lv' nv' kv v l' ns S Sk ks is) {w' : World} (hb : Below wr.heap.size wr w') : ItS w0 w w' p nv lv' nv' kv v l' ns S Sk ks is :=
  ⟨h.ps.calm hb, h.kb.trans (Kb.of_below hb _ _), h.nr, h.keys.below hb, h.kids.below hb, fun g hg => (h.sub g hg).imp id fun hg => ⟨hg.1, Nat.lt_of_lt_of_le hg.2 hb.size⟩, h.ak, h.ai, h.gz⟩
theorem ItS.own_turn (h : ItS w0 w wr p nv lv' nv' kv v l' ns S Sk ks is) {w' : World} {x : Value} {e : TypeId} {xs : List Value} (hx : Own wr w.heap.size e x xs) (he1 : e ≠ 84) (he2 : e ≠ 48) (hs : ∀ g, x.ownBlock = some g → ¬ Sk g) (hg : wr.grownBy w' x.ownBlock) :
    Pst w0 w' p lv' nv' l' ns Sk ∧ Kb w w' (some p) nv.ownBlock := by
  have hkb := Kb.of_grown hg none
  have np : some p ≠ x.ownBlock := fun e1 => by
    rcases hx.ne_str h.ps.st (fun e => he1 e.symm) with h1 | h1
    · rw [h1] at e1; cases e1
    · exact h1 e1.symm
  refine ⟨h.ps.kb hkb (Far.none _ _) (Far.not hs) (by simp) np no_or (hx.ne_nds h.ps.nd he2).2 (by simp) (fun g hg => ?_), ?_⟩
  · exact Nat.le_trans h.gz (hx.lt hg).1
  · refine h.kb.trans_new (q' := x.ownBlock) (Kb.of_grown hg _) fun g hg => .inr (hx.lt hg).1
theorem ItS.key (h : ItS w0 w wr p nv lv' nv' kv v l' ns S Sk ks is) {w' : World} {kv' : Value} {ks' : List LX.B} (hg : wr.grownBy w' kv.ownBlock) (ho : Own w' w.heap.size 9 kv' (sv ks')) (hn : Near wr kv kv') : ItS w0 w w' p nv lv' nv' kv' v l' ns S Sk ks' is := by
  obtain ⟨h1, h2⟩ := h.own_turn h.keys (by decide) (by decide) h.ak hg
  refine ⟨h1, h2, h.nr, ho, h.kids.kb (Kb.of_grown hg none) no_or (h.kids.apart h.keys (by decide)), fun g hg' => (h.sub g hg').imp id fun h3 => ⟨h3.1, Nat.lt_of_lt_of_le h3.2 hg.size⟩, fun g hg' => ?_, h.ai, h.gz⟩
  rcases hn with hn | hn
  · exact h.ak g (by rw [← hn]; exact hg')
  · intro hs; have := hn g hg'; have := h.ps.sb g hs; omega
theorem ItS.kid (h : ItS w0 w wr p nv lv' nv' kv v l' ns S Sk ks is) {w' : World} {v' : Value} {is' : List Nat} (hg : wr.grownBy w' v.ownBlock) (ho : Own w' w.heap.size 3 v' (nats is')) (hn : Near wr v v') : ItS w0 w w' p nv lv' nv' kv v' l' ns S Sk ks is' := by
  obtain ⟨h1, h2⟩ := h.own_turn h.kids (by decide) (by decide) h.ai hg
  refine ⟨h1, h2, h.nr, h.keys.kb (Kb.of_grown hg none) no_or (h.keys.apart h.kids (by decide)), ho, fun g hg' => (h.sub g hg').imp id fun h3 => ⟨h3.1, Nat.lt_of_lt_of_le h3.2 hg.size⟩, h.ak, fun g hg' => ?_, h.gz⟩
  rcases hn with hn | hn
  · exact h.ai g (by rw [← hn]; exact hg')
  · intro hs; have := hn g hg'; have := h.ps.sb g hs; omega
theorem ItS.pst (h : ItS w0 w wr p nv lv' nv' kv v l' ns S Sk ks is) (hS : ∀ g, S g → g < w.heap.size) : Pst w0 wr p lv' nv' l' ns (More S w wr) :=
  h.ps.mono h.sub fun g hg => by
    rcases hg with hg | hg
    · exact Nat.lt_of_lt_of_le (hS g hg) h.kb.size
    · exact hg.2
end
theorem Own.slice {w : World} {base : Nat} {e : TypeId} {v : Value} {xs : List Value} (h : Own w base e v xs) : ∃ ao cap, v = .slice ao xs.length cap := by
  rcases h.2 with ⟨hv, hn⟩ | ⟨g, cap, cur, hv, _⟩
  · exact ⟨none, 0, by rw [hv, hn]⟩
  · exact ⟨_, cap, hv⟩
theorem Tryz.info_int : (Tryz.prog.info? 3).map (fun i => (i.zero, i.size, i.bytes)) = some (some (.int .i64 0), 1, 8) := by kernel_rfl
theorem Tryz.info_string : (Tryz.prog.info? 9).map (fun i => (i.zero, i.size, i.bytes)) = some (some (.string ⟨#[]⟩), 1, 16) := by kernel_rfl
theorem one_rd_at {w : World} {e : TypeId} (u : Value) (g : Nat) (hg : w.heap.size = g) : Rdv (w.alloc (.cells #[u] e)) (.slice (some ⟨g, 0, none⟩) 1 1) [u] := by
  have h := Own.lit (base := w.heap.size) (e := e) w [u] (Nat.le_refl _) (by simp [maxLen])
  rw [← hg]
  exact h.rd
def ItE (w0 w : World) (p : Nat) (nv : Value) (ns : List DC.Nd) (S : Nat → Prop) (r : DC.IR) (e : Ending) (w' : World) : Prop :=
  Kb w w' (some p) nv.ownBlock ∧ match r with
  | .bad k n => e = .panicked (gaveD k n)
  | .ok a => ∃ v, e = .returned v ∧ Own w' w.heap.size 3 v (nats a.2.1) ∧ ∃ lv' nv', Pst w0 w' p lv' nv' a.2.2.2 (ns ++ a.2.2.1) (More S w w') ∧ Near w nv nv'
def ItC (f : Nat) : Prop := ∀ (w0 w : World) (p : Nat) (lv nv : Value) (l : List LX.Pc) (ns : List DC.Nd) (S : Nat → Prop) (c : Int) (d : Nat), Pst w0 w p lv nv l ns S → Texts l → 2 * l.length + 1 ≤ f → ns.length ≤ 2000 → d ≤ 25 →
  Calls Tryz.prog 100 #[.pointer (some ⟨p, 0, none⟩), .int .i64 c, .int .i64 (d : Int)] w (ItE w0 w p nv ns S (DC.itm f 1 c d ns.length [] l))
theorem fine_app {N : Nat} {l : List LX.Pc} {ns ms : List DC.Nd} {r : List LX.Pc} (h : DC.Fine N l ms r) (hN : N = ns.length) : (ns ++ ms).length ≤ 2000 := by
  have := h.many
  rw [List.length_append]; omega
set_option maxRecDepth 10000 in
set_option maxHeartbeats 4000000 in
theorem items_any {f : Nat} (hb : ∀ f', f' < f → BlkC f') : ItC f := by
  intro w0 w p lv nv l ns S c d h ht hf hN hd
  obtain ⟨A, HF⟩ : ∃ A, Hid (A = DC.itm f 1 c d ns.length [] l) := ⟨_, Lib.hid rfl⟩
  rw [show DC.itm f 1 c d ns.length [] l = A from HF.out.symm]
  have HS0 := Lib.hid (ItS.start h)
  have HB := Lib.hid hb
  have HSB := Lib.hid h.sb
  have HT := Lib.hid ht
  have HN := Lib.hid hN
  have HD := Lib.hid hd
  have HF0 := Lib.hid hf
  clear h hb ht hf hN hd
  go_enter Tryz.func100, Tryz.ntmps100
  go_wp2
  go_loopg [7] l.length (fun g s7 wx => ∃ (f' : Nat) (lv' nv' : Value) (l' : List LX.Pc) (is : List Nat) (ms : List DC.Nd) (Sk : Nat → Prop), l'.length ≤ g ∧ Hid (ItS w0 w wx p nv lv' nv' (.slice none 0 0) s7 l' (ns ++ ms) S Sk [] is) ∧ Hid (f' ≤ f ∧ 2 * l'.length + 1 ≤ f' ∧ Texts l' ∧ (ns ++ ms).length ≤ 2000 ∧ is.length ≤ ms.length) ∧ Hid (A = DC.plus [] is ms (DC.itm f' 1 c d (ns ++ ms).length [] l')))
  case atStart =>
    refine ⟨f, lv, nv, l, [], [], S, Nat.le_refl _, ?_, ?_, ?_⟩
    · rw [List.append_nil]; exact HS0
    · rw [List.append_nil]; exact Lib.hid ⟨Nat.le_refl _, HF0.out, HT.out, HN.out, by simp⟩
    · rw [List.append_nil, DC.plus_nil]; exact HF
  case round =>
    clear HS0
    obtain ⟨f', lv', nv', l', is, ms, Sk, hg, HS, HL, HE⟩ := hrel
    have HC := Lib.hid (comes_any HS.out.ps 1 c)
    obtain ⟨f2, rfl⟩ : ∃ f2, f' = f2 + 1 := ⟨f' - 1, by have := HL.out.2.1; omega⟩
    cases hc : DC.comes 1 c l' with
    | false =>
      rw [hc] at HC
      have E := Lib.hid (show A = .ok ([], is, ms, l') by rw [HE.out, DC.itm_end hc]; simp [DC.plus, DC.Out.bind])
      clear hc HE
      go_wp2_with (go_at_call 133; refine HC.out.mono ?_; rintro e w1 ⟨rfl, rfl⟩)
      go_ret
      rw [E.out]
      exact ⟨HS.out.kb, _, rfl, HS.out.kids, _, _, HS.out.pst HSB.out, HS.out.nr⟩
    | true =>
      rw [hc] at HC
      obtain ⟨x, t, rfl⟩ : ∃ x t, l' = x :: t := by
        cases l' with
        | nil => cases hc
        | cons x t => exact ⟨x, t, rfl⟩
      obtain ⟨g, rfl⟩ : ∃ g, gk = g + 1 := ⟨gk - 1, by simp only [List.length_cons] at hg; omega⟩
      obtain ⟨hl1, hl2, hl3, hl4, hl5⟩ := HL.out
      have HIS : Hid (is.length ≤ ms.length) := hl5
      have HI2 : Hid (is.length ≤ 2000) := by show _ ≤ _; simp only [List.length_append] at hl4; omega
      have HU := Lib.hid (under_any (HB.out f2 (by omega)) HS.out.ps d HD.out hl3 (by simp only [List.length_cons] at hl2; omega) hl4)
      obtain ⟨R, hR⟩ : ∃ R, DC.und f2 x.2.1 x.2.2.1 d (ns ++ ms).length t = R := ⟨_, rfl⟩
      rw [hR] at HU
      obtain ⟨ao, cp, rfl⟩ := HS.out.kids.slice
      cases R with
      | bad k n =>
        have E := Lib.hid (show A = .bad k n by rw [HE.out, DC.itm_no hc (by simp) hR]; rfl)
        clear hc hR HE hl1 hl2 hl3 hl4 hl5
        go_wp2_with (first
          | (go_at_call 133; refine HC.out.mono ?_; rintro e w1 ⟨rfl, hw1⟩; replace hw1 := hw1.symm; subst hw1)
          | (go_at_call 134; refine HU.out.mono ?_; rintro e w1 ⟨hk, rfl⟩))
        rw [E.out]
        exact ⟨rfl, HS.out.kb.near HS.out.nr hk, rfl⟩
      | ok a =>
        obtain ⟨b, r⟩ := a
        have HFI := Lib.hid (DC.und_fine hR)
        obtain ⟨M, hM⟩ : ∃ M, (ns ++ ms).length = M := ⟨_, rfl⟩
        have HM := Lib.hid hM
        have E := Lib.hid (show A = DC.plus [] (is ++ [(ns ++ ms).length]) (ms ++ b) (DC.itm f2 1 c d (ns ++ (ms ++ b)).length [] r) by
          rw [HE.out, DC.itm_go hc (by simp) hR, DC.plus_plus]
          simp [Nat.add_assoc])
        clear hc hR HE
        go_wp2_with (first
          | (go_at_call 133; refine HC.out.mono ?_; rintro e w1 ⟨rfl, hw1⟩; replace hw1 := hw1.symm; subst hw1)
          | (go_at_call 134; refine HU.out.mono ?_; rintro e w1 ⟨hk, he, lv2, nv2, hp2, hn2⟩; rw [HM.out] at he; subst he; have HS1 := Lib.hid ((HS.out.fed hk hp2 hn2).calm (below_alloc w1 (.cells #[.int .i64 (M : Int)] 3))); clear hk hp2 hn2)
          | (at_builtin; refine wpList_append_at rfl (.tmp 11) (.tmp 15) 22 rfl w.heap.size 3 (.int .i64 0) 8 Tryz.underlying22 Tryz.info_int rfl (by rfl) HS1.out.kids (by rfl) (one_rd_at (.int .i64 (M : Int)) _ rfl) (by simp [Value.oneCell']) (by have := HI2.out; rw [nats_len]; simp only [List.length_cons, List.length_nil]; unfold maxLen; omega) (by have := HI2.out; rw [nats_len]; simp only [List.length_cons, List.length_nil]; omega) (Nat.le_trans HS1.out.kb.size (Nat.le_refl _)) ?_; intro v4 w4 ho4 hg4 hn4; have HS4 := Lib.hid (HS1.out.kid (is' := is ++ [M]) hg4 (by rw [nats_app]; exact ho4) hn4); clear ho4 hg4 hn4))
        go_roundg g
        case rel =>
          obtain ⟨hfi, hfj, hfk⟩ := HFI.out
          obtain ⟨t', ht'⟩ := hfi.suf
          obtain ⟨hl1, hl2, hl3, hl4, hl5⟩ := HL.out
          have hlr : r.length ≤ t.length := by omega
          simp only [List.length_cons] at hg hl2
          refine ⟨f2, lv2, nv2, r, is ++ [M], ms ++ b, _, by omega, by rw [← List.append_assoc]; exact HS4, Lib.hid ⟨by omega, by omega, hl3.tail.suf ht', by rw [← List.append_assoc]; exact fine_app hfi rfl, ?_⟩, ?_⟩
          · have h1 := HIS.out
            show (is ++ [M]).length ≤ (ms ++ b).length
            have h2 := hfi.many
            simp only [List.length_append, List.length_cons, List.length_nil] at h1 h2 ⊢
            omega
          · rw [← HM.out]; exact E
        case measure => omega
end Go.Proofs.YtgfhabofhefaaaaGreatDoor
namespace Go.Proofs.YtgfhabofhefaaaaGreatDoor
open Go.RowKit
theorem nats_ints (l : List Nat) : nats l = ints (l.map fun n : Nat => (n : Int)) := by simp [nats, ints]
theorem Rdoc.rdi {w : World} {v : Value} {ns : List DC.Nd} (h : Rdoc w v ns) : Rdi w v (ns.map SH.up) := by
  obtain ⟨vs, hv, ⟨ao, cap, e, h1, h2, h3, h4⟩, hk⟩ := h
  refine ⟨vs.map (fun a => (SH.up a.1, a.2.1, a.2.2)), ao, cap, ?_, ?_, ?_, h2, h3, ?_, ?_⟩
  · rw [← hv, List.map_map, List.map_map]; rfl
  · rw [e, ← hv]; simp
  · rw [← hv]; simpa using h1
  · intro j x hx
    rw [List.getElem?_map] at hx
    obtain ⟨y, hy, rfl⟩ := Option.map_eq_some_iff.1 hx
    obtain ⟨b, off, e2, c⟩ := h4 j y hy
    exact ⟨b, off, e2, c.c0, c.c1, c.c2, c.c3, c.c4, c.c5⟩
  · intro a ha
    obtain ⟨y, hy, rfl⟩ := List.mem_map.1 ha
    obtain ⟨k1, k2⟩ := hk y hy
    refine ⟨k1, ?_⟩
    have : Rdv w y.2.2 (ints (y.1.kids.map fun n : Nat => (n : Int))) := by rw [← nats_ints]; exact k2
    exact this
theorem two_docs (w : World) (x f g : Value) : Str ((w.alloc (.cells #[x] 26)).alloc (.cells #[f, g] 39)) w.heap.size 26 #[x] ∧ Str ((w.alloc (.cells #[x] 26)).alloc (.cells #[f, g] 39)) (w.heap.size + 1) 39 #[f, g] ∧ Below w.heap.size w ((w.alloc (.cells #[x] 26)).alloc (.cells #[f, g] 39)) := by
  have b1 := below_alloc w (.cells #[x] 26)
  have b2 := below_alloc (w.alloc (.cells #[x] 26)) (.cells #[f, g] 39)
  have s2 := Str.new (w.alloc (.cells #[x] 26)) 39 #[f, g]
  rw [bx_size] at s2
  exact ⟨(Str.new w 26 #[x]).below b2, s2, below_trans b1 b2⟩
end Go.Proofs.YtgfhabofhefaaaaGreatDoor
namespace Go.Proofs.YtgfhabofhefaaaaGreatDoor
open Go.RowKit
def Ap (u v : Value) : Prop := ∀ g, u.ownBlock = some g → v.ownBlock = some g → False
theorem Ap.symm {u v : Value} (h : Ap u v) : Ap v u := fun g h1 h2 => h g h2 h1
theorem Ap.or {u v : Value} (h : Ap u v) : u.ownBlock = none ∨ u.ownBlock ≠ v.ownBlock := by
  cases hu : u.ownBlock with
  | none => exact .inl rfl
  | some g => exact .inr fun e => h g hu e.symm
theorem Ap.of {u v : Value} (h : u.ownBlock = none ∨ u.ownBlock ≠ v.ownBlock) : Ap u v := fun g h1 h2 => by
  rcases h with h | h
  · rw [h] at h1; cases h1
  · exact h (h1.trans h2.symm)
theorem Ap.none (v : Value) : Ap v (.slice Option.none 0 0) := fun g _ h => by cases h
theorem Ap.near {w : World} {u v v' : Value} {base : Nat} {e : TypeId} {xs : List Value} (h : Ap u v) (hn : Near w v v') (hu : Own w base e u xs) : Ap u v' := Ap.of (hn.apart hu h.or)
theorem Own.ap {w : World} {base base' : Nat} {e e' : TypeId} {u v : Value} {xs ys : List Value} (h : Own w base e u xs) (k : Own w base' e' v ys) (hne : e ≠ e') : Ap u v := fun g h1 h2 => by
  obtain ⟨c, hc⟩ := h.block h1
  obtain ⟨c', hc'⟩ := k.block h2
  rw [hc] at hc'
  simp at hc'
  exact hne hc'.2
structure Wnk (w : World) (base : Nat) (vs : List Nv) : Prop where
  keys : ∀ (i : Nat) a, vs[i]? = some a → Own w base 9 a.2.1 (sv a.1.keys)
  kids : ∀ (i : Nat) a, vs[i]? = some a → Own w base 3 a.2.2 (nats a.1.kids)
  ak : ∀ (i j : Nat) a b, i ≠ j → vs[i]? = some a → vs[j]? = some b → Ap a.2.1 b.2.1
  ai : ∀ (i j : Nat) a b, i ≠ j → vs[i]? = some a → vs[j]? = some b → Ap a.2.2 b.2.2
theorem Wnk.nil (w : World) (base : Nat) : Wnk w base [] := ⟨by simp, by simp, by simp, by simp⟩
theorem Wnk.kb {w w' : World} {base : Nat} {vs : List Nv} {p q : Option Nat} (h : Wnk w base vs) (hk : Kb w w' p q) (hp : Far w (fun _ => True) p) (hq : Far w (fun _ => True) q) : Wnk w' base vs :=
  ⟨fun i a ha => (h.keys i a ha).kb hk ((h.keys i a ha).far (.inl rfl) (fun _ _ => trivial) hp) ((h.keys i a ha).far (.inl rfl) (fun _ _ => trivial) hq),
   fun i a ha => (h.kids i a ha).kb hk ((h.kids i a ha).far (.inr rfl) (fun _ _ => trivial) hp) ((h.kids i a ha).far (.inr rfl) (fun _ _ => trivial) hq), h.ak, h.ai⟩
theorem Wnk.push {w : World} {base : Nat} {vs : List Nv} {x : DC.Nd} (h : Wnk w base vs) (h1 : x.keys = []) (h2 : x.kids = []) : Wnk w base (vs ++ [(x, .slice none 0 0, .slice none 0 0)]) := by
  have key : ∀ (i : Nat) a, (vs ++ [(x, (.slice none 0 0 : Value), (.slice none 0 0 : Value))])[i]? = some a → vs[i]? = some a ∨ a = (x, .slice none 0 0, .slice none 0 0) := fun i a ha => by
    rcases Nat.lt_or_ge i vs.length with hi | hi
    · rw [List.getElem?_append_left hi] at ha
      exact .inl ha
    · rw [List.getElem?_append_right hi] at ha
      exact .inr (List.mem_singleton.1 (List.mem_of_getElem? ha))
  refine ⟨fun i a ha => ?_, fun i a ha => ?_, fun i j a b hij ha hb => ?_, fun i j a b hij ha hb => ?_⟩
  · rcases key i a ha with ha | rfl
    · exact h.keys i a ha
    · simp only [h1]; exact Own.nil w base _
  · rcases key i a ha with ha | rfl
    · exact h.kids i a ha
    · simp only [h2]; exact Own.nil w base _
  · rcases key j b hb with hb | rfl
    · rcases key i a ha with ha | rfl
      · exact h.ak i j a b hij ha hb
      · exact (Ap.none _).symm
    · exact Ap.none _
  · rcases key j b hb with hb | rfl
    · rcases key i a ha with ha | rfl
      · exact h.ai i j a b hij ha hb
      · exact (Ap.none _).symm
    · exact Ap.none _
theorem set_at {α : Type} {l : List α} {n i : Nat} {y a : α} (h : (l.set n y)[i]? = some a) : (i ≠ n ∧ l[i]? = some a) ∨ (i = n ∧ a = y) := by
  rw [List.getElem?_set] at h
  split at h
  · rename_i e
    split at h
    · exact .inr ⟨e.symm, (Option.some.inj h).symm⟩
    · cases h
  · rename_i e
    exact .inl ⟨fun e2 => e e2.symm, h⟩
theorem Wnk.key {w w1 : World} {base : Nat} {vs : List Nv} {n : Nat} {a : Nv} {kv : Value} {ks : List LX.B} (h : Wnk w base vs) (ha : vs[n]? = some a) (hg : w.grownBy w1 a.2.1.ownBlock) (ho : Own w1 base 9 kv (sv ks)) (hn : Near w a.2.1 kv) :
    Wnk w1 base (vs.set n ({ a.1 with keys := ks }, kv, a.2.2)) := by
  have hk := Kb.of_grown hg none
  refine ⟨fun i b hb => ?_, fun i b hb => ?_, fun i j b c hij hb hc => ?_, fun i j b c hij hb hc => ?_⟩
  · rcases set_at hb with ⟨hi, hb1⟩ | ⟨rfl, rfl⟩
    · exact (h.keys i b hb1).kb hk no_or (h.ak i n b a hi hb1 ha).or
    · exact ho
  · rcases set_at hb with ⟨hi, hb1⟩ | ⟨rfl, rfl⟩
    · exact (h.kids i b hb1).kb hk no_or ((h.kids i b hb1).ap (h.keys n a ha) (by decide)).or
    · exact (h.kids i a ha).kb hk no_or ((h.kids i a ha).ap (h.keys i a ha) (by decide)).or
  · rcases set_at hb with ⟨hi, hb1⟩ | ⟨rfl, rfl⟩
    · rcases set_at hc with ⟨hj, hc1⟩ | ⟨rfl, rfl⟩
      · exact h.ak i j b c hij hb1 hc1
      · exact (h.ak i j b a hij hb1 ha).near hn (h.keys i b hb1)
    · rcases set_at hc with ⟨hj, hc1⟩ | ⟨rfl, rfl⟩
      · exact ((h.ak j i c a (Ne.symm hij) hc1 ha).near hn (h.keys j c hc1)).symm
      · exact absurd rfl hij
  · rcases set_at hb with ⟨hi, hb1⟩ | ⟨rfl, rfl⟩
    · rcases set_at hc with ⟨hj, hc1⟩ | ⟨rfl, rfl⟩
      · exact h.ai i j b c hij hb1 hc1
      · exact h.ai i j b a hij hb1 ha
    · rcases set_at hc with ⟨hj, hc1⟩ | ⟨rfl, rfl⟩
      · exact h.ai i j a c hij ha hc1
      · exact absurd rfl hij
theorem Wnk.kid {w w1 : World} {base : Nat} {vs : List Nv} {n : Nat} {a : Nv} {kv : Value} {ks : List Nat} (h : Wnk w base vs) (ha : vs[n]? = some a) (hg : w.grownBy w1 a.2.2.ownBlock) (ho : Own w1 base 3 kv (nats ks)) (hn : Near w a.2.2 kv) :
    Wnk w1 base (vs.set n ({ a.1 with kids := ks }, a.2.1, kv)) := by
  have hk := Kb.of_grown hg none
  refine ⟨fun i b hb => ?_, fun i b hb => ?_, fun i j b c hij hb hc => ?_, fun i j b c hij hb hc => ?_⟩
  · rcases set_at hb with ⟨hi, hb1⟩ | ⟨rfl, rfl⟩
    · exact (h.keys i b hb1).kb hk no_or ((h.keys i b hb1).ap (h.kids n a ha) (by decide)).or
    · exact (h.keys i a ha).kb hk no_or ((h.keys i a ha).ap (h.kids i a ha) (by decide)).or
  · rcases set_at hb with ⟨hi, hb1⟩ | ⟨rfl, rfl⟩
    · exact (h.kids i b hb1).kb hk no_or (h.ai i n b a hi hb1 ha).or
    · exact ho
  · rcases set_at hb with ⟨hi, hb1⟩ | ⟨rfl, rfl⟩
    · rcases set_at hc with ⟨hj, hc1⟩ | ⟨rfl, rfl⟩
      · exact h.ak i j b c hij hb1 hc1
      · exact h.ak i j b a hij hb1 ha
    · rcases set_at hc with ⟨hj, hc1⟩ | ⟨rfl, rfl⟩
      · exact h.ak i j a c hij ha hc1
      · exact absurd rfl hij
  · rcases set_at hb with ⟨hi, hb1⟩ | ⟨rfl, rfl⟩
    · rcases set_at hc with ⟨hj, hc1⟩ | ⟨rfl, rfl⟩
      · exact h.ai i j b c hij hb1 hc1
      · exact (h.ai i j b a hij hb1 ha).near hn (h.kids i b hb1)
    · rcases set_at hc with ⟨hj, hc1⟩ | ⟨rfl, rfl⟩
      · exact ((h.ai j i c a (Ne.symm hij) hc1 ha).near hn (h.kids j c hc1)).symm
      · exact absurd rfl hij
theorem wcs_set1 : ∀ {ls : List Nv} {j : Nat} {x : Nv} (y : Nv) (i : Nat) (u : Value), ls[j]? = some x → i < 6 → (nc1 x).set i u = nc1 y → (ncs ls).set (j * 6 + i) u = ncs (ls.set j y)
  | [], _, _, _, _, _, h, _, _ => by simp at h
  | x :: ls, 0, s, y, i, u, h, hi, he => by
    have : x = s := by simpa using h
    subst this
    rw [ncs_cons, List.set_cons_zero, ncs_cons, ← he, List.set_append_left _ _ (by simp [nc1]; omega)]
    congr 2
    omega
  | x :: ls, j + 1, s, y, i, u, h, hi, he => by
    have h' : ls[j]? = some s := by simpa using h
    rw [List.set_cons_succ, ncs_cons, ncs_cons, ← wcs_set1 y i u h' hi he]
    have e : (nc1 x).length = 6 := rfl
    rw [List.set_append_right _ _ (by rw [e]; omega), e]
    congr 2
    omega
theorem Ownv.putc {w : World} {base g cap : Nat} {ls : List Nv} {j : Nat} {x : Nv} (h : Ownv w base (.slice (some ⟨g, 0, none⟩) ls.length cap) ls) (hj : ls[j]? = some x) (y : Nv) (i : Nat) (u : Value) (hi : i < 6) (he : (nc1 x).set i u = nc1 y) :
    Ownv (w.setCell ⟨g, j * 6 + i, none⟩ u) base (.slice (some ⟨g, 0, none⟩) ls.length cap) (ls.set j y) ∧ Kb w (w.setCell ⟨g, j * 6 + i, none⟩ u) (some g) none := by
  have s0 := World.ownsRow.stored h (j * 6 + i) u
  refine ⟨?_, Kb.set w g _ _ none⟩
  have := s0.1
  rw [wcs_set1 y i u hj hi he] at this
  show World.ownsRow _ _ _ _ _ _ _
  rw [List.length_set]
  exact this
def Kw (w w' : World) : Prop := ∀ (g : Nat) (cs : Array Value) (T : TypeId), w.heap[g]? = some (Obj.cells cs T (0, 0)) → T ≠ 52 → T ≠ 48 → T ≠ 9 → T ≠ 3 → w'.heap[g]? = some (Obj.cells cs T (0, 0))
theorem Kw.refl (w : World) : Kw w w := fun _ _ _ h _ _ _ _ => h
theorem Kw.trans {a b c : World} (h : Kw a b) (k : Kw b c) : Kw a c := fun g cs T h1 h2 h3 h4 h5 => k g cs T (h g cs T h1 h2 h3 h4 h5) h2 h3 h4 h5
theorem Kw.of_below {w w' : World} (hb : Below w.heap.size w w') : Kw w w' := fun g _ _ h1 _ _ _ _ => (hb.block g (Array.getElem?_eq_some_iff.1 h1).1).trans h1
theorem Kw.str {w w' : World} {p : Nat} {T : TypeId} {cs : Array Value} (h : Kw w w') (hs : Str w p T cs) (h2 : T ≠ 52) (h3 : T ≠ 48) (h4 : T ≠ 9) (h5 : T ≠ 3) : Str w' p T cs := h p cs T hs h2 h3 h4 h5
def Wk (w : World) (p : Option Nat) : Prop := ∀ (g : Nat), p = some g → ∀ (cs : Array Value) (T : TypeId), w.heap[g]? = some (Obj.cells cs T (0, 0)) → T = 52 ∨ T = 48 ∨ T = 9 ∨ T = 3
theorem Kw.of_kb {w w' : World} {p q : Option Nat} (h : Kb w w' p q) (hp : Wk w p) (hq : Wk w q) : Kw w w' := fun g cs T h1 h2 h3 h4 h5 => by
  refine (h.block g (Array.getElem?_eq_some_iff.1 h1).1 (fun e => ?_) (fun e => ?_)).trans h1
  · rcases hp g e.symm cs T h1 with h | h | h | h
    · exact h2 h
    · exact h3 h
    · exact h4 h
    · exact h5 h
  · rcases hq g e.symm cs T h1 with h | h | h | h
    · exact h2 h
    · exact h3 h
    · exact h4 h
    · exact h5 h
theorem Wk.none (w : World) : Wk w none := by intro g h; cases h
theorem Wk.str {w : World} {p : Nat} {T : TypeId} {cs : Array Value} (h : Str w p T cs) (hT : T = 52 ∨ T = 48 ∨ T = 9 ∨ T = 3) : Wk w (some p) := by
  intro g hg cs' T' h'
  obtain rfl := Option.some.inj hg
  have h2 : w.heap[p]? = some (.cells cs T (0, 0)) := h
  rw [h2] at h'
  simp at h'
  exact h'.2 ▸ hT
theorem Wk.own {w : World} {base : Nat} {e : TypeId} {v : Value} {xs : List Value} (h : Own w base e v xs) (hT : e = 52 ∨ e = 48 ∨ e = 9 ∨ e = 3) : Wk w v.ownBlock := by
  intro g hg cs' T' h'
  obtain ⟨c, hc⟩ := h.block hg
  rw [hc] at h'
  simp at h'
  exact h'.2 ▸ hT
theorem Wk.nodes {w : World} {base : Nat} {v : Value} {vs : List Nv} (h : Ownv w base v vs) : Wk w v.ownBlock := by
  intro g hg cs' T' h'
  obtain ⟨⟨cur, hc⟩, _⟩ := h.ownBlock hg
  rw [hc] at h'
  simp at h'
  exact .inr (.inl h'.2.symm)
structure Wrt (w0 w : World) (p : Nat) (nv : Value) (T : Nat) (vs : List Nv) : Prop where
  bl : Below w0.heap.size w0 w
  hp : w0.heap.size ≤ p
  st : Str w p 52 #[nv]
  nd : Ownv w w0.heap.size nv vs
  nk : Wnk w w0.heap.size vs
  tl : ∀ a ∈ vs, a.1.keys.length ≤ T ∧ a.1.kids.length ≤ T
section
variable {w0 w w' w1 : World} {p : Nat} {nv nv' : Value} {T : Nat} {vs : List Nv}
theorem Wrt.size (h : Wrt w0 w p nv T vs) : w0.heap.size ≤ w.heap.size := h.bl.size
theorem Wrt.off (h : Wrt w0 w p nv T vs) : nv.ownBlock = none ∨ nv.ownBlock ≠ some p := h.nd.off h.st (.inl (by decide))
theorem Wrt.calm (h : Wrt w0 w p nv T vs) (hb : Below w.heap.size w w') : Wrt w0 w' p nv T vs :=
  ⟨h.bl.trans (hb.mono h.size), h.hp, h.st.below hb, h.nd.below hb, h.nk.kb (Kb.of_below hb none none) (Far.none _ _) (Far.none _ _), h.tl⟩
theorem Wrt.len (h : Wrt w0 w p nv T vs) : ∃ ao cap, nv = .slice ao vs.length cap := h.nd.slice
theorem Wrt.push {x : DC.Nd} (h : Wrt w0 w p nv T vs) (hg : w.grownBy w1 nv.ownBlock) (ho : Ownv w1 w0.heap.size nv' (vs ++ [(x, .slice none 0 0, .slice none 0 0)])) (h1 : x.keys = []) (h2 : x.kids = []) :
    Str w1 p 52 #[nv] ∧ Wrt w0 (w1.setCell ⟨p, 0, none⟩ nv') p nv' T (vs ++ [(x, .slice none 0 0, .slice none 0 0)]) ∧ Kw w (w1.setCell ⟨p, 0, none⟩ nv') := by
  have k1 := Kb.of_grown hg none
  have s1 : Str w1 p 52 #[nv] := h.st.kb k1 (by simp) (by
    rcases h.off with e | e
    · rw [e]; simp
    · exact fun e2 => e e2.symm)
  have kb := Kb.set w1 p 0 nv' none
  have b1 : Below w0.heap.size w0 w1 := h.bl.trans (k1.below h.size (by simp) (fun g hg => (h.nd.ownBlock hg).2.1))
  have n1 := (h.nk.kb k1 (Far.none _ _) (Far.nodes h.nd)).push h1 h2
  have f1 : Far w1 (fun _ => True) (some p) := Far.str s1 (by decide) (by decide)
  refine ⟨s1, ⟨b1.trans (kb.below b1.size (fun g hg => by have := Option.some.inj hg; have := h.hp; omega) (by simp)), h.hp, by simpa using s1.set 0 nv', ho.kb kb (ho.off s1 (.inl (by decide))) no_or, n1.kb kb f1 (Far.none _ _), fun a ha => ?_⟩, ?_⟩
  · rcases List.mem_append.1 ha with ha | ha
    · exact h.tl a ha
    · obtain rfl := List.mem_singleton.1 ha
      simp [h1, h2]
  · exact (Kw.of_kb k1 (Wk.none _) (Wk.nodes h.nd)).trans (Kw.of_kb kb (Wk.str s1 (.inl rfl)) (Wk.none _))
theorem Wrt.key {n : Nat} {a : Nv} {kv : Value} {key : LX.B} (h : Wrt w0 w p nv T vs) (ha : vs[n]? = some a) (hg : w.grownBy w1 a.2.1.ownBlock) (ho : Own w1 w0.heap.size 9 kv (sv (a.1.keys ++ [key]))) (hn : Near w a.2.1 kv) :
    ∃ g cap, nv = .slice (some ⟨g, 0, none⟩) vs.length cap ∧ At6 w g (n * 6) a ∧ At6 w1 g (n * 6) a ∧ Str w1 p 52 #[nv] ∧ (∀ i, w1.frozen? ⟨g, i, none⟩ = false) ∧
    Wrt w0 (w1.setCell ⟨g, n * 6 + 4, none⟩ kv) p nv (T + 1) (vs.set n ({ a.1 with keys := a.1.keys ++ [key] }, kv, a.2.2)) ∧ Kw w (w1.setCell ⟨g, n * 6 + 4, none⟩ kv) := by
  obtain ⟨g, cap, rfl, g1, g2, g3, g4⟩ := h.nd.at ha
  have hk := h.nk.keys n a ha
  have k1 := Kb.of_grown hg none
  have np : a.2.1.ownBlock = none ∨ a.2.1.ownBlock ≠ some p := hk.ne_str h.st (by decide)
  have nn : a.2.1.ownBlock ≠ some g := fun e => by
    obtain ⟨c, hc⟩ := hk.block e
    obtain ⟨⟨cur, hc'⟩, _⟩ := h.nd.ownBlock (g := g) rfl
    rw [hc] at hc'
    simp at hc'
  have s1 : Str w1 p 52 #[.slice (some ⟨g, 0, none⟩) vs.length cap] := h.st.kb k1 (by simp) (by
    rcases np with e | e
    · rw [e]; simp
    · exact fun e2 => e e2.symm)
  have o1 : Ownv w1 w0.heap.size (.slice (some ⟨g, 0, none⟩) vs.length cap) vs := h.nd.kb k1 no_or (.inr (by
    intro e
    exact nn e.symm))
  obtain ⟨g', cap', e', _, _, q3, q4⟩ := o1.at ha
  simp only [Value.slice.injEq, Option.some.injEq, Addr.mk.injEq, and_true, true_and] at e'
  obtain ⟨rfl, rfl⟩ := e'
  obtain ⟨p1, p2⟩ := o1.putc ha ({ a.1 with keys := a.1.keys ++ [key] }, kv, a.2.2) 4 kv (by decide) rfl
  have b1 : Below w0.heap.size w0 w1 := h.bl.trans (k1.below h.size (by simp) (fun g hg => (hk.lt hg).1))
  have n1 := h.nk.key ha hg ho hn
  refine ⟨g, cap, rfl, g3, q3, s1, q4, ⟨b1.trans (p2.below b1.size (fun g' hg' => by have := Option.some.inj hg'; omega) (by simp)), h.hp, s1.kb p2 (fun e => ?_) (by simp), ?_, n1.kb p2 (Far.nodes o1) (Far.none _ _), fun b hb => ?_⟩, ?_⟩
  · rcases o1.off s1 (.inl (by decide)) with e2 | e2
    · cases e2
    · exact e2 e.symm
  · exact p1
  · rcases List.mem_or_eq_of_mem_set hb with hb | rfl
    · have := h.tl b hb; omega
    · have := h.tl a (List.mem_of_getElem? ha)
      simp only [List.length_append, List.length_cons, List.length_nil]
      omega
  · exact (Kw.of_kb k1 (Wk.none _) (Wk.own hk (.inr (.inr (.inl rfl))))).trans (Kw.of_kb p2 (Wk.nodes o1) (Wk.none _))
theorem Wrt.kid {n : Nat} {a : Nv} {kv : Value} {k : Nat} (h : Wrt w0 w p nv T vs) (ha : vs[n]? = some a) (hg : w.grownBy w1 a.2.2.ownBlock) (ho : Own w1 w0.heap.size 3 kv (nats (a.1.kids ++ [k]))) (hn : Near w a.2.2 kv) :
    ∃ g cap, nv = .slice (some ⟨g, 0, none⟩) vs.length cap ∧ At6 w g (n * 6) a ∧ At6 w1 g (n * 6) a ∧ Str w1 p 52 #[nv] ∧ (∀ i, w1.frozen? ⟨g, i, none⟩ = false) ∧
    Wrt w0 (w1.setCell ⟨g, n * 6 + 5, none⟩ kv) p nv (T + 1) (vs.set n ({ a.1 with kids := a.1.kids ++ [k] }, a.2.1, kv)) ∧ Kw w (w1.setCell ⟨g, n * 6 + 5, none⟩ kv) := by
  obtain ⟨g, cap, rfl, g1, g2, g3, g4⟩ := h.nd.at ha
  have hk := h.nk.kids n a ha
  have k1 := Kb.of_grown hg none
  have np : a.2.2.ownBlock = none ∨ a.2.2.ownBlock ≠ some p := hk.ne_str h.st (by decide)
  have nn : a.2.2.ownBlock ≠ some g := fun e => by
    obtain ⟨c, hc⟩ := hk.block e
    obtain ⟨⟨cur, hc'⟩, _⟩ := h.nd.ownBlock (g := g) rfl
    rw [hc] at hc'
    simp at hc'
  have s1 : Str w1 p 52 #[.slice (some ⟨g, 0, none⟩) vs.length cap] := h.st.kb k1 (by simp) (by
    rcases np with e | e
    · rw [e]; simp
    · exact fun e2 => e e2.symm)
  have o1 : Ownv w1 w0.heap.size (.slice (some ⟨g, 0, none⟩) vs.length cap) vs := h.nd.kb k1 no_or (.inr (by
    intro e
    exact nn e.symm))
  obtain ⟨g', cap', e', _, _, q3, q4⟩ := o1.at ha
  simp only [Value.slice.injEq, Option.some.injEq, Addr.mk.injEq, and_true, true_and] at e'
  obtain ⟨rfl, rfl⟩ := e'
  obtain ⟨p1, p2⟩ := o1.putc ha ({ a.1 with kids := a.1.kids ++ [k] }, a.2.1, kv) 5 kv (by decide) rfl
  have b1 : Below w0.heap.size w0 w1 := h.bl.trans (k1.below h.size (by simp) (fun g hg => (hk.lt hg).1))
  have n1 := h.nk.kid ha hg ho hn
  refine ⟨g, cap, rfl, g3, q3, s1, q4, ⟨b1.trans (p2.below b1.size (fun g' hg' => by have := Option.some.inj hg'; omega) (by simp)), h.hp, s1.kb p2 (fun e => ?_) (by simp), ?_, n1.kb p2 (Far.nodes o1) (Far.none _ _), fun b hb => ?_⟩, ?_⟩
  · rcases o1.off s1 (.inl (by decide)) with e2 | e2
    · cases e2
    · exact e2 e.symm
  · exact p1
  · rcases List.mem_or_eq_of_mem_set hb with hb | rfl
    · have := h.tl b hb; omega
    · have := h.tl a (List.mem_of_getElem? ha)
      simp only [List.length_append, List.length_cons, List.length_nil]
      omega
  · exact (Kw.of_kb k1 (Wk.none _) (Wk.own hk (.inr (.inr (.inr rfl))))).trans (Kw.of_kb p2 (Wk.nodes o1) (Wk.none _))
end
end Go.Proofs.YtgfhabofhefaaaaGreatDoor
