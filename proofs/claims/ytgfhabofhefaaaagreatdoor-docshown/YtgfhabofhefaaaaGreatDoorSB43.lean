/- A part of the proof. -/
import Derived.Test.YtgfhabofhefaaaaGreatDoorSB38
import Derived.Test.YtgfhabofhefaaaaGreatDoorSB39
import Derived.Test.YtgfhabofhefaaaaGreatDoorSB41
import Derived.Test.YtgfhabofhefaaaaGreatDoorSB42
import Derived.Test.YtgfhabofhefaaaaGreatDoorSB24
import Derived.Test.YtgfhabofhefaaaaGreatDoorSB37
namespace Go.Proofs.YtgfhabofhefaaaaGreatDoor
open Go.RowKit
end Go.Proofs.YtgfhabofhefaaaaGreatDoor
namespace Go.Proofs.YtgfhabofhefaaaaGreatDoor
open Go.RowKit Go.Maps Go.WideMaps
theorem Seen.ne_nds {w : World} {b base : Nat} {S : Nat → Prop} {ks : List LX.B} {v : Value} {ns : List DC.Nd} (h : Seen w b ks) (ho : Nds w base S v ns) : some b ≠ v.ownBlock := by
  obtain ⟨es, clock, hb⟩ := h.obj
  obtain ⟨vs, _, ho, _⟩ := ho
  intro e1
  obtain ⟨⟨c, hc⟩, _⟩ := ho.ownBlock e1.symm
  rw [hb] at hc; cases hc
def EnE (w0 w : World) (p : Nat) (nv : Value) (ns : List DC.Nd) (S : Nat → Prop) (r : DC.IR) (e : Ending) (w' : World) : Prop :=
  Kb w w' (some p) nv.ownBlock ∧ match r with
  | .bad k n => e = .panicked (gaveD k n)
  | .ok a => ∃ kv v, e = .returned (.tuple #[kv, v]) ∧ Own w' w.heap.size 9 kv (sv a.1) ∧ Own w' w.heap.size 3 v (nats a.2.1) ∧ ∃ lv' nv', Pst w0 w' p lv' nv' a.2.2.2 (ns ++ a.2.2.1) (More S w w') ∧ Near w nv nv'
def EnC (f : Nat) : Prop := ∀ (w0 w : World) (p : Nat) (lv nv : Value) (l : List LX.Pc) (ns : List DC.Nd) (S : Nat → Prop) (c : Int) (d : Nat), Pst w0 w p lv nv l ns S → Texts l → 2 * l.length + 1 ≤ f → ns.length ≤ 2000 → d ≤ 25 →
  Calls Tryz.prog 101 #[.pointer (some ⟨p, 0, none⟩), .int .i64 c, .int .i64 (d : Int)] w (EnE w0 w p nv ns S (DC.itm f 2 c d ns.length [] l))
structure EnS (w0 w wr : World) (p : Nat) (nv lv' nv' kv v : Value) (l' : List LX.Pc) (ns : List DC.Nd) (S Sk : Nat → Prop) (ks ss : List LX.B) (is : List Nat) : Prop where
  it : ItS w0 w wr p nv lv' nv' kv v l' ns S Sk ks is
  sn : Seen wr w.heap.size ss
section
variable {w0 w wr : World} {p : Nat} {nv lv' nv' kv v : Value} {l' : List LX.Pc} {ns : List DC.Nd} {S Sk : Nat → Prop} {ks ss : List LX.B} {is : List Nat}
theorem EnS.start {lv : Value} {l : List LX.Pc} (h : Pst w0 w p lv nv l ns S) : EnS w0 w (w.alloc (.map #[] 0)) p nv lv nv (.slice none 0 0) (.slice none 0 0) l ns S S [] [] [] :=
  ⟨(ItS.start h).calm (below_alloc _ _), Seen.new w⟩
theorem EnS.calm (h : EnS w0 w wr p nv lv' nv' kv v l' ns S Sk ks ss is) {w' : World} (hb : Below wr.heap.size wr w') : EnS w0 w w' p nv lv' nv' kv v l' ns S Sk ks ss is := ⟨h.it.calm hb, h.sn.below hb⟩
theorem EnS.fed (h : EnS w0 w wr p nv lv' nv' kv v l' ns S Sk ks ss is) {w2 : World} {lv2 nv2 : Value} {r : List LX.Pc} {ns2 : List DC.Nd} (hk : Kb wr w2 (some p) nv'.ownBlock) (hp : Pst w0 w2 p lv2 nv2 r ns2 (More Sk wr w2)) (hn : Near wr nv' nv2) :
    EnS w0 w w2 p nv lv2 nv2 kv v r ns2 S (More Sk wr w2) ks ss is :=
  ⟨h.it.fed hk hp hn, h.sn.kb hk (by have := h.sn.ne_str h.it.ps.st; simpa using this) (h.sn.ne_nds h.it.ps.nd)⟩
theorem EnS.key (h : EnS w0 w wr p nv lv' nv' kv v l' ns S Sk ks ss is) {w' : World} {kv' : Value} {ks' : List LX.B} (hg : wr.grownBy w' kv.ownBlock) (ho : Own w' w.heap.size 9 kv' (sv ks')) (hn : Near wr kv kv') : EnS w0 w w' p nv lv' nv' kv' v l' ns S Sk ks' ss is :=
  ⟨h.it.key hg ho hn, h.sn.kb (Kb.of_grown hg none) (by simp) (h.sn.ne_own h.it.keys)⟩
theorem EnS.kid (h : EnS w0 w wr p nv lv' nv' kv v l' ns S Sk ks ss is) {w' : World} {v' : Value} {is' : List Nat} (hg : wr.grownBy w' v.ownBlock) (ho : Own w' w.heap.size 3 v' (nats is')) (hn : Near wr v v') : EnS w0 w w' p nv lv' nv' kv v' l' ns S Sk ks ss is' :=
  ⟨h.it.kid hg ho hn, h.sn.kb (Kb.of_grown hg none) (by simp) (h.sn.ne_own h.it.kids)⟩
theorem EnS.see (h : EnS w0 w wr p nv lv' nv' kv v l' ns S Sk ks ss is) {w' : World} {ss' : List LX.B} (hg : wr.grownBy w' (some w.heap.size)) (hs : Seen w' w.heap.size ss') : EnS w0 w w' p nv lv' nv' kv v l' ns S Sk ks ss' is := by
  have hkb := Kb.of_grown hg none
  obtain ⟨es, clock, hb⟩ := h.sn.obj
  have hf : Far wr Sk (some w.heap.size) := by
    intro g hg
    obtain rfl := Option.some.inj hg
    exact .inr fun c => ⟨fun e => (by rw [hb] at e; cases e), fun e => (by rw [hb] at e; cases e)⟩
  have hne : some p ≠ some w.heap.size := by
    have := h.sn.ne_str h.it.ps.st
    intro e
    exact this (Option.some.inj e).symm
  have hnn : nv'.ownBlock = none ∨ nv'.ownBlock ≠ some w.heap.size := .inr fun e => h.sn.ne_nds h.it.ps.nd e.symm
  refine ⟨⟨h.it.ps.kb hkb (Far.none _ _) hf (by simp) hne no_or hnn (by simp) (fun g hg => by have := Option.some.inj hg; have := h.it.gz; omega), h.it.kb.trans_new (q' := some w.heap.size) (Kb.of_grown hg _) (fun g hg => .inr (by have := Option.some.inj hg; omega)), h.it.nr, h.it.keys.kb hkb no_or (.inr fun e => h.sn.ne_own h.it.keys e.symm), h.it.kids.kb hkb no_or (.inr fun e => h.sn.ne_own h.it.kids e.symm), fun g hg' => (h.it.sub g hg').imp id fun h3 => ⟨h3.1, Nat.lt_of_lt_of_le h3.2 hg.size⟩, h.it.ak, h.it.ai, h.it.gz⟩, hs⟩
end
set_option maxRecDepth 10000 in
set_option maxHeartbeats 8000000 in
theorem entries_any {f : Nat} (hb : ∀ f', f' < f → BlkC f') : EnC f := by
  intro w0 w p lv nv l ns S c d h ht hf hN hd
  obtain ⟨A, HF⟩ : ∃ A, Hid (A = DC.itm f 2 c d ns.length [] l) := ⟨_, Lib.hid rfl⟩
  rw [show DC.itm f 2 c d ns.length [] l = A from HF.out.symm]
  have HS0 := Lib.hid (EnS.start h)
  have HB := Lib.hid hb
  have HSB := Lib.hid h.sb
  have HT := Lib.hid ht
  have HN := Lib.hid hN
  have HD := Lib.hid hd
  have HF0 := Lib.hid hf
  have hmm := @run_makeMap Tryz.prog
  clear h hb ht hf hN hd
  go_enter Tryz.func101, Tryz.ntmps101
  go_wp2
  clear hmm
  go_loopg [8, 9] l.length (fun g s8 s9 wx => ∃ (f' : Nat) (lv' nv' : Value) (l' : List LX.Pc) (ks : List LX.B) (is : List Nat) (ms : List DC.Nd) (Sk : Nat → Prop), l'.length ≤ g ∧ Hid (EnS w0 w wx p nv lv' nv' s8 s9 l' (ns ++ ms) S Sk ks ks is) ∧ Hid (f' ≤ f ∧ 2 * l'.length + 1 ≤ f' ∧ Texts l' ∧ (ns ++ ms).length ≤ 2000 ∧ is.length ≤ ms.length ∧ ks.length ≤ ms.length) ∧ Hid (A = DC.plus ks is ms (DC.itm f' 2 c d (ns ++ ms).length ks l')))
  case atStart =>
    refine ⟨f, lv, nv, l, [], [], [], S, Nat.le_refl _, ?_, ?_, ?_⟩
    · rw [List.append_nil]; exact HS0
    · rw [List.append_nil]; exact Lib.hid ⟨Nat.le_refl _, HF0.out, HT.out, HN.out, by simp, by simp⟩
    · rw [List.append_nil, DC.plus_nil]; exact HF
  case round =>
    clear HS0
    obtain ⟨f', lv', nv', l', ks, is, ms, Sk, hg, HS, HL, HE⟩ := hrel
    have HC := Lib.hid (comes_any HS.out.it.ps 2 c)
    obtain ⟨f2, rfl⟩ : ∃ f2, f' = f2 + 1 := ⟨f' - 1, by have := HL.out.2.1; omega⟩
    cases hc : DC.comes 2 c l' with
    | false =>
      rw [hc] at HC
      have E := Lib.hid (show A = .ok (ks, is, ms, l') by rw [HE.out, DC.itm_end hc]; simp [DC.plus, DC.Out.bind])
      clear hc HE
      go_wp2_with (go_at_call 133; refine HC.out.mono ?_; rintro e w1 ⟨rfl, rfl⟩)
      go_ret2
      rw [E.out]
      exact ⟨HS.out.it.kb, _, _, rfl, HS.out.it.keys, HS.out.it.kids, _, _, HS.out.it.pst HSB.out, HS.out.it.nr⟩
    | true =>
      rw [hc] at HC
      obtain ⟨x, t, rfl⟩ : ∃ x t, l' = x :: t := by
        cases l' with
        | nil => cases hc
        | cons x t => exact ⟨x, t, rfl⟩
      obtain ⟨g, rfl⟩ : ∃ g, gk = g + 1 := ⟨gk - 1, by simp only [List.length_cons] at hg; omega⟩
      obtain ⟨hl1, hl2, hl3, hl4, hl5, hl6⟩ := HL.out
      have HIS : Hid (is.length ≤ ms.length ∧ ks.length ≤ ms.length) := ⟨hl5, hl6⟩
      have HI2 : Hid (is.length ≤ 2000 ∧ ks.length ≤ 2000) := by show _ ∧ _; simp only [List.length_append] at hl4; omega
      have HU := Lib.hid (fun (u : World) (hp : Pst w0 u p lv' nv' (x :: t) (ns ++ ms) Sk) => under_any (HB.out f2 (by omega)) hp d HD.out hl3 (by simp only [List.length_cons] at hl2; omega) hl4)
      obtain ⟨bx, off, cap, rfl, _, _, hx, _⟩ := HS.out.it.ps.rd.first
      have c0 : wr.cell? ⟨p, 0, none⟩ = some (.slice (some ⟨bx, off, none⟩) (t.length + 1) cap) := HS.out.it.ps.st.cell 0
      obtain ⟨d0, d1, d2, d3, d4⟩ := hx.below HS.out.it.ps.bl
      have hn1 : (0 : Int) ≤ (t.length : Int) := by omega
      have hn2 : (0 : Int) < (t.length : Int) + 1 := by omega
      have BX := below_alloc wr (.cells (pc x) 117)
      have HS1 := Lib.hid (HS.out.calm BX)
      have HK1 := Lib.hid (Str.new wr 117 (pc x))
      have e1 := HK1.out.cell 1
      have e3 := HK1.out.cell 3
      have HXT : Hid (x.2.2.2.1.length ≤ 9223372036854775807) := hl3 x (by simp)
      obtain ⟨ai, ci, rfl⟩ := HS.out.it.kids.slice
      obtain ⟨ak, ck, rfl⟩ := HS.out.it.keys.slice
      have HCC := Lib.hid hc
      by_cases hm : x.2.2.2.1 ∈ ks
      · have E := Lib.hid (show A = .bad 7 x.2.1 by rw [HE.out, DC.itm_twice hc ⟨rfl, hm⟩]; rfl)
        have hmd := decide_eq_true hm
        obtain ⟨xk, xn, xc, xt, xq⟩ := x
        unfold pc at HS1 HK1 e1 e3
        simp only [List.getElem?_toArray, List.getElem?_cons_zero, List.getElem?_cons_succ] at d0 d1 d2 d3 d4 e1 e3 HXT HS1 HK1 E hmd
        clear hc HE hm hx BX hl1 hl2 hl3 hl4 hl5 hl6 HU
        go_wp2_with (first
          | (go_at_call 133; refine HC.out.mono ?_; rintro e u ⟨rfl, hw1⟩; replace hw1 := hw1.symm; subst hw1)
          | (at_lookup; refine wpList_lookup_seen rfl _ _ rfl w.heap.size ks (by rfl) HS1.out.sn xt (by rfl) HXT.out true hmd ?_)
          | (go_at_call 67; refine (dmust_false 7 xn _).mono ?_; rintro e u ⟨rfl, rfl⟩))
        rw [E.out]
        exact ⟨rfl, HS1.out.it.kb, rfl⟩
      · have hmd := decide_eq_false hm
        obtain ⟨R, hR⟩ : ∃ R, DC.und f2 x.2.1 x.2.2.1 d (ns ++ ms).length t = R := ⟨_, rfl⟩
        rw [hR] at HU
        have hnt : ¬ ((2 : Int) = 2 ∧ x.2.2.2.1 ∈ ks) := fun h => hm h.2
        cases R with
        | bad k n =>
          have E := Lib.hid (show A = .bad k n by rw [HE.out, DC.itm_no hc hnt hR]; rfl)
          obtain ⟨xk, xn, xc, xt, xq⟩ := x
          unfold pc at HS1 HK1 e1 e3
          simp only [List.getElem?_toArray, List.getElem?_cons_zero, List.getElem?_cons_succ] at d0 d1 d2 d3 d4 e1 e3 HXT HS1 HK1 E hmd
          clear hc HE hm hx BX hl1 hl2 hl3 hl4 hl5 hl6 hnt hR
          go_wp2_with (first
          | (go_at_call 133; refine HC.out.mono ?_; rintro e u ⟨rfl, hw1⟩; replace hw1 := hw1.symm; subst hw1)
          | (at_lookup; refine wpList_lookup_seen rfl _ _ rfl w.heap.size ks (by rfl) HS1.out.sn xt (by rfl) HXT.out false hmd ?_)
          | (go_at_call 67; refine (dmust_true 7 xn _).mono ?_; rintro e u ⟨rfl, hw1⟩; replace hw1 := hw1.symm; subst hw1)
          | (at_mapUpdate; refine wpList_store_seen rfl _ _ _ rfl w.heap.size ks (by rfl) HS1.out.sn xt (by rfl) HXT.out (by have := HI2.out.2; omega) (by rfl) ?_; intro w2 hs2 hg2; have HS2 := Lib.hid ((HS1.out.see hg2 hs2).calm (below_alloc w2 (.cells #[.string ⟨xt.toArray⟩] 9))); have e3' : w2.cell? ⟨wr.heap.size, 3, none⟩ = some (.string ⟨xt.toArray⟩) := (HK1.out.kb (Kb.of_grown hg2 none) (by simp) (by have := HS1.out.sn.ne_str HK1.out; intro e; exact this (Option.some.inj e).symm)).cell 3; clear hs2 hg2)
          | (at_builtin; refine wpList_append_at rfl (.tmp 33) (.tmp 36) 46 rfl w.heap.size 9 (.string ⟨#[]⟩) 16 Tryz.underlying46 Tryz.info_string rfl (by rfl) HS2.out.it.keys (by rfl) (one_rd_at (.string ⟨xt.toArray⟩) _ rfl) (by simp [Value.oneCell']) (by have := HI2.out.2; rw [sv_len]; simp only [List.length_cons, List.length_nil]; unfold maxLen; omega) (by have := HI2.out.2; rw [sv_len]; simp only [List.length_cons, List.length_nil]; omega) (Nat.le_trans HS2.out.it.kb.size (Nat.le_refl _)) ?_; intro v3 w3 ho3 hg3 hn3; have HS3 := Lib.hid (HS2.out.key (ks' := ks ++ [xt]) hg3 (by rw [sv_app]; exact ho3) hn3); clear ho3 hg3 hn3)
          | (go_at_call 134; refine (HU.out _ HS3.out.it.ps).mono ?_; rintro e w4 ⟨hk, rfl⟩))
          rw [E.out]
          exact ⟨rfl, HS3.out.it.kb.near HS3.out.it.nr hk, rfl⟩
        | ok a =>
          obtain ⟨b, r⟩ := a
          have HFI := Lib.hid (DC.und_fine hR)
          obtain ⟨M, hM⟩ : ∃ M, (ns ++ ms).length = M := ⟨_, rfl⟩
          have HM := Lib.hid hM
          have E := Lib.hid (show A = DC.plus (ks ++ [x.2.2.2.1]) (is ++ [(ns ++ ms).length]) (ms ++ b) (DC.itm f2 2 c d (ns ++ (ms ++ b)).length (ks ++ [x.2.2.2.1]) r) by
            rw [HE.out, DC.itm_go hc hnt hR, DC.plus_plus]
            simp [Nat.add_assoc])
          obtain ⟨xk, xn, xc, xt, xq⟩ := x
          unfold pc at HS1 HK1 e1 e3
          simp only [List.getElem?_toArray, List.getElem?_cons_zero, List.getElem?_cons_succ] at d0 d1 d2 d3 d4 e1 e3 HXT HS1 HK1 E hmd
          clear hc HE hm hx BX hl1 hl2 hl3 hl4 hl5 hl6 hnt hR
          go_wp2_with (first
          | (go_at_call 133; refine HC.out.mono ?_; rintro e u ⟨rfl, hw1⟩; replace hw1 := hw1.symm; subst hw1)
          | (at_lookup; refine wpList_lookup_seen rfl _ _ rfl w.heap.size ks (by rfl) HS1.out.sn xt (by rfl) HXT.out false hmd ?_)
          | (go_at_call 67; refine (dmust_true 7 xn _).mono ?_; rintro e u ⟨rfl, hw1⟩; replace hw1 := hw1.symm; subst hw1)
          | (at_mapUpdate; refine wpList_store_seen rfl _ _ _ rfl w.heap.size ks (by rfl) HS1.out.sn xt (by rfl) HXT.out (by have := HI2.out.2; omega) (by rfl) ?_; intro w2 hs2 hg2; have HS2 := Lib.hid ((HS1.out.see hg2 hs2).calm (below_alloc w2 (.cells #[.string ⟨xt.toArray⟩] 9))); have e3' : w2.cell? ⟨wr.heap.size, 3, none⟩ = some (.string ⟨xt.toArray⟩) := (HK1.out.kb (Kb.of_grown hg2 none) (by simp) (by have := HS1.out.sn.ne_str HK1.out; intro e; exact this (Option.some.inj e).symm)).cell 3; clear hs2 hg2)
          | (at_builtin; refine wpList_append_at rfl (.tmp 33) (.tmp 36) 46 rfl w.heap.size 9 (.string ⟨#[]⟩) 16 Tryz.underlying46 Tryz.info_string rfl (by rfl) HS2.out.it.keys (by rfl) (one_rd_at (.string ⟨xt.toArray⟩) _ rfl) (by simp [Value.oneCell']) (by have := HI2.out.2; rw [sv_len]; simp only [List.length_cons, List.length_nil]; unfold maxLen; omega) (by have := HI2.out.2; rw [sv_len]; simp only [List.length_cons, List.length_nil]; omega) (Nat.le_trans HS2.out.it.kb.size (Nat.le_refl _)) ?_; intro v3 w3 ho3 hg3 hn3; have HS3 := Lib.hid (HS2.out.key (ks' := ks ++ [xt]) hg3 (by rw [sv_app]; exact ho3) hn3); clear ho3 hg3 hn3)
          | (go_at_call 134; refine (HU.out _ HS3.out.it.ps).mono ?_; rintro e w4 ⟨hk, he, lv2, nv2, hp2, hn2⟩; rw [HM.out] at he; subst he; have HS4 := Lib.hid ((HS3.out.fed hk hp2 hn2).calm (below_alloc w4 (.cells #[.int .i64 (M : Int)] 3))); clear hk hp2 hn2)
          | (at_builtin; refine wpList_append_at rfl (.tmp 38) (.tmp 42) 22 rfl w.heap.size 3 (.int .i64 0) 8 Tryz.underlying22 Tryz.info_int rfl (by rfl) HS4.out.it.kids (by rfl) (one_rd_at (.int .i64 (M : Int)) _ rfl) (by simp [Value.oneCell']) (by have := HI2.out.1; rw [nats_len]; simp only [List.length_cons, List.length_nil]; unfold maxLen; omega) (by have := HI2.out.1; rw [nats_len]; simp only [List.length_cons, List.length_nil]; omega) (Nat.le_trans HS4.out.it.kb.size (Nat.le_refl _)) ?_; intro v5 w5 ho5 hg5 hn5; have HS5 := Lib.hid (HS4.out.kid (is' := is ++ [M]) hg5 (by rw [nats_app]; exact ho5) hn5); clear ho5 hg5 hn5))
          go_roundg g
          case rel =>
            obtain ⟨hfi, hfj, hfk⟩ := HFI.out
            obtain ⟨t', ht'⟩ := hfi.suf
            obtain ⟨hl1, hl2, hl3, hl4, hl5, hl6⟩ := HL.out
            have hlr : r.length ≤ t.length := by omega
            simp only [List.length_cons] at hg hl2
            refine ⟨f2, lv2, nv2, r, ks ++ [xt], is ++ [M], ms ++ b, _, by omega, by rw [← List.append_assoc]; exact HS5, Lib.hid ⟨by omega, by omega, hl3.tail.suf ht', by rw [← List.append_assoc]; exact fine_app hfi rfl, ?_, ?_⟩, ?_⟩
            · have h1 := HIS.out.1
              simp only [List.length_append, List.length_cons, List.length_nil]
              omega
            · have h1 := HIS.out.2
              simp only [List.length_append, List.length_cons, List.length_nil]
              omega
            · rw [← HM.out]; exact E
          case measure => omega
end Go.Proofs.YtgfhabofhefaaaaGreatDoor
