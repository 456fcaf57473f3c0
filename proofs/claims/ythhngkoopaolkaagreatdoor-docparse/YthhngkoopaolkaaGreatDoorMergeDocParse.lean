/- Several texts in one. -/
import Derived.Test.YthhngkoopaolkaaGreatDoorDcK
import Derived.Recover
import Derived.Test.YthhngkoopaolkaaGreatDoorDcMath
import Derived.Test.YthhngkoopaolkaaGreatDoorLnMath
import Derived.Test.YthhngkoopaolkaaGreatDoorLxRise
import Derived.Test.YthhngkoopaolkaaGreatDoorLxU
import Derived.Test.YthhngkoopaolkaaGreatDoorLxD
import Derived.Test.YthhngkoopaolkaaGreatDoorLnN
import Derived.Test.YthhngkoopaolkaaGreatDoorDsA
import Derived.Laws.StructEq
import Derived.Test.YthhngkoopaolkaaGreatDoorDcQ
import Derived.Lib.SlBytesConst
import Derived.Test.YthhngkoopaolkaaGreatDoorDcTX
import Derived.Deep.RegionLaw
import Derived.BigRegion
import Derived.Deep.DeepCutAuto
import Derived.Deep.CutBlock
import Derived.Deep.LoopGhost
import Derived.Test.YthhngkoopaolkaaGreatDoorDcT1
import Derived.Test.YthhngkoopaolkaaGreatDoorDcT2
import Derived.Test.YthhngkoopaolkaaGreatDoorDcT3
import Derived.Test.YthhngkoopaolkaaGreatDoorLnU
import Derived.Test.YthhngkoopaolkaaGreatDoorSlc
import Derived.ProofKit
import Derived.OpenShut
import Derived.ChangeOld
import Derived.SizedLaws
/- The walk of root. -/
namespace Go.Proofs.YthhngkoopaolkaaGreatDoor
open Go.RowKit

/-- What root answers, at its end. -/
def RootE (w0 w : World) (p : Nat) (nv : Value) (r : DC.Out (List DC.Nd)) (e : Ending) (w' : World) : Prop :=
  Kb w w' (some p) nv.ownBlock ∧ match r with
  | .bad k n => e = .panicked (gaveD k n)
  | .ok ns => e = .returned (.tuple #[]) ∧ ∃ lv' nv' S', Pst w0 w' p lv' nv' [] ns S'
set_option maxRecDepth 10000 in
set_option maxHeartbeats 2000000 in
theorem root_any {w0 w : World} {p : Nat} {lv nv : Value} {l : List LX.Pc} {S : Nat → Prop} (h : Pst w0 w p lv nv l [] S) (ht : Texts l) :
    Calls Tryz.prog 42 #[.pointer (some ⟨p, 0, none⟩)] w (RootE w0 w p nv (DC.doc l)) := by
  cases l with
  | nil =>
    obtain ⟨ao, cap, rfl, _, _⟩ := h.rd.slice
    have c0 : w.cell? ⟨p, 0, none⟩ = some (.slice ao 0 cap) := h.st.cell 0
    clear h ht
    go_enter Tryz.func42, Tryz.ntmps42
    go_wp2_with (go_at_call 72; refine (dmust_false 10 1 _).mono ?_; rintro e u ⟨rfl, rfl⟩)
    exact ⟨rfl, Kb.refl _ _ _, rfl⟩
  | cons x t =>
    have HB := Lib.hid (block_all (DC.fuel (x :: t)) w0 w p lv nv (x :: t) [] S 1 h (by simp) ht (Nat.le_refl _) (by simp) (by omega))
    obtain ⟨A, HA⟩ : ∃ A, Hid (A = DC.doc (x :: t)) := ⟨_, Lib.hid rfl⟩
    rw [show DC.doc (x :: t) = A from HA.out.symm]
    obtain ⟨R, hR⟩ : ∃ R, DC.blk (DC.fuel (x :: t)) 1 ([] : List DC.Nd).length (x :: t) = R := ⟨_, rfl⟩
    have HE := Lib.hid (show A = R.bind fun a => match a.2 with | [] => .ok a.1 | q :: _ => .bad 6 q.2.1 by rw [HA.out, DC.doc, if_neg (by simp), ← hR]; rfl)
    rw [hR] at HB
    obtain ⟨ao, cap, rfl, _, _⟩ := h.rd.slice
    have c0 : w.cell? ⟨p, 0, none⟩ = some (.slice ao (t.length + 1) cap) := h.st.cell 0
    have hn : decide ((0 : Int) < (t.length : Int) + 1) = true := decide_eq_true (by omega)
    have hn2 : (0 : Int) < (t.length : Int) + 1 := by omega
    rw [show ((1 : Nat) : Int) = 1 from rfl] at HB
    clear h ht hR HA
    cases R with
    | bad k n =>
      have E := Lib.hid (show A = .bad k n from HE.out)
      clear HE
      go_enter Tryz.func42, Tryz.ntmps42
      go_wp2_with (first
        | (go_at_call 72; refine (dmust_true 10 1 _).mono ?_; rintro e u ⟨rfl, hw1⟩; replace hw1 := hw1.symm; subst hw1)
        | (go_at_call 73; refine HB.out.mono ?_; rintro e w2 ⟨hk, rfl⟩))
      rw [E.out]
      exact ⟨rfl, hk, rfl⟩
    | ok a =>
      obtain ⟨ns, r⟩ := a
      cases r with
      | nil =>
        have E := Lib.hid (show A = .ok ns from HE.out)
        clear HE
        go_enter Tryz.func42, Tryz.ntmps42
        go_wp2_with (first
          | (go_at_call 72; refine (dmust_true 10 1 _).mono ?_; rintro e u ⟨rfl, hw1⟩; replace hw1 := hw1.symm; subst hw1)
          | (go_at_call 73; refine HB.out.mono ?_; rintro e w2 ⟨hk, rfl, lv2, nv2, hp2, hn2⟩; have HK := Lib.hid hk; have HP := Lib.hid hp2; clear hk hn2; obtain ⟨ao2, cap2, rfl, _, _⟩ := hp2.rd.slice; have c2 : w2.cell? ⟨p, 0, none⟩ = some (.slice ao2 0 cap2) := hp2.st.cell 0; clear hp2))
        go_end0
        rw [E.out]
        exact ⟨HK.out, rfl, _, _, _, HP.out⟩
      | cons q r =>
        have E := Lib.hid (show A = .bad 6 q.2.1 from HE.out)
        clear HE
        go_enter Tryz.func42, Tryz.ntmps42
        go_wp2_with (first
          | (go_at_call 72; refine (dmust_true 10 1 _).mono ?_; rintro e u ⟨rfl, hw1⟩; replace hw1 := hw1.symm; subst hw1)
          | (go_at_call 73; refine HB.out.mono ?_; rintro e w2 ⟨hk, rfl, lv2, nv2, hp2, hn2⟩; have HK := Lib.hid hk; have HBL := Lib.hid hp2.bl; clear hk hn2; obtain ⟨bx, off, cap2, rfl, _, _, hx, _⟩ := hp2.rd.first; have hx2 := (hx.below hp2.bl).c1; have c2 : w2.cell? ⟨p, 0, none⟩ = some (.slice (some ⟨bx, off, none⟩) (r.length + 1) cap2) := hp2.st.cell 0; have hr2 : (0 : Int) < (r.length : Int) + 1 := (by omega); clear hp2 hx)
          | (go_at_call 74; refine (dfail_any 6 q.2.1 _).mono ?_; rintro e u ⟨rfl, rfl⟩))
        rw [E.out]
        exact ⟨rfl, HK.out, rfl⟩
end Go.Proofs.YthhngkoopaolkaaGreatDoor

/- The walk of doc.Of, with its deferred closure. -/
namespace Go.Proofs.YthhngkoopaolkaaGreatDoor
open Go.RowKit

set_option maxHeartbeats 1000000 in
theorem dcatch_idle (p q : Value) (w : World) :
    CallsD Tryz.prog 41 #[p, q] .returning w fun e u' w' => e = .returned (.tuple #[]) ∧ u' = .returning ∧ w' = w := by
  refine callsD_of_wpS Tryz.func41 rfl fun c₀ cs hu => ?_
  apply wpS_seq
  apply wpS_region
  simp [wpOpsS, go_sem, recoverD, hu, Tryz.ntmps41, Exit.thenS]
  refine wpS_of_wp ?_
  go_wp2
  cases c₀
  simp_all [bodyPostS, results, Tryz.results41]
theorem dassert_yes (k n : Int) (w : World) : (Instr.typeAssert (.iface 94 (.agg #[.int .i64 k, .int .i64 n])) 20 94 true).run Tryz.prog w = .ok (.tuple #[.agg #[.int .i64 k, .int .i64 n], .bool true]) w := by kernel_rfl
theorem dframe (p q v : Value) : #[p, q] ++ (Array.replicate 12 undef).setIfInBounds 3 v = #[p, q, undef, undef, undef, v, undef, undef, undef, undef, undef, undef, undef, undef] := rfl
set_option maxHeartbeats 2000000 in
theorem dcatch_panicking (k n : Int) (b c : Nat) (y f0 f1 : Value) (w : World) (hb : Str w b 26 #[y]) (hc : Str w c 28 #[f0, f1]) :
    CallsD Tryz.prog 41 #[.pointer (some ⟨b, 0, none⟩), .pointer (some ⟨c, 0, none⟩)] (.panicking (gaveD k n)) w fun e u' w' =>
      e = .returned (.tuple #[]) ∧ u' = .panicking (tookD k n) ∧ Str w' b 26 #[.slice none 0 0] ∧ Str w' c 28 #[.int .i64 k, .int .i64 n] ∧ Kb w w' (some b) (some c) := by
  have hbc : b ≠ c := hb.apart_str hc (by decide)
  have BA := below_alloc w (.cells #[.int .i64 k, .int .i64 n] 94)
  have HB := Lib.hid (hb.below BA)
  have HC := Lib.hid (hc.below BA)
  have HN := Lib.hid (Str.new w 94 #[.int .i64 k, .int .i64 n])
  have HK := Lib.hid (Kb.of_below BA (some b) (some c))
  have asr := dassert_yes k n
  clear hb hc BA
  refine callsD_of_wpS Tryz.func41 rfl fun c₀ cs hu => ?_
  apply wpS_seq
  apply wpS_region
  simp [wpOpsS, go_sem, recoverD, hu, gaveD, Tryz.ntmps41, Exit.thenS]
  refine wpS_of_wp ?_
  rw [dframe]
  go_wp2
  generalize w.alloc (.cells #[.int .i64 k, .int .i64 n] 94) = w1 at *
  generalize w.heap.size = P at *
  have k0 : w1.cell? ⟨P, 0, none⟩ = some (.int .i64 k) := HN.out.cell 0
  have k1 : w1.cell? ⟨P, 1, none⟩ = some (.int .i64 n) := HN.out.cell 1
  have b0 : w1.cell? ⟨b, 0, none⟩ = some y := HB.out.cell 0
  have bf := HB.out.frozen 0
  have c0 : w1.cell? ⟨c, 0, none⟩ = some f0 := HC.out.cell 0
  have c1 : w1.cell? ⟨c, 1, none⟩ = some f1 := HC.out.cell 1
  have cf0 := HC.out.frozen 0
  have cf1 := HC.out.frozen 1
  have hPb : P ≠ b := HN.out.apart_str HB.out (by decide)
  have kbb := Kb.set w1 b 0 (.slice none 0 0) none
  have SB1 := Lib.hid (HB.out.set 0 (.slice none 0 0))
  have SN1 := Lib.hid (HN.out.kb kbb (by simpa using hPb) (by simp))
  have SC1 := Lib.hid (HC.out.kb kbb (by simpa using fun h => hbc h.symm) (by simp))
  have k0' : (w1.setCell ⟨b, 0, none⟩ (.slice none 0 0)).cell? ⟨P, 0, none⟩ = some (.int .i64 k) := SN1.out.cell 0
  have k1' : (w1.setCell ⟨b, 0, none⟩ (.slice none 0 0)).cell? ⟨P, 1, none⟩ = some (.int .i64 n) := SN1.out.cell 1
  have c0' : (w1.setCell ⟨b, 0, none⟩ (.slice none 0 0)).cell? ⟨c, 0, none⟩ = some f0 := SC1.out.cell 0
  have c1' : (w1.setCell ⟨b, 0, none⟩ (.slice none 0 0)).cell? ⟨c, 1, none⟩ = some f1 := SC1.out.cell 1
  have cf0' := SC1.out.frozen 0
  have cf1' := SC1.out.frozen 1
  have SF : Hid (Str _ c 28 #[.int .i64 k, .int .i64 n]) := (SC1.out.two' (.int .i64 k) (.int .i64 n)).below (below_drew _)
  have kcc := (Kb.set (w1.setCell ⟨b, 0, none⟩ (.slice none 0 0)) c 0 (.int .i64 k) none).trans (Kb.set _ c 1 (.int .i64 n) none)
  have SB : Hid (Str _ b 26 #[.slice none 0 0]) := (Str.kb (by simpa using SB1.out) kcc (by simpa using hbc) (by simp)).below (below_drew _)
  have KK : Hid (Kb w _ (some b) (some c)) := (((HK.out.trans (Kb.set w1 b 0 (.slice none 0 0) (some c))).trans ⟨kcc.os, kcc.tape, kcc.output, kcc.size, fun j hj h1 h2 => kcc.block j hj h2 (by simp)⟩).trans (Kb.of_below (below_drew _) (some b) (some c)))
  clear kbb kcc
  go_region
  exact ⟨rfl, _, rfl, .tuple #[], by simp [results, Tryz.results41], rfl, rfl, SB.out, SF.out, KK.out⟩

/-- What Of answers, at its end. -/
def OfE (w : World) (l : List LX.Pc) (e : Ending) (w' : World) : Prop :=
  Below w.heap.size w w' ∧ ∃ v S, e = .returned (.tuple #[.agg #[v], .agg #[.int .i64 (DC.fault l).1, .int .i64 (DC.fault l).2]]) ∧ Nds w' w.heap.size S v (DC.nodes l)
theorem doc_size : (Tryz.prog.info? 26).map (·.size) = some 1 := by kernel_rfl
theorem dret_both {tmps : Array Value} {w : World} {p q : Nat} {x y z : Value} (hp : tmps.getD 2 undef = .pointer (some ⟨p, 0, none⟩)) (hq : tmps.getD 3 undef = .pointer (some ⟨q, 0, none⟩)) (h1 : Str w p 26 #[x]) (h2 : Str w q 28 #[y, z]) :
    (results Tryz.f17 tmps).run Tryz.prog w = .ok (.tuple #[.agg #[x], .agg #[y, z]]) w := by
  have hs' : w.heap[q]? = some (.cells #[y, z] 28 (0, 0)) := h2
  have hs1 : w.heap[p]? = some (.cells #[x] 26 (0, 0)) := h1
  have l2 := run_loadVar_row (P := Tryz.prog) w q 28 28 #[y, z] (0, 0) _ hs' Tryz.underlying28 rfl fault_size
  have l1 := run_loadVar_row (P := Tryz.prog) w p 26 26 #[x] (0, 0) _ hs1 Tryz.underlying26 rfl doc_size
  have hp' : (asAddr (tmps.getD 2 undef)).run Tryz.prog w = .ok ⟨p, 0, none⟩ w := by rw [hp]; simp [asAddr]
  have hq' : (asAddr (tmps.getD 3 undef)).run Tryz.prog w = .ok ⟨q, 0, none⟩ w := by rw [hq]; simp [asAddr]
  simp only [Array.getD_eq_getD_getElem?] at hp' hq'
  simp only [results, Tryz.results17]
  simp [Sem.run_bind, Result.andThen, hp', hq', l1, l2]
abbrev dDef (n : Nat) : List Deferred := [{ target := .fn (.func 41) #[.pointer (some ⟨n, 0, none⟩), .pointer (some ⟨n + 1, 0, none⟩)], args := #[] }]
/-- Where Of stands at its door. -/
structure DoD (w wr : World) (x y z : Value) : Prop where
  bl : Below w.heap.size w wr
  b : Str wr w.heap.size 26 #[x]
  c : Str wr (w.heap.size + 1) 28 #[y, z]
theorem ddoor_gave {w wr : World} {tmps : Array Value} {l : List LX.Pc} {x y z : Value} {k n : Int} (hp : tmps.getD 2 undef = .pointer (some ⟨w.heap.size, 0, none⟩)) (hq : tmps.getD 3 undef = .pointer (some ⟨w.heap.size + 1, 0, none⟩)) (h : DoD w wr x y z) (hr : DC.doc l = .bad k n) :
    Leaves Tryz.prog Tryz.f17 tmps (OfE w l) (dDef w.heap.size) (.panicking (gaveD k n)) wr := by
  refine leaves_cons (f := 41) (args := #[.pointer (some ⟨w.heap.size, 0, none⟩), .pointer (some ⟨w.heap.size + 1, 0, none⟩)]) (by simp) (by simp [go_sem]) ?_
  refine (dcatch_panicking k n w.heap.size (w.heap.size + 1) x y z wr h.b h.c).mono ?_
  rintro e u' w' ⟨rfl, rfl, s1, s2, kb⟩
  refine ⟨_, dret_both hp hq s1 s2, ?_, .slice none 0 0, fun _ => False, ?_, ?_⟩
  · exact h.bl.trans (kb.below h.bl.size (fun g hg => by have := Option.some.inj hg; omega) (fun g hg => by have := Option.some.inj hg; omega))
  · simp only [DC.fault, hr]
  · simp only [DC.nodes, hr]; exact Nds.nil _ _ _
theorem ddoor_done {w wr : World} {tmps : Array Value} {l : List LX.Pc} {x : Value} {ns : List DC.Nd} {S : Nat → Prop} (hp : tmps.getD 2 undef = .pointer (some ⟨w.heap.size, 0, none⟩)) (hq : tmps.getD 3 undef = .pointer (some ⟨w.heap.size + 1, 0, none⟩)) (h : DoD w wr x (.int .i64 0) (.int .i64 0)) (hr : DC.doc l = .ok ns) (ho : Nds wr w.heap.size S x ns) :
    Leaves Tryz.prog Tryz.f17 tmps (OfE w l) (dDef w.heap.size) .returning wr := by
  refine leaves_cons (f := 41) (args := #[.pointer (some ⟨w.heap.size, 0, none⟩), .pointer (some ⟨w.heap.size + 1, 0, none⟩)]) (by simp) (by simp [go_sem]) ?_
  refine (dcatch_idle _ _ wr).mono ?_
  rintro e u' w' ⟨rfl, rfl, rfl⟩
  refine ⟨_, dret_both hp hq h.b h.c, h.bl, x, S, ?_, ?_⟩
  · simp only [DC.fault, hr]
  · simp only [DC.nodes, hr]; exact ho
theorem DoD.far {w wr w' : World} {x y z : Value} {q : Option Nat} (h : DoD w wr x y z) (hk : Kb wr w' (some (w.heap.size + 2)) q) (hq : ∀ g, q = some g → w.heap.size + 2 ≤ g) : DoD w w' x y z := by
  refine ⟨h.bl.trans (hk.below h.bl.size (fun g hg => by have := Option.some.inj hg; omega) (fun g hg => by have := hq g hg; omega)), h.b.kb hk (by simp) (fun e => ?_), h.c.kb hk (by simp) (fun e => ?_)⟩
  · have := hq _ e.symm; omega
  · have := hq _ e.symm; omega
/-- The results have been laid. -/
theorem DoD.laid {w wr : World} {x y z : Value} (h : DoD w wr x y z) (v f g : Value) :
    DoD w (((wr.setCell ⟨w.heap.size, 0, none⟩ v).setCell ⟨w.heap.size + 1, 0, none⟩ f).setCell ⟨w.heap.size + 1, 1, none⟩ g) v f g ∧ Kb wr (((wr.setCell ⟨w.heap.size, 0, none⟩ v).setCell ⟨w.heap.size + 1, 0, none⟩ f).setCell ⟨w.heap.size + 1, 1, none⟩ g) (some w.heap.size) (some (w.heap.size + 1)) := by
  have kb := Kb.set wr w.heap.size 0 v none
  have kc := (Kb.set (wr.setCell ⟨w.heap.size, 0, none⟩ v) (w.heap.size + 1) 0 f none).trans (Kb.set _ (w.heap.size + 1) 1 g none)
  have sb : Str (wr.setCell ⟨w.heap.size, 0, none⟩ v) w.heap.size 26 #[v] := by simpa using h.b.set 0 v
  have sc : Str (wr.setCell ⟨w.heap.size, 0, none⟩ v) (w.heap.size + 1) 28 #[y, z] := h.c.kb kb (by simp) (by simp)
  have kk : Kb wr _ (some w.heap.size) (some (w.heap.size + 1)) := (Kb.set wr w.heap.size 0 v (some (w.heap.size + 1))).trans ⟨kc.os, kc.tape, kc.output, kc.size, fun j hj h1 h2 => kc.block j hj h2 (by simp)⟩
  exact ⟨⟨h.bl.trans (kk.below h.bl.size (fun g hg => by have := Option.some.inj hg; omega) (fun g hg => by have := Option.some.inj hg; omega)), sb.kb kc (by simp) (by simp), sc.two' f g⟩, kk⟩
theorem of_start (w : World) (lv : Value) (l : List LX.Pc) (hr : Rdp w lv l) :
    Pst w (((w.alloc (.cells #[.slice none 0 0] 26)).alloc (.cells #[.int .i64 0, .int .i64 0] 28)).alloc (.cells #[lv, .slice none 0 0] 96)) (w.heap.size + 1 + 1) lv (.slice none 0 0) l [] (fun _ => False) ∧
    DoD w (((w.alloc (.cells #[.slice none 0 0] 26)).alloc (.cells #[.int .i64 0, .int .i64 0] 28)).alloc (.cells #[lv, .slice none 0 0] 96)) (.slice none 0 0) (.int .i64 0) (.int .i64 0) := by
  obtain ⟨w1, h1⟩ : ∃ w1, w.alloc (.cells #[.slice none 0 0] 26) = w1 := ⟨_, rfl⟩
  have B1 := below_alloc w (.cells #[.slice none 0 0] 26)
  have s1 := Str.new w 26 #[.slice none 0 0]
  have z1 := bx_size w (.cells #[.slice none 0 0] 26)
  rw [h1] at B1 s1 z1 ⊢
  obtain ⟨w2, h2⟩ : ∃ w2, w1.alloc (.cells #[.int .i64 0, .int .i64 0] 28) = w2 := ⟨_, rfl⟩
  have B2 := below_alloc w1 (.cells #[.int .i64 0, .int .i64 0] 28)
  have s2 := Str.new w1 28 #[.int .i64 0, .int .i64 0]
  have z2 := bx_size w1 (.cells #[.int .i64 0, .int .i64 0] 28)
  rw [h2] at B2 s2 z2 ⊢
  have B3 := below_alloc w2 (.cells #[lv, .slice none 0 0] 96)
  have s3 := Str.new w2 96 #[lv, .slice none 0 0]
  rw [z2, z1] at s3
  rw [z1] at s2
  have BB := below_trans B1 (below_trans B2 B3)
  exact ⟨⟨BB, by omega, s3, hr, Nds.nil _ _ _, fun g hg => hg.elim⟩, BB, s1.below (below_trans B2 B3), s2.below B3⟩

set_option maxHeartbeats 8000000 in
theorem of_any (lv : Value) (l : List LX.Pc) (w : World) (hr : Rdp w lv l) (ht : Texts l) :
    Calls Tryz.prog 17 #[lv] w (OfE w l) := by
  have hmf : ∀ (fn : Fn) (first cap : Array Value) (w : World), (Instr.makeFunc fn first cap).run Tryz.prog w = .ok (.func fn first cap) w := fun _ _ _ _ => rfl
  have hs := of_start w lv l hr
  obtain ⟨al, cl, rfl, _, _⟩ := hr.slice
  have HR := Lib.hid (root_any hs.1 ht)
  have HD := Lib.hid hs.2
  obtain ⟨A, hA⟩ : ∃ A, DC.doc l = A := ⟨_, rfl⟩
  have HA := Lib.hid hA
  rw [hA] at HR
  clear hs hr ht hA
  go_enter_defers Tryz.func17, Tryz.ntmps17
  go_wp2_with fail
  refine HR.out.mono ?_
  rintro e w1 ⟨hk, he⟩
  have HD1 := Lib.hid (HD.out.far hk (by intro g hg; cases hg))
  cases A with
  | bad k n =>
    subst he
    exact ddoor_gave rfl rfl HD1.out HA.out
  | ok ns =>
    obtain ⟨rfl, lv', nv', S', hp⟩ := he
    obtain ⟨ao, cp, rfl⟩ := hp.nd.slice
    have p1 : w1.cell? ⟨w.heap.size + 1 + 1, 1, none⟩ = some (.slice ao ns.length cp) := hp.st.cell 1
    have b0 : w1.cell? ⟨w.heap.size, 0, none⟩ = some (.slice none 0 0) := HD1.out.b.cell 0
    have bf : w1.frozen? ⟨w.heap.size, 0, none⟩ = false := HD1.out.b.frozen 0
    have hz := HD1.out.laid (.slice ao ns.length cp) (.int .i64 0) (.int .i64 0)
    have sc : Str (w1.setCell ⟨w.heap.size, 0, none⟩ (.slice ao ns.length cp)) (w.heap.size + 1) 28 #[.int .i64 0, .int .i64 0] := HD1.out.c.kb (Kb.set w1 w.heap.size 0 _ none) (by simp) (by simp)
    have c0 : (w1.setCell ⟨w.heap.size, 0, none⟩ (.slice ao ns.length cp)).cell? ⟨w.heap.size + 1, 0, none⟩ = some (.int .i64 0) := sc.cell 0
    have c1 : (w1.setCell ⟨w.heap.size, 0, none⟩ (.slice ao ns.length cp)).cell? ⟨w.heap.size + 1, 1, none⟩ = some (.int .i64 0) := sc.cell 1
    have cf0 : (w1.setCell ⟨w.heap.size, 0, none⟩ (.slice ao ns.length cp)).frozen? ⟨w.heap.size + 1, 0, none⟩ = false := sc.frozen 0
    have cf1 : (w1.setCell ⟨w.heap.size, 0, none⟩ (.slice ao ns.length cp)).frozen? ⟨w.heap.size + 1, 1, none⟩ = false := sc.frozen 1
    have HO2 : Hid (Nds _ _ _ _ ns) := Lib.hid (hp.nd.kb hz.2 (Far.str HD1.out.b (by decide) (by decide)) (Far.str HD1.out.c (by decide) (by decide)) (hp.nd.off HD1.out.b (by decide)) (hp.nd.off HD1.out.c (by decide)))
    have HZ := Lib.hid hz.1
    clear hk hp hz sc HR HD HD1
    go_wp2
    exact ddoor_done rfl rfl HZ.out HA.out HO2.out
end Go.Proofs.YthhngkoopaolkaaGreatDoor

/- A text that stands further in: its rows, lines, pieces, blocks. No program is named here. -/
namespace Go.Proofs.YthhngkoopaolkaaGreatDoor
namespace DC
open LX (B Pc Lz)

/-- A piece further in. -/
def sh (k : Int) (p : Pc) : Pc := (p.1, p.2.1, p.2.2.1 + k, p.2.2.2.1, p.2.2.2.2)
def shB (k : Int) : BR → BR
  | .bad a b => .bad a b
  | .ok a => .ok (a.1, a.2.map (sh k))
def shI (k : Int) : IR → IR
  | .bad a b => .bad a b
  | .ok a => .ok (a.1, a.2.1, a.2.2.1, a.2.2.2.map (sh k))
theorem shB_bind (k : Int) (o : IR) (x : Nd → List B → List Nat → Nd) (q : Nd) : shB k (o.bind fun a => .ok (x q a.1 a.2.1 :: a.2.2.1, a.2.2.2)) = (shI k o).bind fun a => .ok (x q a.1 a.2.1 :: a.2.2.1, a.2.2.2) := by
  cases o <;> rfl
theorem shI_plus (k : Int) (ks : List B) (is : List Nat) (ns : List Nd) (o : IR) : shI k (plus ks is ns o) = plus ks is ns (shI k o) := by
  cases o <;> rfl
theorem shI_bind (k : Int) (o : BR) (g g' : List Nd × List Pc → IR) (h : ∀ a, g' (a.1, a.2.map (sh k)) = shI k (g a)) : (shB k o).bind g' = shI k (o.bind g) := by
  cases o with
  | bad a b => rfl
  | ok a => exact h a
theorem low_sh (k c : Int) (l : List Pc) : low (c + k) (l.map (sh k)) = low c l := by
  cases l with
  | nil => rfl
  | cons p l => simp only [low, List.map_cons, sh]; exact decide_eq_decide.2 (by omega)
theorem comes_sh (k k' c : Int) (l : List Pc) : comes k' (c + k) (l.map (sh k)) = comes k' c l := by
  cases l with
  | nil => rfl
  | cons p l => simp only [comes, List.map_cons, sh]; congr 1; exact decide_eq_decide.2 (by omega)
theorem both_shift (k : Int) : ∀ f, (∀ d N l, blk f d N (l.map (sh k)) = shB k (blk f d N l)) ∧ (∀ k' c d N has l, itm f k' (c + k) d N has (l.map (sh k)) = shI k (itm f k' c d N has l))
  | 0 => ⟨fun _ _ _ => by simp only [blk]; rfl, fun _ _ _ _ _ _ => by simp only [itm]; rfl⟩
  | f + 1 => by
    obtain ⟨hb, hi⟩ := both_shift k f
    constructor
    · intro d N l
      cases l with
      | nil => simp only [List.map_nil, blk]; rfl
      | cons p l =>
        have hi' := hi p.1 p.2.2.1 (d + 1) (N + 1) [] (p :: l)
        rw [List.map_cons] at hi' ⊢
        by_cases h1 : nk p.1 = 0
        · rw [blk_kind (p := sh k p) h1, blk_kind h1]; rfl
        by_cases h2 : 24 < d
        · rw [blk_deep (p := sh k p) h1 h2, blk_deep h1 h2]; rfl
        by_cases h3 : 2000 ≤ N
        · rw [blk_many (p := sh k p) h1 h2 h3, blk_many h1 h2 h3]; rfl
        by_cases h4 : p.1 = 3
        · rw [blk_text (p := sh k p) h4 h2 h3, blk_text h4 h2 h3]; rfl
        have h5 : p.1 = 1 ∨ p.1 = 2 := by have := nk_three h1; omega
        rw [blk_in (p := sh k p) h5 h2 h3, blk_in h5 h2 h3]
        refine (congrArg (fun o => Out.bind o _) hi').trans ?_
        exact (shB_bind k _ (fun _ a b => ⟨nk p.1, p.2.1, [], false, a, b⟩) (leaf p)).symm
    · intro k' c d N has l
      cases l with
      | nil => simp only [List.map_nil, itm]; rfl
      | cons p l =>
        have hc := comes_sh k k' c (p :: l)
        have hl := low_sh k p.2.2.1 l
        have hb' := hb d N l
        rw [List.map_cons] at hc ⊢
        cases h1 : comes k' c (p :: l) with
        | false =>
          rw [h1] at hc
          rw [itm_end h1, itm_end hc]; rfl
        | true =>
          rw [h1] at hc
          by_cases h2 : k' = 2 ∧ p.2.2.2.1 ∈ has
          · rw [itm_twice h1 h2, itm_twice (p := sh k p) hc h2]; rfl
          cases h3 : und f p.2.1 p.2.2.1 d N l with
          | bad m n =>
            have h3' : und f (sh k p).2.1 (sh k p).2.2.1 d N (l.map (sh k)) = .bad m n := by
              unfold und at h3 ⊢
              rw [show low (sh k p).2.2.1 (l.map (sh k)) = low p.2.2.1 l from hl]
              split at h3
              · rename_i hh; rw [if_pos hh]; exact h3
              · rename_i hh; rw [if_neg hh, hb', h3]; rfl
            rw [itm_no h1 h2 h3, itm_no (p := sh k p) hc h2 h3']; rfl
          | ok a =>
            have h3' : und f (sh k p).2.1 (sh k p).2.2.1 d N (l.map (sh k)) = .ok (a.1, a.2.map (sh k)) := by
              unfold und at h3 ⊢
              rw [show low (sh k p).2.2.1 (l.map (sh k)) = low p.2.2.1 l from hl]
              split at h3
              · cases h3
              · rename_i hh; rw [if_neg hh, hb', h3]; rfl
            rw [itm_go h1 h2 h3, itm_go (p := sh k p) hc h2 h3', shI_plus, hi]; rfl
theorem doc_shift (k : Int) (l : List Pc) : doc (l.map (sh k)) = doc l := by
  unfold doc
  cases l with
  | nil => rfl
  | cons p l =>
    rw [if_neg (by simp), if_neg (by simp)]
    have hf : fuel ((p :: l).map (sh k)) = fuel (p :: l) := by simp [fuel]
    rw [hf, (both_shift k _).1]
    cases blk (fuel (p :: l)) 1 0 (p :: l) with
    | bad a b => rfl
    | ok a =>
      obtain ⟨ns, r⟩ := a
      cases r <;> rfl

/-! ### Pieces of a line further in -/
def shR (k : Int) (r : LX.R) : LX.R := (r.1, r.2.map (sh k))
theorem fin_sh (k no col : Int) (acc : List Pc) (l : B) : LX.fin no (col + k) (acc.map (sh k)) l = shR k (LX.fin no col acc l) := by
  unfold LX.fin
  split
  · rfl
  · split
    · simp only [shR, List.map_append, List.map_cons, List.map_nil, sh]
      congr 4
      simp only [Prod.mk.injEq, true_and, and_true]
      omega
    · rfl
theorem mid_sh (k no col : Int) (acc : List Pc) (l : B) : LX.mid no (col + k) (acc.map (sh k)) l = shR k (LX.mid no col acc l) := by
  unfold LX.mid
  split
  · exact fin_sh k no col acc l
  · split
    · rfl
    · rw [← fin_sh, List.map_append]
      congr 2
      simp only [List.map_cons, List.map_nil, sh, List.cons.injEq, Prod.mk.injEq, true_and, and_true]
      omega
theorem go_sh (k no col : Int) : ∀ (n : Nat) (acc : List Pc) (l : B), LX.go no (col + k) n (acc.map (sh k)) l = shR k (LX.go no col n acc l)
  | 0, acc, l => mid_sh k no col acc l
  | n + 1, acc, l => by
    rw [LX.go, LX.go]
    split
    · rw [← go_sh k no col n, List.map_append]
      congr 2
      simp only [List.map_cons, List.map_nil, sh, List.cons.injEq, Prod.mk.injEq, true_and, and_true]
      omega
    · exact mid_sh k no col acc l
theorem row_sh (k : Nat) (no ind : Int) (t : B) (h0 : 0 ≤ ind) (h1 : ind + k ≤ 16384) : LX.row (no, ind + k, t) = shR k (LX.row (no, ind, t)) := by
  unfold LX.row
  rw [if_neg (by simp only; omega), if_neg (by simp only; omega)]
  simp only
  rw [← go_sh]
  congr 1
  omega
theorem plus_sh (k : Int) (P : List Pc) (r : LX.R × Int) : LX.plus (P.map (sh k)) (shR k r.1, r.2) = (shR k (LX.plus P r).1, (LX.plus P r).2) := by
  obtain ⟨⟨q, Q⟩, n⟩ := r
  unfold LX.plus shR
  simp only
  split
  · simp
  · simp
theorem all_sh (k : Nat) : ∀ ls : List Lz, (∀ x ∈ ls, 0 ≤ x.2.1 ∧ x.2.1 + k ≤ 16384) → LX.all (ls.map fun x => (x.1, x.2.1 + k, x.2.2)) = (shR k (LX.all ls).1, (LX.all ls).2)
  | [], _ => rfl
  | x :: ls, h => by
    obtain ⟨h0, h1⟩ := h x (by simp)
    have ih := all_sh k ls (fun y hy => h y (by simp [hy]))
    have hr := row_sh k x.1 x.2.1 x.2.2 h0 h1
    obtain ⟨q, P, hq⟩ : ∃ q P, LX.row x = (q, P) := ⟨_, _, rfl⟩
    have hr' : LX.row (x.1, x.2.1 + k, x.2.2) = (q, P.map (sh k)) := by rw [hr, hq]; rfl
    rw [List.map_cons]
    by_cases h2 : q = 0
    · subst h2
      rw [LX.all_ok hq, LX.all_ok hr', ih, plus_sh]
    · rw [LX.all_no hq h2, LX.all_no hr' h2]; rfl

/-! ### Rows further in -/
def bl (k : Nat) : B := List.replicate k 32
/-- A text whose every row stands further in. -/
def shT (k : Nat) (l : B) : B := bl k ++ l.flatMap fun c => if c = 10 then 10 :: bl k else [c]
theorem rows_bl (k : Nat) : ∀ l : B, LN.rows (bl k ++ l) = match LN.rows l with | [] => [bl k] | h :: t => (bl k ++ h) :: t := by
  intro l
  induction k with
  | zero =>
    obtain ⟨h, t, e⟩ := LN.rows_ne l
    simp [bl, e]
  | succ k ih =>
    obtain ⟨h, t, e⟩ := LN.rows_ne l
    rw [e] at ih ⊢
    have e2 : bl (k + 1) ++ l = 32 :: (bl k ++ l) := rfl
    rw [e2, LN.rows, if_neg (by decide), ih]
    rfl
theorem rows_in (k : Nat) : ∀ l : B, ∃ h t, LN.rows l = h :: t ∧ LN.rows (l.flatMap fun c => if c = 10 then 10 :: bl k else [c]) = h :: t.map (bl k ++ ·)
  | [] => ⟨[], [], rfl, rfl⟩
  | c :: l => by
    obtain ⟨h, t, e1, e2⟩ := rows_in k l
    by_cases hc : c = 10
    · subst hc
      refine ⟨[], h :: t, by rw [LN.rows, if_pos rfl, e1], ?_⟩
      simp only [List.flatMap_cons, if_true]
      rw [List.cons_append, LN.rows, if_pos rfl, rows_bl, e2]
      rfl
    · refine ⟨c :: h, t, by rw [LN.rows, if_neg hc, e1], ?_⟩
      simp only [List.flatMap_cons, if_neg hc]
      rw [List.singleton_append, LN.rows, if_neg hc, e2]
theorem rows_shT (k : Nat) (l : B) : LN.rows (shT k l) = (LN.rows l).map (bl k ++ ·) := by
  obtain ⟨h, t, e1, e2⟩ := rows_in k l
  unfold shT
  rw [rows_bl, e2, e1]
  rfl
theorem tl_bl (k : Nat) (r : B) : LN.tl (bl k ++ r) = LN.tl r := by
  induction k with
  | zero => rfl
  | succ k ih =>
    have e2 : bl (k + 1) ++ r = 32 :: (bl k ++ r) := rfl
    rw [e2, ← ih]
    unfold LN.tl Lib.trimLeftB
    rw [List.dropWhile_cons_of_pos (by decide)]
theorem bad_bl (k : Nat) (r : B) : LN.bad (bl k ++ r) = LN.bad r := by
  unfold LN.bad
  rw [List.any_append]
  have : ((bl k).any fun c => decide (c.toNat < 32) || decide (c.toNat = 127)) = false := by
    rw [List.any_eq_false]
    intro c hc
    obtain rfl := (List.mem_replicate.1 hc).2
    decide
  rw [this, Bool.false_or]
theorem kind_bl (k : Nat) (r : B) : LN.kind (bl k ++ r) = LN.kind r := by unfold LN.kind; rw [bad_bl, tl_bl]
theorem said_bl (k : Nat) (r : B) : LN.said (bl k ++ r) = LN.said r := by unfold LN.said; rw [tl_bl]
theorem tl_le (r : B) : (LN.tl r).length ≤ r.length := (List.dropWhile_sublist _).length_le
theorem ind_bl (k : Nat) (r : B) : LN.ind (bl k ++ r) = LN.ind r + k := by
  unfold LN.ind
  rw [tl_bl, List.length_append]
  have := tl_le r
  have : (bl k).length = k := List.length_replicate ..
  omega
theorem flt_bl (k : Nat) : ∀ (n : Nat) (rs : List B), LN.flt n (rs.map (bl k ++ ·)) = LN.flt n rs
  | _, [] => rfl
  | n, r :: rs => by rw [List.map_cons, LN.flt, LN.flt, kind_bl, flt_bl k (n + 1) rs]
theorem lns_bl (k : Nat) : ∀ (n : Nat) (rs : List B), LN.lns n (rs.map (bl k ++ ·)) = (LN.lns n rs).map fun x => (x.1, x.2.1 + k, x.2.2)
  | _, [] => rfl
  | n, r :: rs => by
    rw [List.map_cons, LN.lns, LN.lns, said_bl, ind_bl, lns_bl k (n + 1) rs]
    split
    · rfl
    · rfl
/-- A line as it is handed on. -/
def zl (x : LN.Ln) : Lz := ((x.1 : Int), (x.2.1 : Int), x.2.2)
theorem outs_shT (k : Nat) (l : B) (h : (shT k l).length ≤ 16384) (h' : l.length ≤ 16384) : LN.outF (shT k l) = LN.outF l ∧ (LN.outL (shT k l)).map zl = ((LN.outL l).map zl).map fun x => (x.1, x.2.1 + (k : Int), x.2.2) := by
  have e1 : LN.outF (shT k l) = LN.outF l := by
    unfold LN.outF
    rw [if_neg (by omega), if_neg (by omega), rows_shT, flt_bl]
  refine ⟨e1, ?_⟩
  unfold LN.outL
  rw [e1]
  split
  · rw [rows_shT, lns_bl, List.map_map, List.map_map]
    congr 1
  · rfl
theorem ind_le : ∀ (n : Nat) (rs : List B) (x : LN.Ln), x ∈ LN.lns n rs → ∃ r ∈ rs, x.2.1 ≤ r.length ∧ x.2.2.length ≤ r.length
  | _, [], _, h => by cases h
  | n, r :: rs, x, h => by
    rw [LN.lns] at h
    split at h
    · obtain ⟨r', h1, h2⟩ := ind_le _ rs x h
      exact ⟨r', by simp [h1], h2⟩
    · rcases List.mem_cons.1 h with rfl | h
      · refine ⟨r, by simp, by show r.length - _ ≤ _; omega, ?_⟩
        show (LN.said r).length ≤ r.length
        unfold LN.said
        cases hs : LN.strip (LN.tl r) with
        | none => simp
        | some s =>
          have := (LN.strip_again hs).2.1
          have := tl_le r
          simp only [Option.getD_some]
          omega
      · obtain ⟨r', h1, h2⟩ := ind_le _ rs x h
        exact ⟨r', by simp [h1], h2⟩
theorem outL_le {l : B} {x : LN.Ln} (h : x ∈ LN.outL l) (_hl : l.length ≤ 16384) : x.2.1 ≤ l.length ∧ x.2.2.length ≤ l.length := by
  unfold LN.outL at h
  split at h
  · obtain ⟨r, h1, h2, h3⟩ := ind_le _ _ _ h
    have := LN.rows_le l r h1
    omega
  · cases h
/-- What Parse tells. -/
def parse (l : B) : Out (List Nd) :=
  if (LN.outF l).1 ≠ 0 then .bad (LN.outF l).1 (LN.outF l).2
  else if (LX.all ((LN.outL l).map zl)).1.1 ≠ 0 then .bad (LX.all ((LN.outL l).map zl)).1.1 (LX.all ((LN.outL l).map zl)).2
  else doc (LX.all ((LN.outL l).map zl)).1.2
theorem lns_rng (k : Nat) : ∀ (n : Nat) (rs : List B) (x : LN.Ln), x ∈ LN.lns n rs → (∀ r ∈ rs, r.length + k ≤ 16384) → x.2.1 + k ≤ 16384 := by
  intro n rs x h hr
  obtain ⟨r, h1, h2, _⟩ := ind_le n rs x h
  have := hr r h1
  omega
theorem parse_shT (k : Nat) (l : B) (h : (shT k l).length ≤ 16384) : parse (shT k l) = parse l := by
  have hl : l.length + k ≤ 16384 := by
    have : ∀ l : B, l.length ≤ (l.flatMap fun c => if c = 10 then 10 :: bl k else [c]).length := by
      intro l
      induction l with
      | nil => simp
      | cons c t ih =>
        simp only [List.flatMap_cons, List.length_append, List.length_cons]
        have : 1 ≤ (if c = 10 then 10 :: bl k else [c]).length := by split <;> simp
        omega
    have h1 := this l
    unfold shT at h
    rw [List.length_append] at h
    have : (bl k).length = k := List.length_replicate ..
    omega
  obtain ⟨e1, e2⟩ := outs_shT k l h (by omega)
  unfold parse
  rw [e1, e2, all_sh k]
  · simp only [shR, doc_shift]
  · intro x hx
    obtain ⟨y, hy, rfl⟩ := List.mem_map.1 hx
    have := (outL_le hy (by omega)).1
    simp only [zl]
    omega
end DC
end Go.Proofs.YthhngkoopaolkaaGreatDoor

/- Walks of All and of the document's own. -/
namespace Go.Proofs.YthhngkoopaolkaaGreatDoor
open Go.RowKit

/-- What All answers, at its end. -/
def AllE (w : World) (ls : List LX.Lz) (e : Ending) (w' : World) : Prop :=
  Below w.heap.size w w' ∧ ∃ v, e = .returned (.tuple #[v, .agg #[.int .i64 (LX.all ls).1.1, .int .i64 (LX.all ls).2]]) ∧ Ownp w' w.heap.size v (LX.all ls).1.2
/-- Where it stands. -/
structure AW (w wr : World) (v : Value) (acc : List LX.Pc) : Prop where
  bl : Below w.heap.size w wr
  big : w.heap.size + 1 ≤ wr.heap.size
  c : Str wr w.heap.size 28 #[.int .i64 0, .int .i64 0]
  own : Ownp wr (w.heap.size + 1) v acc
theorem AW.calm {w wr w' : World} {v : Value} {acc : List LX.Pc} (h : AW w wr v acc) (hb : Below wr.heap.size wr w') : AW w w' v acc :=
  ⟨h.bl.trans (hb.mono h.bl.size), Nat.le_trans h.big hb.size, h.c.below hb, h.own.below hb⟩
theorem AW.grown {w wr w' : World} {v v' : Value} {acc acc' : List LX.Pc} (h : AW w wr v acc) (hg : wr.grownBy w' v.ownBlock) (ho : Ownp w' (w.heap.size + 1) v' acc') : AW w w' v' acc' := by
  have far : ∀ k, k < w.heap.size + 1 → w'.heap[k]? = wr.heap[k]? := fun k hk => hg.block k (Nat.lt_of_lt_of_le hk h.big) (by
    intro e
    have := (h.own.ownBlock e.symm).2.1
    omega)
  have hb : Below (w.heap.size + 1) wr w' := ⟨hg.os, hg.tape, hg.output, hg.size, far⟩
  exact ⟨h.bl.trans (hb.mono (by omega)), Nat.le_trans h.big hg.size, (far _ (by omega)).trans h.c, ho⟩
theorem AW.start (w : World) : AW w (w.alloc (.cells #[.int .i64 0, .int .i64 0] 28)) (.slice none 0 0) [] :=
  ⟨below_alloc _ _, by rw [bx_size]; exact Nat.le_refl _, Str.new w 28 #[.int .i64 0, .int .i64 0], Ownp.nil _ _⟩
/-- The fault has been laid. -/
theorem AW.fault {w wr : World} {v : Value} {acc : List LX.Pc} (h : AW w wr v acc) (f g : Value) :
    Str ((wr.setCell ⟨w.heap.size, 0, none⟩ f).setCell ⟨w.heap.size, 1, none⟩ g) w.heap.size 28 #[f, g] ∧ Below w.heap.size w ((wr.setCell ⟨w.heap.size, 0, none⟩ f).setCell ⟨w.heap.size, 1, none⟩ g) ∧ Ownp ((wr.setCell ⟨w.heap.size, 0, none⟩ f).setCell ⟨w.heap.size, 1, none⟩ g) w.heap.size v acc := by
  have kb := (Kb.set wr w.heap.size 0 f none).trans (Kb.set _ w.heap.size 1 g none)
  exact ⟨h.c.two' f g, h.bl.trans (kb.below h.bl.size (fun g hg => by have := Option.some.inj hg; omega) (fun g hg => by cases hg)), (h.own.base (by omega)).kb kb (h.own.off h.c (by decide)) no_or⟩
theorem alle_no {w w' : World} {ls : List LX.Lz} {k n : Int} {A : LX.R × Int} (hA : A = LX.all ls) (h : A = ((k, []), n)) (hb : Below w.heap.size w w') : AllE w ls (.returned (.tuple #[.slice none 0 0, .agg #[.int .i64 k, .int .i64 n]])) w' := by
  have e := hA.symm.trans h
  refine ⟨hb, .slice none 0 0, ?_, ?_⟩
  · rw [e]
  · rw [e]; exact Ownp.nil _ _
theorem alle_yes {w w' : World} {ls : List LX.Lz} {A : LX.R × Int} {acc : List LX.Pc} {v : Value} (hA : A = LX.all ls) (h : A = ((0, acc), 0)) (ho : Ownp w' w.heap.size v acc) (hb : Below w.heap.size w w') : AllE w ls (.returned (.tuple #[v, .agg #[.int .i64 0, .int .i64 0]])) w' := by
  have e := hA.symm.trans h
  refine ⟨hb, v, ?_, ?_⟩
  · rw [e]
  · rw [e]; exact ho
/-- What Row answers, with its row told apart. -/
theorem rowe_ok {w : World} {x : LX.Lz} {P : List LX.Pc} {e : Ending} {w' : World} (hk : LX.row x = (0, P)) (h : RowE w x e w') : ∃ v, e = .returned (.tuple #[v, .agg #[.int .i64 0, .int .i64 0]]) ∧ Ownp w' w.heap.size v P ∧ Below w.heap.size w w' := by
  obtain ⟨hb, v, he, ho⟩ := h
  rw [hk] at he ho
  exact ⟨v, he, ho, hb⟩
theorem rowe_bad {w : World} {x : LX.Lz} {k : Int} {P : List LX.Pc} {e : Ending} {w' : World} (hk : LX.row x = (k, P)) (h0 : k ≠ 0) (h : RowE w x e w') : ∃ v, e = .returned (.tuple #[v, .agg #[.int .i64 k, .int .i64 x.1]]) ∧ Ownp w' w.heap.size v P ∧ Below w.heap.size w w' := by
  obtain ⟨hb, v, he, ho⟩ := h
  rw [hk] at he ho
  rw [if_neg h0] at he
  exact ⟨v, he, ho, hb⟩
theorem drop_z {l : List LX.Lz} {i : Nat} {c : LX.Lz} (h : l[i]? = some c) : l.drop i = c :: l.drop (i + 1) := by
  obtain ⟨hi, rfl⟩ := List.getElem?_eq_some_iff.1 h
  exact List.drop_eq_getElem_cons hi

set_option maxRecDepth 10000 in
set_option maxHeartbeats 16000000 in
theorem lall_any (v0 : Value) (ls : List LX.Lz) (w : World) (hr : Rdz w v0 ls) (hls : ∀ x ∈ ls, x.2.2.length ≤ 17000) (hwt : LX.wt ls ≤ 900000) (hm : MaxIs w) :
    Calls Tryz.prog 19 #[v0] w (AllE w ls) := by
  obtain ⟨ao, cap, rfl, h1, h2, h3, h4⟩ := hr
  have HS0 := Lib.hid (AW.start w)
  obtain ⟨A, HF⟩ : ∃ A, Hid (A = LX.all ls) := ⟨_, Lib.hid rfl⟩
  obtain ⟨n, hn⟩ : ∃ n, ls.length = n := ⟨_, rfl⟩
  have HN := Lib.hid hn
  have H4 := Lib.hid h4
  have HLS := Lib.hid hls
  have HWT := Lib.hid hwt
  have HM := Lib.hid hm
  rw [hn] at h1 ⊢
  unfold maxLen at h2
  have hnn : n ≤ 9223372036854775807 := by omega
  clear h1 h2 h3 h4 hls hwt hn hm
  go_enter Tryz.func19, Tryz.ntmps19
  go_wp2
  generalize w.alloc (.cells #[.int .i64 0, .int .i64 0] 28) = w0 at *
  go_loopg [4, 11] n (fun g s4 s6 wx => ∃ (i : Nat) (acc : List LX.Pc) (v : Value), i + g = n ∧ s6 = .int .i64 (i : Int) ∧ v = s4 ∧ Hid (AW w wx v acc) ∧ Hid (acc.length + LX.wt (ls.drop i) ≤ 900000) ∧ Hid (A = LX.plus acc (LX.all (ls.drop i))))
  case atStart =>
    refine ⟨0, [], _, by omega, rfl, rfl, HS0, ?_, ?_⟩
    · show _ ≤ _; have := HWT.out; simpa using this
    · show _ = _; rw [HF.out, List.drop_zero, LX.plus_nil]
  case round =>
    clear HS0 HWT
    obtain ⟨i, acc, v, hi, rfl, rfl, HW, HAL, HE⟩ := hrel
    have f0 : wr.cell? ⟨w.heap.size, 0, none⟩ = some (.int .i64 0) := HW.out.c.cell 0
    have f1 : wr.cell? ⟨w.heap.size, 1, none⟩ = some (.int .i64 0) := HW.out.c.cell 1
    have ff0 : wr.frozen? ⟨w.heap.size, 0, none⟩ = false := HW.out.c.frozen 0
    have ff1 : wr.frozen? ⟨w.heap.size, 1, none⟩ = false := HW.out.c.frozen 1
    cases gk with
    | zero =>
      obtain rfl : i = n := by omega
      have E := Lib.hid (show A = ((0, acc), 0) by rw [HE.out, List.drop_eq_nil_of_le (by have := HN.out; omega), LX.plus_end])
      have HQ := Lib.hid (HW.out.fault (.int .i64 0) (.int .i64 0))
      go_wp2
      try rw [Exit.noGoto_ret]
      (try simp only [Exit.inBlock, Exit.then])
      refine bodyPost_ret (ret_bc rfl rfl rfl HQ.out.1 Tryz.underlying28 rfl fault_size) rfl ?_
      exact alle_yes HF.out E.out HQ.out.2.2 HQ.out.2.1
    | succ g =>
      have hin : (i : Int) < (n : Int) := by omega
      obtain ⟨x, hx⟩ : ∃ x, ls[i]? = some x := ⟨ls[i]'(by have := HN.out; omega), List.getElem?_eq_getElem _⟩
      have hlx := HLS.out x (List.mem_of_getElem? hx)
      have HD := Lib.hid (drop_z hx)
      obtain ⟨b, off, rfl, c⟩ := H4.out i x hx
      obtain ⟨d0, d1, d2⟩ := c.below HW.out.bl
      obtain ⟨no, ind, tx⟩ := x
      simp only at hlx d0 d1 d2
      obtain ⟨k, P, hkP⟩ : ∃ k P, LX.row (no, ind, tx) = (k, P) := ⟨_, _, rfl⟩
      have HPL : Hid (P.length ≤ tx.length) := by show _ ≤ _; have := LX.row_len (no, ind, tx); rw [hkP] at this; exact this
      have BX := below_alloc wr (.cells #[.int .i64 no, .int .i64 ind, .string ⟨tx.toArray⟩] 100)
      have HWB := Lib.hid (HW.out.calm BX)
      have HR := Lib.hid (lexRow_any (no, ind, tx) (wr.alloc (.cells #[.int .i64 no, .int .i64 ind, .string ⟨tx.toArray⟩] 100)) hlx ((HM.out.below HW.out.bl).below BX))
      clear hx c BX HW
      by_cases hk0 : k = 0
      · subst hk0
        have E := Lib.hid (show A = LX.plus (acc ++ P) (LX.all (ls.drop (i + 1))) by rw [HE.out, HD.out, LX.all_ok hkP, LX.plus_plus])
        have HOK := Lib.hid (fun (e : Ending) (w' : World) (h : RowE (wr.alloc (.cells #[.int .i64 no, .int .i64 ind, .string ⟨tx.toArray⟩] 100)) (no, ind, tx) e w') => rowe_ok hkP h)
        clear hkP
        go_wp2_with fail
        refine HR.out.mono ?_
        rintro e w2 he
        obtain ⟨v1, rfl, ho, hb⟩ := HOK.out _ _ he
        have B3 := below_alloc w2 (.cells #[.int .i64 0, .int .i64 0] 28)
        have HW3 := Lib.hid ((HWB.out.calm hb).calm B3)
        have HP3 := Lib.hid (ho.below B3).rd
        clear he ho hb B3 HR HOK HWB
        go_wp2_with (at_builtin; refine wpList_append_pieces rfl (.tmp 24) (.tmp 25) rfl (w.heap.size + 1) (by rfl) HW3.out.own (by rfl) HP3.out (by have := HAL.out; have := HPL.out; rw [HD.out, LX.wt_cons] at *; simp only at *; omega) HW3.out.big ?_; intro v4 w4 ho4 hg4; have HW4 := Lib.hid (HW3.out.grown hg4 ho4); clear ho4 hg4)
        go_roundg g
        case rel =>
          refine ⟨i + 1, acc ++ P, _, by omega, by first | rfl | (simp; done), rfl, HW4, ?_, E⟩
          show _ ≤ _
          have h1 := HAL.out
          have h2 := HPL.out
          rw [HD.out, LX.wt_cons] at h1
          rw [List.length_append]
          simp only at h1
          omega
        case measure => omega
      · have E := Lib.hid (show A = ((k, []), no) by rw [HE.out, HD.out, LX.all_no hkP hk0, LX.plus_no hk0])
        have HOK := Lib.hid (fun (e : Ending) (w' : World) (h : RowE (wr.alloc (.cells #[.int .i64 no, .int .i64 ind, .string ⟨tx.toArray⟩] 100)) (no, ind, tx) e w') => rowe_bad hkP hk0 h)
        clear hkP
        go_wp2_with fail
        refine HR.out.mono ?_
        rintro e w2 he
        obtain ⟨v1, rfl, ho, hb⟩ := HOK.out _ _ he
        simp only
        have B3 := below_alloc w2 (.cells #[.int .i64 k, .int .i64 no] 28)
        have HW3 := Lib.hid ((HWB.out.calm hb).calm B3)
        have a0 : (w2.alloc (.cells #[.int .i64 k, .int .i64 no] 28)).cell? ⟨w.heap.size, 0, none⟩ = some (.int .i64 0) := HW3.out.c.cell 0
        have a1 : (w2.alloc (.cells #[.int .i64 k, .int .i64 no] 28)).cell? ⟨w.heap.size, 1, none⟩ = some (.int .i64 0) := HW3.out.c.cell 1
        have aa0 : (w2.alloc (.cells #[.int .i64 k, .int .i64 no] 28)).frozen? ⟨w.heap.size, 0, none⟩ = false := HW3.out.c.frozen 0
        have aa1 : (w2.alloc (.cells #[.int .i64 k, .int .i64 no] 28)).frozen? ⟨w.heap.size, 1, none⟩ = false := HW3.out.c.frozen 1
        have HQ := Lib.hid (HW3.out.fault (.int .i64 k) (.int .i64 no))
        clear he ho hb B3 HR HOK HWB HW3
        go_wp2
        go_region
        go_wp2
        try rw [Exit.noGoto_ret]
        (try simp only [Exit.inBlock, Exit.then])
        refine bodyPost_ret (ret_bc rfl rfl rfl (HQ.out.1.below (below_drew _)) Tryz.underlying28 rfl fault_size) rfl ?_
        exact alle_no HF.out E.out (HQ.out.2.1.drew)
set_option maxRecDepth 10000 in
set_option maxHeartbeats 16000000 in
theorem rall_any (v0 : Value) (ls : List LX.Lz) (w : World) (hr : Rdz w v0 ls) (hls : ∀ x ∈ ls, x.2.2.length ≤ 17000) (hwt : LX.wt ls ≤ 900000) :
    Calls Tryz.prog 21 #[v0] w (AllE w ls) := by
  obtain ⟨ao, cap, rfl, h1, h2, h3, h4⟩ := hr
  have HS0 := Lib.hid (AW.start w)
  obtain ⟨A, HF⟩ : ∃ A, Hid (A = LX.all ls) := ⟨_, Lib.hid rfl⟩
  obtain ⟨n, hn⟩ : ∃ n, ls.length = n := ⟨_, rfl⟩
  have HN := Lib.hid hn
  have H4 := Lib.hid h4
  have HLS := Lib.hid hls
  have HWT := Lib.hid hwt

  rw [hn] at h1 ⊢
  unfold maxLen at h2
  have hnn : n ≤ 9223372036854775807 := by omega
  clear h1 h2 h3 h4 hls hwt hn
  go_enter Tryz.func21, Tryz.ntmps21
  go_wp2
  generalize w.alloc (.cells #[.int .i64 0, .int .i64 0] 28) = w0 at *
  go_loopg [4, 5] n (fun g s4 s6 wx => ∃ (i : Nat) (acc : List LX.Pc) (v : Value), i + g = n ∧ s6 = .int .i64 (i : Int) ∧ v = s4 ∧ Hid (AW w wx v acc) ∧ Hid (acc.length + LX.wt (ls.drop i) ≤ 900000) ∧ Hid (A = LX.plus acc (LX.all (ls.drop i))))
  case atStart =>
    refine ⟨0, [], _, by omega, rfl, rfl, HS0, ?_, ?_⟩
    · show _ ≤ _; have := HWT.out; simpa using this
    · show _ = _; rw [HF.out, List.drop_zero, LX.plus_nil]
  case round =>
    clear HS0 HWT
    obtain ⟨i, acc, v, hi, rfl, rfl, HW, HAL, HE⟩ := hrel
    have f0 : wr.cell? ⟨w.heap.size, 0, none⟩ = some (.int .i64 0) := HW.out.c.cell 0
    have f1 : wr.cell? ⟨w.heap.size, 1, none⟩ = some (.int .i64 0) := HW.out.c.cell 1
    have ff0 : wr.frozen? ⟨w.heap.size, 0, none⟩ = false := HW.out.c.frozen 0
    have ff1 : wr.frozen? ⟨w.heap.size, 1, none⟩ = false := HW.out.c.frozen 1
    cases gk with
    | zero =>
      obtain rfl : i = n := by omega
      have E := Lib.hid (show A = ((0, acc), 0) by rw [HE.out, List.drop_eq_nil_of_le (by have := HN.out; omega), LX.plus_end])
      have HQ := Lib.hid (HW.out.fault (.int .i64 0) (.int .i64 0))
      go_wp2
      try rw [Exit.noGoto_ret]
      (try simp only [Exit.inBlock, Exit.then])
      refine bodyPost_ret (ret_bc rfl rfl rfl HQ.out.1 Tryz.underlying28 rfl fault_size) rfl ?_
      exact alle_yes HF.out E.out HQ.out.2.2 HQ.out.2.1
    | succ g =>
      have hin : (i : Int) < (n : Int) := by omega
      obtain ⟨x, hx⟩ : ∃ x, ls[i]? = some x := ⟨ls[i]'(by have := HN.out; omega), List.getElem?_eq_getElem _⟩
      have hlx := HLS.out x (List.mem_of_getElem? hx)
      have HD := Lib.hid (drop_z hx)
      obtain ⟨b, off, rfl, c⟩ := H4.out i x hx
      obtain ⟨d0, d1, d2⟩ := c.below HW.out.bl
      obtain ⟨no, ind, tx⟩ := x
      simp only at hlx d0 d1 d2
      obtain ⟨k, P, hkP⟩ : ∃ k P, LX.row (no, ind, tx) = (k, P) := ⟨_, _, rfl⟩
      have HPL : Hid (P.length ≤ tx.length) := by show _ ≤ _; have := LX.row_len (no, ind, tx); rw [hkP] at this; exact this
      have HWB := HW
      have HR := Lib.hid (rrow_any (no, ind, tx) wr hlx)
      clear hx c HW
      by_cases hk0 : k = 0
      · subst hk0
        have E := Lib.hid (show A = LX.plus (acc ++ P) (LX.all (ls.drop (i + 1))) by rw [HE.out, HD.out, LX.all_ok hkP, LX.plus_plus])
        have HOK := Lib.hid (fun (e : Ending) (w' : World) (h : RowE wr (no, ind, tx) e w') => rowe_ok hkP h)
        clear hkP
        go_wp2_with fail
        refine HR.out.mono ?_
        rintro e w2 he
        obtain ⟨v1, rfl, ho, hb⟩ := HOK.out _ _ he
        have B3 := below_alloc w2 (.cells #[.int .i64 0, .int .i64 0] 28)
        have HW3 := Lib.hid ((HWB.out.calm hb).calm B3)
        have HP3 := Lib.hid (ho.below B3).rd
        clear he ho hb B3 HR HOK HWB
        go_wp2_with (at_builtin; refine wpList_append_pieces rfl (.tmp 26) (.tmp 27) rfl (w.heap.size + 1) (by rfl) HW3.out.own (by rfl) HP3.out (by have := HAL.out; have := HPL.out; rw [HD.out, LX.wt_cons] at *; simp only at *; omega) HW3.out.big ?_; intro v4 w4 ho4 hg4; have HW4 := Lib.hid (HW3.out.grown hg4 ho4); clear ho4 hg4)
        go_roundg g
        case rel =>
          refine ⟨i + 1, acc ++ P, _, by omega, by first | rfl | (simp; done), rfl, HW4, ?_, E⟩
          show _ ≤ _
          have h1 := HAL.out
          have h2 := HPL.out
          rw [HD.out, LX.wt_cons] at h1
          rw [List.length_append]
          simp only at h1
          omega
        case measure => omega
      · have E := Lib.hid (show A = ((k, []), no) by rw [HE.out, HD.out, LX.all_no hkP hk0, LX.plus_no hk0])
        have HOK := Lib.hid (fun (e : Ending) (w' : World) (h : RowE wr (no, ind, tx) e w') => rowe_bad hkP hk0 h)
        clear hkP
        go_wp2_with fail
        refine HR.out.mono ?_
        rintro e w2 he
        obtain ⟨v1, rfl, ho, hb⟩ := HOK.out _ _ he
        simp only
        have B3 := below_alloc w2 (.cells #[.int .i64 k, .int .i64 no] 28)
        have HW3 := Lib.hid ((HWB.out.calm hb).calm B3)
        have a0 : (w2.alloc (.cells #[.int .i64 k, .int .i64 no] 28)).cell? ⟨w.heap.size, 0, none⟩ = some (.int .i64 0) := HW3.out.c.cell 0
        have a1 : (w2.alloc (.cells #[.int .i64 k, .int .i64 no] 28)).cell? ⟨w.heap.size, 1, none⟩ = some (.int .i64 0) := HW3.out.c.cell 1
        have aa0 : (w2.alloc (.cells #[.int .i64 k, .int .i64 no] 28)).frozen? ⟨w.heap.size, 0, none⟩ = false := HW3.out.c.frozen 0
        have aa1 : (w2.alloc (.cells #[.int .i64 k, .int .i64 no] 28)).frozen? ⟨w.heap.size, 1, none⟩ = false := HW3.out.c.frozen 1
        have HQ := Lib.hid (HW3.out.fault (.int .i64 k) (.int .i64 no))
        clear he ho hb B3 HR HOK HWB HW3
        go_wp2
        go_region
        go_wp2
        try rw [Exit.noGoto_ret]
        (try simp only [Exit.inBlock, Exit.then])
        refine bodyPost_ret (ret_bc rfl rfl rfl (HQ.out.1.below (below_drew _)) Tryz.underlying28 rfl fault_size) rfl ?_
        exact alle_no HF.out E.out (HQ.out.2.1.drew)
end Go.Proofs.YthhngkoopaolkaaGreatDoor

/- The walk of doc.Parse. -/
namespace Go.Proofs.YthhngkoopaolkaaGreatDoor
open Go.RowKit

namespace LX
theorem lng_len {x : B} {q : Bool} {k : Int} {t : B} {r : Bool} (h : lng x q = (k, t, r)) : t.length ≤ 200 := by
  unfold lng at h
  split at h
  · simp only [Prod.mk.injEq] at h; rw [← h.2.1]; simp
  · simp only [Prod.mk.injEq] at h; rw [← h.2.1]; omega
theorem txt_len (l : B) : (txt l).2.1.length ≤ 200 := by
  cases l with
  | nil => simp [txt]
  | cons c t =>
    have key : ∀ x q, (lng x q).2.1.length ≤ 200 := fun x q => lng_len (k := (lng x q).1) (t := (lng x q).2.1) (r := (lng x q).2.2) rfl
    rw [txt]
    split
    · split
      · simp
      · exact key _ _
    split
    · split
      · simp
      · exact key _ _
    split
    · simp
    · exact key _ _
def Short (ls : List Pc) : Prop := ∀ x ∈ ls, x.2.2.2.1.length ≤ 200
theorem Short.app {a b : List Pc} (h : Short a) (k : Short b) : Short (a ++ b) := fun x hx => (List.mem_append.1 hx).elim (h x) (k x)
theorem Short.one {x : Pc} (h : x.2.2.2.1.length ≤ 200) : Short [x] := fun y hy => by rw [List.mem_singleton.1 hy]; exact h
theorem Short.nil : Short [] := by intro x h; cases h
theorem fin_short {no col : Int} {acc : List Pc} {l : B} (h : Short acc) : Short (fin no col acc l).2 := by
  unfold fin
  split
  · exact h
  split
  · exact h.app (Short.one (txt_len l))
  · exact Short.nil
theorem mid_short {no col : Int} {acc : List Pc} {l : B} (h : Short acc) : Short (mid no col acc l).2 := by
  unfold mid
  split
  · exact fin_short h
  split
  · exact Short.nil
  · exact fin_short (h.app (Short.one (by simp only [List.length_take]; omega)))
theorem go_short {no col : Int} : ∀ {n : Nat} {acc : List Pc} {l : B}, Short acc → Short (go no col n acc l).2
  | 0, _, _, h => mid_short h
  | n + 1, acc, l, h => by
    rw [go]
    split
    · exact go_short (h.app (Short.one (by simp)))
    · exact mid_short h
theorem row_short (l : Lz) : Short (row l).2 := by
  unfold row
  split
  · exact Short.nil
  · exact go_short Short.nil
theorem all_short : ∀ ls : List Lz, Short (all ls).1.2
  | [] => Short.nil
  | l :: ls => by
    rw [all]
    split
    · simp only
      split
      · exact (row_short l).app (all_short ls)
      · exact Short.nil
    · exact Short.nil
end LX
namespace DC
def told (o : Out (List Nd)) : List Nd := match o with
  | .ok a => a
  | .bad _ _ => []
def wrong (o : Out (List Nd)) : Int × Int := match o with
  | .ok _ => (0, 0)
  | .bad k n => (k, n)
end DC
namespace DC
theorem rows_sum (l : LX.B) : ((LN.rows l).map List.length).sum ≤ l.length := by
  induction l with
  | nil => simp [LN.rows]
  | cons c l ih =>
    rw [LN.rows]
    split
    · simp only [List.map_cons, List.sum_cons, List.length_nil, List.length_cons]; omega
    · obtain ⟨h, t, e⟩ := LN.rows_ne l
      rw [e] at ih ⊢
      simp only [List.map_cons, List.sum_cons, List.length_cons] at ih ⊢
      omega
theorem lns_wt : ∀ (n : Nat) (rs : List LX.B), LX.wt ((LN.lns n rs).map zl) ≤ (rs.map List.length).sum
  | _, [] => Nat.le_refl 0
  | n, r :: rs => by
    have ih := lns_wt (n + 1) rs
    rw [LN.lns]
    split
    · simp only [List.map_cons, List.sum_cons]; omega
    · rw [List.map_cons, LX.wt_cons]
      simp only [List.map_cons, List.sum_cons]
      have h1 : (LN.said r).length ≤ r.length := by
        unfold LN.said
        cases hs : LN.strip (LN.tl r) with
        | none => simp
        | some s =>
          have h2 := (LN.strip_again hs).2.1
          have h3 := tl_le r
          simp only [Option.getD_some]
          omega
      show (LN.said r).length + _ ≤ _
      omega
theorem outL_wt (l : LX.B) : LX.wt ((LN.outL l).map zl) ≤ l.length := by
  unfold LN.outL
  split
  · exact Nat.le_trans (lns_wt _ _) (rows_sum l)
  · exact Nat.zero_le _
theorem outF_small {l : LX.B} (h : (LN.outF l).1 = 0) : l.length ≤ 16384 := by
  unfold LN.outF at h
  split at h
  · cases h
  · omega
theorem outL_text {l : LX.B} (h : (LN.outF l).1 = 0) : ∀ x ∈ (LN.outL l).map zl, x.2.2.length ≤ 17000 := by
  intro x hx
  obtain ⟨y, hy, rfl⟩ := List.mem_map.1 hx
  have h1 := outF_small h
  have := (outL_le hy h1).2
  show y.2.2.length ≤ 17000
  omega
end DC
/-- What Parse answers, at its end. -/
def ParE (w : World) (o : DC.Out (List DC.Nd)) (e : Ending) (w' : World) : Prop :=
  Below w.heap.size w w' ∧ ∃ v, e = .returned (.tuple #[.agg #[v], .agg #[.int .i64 (DC.wrong o).1, .int .i64 (DC.wrong o).2]]) ∧ Rdoc w' v (DC.told o)
theorem Ownn.rdz {w : World} {base : Nat} {v : Value} {ls : List LN.Ln} (h : Ownn w base v ls) : Rdz w v (ls.map DC.zl) := by
  obtain ⟨ao, cap, e, h1, h2, h3, h4⟩ := h.rd
  refine ⟨ao, cap, by rw [List.length_map]; exact e, by rw [List.length_map]; exact h1, h2, h3, fun j x hx => ?_⟩
  rw [List.getElem?_map] at hx
  obtain ⟨y, hy, rfl⟩ := Option.map_eq_some_iff.1 hx
  obtain ⟨b, off, e1, c⟩ := h4 j y hy
  exact ⟨b, off, e1, c.c0, c.c1, c.c2⟩
/-- Where Parse stands: its results' cells, its fault's. -/
structure PaS (w wr : World) (x y z f g : Value) : Prop where
  dd : DoD w wr x y z
  fl : Str wr (w.heap.size + 2) 28 #[f, g]
theorem parse_ret {tmps : Array Value} {w : World} {p q : Nat} {x y z : Value} (hp : tmps.getD 2 undef = .pointer (some ⟨p, 0, none⟩)) (hq : tmps.getD 3 undef = .pointer (some ⟨q, 0, none⟩)) (h1 : Str w p 26 #[x]) (h2 : Str w q 28 #[y, z]) :
    (results Tryz.f7 tmps).run Tryz.prog w = .ok (.tuple #[.agg #[x], .agg #[y, z]]) w := by
  have hs' : w.heap[q]? = some (.cells #[y, z] 28 (0, 0)) := h2
  have hs1 : w.heap[p]? = some (.cells #[x] 26 (0, 0)) := h1
  have l2 := run_loadVar_row (P := Tryz.prog) w q 28 28 #[y, z] (0, 0) _ hs' Tryz.underlying28 rfl fault_size
  have l1 := run_loadVar_row (P := Tryz.prog) w p 26 26 #[x] (0, 0) _ hs1 Tryz.underlying26 rfl doc_size
  have hp' : (asAddr (tmps.getD 2 undef)).run Tryz.prog w = .ok ⟨p, 0, none⟩ w := by rw [hp]; simp [asAddr]
  have hq' : (asAddr (tmps.getD 3 undef)).run Tryz.prog w = .ok ⟨q, 0, none⟩ w := by rw [hq]; simp [asAddr]
  simp only [Array.getD_eq_getD_getElem?] at hp' hq'
  simp only [results, Tryz.results7]
  simp [Sem.run_bind, Result.andThen, hp', hq', l1, l2]
theorem pars_start (w : World) : DoD w ((w.alloc (.cells #[.slice none 0 0] 26)).alloc (.cells #[.int .i64 0, .int .i64 0] 28)) (.slice none 0 0) (.int .i64 0) (.int .i64 0) := by
  have b1 := below_alloc w (.cells #[.slice none 0 0] 26)
  have b2 := below_alloc (w.alloc (.cells #[.slice none 0 0] 26)) (.cells #[.int .i64 0, .int .i64 0] 28)
  have s2 := Str.new (w.alloc (.cells #[.slice none 0 0] 26)) 28 #[.int .i64 0, .int .i64 0]
  rw [bx_size] at s2
  exact ⟨below_trans b1 b2, (Str.new w 26 #[.slice none 0 0]).below b2, s2⟩
theorem DoD.calm {w wr w' : World} {x y z : Value} (h : DoD w wr x y z) (hb : Below wr.heap.size wr w') : DoD w w' x y z := ⟨below_trans h.bl hb, h.b.below hb, h.c.below hb⟩

/-- Another fault's variable turns. -/
theorem DoD.turn {w wr : World} {x y z f g : Value} {q : Nat} (h : DoD w wr x y z) (_hf : Str wr q 28 #[f, g]) (hq : w.heap.size + 2 ≤ q) (f' g' : Value) :
    DoD w ((wr.setCell ⟨q, 0, none⟩ f').setCell ⟨q, 1, none⟩ g') x y z ∧ Kb wr ((wr.setCell ⟨q, 0, none⟩ f').setCell ⟨q, 1, none⟩ g') (some q) none := by
  have kb := (Kb.set wr q 0 f' none).trans (Kb.set _ q 1 g' none)
  refine ⟨⟨h.bl.trans (kb.below h.bl.size (fun g hg => by have := Option.some.inj hg; omega) (by simp)), h.b.kb kb (by simp; omega) (by simp), h.c.kb kb (by simp; omega) (by simp)⟩, kb⟩
set_option maxRecDepth 10000 in
set_option maxHeartbeats 8000000 in
theorem parse_any (v : Value) (bs : List UInt8) (w : World) (hr : Rdv w v (bv bs)) (hm : MaxIs w) :
    Calls Tryz.prog 7 #[v] w (ParE w (DC.parse bs)) := by
  have HD0 := Lib.hid (pars_start w)
  have HLI := Lib.hid (lines_any v bs _ (hr.below HD0.out.bl) (hm.below HD0.out.bl))
  have HM := Lib.hid hm
  obtain ⟨A, HA⟩ : ∃ A, Hid (A = DC.parse bs) := ⟨_, Lib.hid rfl⟩
  rw [show DC.parse bs = A from HA.out.symm]
  obtain ⟨K, hK⟩ : ∃ K, (LN.outF bs).1 = K := ⟨_, rfl⟩
  obtain ⟨L, hL⟩ : ∃ L, (LN.outF bs).2 = L := ⟨_, rfl⟩
  have HK := Lib.hid hK
  have HL := Lib.hid hL
  obtain ⟨ls, hls⟩ : ∃ ls, LN.outL bs = ls := ⟨_, rfl⟩
  have HLS := Lib.hid hls
  have HLO := Lib.hid (fun (u : World) (e : Ending) (w' : World) (h : LinE u bs e w') => (show ∃ x, e = .returned (.tuple #[x, .agg #[.int .i64 (K : Int), .int .i64 (L : Int)]]) ∧ Ownn w' u.heap.size x ls ∧ Below u.heap.size u w' by rw [← hK, ← hL, ← hls]; exact h))
  clear hr hm hK hL hls
  go_enter Tryz.func7, Tryz.ntmps7
  go_wp2_with fail
  refine HLI.out.mono ?_
  rintro e w1 he
  obtain ⟨x, rfl, ho, hb⟩ := HLO.out _ _ _ he
  clear he
  obtain ⟨q, hq⟩ : ∃ q, w1.heap.size = q := ⟨_, rfl⟩
  have BX := below_alloc w1 (.cells #[.int .i64 (K : Int), .int .i64 (L : Int)] 28)
  have HD1 := Lib.hid ((HD0.out.calm hb).calm BX)
  have HF1 : Hid (Str (w1.alloc (.cells #[.int .i64 (K : Int), .int .i64 (L : Int)] 28)) q 28 #[.int .i64 (K : Int), .int .i64 (L : Int)]) := by
    rw [← hq]; exact Lib.hid (Str.new w1 _ _)
  have HZ1 := Lib.hid ((ho.below BX).rdz)
  have HM1 := Lib.hid (HM.out.below HD1.out.bl)
  have HQ2 : Hid (w.heap.size + 2 ≤ q) := by
    show _ ≤ _
    have := (HD0.out.calm hb).c.lt
    omega
  clear ho hb BX HLI HLO HD0
  by_cases hk : K = 0
  · have E0 := Lib.hid (show A = if (LX.all (ls.map DC.zl)).1.1 ≠ 0 then .bad (LX.all (ls.map DC.zl)).1.1 (LX.all (ls.map DC.zl)).2 else DC.doc (LX.all (ls.map DC.zl)).1.2 by rw [HA.out, DC.parse, if_neg (by rw [HK.out]; simpa using hk), HLS.out])
    have h0 : (K : Int) = 0 := by omega
    have hK0 : (LN.outF bs).1 = 0 := by rw [HK.out]; exact hk
    have HALL := Lib.hid (lall_any x (ls.map DC.zl) _ HZ1.out (by rw [← HLS.out]; exact DC.outL_text hK0) (by rw [← HLS.out]; exact Nat.le_trans (DC.outL_wt bs) (by have := DC.outF_small hK0; omega)) HM1.out)
    have HSH := Lib.hid (LX.all_short (ls.map DC.zl))
    obtain ⟨a, ha⟩ : ∃ a, (LX.all (ls.map DC.zl)).1.1 = a := ⟨_, rfl⟩
    obtain ⟨b, hb⟩ : ∃ b, (LX.all (ls.map DC.zl)).2 = b := ⟨_, rfl⟩
    obtain ⟨PP, hP⟩ : ∃ PP, (LX.all (ls.map DC.zl)).1.2 = PP := ⟨_, rfl⟩
    have HAO := Lib.hid (fun (u : World) (e : Ending) (w' : World) (h : AllE u (ls.map DC.zl) e w') => (show ∃ v3, e = .returned (.tuple #[v3, .agg #[.int .i64 a, .int .i64 b]]) ∧ Ownp w' u.heap.size v3 PP ∧ Below u.heap.size u w' by
      obtain ⟨h1, v3, h2, h3⟩ := h
      rw [ha, hb] at h2
      rw [hP] at h3
      exact ⟨v3, h2, h3, h1⟩))
    rw [ha, hb, hP] at E0
    rw [hP] at HSH
    clear ha hb hP hK0 hk HLS HK HL HA HZ1
    simp only [h0] at HD1 HF1 HM1 HALL ⊢
    clear h0
    have hzz : ((0 : Int) != 0) = false := rfl
    go_upto_region 2 with (rw [hq])
    generalize w1.alloc (.cells #[.int .i64 0, .int .i64 (L : Int)] 28) = w2 at *
    have r0 : w2.cell? ⟨q, 0, none⟩ = some (.int .i64 0) := HF1.out.cell 0
    have ARM : True := trivial
    by_cases ha : a = 0
    · subst ha
      have E := Lib.hid (show A = DC.doc PP by rw [E0.out, if_neg (by simp)])
      clear E0 ARM
      go_upto_region 7 with (go_at_call 19; refine HALL.out.mono ?_; rintro e w3 he; obtain ⟨v3, rfl, ho3, hb3⟩ := HAO.out _ _ _ he; have HP3 := Lib.hid ho3; have HB3 := Lib.hid hb3; have HD3 := Lib.hid (HD1.out.calm hb3); have HF3 := Lib.hid (HF1.out.below hb3); have s0 : w3.cell? ⟨q, 0, none⟩ = some (.int .i64 0) := HF3.out.cell 0; have s1 : w3.cell? ⟨q, 1, none⟩ = some (.int .i64 (L : Int)) := HF3.out.cell 1; have sf0 := HF3.out.frozen 0; have sf1 := HF3.out.frozen 1; clear he ho3 hb3)
      have HF4 := Lib.hid (HF3.out.two' (.int .i64 0) (.int .i64 b))
      have hd4 := HD3.out.turn HF3.out HQ2.out (.int .i64 0) (.int .i64 b)
      have HD4 := Lib.hid hd4.1
      have HP4 := Lib.hid (HP3.out.kb hd4.2 (HP3.out.off HF3.out (by decide)) no_or)
      clear hd4
      generalize World.setCell (World.setCell _ _ _) _ _ = w4 at *
      clear s0 s1 sf0 sf1 r0
      have HOF := Lib.hid (of_any v3 PP w4 HP4.out.rd (fun x hx => by have := HSH.out x hx; omega))
      go_wp2_with fail
      refine HOF.out.mono ?_
      rintro e w5 ⟨hb5, v5, S5, rfl, hn5⟩
      have HD5 := Lib.hid (HD4.out.calm hb5)
      obtain ⟨a5, c5, rfl⟩ := hn5.slice
      obtain ⟨F, hFF⟩ : ∃ F, (DC.fault PP).1 = F := ⟨_, rfl⟩
      obtain ⟨G, hGG⟩ : ∃ G, (DC.fault PP).2 = G := ⟨_, rfl⟩
      have hz := HD5.out.laid (.slice a5 (DC.nodes PP).length c5) (.int .i64 F) (.int .i64 G)
      have d0 : w5.cell? ⟨w.heap.size, 0, none⟩ = some (.slice none 0 0) := HD5.out.b.cell 0
      have df := HD5.out.b.frozen 0
      have sc : Str (w5.setCell ⟨w.heap.size, 0, none⟩ (.slice a5 (DC.nodes PP).length c5)) (w.heap.size + 1) 28 #[.int .i64 0, .int .i64 0] := HD5.out.c.kb (Kb.set w5 w.heap.size 0 _ none) (by simp) (by simp)
      have c0 : (w5.setCell ⟨w.heap.size, 0, none⟩ (.slice a5 (DC.nodes PP).length c5)).cell? ⟨w.heap.size + 1, 0, none⟩ = some (.int .i64 0) := sc.cell 0
      have c1 : (w5.setCell ⟨w.heap.size, 0, none⟩ (.slice a5 (DC.nodes PP).length c5)).cell? ⟨w.heap.size + 1, 1, none⟩ = some (.int .i64 0) := sc.cell 1
      have cf0 := sc.frozen 0
      have cf1 := sc.frozen 1
      have HR5 := Lib.hid (hn5.kb hz.2 (Far.str HD5.out.b (by decide) (by decide)) (Far.str HD5.out.c (by decide) (by decide)) (hn5.off HD5.out.b (by decide)) (hn5.off HD5.out.c (by decide))).rd
      have HZ := Lib.hid hz.1
      have HFG := Lib.hid (And.intro hFF hGG)
      rw [hFF, hGG]
      obtain ⟨NL, hNL⟩ : ∃ NL, (DC.nodes PP).length = NL := ⟨_, rfl⟩
      rw [hNL] at HZ HR5 c0 c1 cf0 cf1 ⊢
      clear hb5 hn5 hz sc hFF hGG hNL
      go_wp2
      try rw [Exit.noGoto_ret]
      (try simp only [Exit.inBlock, Exit.then])
      refine bodyPost_ret (parse_ret rfl rfl HZ.out.b HZ.out.c) rfl ?_
      rw [E.out]
      refine ⟨HZ.out.bl, _, ?_, HR5.out⟩
      obtain ⟨h1, h2⟩ := HFG.out
      rw [← h1, ← h2]
      unfold DC.fault DC.wrong
      cases DC.doc PP <;> rfl
    · have E := Lib.hid (show A = .bad a b by rw [E0.out, if_pos ha])
      have hab : (a != 0) = true := by simpa using ha
      clear E0 ARM
      go_upto_region 6 with (go_at_call 19; refine HALL.out.mono ?_; rintro e w3 he; obtain ⟨v3, rfl, ho3, hb3⟩ := HAO.out _ _ _ he; have HP3 := Lib.hid ho3; have HB3 := Lib.hid hb3; have HD3 := Lib.hid (HD1.out.calm hb3); have HF3 := Lib.hid (HF1.out.below hb3); have s0 : w3.cell? ⟨q, 0, none⟩ = some (.int .i64 0) := HF3.out.cell 0; have s1 : w3.cell? ⟨q, 1, none⟩ = some (.int .i64 (L : Int)) := HF3.out.cell 1; have sf0 := HF3.out.frozen 0; have sf1 := HF3.out.frozen 1; clear he ho3 hb3)
      have HF4 := Lib.hid (HF3.out.two' (.int .i64 a) (.int .i64 b))
      have HD4 := Lib.hid (HD3.out.turn HF3.out HQ2.out (.int .i64 a) (.int .i64 b)).1
      generalize World.setCell (World.setCell _ _ _) _ _ = w4 at *
      clear s0 s1 sf0 sf1 r0
      have HQ := Lib.hid (HD4.out.laid (.slice none 0 0) (.int .i64 a) (.int .i64 b))
      have r0 : w4.cell? ⟨q, 0, none⟩ = some (.int .i64 a) := HF4.out.cell 0
      have r1 : w4.cell? ⟨q, 1, none⟩ = some (.int .i64 b) := HF4.out.cell 1
      have d0 : w4.cell? ⟨w.heap.size, 0, none⟩ = some (.slice none 0 0) := HD4.out.b.cell 0
      have df := HD4.out.b.frozen 0
      have c0 : w4.cell? ⟨w.heap.size + 1, 0, none⟩ = some (.int .i64 0) := HD4.out.c.cell 0
      have c1 : w4.cell? ⟨w.heap.size + 1, 1, none⟩ = some (.int .i64 0) := HD4.out.c.cell 1
      have cf0 := HD4.out.c.frozen 0
      have cf1 := HD4.out.c.frozen 1
      have kb := Kb.set w4 w.heap.size 0 (.slice none 0 0) none
      have hqd : q ≠ w.heap.size := HF4.out.apart_str HD4.out.b (by decide)
      have S1 := HF4.out.kb kb (fun e => hqd (Option.some.inj e)) (by simp)
      have S2 : Str (w4.setCell ⟨w.heap.size, 0, none⟩ (.slice none 0 0)) (w.heap.size + 1) 28 #[.int .i64 0, .int .i64 0] := HD4.out.c.kb kb (by simp) (by simp)
      have r0' : (w4.setCell ⟨w.heap.size, 0, none⟩ (.slice none 0 0)).cell? ⟨q, 0, none⟩ = some (.int .i64 a) := S1.cell 0
      have r1' : (w4.setCell ⟨w.heap.size, 0, none⟩ (.slice none 0 0)).cell? ⟨q, 1, none⟩ = some (.int .i64 b) := S1.cell 1
      have c0' : (w4.setCell ⟨w.heap.size, 0, none⟩ (.slice none 0 0)).cell? ⟨w.heap.size + 1, 0, none⟩ = some (.int .i64 0) := S2.cell 0
      have c1' : (w4.setCell ⟨w.heap.size, 0, none⟩ (.slice none 0 0)).cell? ⟨w.heap.size + 1, 1, none⟩ = some (.int .i64 0) := S2.cell 1
      have cf0' := S2.frozen 0
      have cf1' := S2.frozen 1
      clear kb S1 S2 hqd
      go_wp2
      go_region
      go_wp2
      try rw [Exit.noGoto_ret]
      (try simp only [Exit.inBlock, Exit.then])
      refine bodyPost_ret (parse_ret rfl rfl (HQ.out.1.b.below (below_drew _)) (HQ.out.1.c.below (below_drew _))) rfl ?_
      rw [E.out]
      exact ⟨below_trans HQ.out.1.bl (below_drew _), _, rfl, Rdoc.nil _⟩
  · have E := Lib.hid (show A = .bad (K : Int) (L : Int) by rw [HA.out, DC.parse, if_pos (by rw [HK.out]; exact hk), HK.out, HL.out])
    have hkb : ((K : Int) != 0) = true := by simp; omega
    go_upto_region 2 with (rw [hq])
    generalize w1.alloc (.cells #[.int .i64 (K : Int), .int .i64 (L : Int)] 28) = w2 at *
    have HQ := Lib.hid (HD1.out.laid (.slice none 0 0) (.int .i64 (K : Int)) (.int .i64 (L : Int)))
    have r0 : w2.cell? ⟨q, 0, none⟩ = some (.int .i64 (K : Int)) := HF1.out.cell 0
    have r1 : w2.cell? ⟨q, 1, none⟩ = some (.int .i64 (L : Int)) := HF1.out.cell 1
    have d0 : w2.cell? ⟨w.heap.size, 0, none⟩ = some (.slice none 0 0) := HD1.out.b.cell 0
    have df := HD1.out.b.frozen 0
    have c0 : w2.cell? ⟨w.heap.size + 1, 0, none⟩ = some (.int .i64 0) := HD1.out.c.cell 0
    have c1 : w2.cell? ⟨w.heap.size + 1, 1, none⟩ = some (.int .i64 0) := HD1.out.c.cell 1
    have cf0 := HD1.out.c.frozen 0
    have cf1 := HD1.out.c.frozen 1
    have kb := Kb.set w2 w.heap.size 0 (.slice none 0 0) none
    have hqd : q ≠ w.heap.size := HF1.out.apart_str HD1.out.b (by decide)
    have S1 := HF1.out.kb kb (fun e => hqd (Option.some.inj e)) (by simp)
    have S2 : Str (w2.setCell ⟨w.heap.size, 0, none⟩ (.slice none 0 0)) (w.heap.size + 1) 28 #[.int .i64 0, .int .i64 0] := HD1.out.c.kb kb (by simp) (by simp)
    have r0' : (w2.setCell ⟨w.heap.size, 0, none⟩ (.slice none 0 0)).cell? ⟨q, 0, none⟩ = some (.int .i64 (K : Int)) := S1.cell 0
    have r1' : (w2.setCell ⟨w.heap.size, 0, none⟩ (.slice none 0 0)).cell? ⟨q, 1, none⟩ = some (.int .i64 (L : Int)) := S1.cell 1
    have c0' : (w2.setCell ⟨w.heap.size, 0, none⟩ (.slice none 0 0)).cell? ⟨w.heap.size + 1, 0, none⟩ = some (.int .i64 0) := S2.cell 0
    have c1' : (w2.setCell ⟨w.heap.size, 0, none⟩ (.slice none 0 0)).cell? ⟨w.heap.size + 1, 1, none⟩ = some (.int .i64 0) := S2.cell 1
    have cf0' := S2.frozen 0
    have cf1' := S2.frozen 1
    clear kb S1 S2 hqd
    go_wp2
    go_region
    go_wp2
    try rw [Exit.noGoto_ret]
    (try simp only [Exit.inBlock, Exit.then])
    refine bodyPost_ret (parse_ret rfl rfl (HQ.out.1.b.below (below_drew _)) (HQ.out.1.c.below (below_drew _))) rfl ?_
    rw [E.out]
    exact ⟨below_trans HQ.out.1.bl (below_drew _), _, rfl, Rdoc.nil _⟩
end Go.Proofs.YthhngkoopaolkaaGreatDoor

/- '==' of faults. -/
namespace Go.Proofs.YthhngkoopaolkaaGreatDoor
open Go.RowKit

theorem fpart0 (x y : Value) (w : World) : (part 3 #[x, y] 0).run Tryz.prog w = .ok x w := by kernel_rfl
theorem fpart1 (x y : Value) (w : World) : (part 3 #[x, y] 1).run Tryz.prog w = .ok y w := by kernel_rfl
theorem llist_beq (a : List UInt8) : ((⟨a.toArray⟩ : ByteArray).toList == (⟨a.toArray⟩ : ByteArray).toList) = true := by simp
theorem fault_under : Tryz.prog.underlying 28 = some (.struct (Tryz.prog.fieldsOf 28)) := by kernel_rfl
theorem fault_held : Tryz.prog.stoodInHeld 28 = false := by kernel_rfl
theorem fault_guard : Tryz.prog.eqGuardType Tryz.prog.depth 28 = false := by kernel_rfl
theorem fault_fields : ∃ f0 f1, (Tryz.prog.fieldsOf 28).toList = [f0, f1] ∧ f0.type = 3 ∧ f1.type = 3 ∧ f0.offset = 0 ∧ f1.offset = 1 ∧ f0.name = "Kind" ∧ f1.name = "Line" := by
  refine ⟨(Tryz.prog.fieldsOf 28).getD 0 default, (Tryz.prog.fieldsOf 28).getD 1 default, ?_, ?_, ?_, ?_, ?_, ?_, ?_⟩ <;> kernel_rfl
theorem eq_fault (a b : Int) (w : World) : (binOp .eql 28 (.agg #[.int .i64 a, .int .i64 b]) (.agg #[.int .i64 a, .int .i64 b])).run Tryz.prog w = .ok (.bool true) w := by
  rw [run_eql_struct, run_equalIn_agg w 9999 _ _ _ fault_under fault_held]
  obtain ⟨f0, f1, hl, t0, t1, o0, o1, n0, n1⟩ := fault_fields
  rw [hl]
  have k0 : f0.name ≠ "_" := by rw [n0]; decide
  have k1 : f1.name ≠ "_" := by rw [n1]; decide
  simp only [Op.eqFields, k0, k1, if_true, ne_eq, not_false_eq_true, t0, t1, o0, o1, Sem.run_bind, fpart0, fpart1, Result.andThen_ok, run_equalIn_int w 9998 _ .i64 _ _ _ Tryz.underlying3, Sem.run_ite, Sem.run_pure]
  simp
end Go.Proofs.YthhngkoopaolkaaGreatDoor

/- What the document fixes of chapter 12: awake. -/
namespace Go.Proofs.YthhngkoopaolkaaGreatDoor
open Go.RowKit

theorem MaxIs.shaped {w : World} (h : w.ShapedOpen Tryz.prog) : MaxIs w := cell_of_shapedOpen_int (zero := #[.int .i64 0]) (t := 3) h (of_decide_eq_true (by kernel_rfl)) (by kernel_rfl) rfl (by kernel_rfl) (by kernel_rfl) Tryz.underlying3

theorem Rdoc.slice {w : World} {v : Value} {ns : List DC.Nd} (h : Rdoc w v ns) : ∃ ao cap, v = .slice ao ns.length cap := by
  obtain ⟨vs, rfl, ⟨ao, cap, e, _⟩, _⟩ := h
  exact ⟨ao, cap, by rw [e]; simp⟩
def awd1 : List UInt8 := [97, 58, 32, 98]
def awd2 : List UInt8 := [97, 58]
def awn : List DC.Nd := [⟨3, 1, [], false, [[97]], [1]⟩, ⟨1, 1, [98], false, [], []⟩]
theorem aw_p1 : DC.parse awd1 = .ok awn := by decide +kernel
theorem aw_p2 : DC.parse awd2 = .bad 10 1 := by decide +kernel
theorem aw_p3 : DC.doc [] = .bad 10 1 := by decide +kernel
theorem aw_par {o : DC.Out (List DC.Nd)} {ns : List DC.Nd} {k n : Int} {m : Nat} (h1 : DC.told o = ns) (h2 : DC.wrong o = (k, n)) (hm : ns.length = m) {w : World} {e : Ending} {w' : World} (h : ParE w o e w') : ∃ ao c, e = .returned (.tuple #[.agg #[.slice ao m c], .agg #[.int .i64 k, .int .i64 n]]) ∧ Rdoc w' (.slice ao m c) ns ∧ Below w.heap.size w w' := by
  obtain ⟨hb, v, he, hr⟩ := h
  rw [h2] at he
  rw [h1] at hr
  obtain ⟨ao, c, rfl⟩ := hr.slice
  rw [hm] at he hr
  exact ⟨ao, c, he, hr, hb⟩
theorem aw_of {w : World} {l : List LX.Pc} {ns : List DC.Nd} {k n : Int} {m : Nat} (h1 : DC.nodes l = ns) (h2 : DC.fault l = (k, n)) (hm : ns.length = m) {e : Ending} {w' : World} (h : OfE w l e w') : ∃ ao c, e = .returned (.tuple #[.agg #[.slice ao m c], .agg #[.int .i64 k, .int .i64 n]]) ∧ Rdoc w' (.slice ao m c) ns ∧ Below w.heap.size w w' := by
  obtain ⟨hb, v, S, he, hr⟩ := h
  rw [h2] at he
  rw [h1] at hr
  obtain ⟨ao, c, rfl⟩ := hr.slice
  rw [hm] at he hr
  exact ⟨ao, c, he, hr.rd, hb⟩
theorem dconv_const {P : Program} (w : World) (t e : TypeId) (C : Array Value) (n c g : Nat) (hg : w.heap.size = g) (ht : P.underlying t = some (.slice e)) (he : P.underlying e = some (.int .u8)) :
    (convert t t (.slice (some ⟨g, 0, none⟩) n c)).run P (w.alloc (.cells C e)) = .ok (.slice (some ⟨g, 0, none⟩) n c) (w.alloc (.cells C e (C.size, C.size + 1))) := by
  subst hg; exact Lib.run_convert_bytes_const w t e C n c ht he
theorem dmark_rd {w : World} {e : TypeId} (bs : List UInt8) (fr : Nat × Nat) (g : Nat) (hg : w.heap.size = g) (hm : bs.length ≤ maxLen) : Rdv (w.alloc (.cells (bv bs).toArray e fr)) (.slice (some ⟨g, 0, none⟩) bs.length bs.length) (bv bs) := by
  subst hg
  refine ⟨some ⟨w.heap.size, 0, none⟩, bs.length, by rw [bv_len], by rw [bv_len]; omega, hm, (by intro h; cases h), fun j u hu => ⟨_, rfl, ?_⟩⟩
  rw [Addr.add_lit]
  have := World.cell?_alloc_mark w (bv bs).toArray e fr (0 + j)
  rw [this]
  simpa using hu
theorem aw_t1 (x : World) (g : Nat) (hg : x.heap.size = g) : Rdv (x.alloc (.cells #[.int .u8 97, .int .u8 58, .int .u8 32, .int .u8 98] 5 (4, 5))) (.slice (some ⟨g, 0, none⟩) 4 4) (bv awd1) := dmark_rd awd1 (4, 5) g hg (by decide)
theorem aw_t2 (x : World) (g : Nat) (hg : x.heap.size = g) : Rdv (x.alloc (.cells #[.int .u8 97, .int .u8 58] 5 (2, 3))) (.slice (some ⟨g, 0, none⟩) 2 2) (bv awd2) := dmark_rd awd2 (2, 3) g hg (by decide)
/-- The document that is written out. -/
theorem aw_doc (x : World) (g : Nat) (hg : x.heap.size = g) : Rdoc (((x.alloc (.cells #[.string ⟨#[97]⟩] 9)).alloc (.cells #[.int .i64 1] 3)).alloc (.cells #[.int .i64 3, .int .i64 1, .string ⟨#[]⟩, .bool false, .slice (some ⟨g, 0, none⟩) 1 1, .slice (some ⟨g + 1, 0, none⟩) 1 1, .int .i64 1, .int .i64 1, .string ⟨#[98]⟩, .bool false, .slice none 0 0, .slice none 0 0] 52)) (.slice (some ⟨g + 1 + 1, 0, none⟩) 2 2) awn := by
  have z1 := bx_size x (.cells #[.string ⟨#[97]⟩] 9)
  have z2 := bx_size (x.alloc (.cells #[.string ⟨#[97]⟩] 9)) (.cells #[.int .i64 1] 3)
  have r1 := one_rd_at (w := x) (e := 9) (.string ⟨#[97]⟩) g hg
  have b2 := below_alloc (x.alloc (.cells #[.string ⟨#[97]⟩] 9)) (.cells #[.int .i64 1] 3)
  have r2 := one_rd_at (w := x.alloc (.cells #[.string ⟨#[97]⟩] 9)) (e := 3) (.int .i64 1) (g + 1) (by omega)
  have b3 := below_alloc ((x.alloc (.cells #[.string ⟨#[97]⟩] 9)).alloc (.cells #[.int .i64 1] 3)) (.cells #[.int .i64 3, .int .i64 1, .string ⟨#[]⟩, .bool false, .slice (some ⟨g, 0, none⟩) 1 1, .slice (some ⟨g + 1, 0, none⟩) 1 1, .int .i64 1, .int .i64 1, .string ⟨#[98]⟩, .bool false, .slice none 0 0, .slice none 0 0] 52)
  have s3 := Str.new ((x.alloc (.cells #[.string ⟨#[97]⟩] 9)).alloc (.cells #[.int .i64 1] 3)) 52 #[.int .i64 3, .int .i64 1, .string ⟨#[]⟩, .bool false, .slice (some ⟨g, 0, none⟩) 1 1, .slice (some ⟨g + 1, 0, none⟩) 1 1, .int .i64 1, .int .i64 1, .string ⟨#[98]⟩, .bool false, .slice none 0 0, .slice none 0 0]
  rw [show ((x.alloc (.cells #[.string ⟨#[97]⟩] 9)).alloc (.cells #[.int .i64 1] 3)).heap.size = g + 1 + 1 by omega] at s3
  refine ⟨[(⟨3, 1, [], false, [[97]], [1]⟩, .slice (some ⟨g, 0, none⟩) 1 1, .slice (some ⟨g + 1, 0, none⟩) 1 1), (⟨1, 1, [98], false, [], []⟩, .slice none 0 0, .slice none 0 0)], rfl, ⟨some ⟨g + 1 + 1, 0, none⟩, 2, rfl, Nat.le_refl _, by decide, (by intro h; cases h), fun j a ha => ⟨g + 1 + 1, 0, rfl, ?_⟩⟩, fun a ha => ?_⟩
  · match j, ha with
    | 0, ha =>
      obtain rfl := Option.some.inj ha
      exact ⟨s3.cell 0, s3.cell 1, s3.cell 2, s3.cell 3, s3.cell 4, s3.cell 5⟩
    | 1, ha =>
      obtain rfl := Option.some.inj ha
      exact ⟨s3.cell 6, s3.cell 7, s3.cell 8, s3.cell 9, s3.cell 10, s3.cell 11⟩
    | j + 2, ha => simp at ha
  · simp only [List.mem_cons, List.not_mem_nil, or_false] at ha
    rcases ha with rfl | rfl
    · exact ⟨(r1.below b2).below b3, r2.below b3⟩
    · exact ⟨Rdv.nil _, Rdv.nil _⟩

/-- Two variables, of a document and of a fault, as they are made. -/
theorem var2 (w : World) : ((w.alloc (.cells #[.slice none 0 0] 26)).alloc (.cells #[.int .i64 0, .int .i64 0] 28)).cell? ⟨w.heap.size, 0, none⟩ = some (.slice none 0 0) ∧ ((w.alloc (.cells #[.slice none 0 0] 26)).alloc (.cells #[.int .i64 0, .int .i64 0] 28)).frozen? ⟨w.heap.size, 0, none⟩ = false := by
  have h := (Str.new w 26 #[.slice none 0 0]).below (below_alloc _ (.cells #[.int .i64 0, .int .i64 0] 28))
  exact ⟨h.cell 0, h.frozen 0⟩
set_option maxRecDepth 10000 in
set_option maxHeartbeats 8000000 in
theorem awake12 (w : World) (hm : MaxIs w) :
    Calls Tryz.prog 6 #[] w fun e w' => e = .returned (.bool true) ∧ Below w.heap.size w w' := by
  have hq1 := eq_fault 0 0
  have hq2 := eq_fault 10 1
  have hg2 := fault_guard
  have HM := Lib.hid hm
  have BL := below_alloc w (.cells #[.int .u8 97, .int .u8 58, .int .u8 32, .int .u8 98] 5 (4, 5))
  have cv1 := dconv_const w 22 5 #[.int .u8 97, .int .u8 58, .int .u8 32, .int .u8 98] 4 4 w.heap.size rfl Tryz.underlying22 Tryz.underlying5
  have HBL := Lib.hid BL
  have H1 := Lib.hid (parse_any _ awd1 _ (aw_t1 w w.heap.size rfl) (hm.below BL))
  clear hm BL
  go_enter Tryz.func6, Tryz.ntmps6
  go_wp2_with fail
  refine H1.out.mono ?_
  rintro e w1 he
  obtain ⟨a1, c1, rfl, r1, b1⟩ := aw_par (ns := awn) (k := 0) (n := 0) (m := 2) (congrArg DC.told aw_p1) (congrArg DC.wrong aw_p1) rfl he
  obtain ⟨z1, z2⟩ := var2 w1
  have C1 := below_alloc w1 (.cells #[.slice a1 2 c1] 26)
  have C2 := below_alloc (w1.alloc (.cells #[.slice a1 2 c1] 26)) (.cells #[.int .i64 0, .int .i64 0] 28)
  have C3 := below_alloc ((w1.alloc (.cells #[.slice a1 2 c1] 26)).alloc (.cells #[.int .i64 0, .int .i64 0] 28)) (.cells #[.int .u8 97, .int .u8 58] 5 (2, 3))
  have zz : ((w1.alloc (.cells #[.slice a1 2 c1] 26)).alloc (.cells #[.int .i64 0, .int .i64 0] 28)).heap.size = w1.heap.size + 1 + 1 := by rw [bx_size, bx_size]
  have cv2 := dconv_const ((w1.alloc (.cells #[.slice a1 2 c1] 26)).alloc (.cells #[.int .i64 0, .int .i64 0] 28)) 22 5 #[.int .u8 97, .int .u8 58] 2 2 (w1.heap.size + 1 + 1) zz Tryz.underlying22 Tryz.underlying5
  have S1 := (Str.new w1 26 #[.slice a1 2 c1]).below C2
  have S2 := Str.new (w1.alloc (.cells #[.slice a1 2 c1] 26)) 28 #[.int .i64 0, .int .i64 0]
  rw [bx_size] at S2
  have C123 := below_trans C1 (below_trans C2 C3)
  have HB1 := Lib.hid (below_trans (below_trans HBL.out b1) C123)
  have HS1 := Lib.hid (S1.below C3)
  have HF1 := Lib.hid (S2.below C3)
  have HR1 := Lib.hid (r1.below C123)
  have H2 := Lib.hid (parse_any _ awd2 _ (aw_t2 _ (w1.heap.size + 1 + 1) zz) (HM.out.below HB1.out))
  clear he r1 b1 C1 C2 C3 zz S1 S2 C123 H1 HBL cv1
  go_wp2_with fail
  clear z1 z2
  refine H2.out.mono ?_
  rintro e w2 he
  obtain ⟨a2, c2, rfl, r2, b2⟩ := aw_par (ns := []) (k := 10) (n := 1) (m := 0) (congrArg DC.told aw_p2) (congrArg DC.wrong aw_p2) rfl he
  obtain ⟨z1, z2⟩ := var2 w2
  have C1 := below_alloc w2 (.cells #[.slice a2 0 c2] 26)
  have C2 := below_alloc (w2.alloc (.cells #[.slice a2 0 c2] 26)) (.cells #[.int .i64 10, .int .i64 1] 28)
  have S2 := Str.new (w2.alloc (.cells #[.slice a2 0 c2] 26)) 28 #[.int .i64 10, .int .i64 1]
  rw [bx_size] at S2
  have C12 := below_trans (below_trans b2 C1) C2
  have HB2 := Lib.hid (below_trans HB1.out C12)
  have HS2 := Lib.hid (HS1.out.below C12)
  have HF2 := Lib.hid (HF1.out.below C12)
  have HG2 := Lib.hid S2
  have HR2 := Lib.hid (HR1.out.below C12)
  have H3 := Lib.hid (of_any (.slice none 0 0) [] _ (Rdp.nil ((w2.alloc (.cells #[.slice a2 0 c2] 26)).alloc (.cells #[.int .i64 10, .int .i64 1] 28))) (by intro x hx; cases hx))
  clear he r2 b2 C1 C2 S2 C12 H2 HB1 HS1 HF1 HR1 cv2
  go_wp2_with fail
  clear z1 z2
  refine H3.out.mono ?_
  rintro e w3 he
  obtain ⟨a3, c3, rfl, r3, b3⟩ := aw_of (ns := []) (k := 10) (n := 1) (m := 0) (by unfold DC.nodes; rw [aw_p3]) (by unfold DC.fault; rw [aw_p3]) rfl he
  obtain ⟨z1, z2⟩ := var2 w3
  have C1 := below_alloc w3 (.cells #[.slice a3 0 c3] 26)
  have C2 := below_alloc (w3.alloc (.cells #[.slice a3 0 c3] 26)) (.cells #[.int .i64 10, .int .i64 1] 28)
  have S2 := Str.new (w3.alloc (.cells #[.slice a3 0 c3] 26)) 28 #[.int .i64 10, .int .i64 1]
  rw [bx_size] at S2
  have zz : ((w3.alloc (.cells #[.slice a3 0 c3] 26)).alloc (.cells #[.int .i64 10, .int .i64 1] 28)).heap.size = w3.heap.size + 1 + 1 := by rw [bx_size, bx_size]
  have C12 := below_trans (below_trans b3 C1) C2
  have HB3 := Lib.hid (below_trans HB2.out C12)
  have HS3 := Lib.hid (HS2.out.below C12)
  have HF3 := Lib.hid (HF2.out.below C12)
  have HG3 := Lib.hid (HG2.out.below C12)
  have HH3 := Lib.hid S2
  have HR3 := Lib.hid (HR2.out.below C12)
  have HZ := Lib.hid zz
  obtain ⟨f0, f1⟩ := HF3.out.cells2
  have s0 := HS3.out.cell 0
  simp only [List.getElem?_toArray, List.getElem?_cons_zero] at s0
  have D1 := below_alloc ((w3.alloc (.cells #[.slice a3 0 c3] 26)).alloc (.cells #[.int .i64 10, .int .i64 1] 28)) (.cells #[.string ⟨#[97]⟩] 9)
  have D2 := below_trans D1 (below_alloc _ (.cells #[.int .i64 1] 3))
  have D3 := below_trans D2 (below_alloc _ (.cells #[.int .i64 3, .int .i64 1, .string ⟨#[]⟩, .bool false, .slice (some ⟨w3.heap.size + 1 + 1, 0, none⟩) 1 1, .slice (some ⟨w3.heap.size + 1 + 1 + 1, 0, none⟩) 1 1, .int .i64 1, .int .i64 1, .string ⟨#[98]⟩, .bool false, .slice none 0 0, .slice none 0 0] 52))
  have HAL := Lib.hid (dalike_any _ _ awn _ (HR3.out.below D3) (aw_doc _ (w3.heap.size + 1 + 1) zz) (by decide))
  have HB4 := Lib.hid (below_trans HB3.out D3)
  have HG4 := Lib.hid (HG3.out.below D3)
  have HH4 := Lib.hid (HH3.out.below D3)
  clear he r3 b3 C1 C2 S2 C12 H3 HB2 HS2 HF2 HG2 HR2 zz D1 D2 D3 HB3 HS3 HF3 HG3 HH3 HR3 HZ
  go_wp2_with fail
  refine HAL.out.mono ?_
  rintro e w4 ⟨rfl, b4⟩
  have HB5 := Lib.hid (below_trans HB4.out b4)
  obtain ⟨g0, g1⟩ := (HG4.out.below b4).cells2
  obtain ⟨k0, k1⟩ := (HH4.out.below b4).cells2
  clear b4 HB4 HG4 HH4 HAL f0 f1 s0
  go_wp2
  go_ret
  exact ret_b rfl HB5.out
end Go.Proofs.YthhngkoopaolkaaGreatDoor

/- A text's bytes; what Parse told, laid in two variables. -/
namespace Go.Proofs.YthhngkoopaolkaaGreatDoor
open Go.RowKit

/-- '[]byte(s)': what it reads as. -/
theorem conv_text (l : List UInt8) (hl : l.length ≤ 9223372036854775807) (w : World) : ∃ (W : World) (v : Value), (convert 9 22 (.string ⟨l.toArray⟩)).run Tryz.prog w = .ok v W ∧ Below w.heap.size w W ∧ Rdv W v (bv l) := by
  have h := Lib.run_convert_string_bytes (P := Tryz.prog) w 9 22 5 ⟨l.toArray⟩ (u := .string) Tryz.underlying9 Tryz.underlying22 Tryz.underlying5
  rw [str_size] at h
  refine ⟨_, _, h, ⟨rfl, rfl, rfl, ?_, ?_⟩, ?_⟩
  · rw [Lib.bytesWorld_size]; omega
  · intro j hj
    exact Lib.bytesWorld_at_old _ _ _ _ hj
  · refine ⟨some ⟨w.heap.size, 0, none⟩, _, by rw [bv_len], by rw [bv_len]; exact grownCap_ge _ _ _ _, grownCap_le_maxLen _ _ _ _ (by unfold maxLen; omega), (by intro h; cases h), fun j u hu => ⟨_, rfl, ?_⟩⟩
    rw [Addr.add_lit, Nat.zero_add]
    have hj : j < l.length := by
      have := (List.getElem?_eq_some_iff.1 hu).1
      rwa [bv_len] at this
    rw [bv_get hj] at hu
    have := Lib.bytesWorld_cell w 5 ⟨l.toArray⟩ j (by rw [str_size]; exact hj)
    rw [this, ← hu]
    simp [List.getD, hj]
/-- What Parse told, laid in two variables. -/
theorem two_vars (w : World) (x f g : Value) : Str ((w.alloc (.cells #[x] 26)).alloc (.cells #[f, g] 28)) w.heap.size 26 #[x] ∧ Str ((w.alloc (.cells #[x] 26)).alloc (.cells #[f, g] 28)) (w.heap.size + 1) 28 #[f, g] ∧ Below w.heap.size w ((w.alloc (.cells #[x] 26)).alloc (.cells #[f, g] 28)) := by
  have b1 := below_alloc w (.cells #[x] 26)
  have b2 := below_alloc (w.alloc (.cells #[x] 26)) (.cells #[f, g] 28)
  have s2 := Str.new (w.alloc (.cells #[x] 26)) 28 #[f, g]
  rw [bx_size] at s2
  exact ⟨(Str.new w 26 #[x]).below b2, s2, below_trans b1 b2⟩
end Go.Proofs.YthhngkoopaolkaaGreatDoor

/- The walk of the document's own block where its first piece is none of a block's. -/
namespace Go.Proofs.YthhngkoopaolkaaGreatDoor
open Go.RowKit

theorem nk_no {k : Int} (h : DC.nk k = 0) : ¬ k = 3 ∧ ¬ k = 1 ∧ ¬ k = 2 := by
  refine ⟨?_, ?_, ?_⟩ <;> rintro rfl <;> exact absurd h (by decide)

set_option maxRecDepth 10000 in
set_option maxHeartbeats 16000000 in
theorem rblock0_any {f : Nat} (hb : ∀ f', f' < f → RbC f') (w0 w : World) (p : Nat) (lv nv : Value) (L : List LX.Pc) (t : Nat) (ns : List DC.Nd) (S : Nat → Prop) (d : Nat) (x : LX.Pc) (hx : L[t]? = some x) (hdr : L.drop t = x :: L.drop (t + 1)) (hk0 : DC.nk x.1 = 0) (h : Rst w0 w p lv L t nv ns 0 0 S) (ht : t < L.length) (hL : L.length ≤ 1000000) (hf : 2 * (L.drop t).length + 2 ≤ f + 1) (hN : ns.length ≤ 2000) (hd : d ≤ 25) :
    Calls Tryz.prog 48 #[.pointer (some ⟨p, 0, none⟩), .int .i64 (d : Int)] w (RbE w0 w p lv L nv ns S (DC.blk (f + 1) d ns.length (L.drop t))) := by
  obtain ⟨A, HF⟩ : ∃ A, Hid (A = DC.blk (f + 1) d ns.length (L.drop t)) := ⟨_, Lib.hid rfl⟩
  rw [show DC.blk (f + 1) d ns.length (L.drop t) = A from HF.out.symm]
  have HDR := Lib.hid hdr
  have HS := Lib.hid (TbS.start h x)
  have HSB := Lib.hid h.sb
  have HB := Lib.hid hb
  have HN := Lib.hid hN
  have HD := Lib.hid hd
  have HF0 := Lib.hid hf
  have HLL := Lib.hid hL
  have HX := Lib.hid hx
  obtain ⟨b, off, cap, rfl, hx5⟩ := h.at hx
  obtain ⟨n, hn⟩ : ∃ n, L.length = n := ⟨_, rfl⟩
  have HLn := Lib.hid hn
  have c0 : w.cell? ⟨p, 0, none⟩ = some (.slice (some ⟨b, off, none⟩) n cap) := by rw [← hn]; exact h.st.cell 0
  have c1 : w.cell? ⟨p, 1, none⟩ = some (.int .i64 (t : Int)) := h.st.cell 1
  obtain ⟨d0, d1, d2, d3, d4⟩ := hx5
  have htn : (t : Int) < (n : Int) := by omega
  have ht0 : (0 : Int) ≤ (t : Int) := by omega
  obtain ⟨xk, xn, xc, xt, xq⟩ := x
  replace hk0 : DC.nk xk = 0 := hk0
  unfold pc at HS
  simp only at HS d0 d1 d2 d3 d4
  rw [hn] at HS
  have a0 := fun o => ((below_alloc w o).cell (cell_lt c0)).trans c0
  have a1 := fun o => ((below_alloc w o).cell (cell_lt c1)).trans c1
  have a2 := fun o => ((below_alloc w o).cell (cell_lt d0)).trans d0
  have a3 := fun o => ((below_alloc w o).cell (cell_lt d1)).trans d1
  have a4 := fun o => ((below_alloc w o).cell (cell_lt d2)).trans d2
  have a5 := fun o => ((below_alloc w o).cell (cell_lt d3)).trans d3
  have a6 := fun o => ((below_alloc w o).cell (cell_lt d4)).trans d4
  rw [hn]
  clear h hx hdr hN hd hf hL hn hb ht
  go_enter Tryz.func48, Tryz.ntmps48
  go_upto_region 1 with fail
  go_cut [5] (fun s5 wx => s5 = .pointer (some ⟨w.heap.size, 0, none⟩) ∧ Hid (TbS w0 w wx p nv (.slice (some ⟨b, off, none⟩) n cap) nv (.slice none 0 0) (.slice none 0 0) (xk, xn, xc, xt, xq) L t ns 0 0 S S [] []))
  case first =>
    go_region
    all_goals (go_wp2_with fail; go_meet; exact ⟨rfl, HS⟩)
  case rest =>
    obtain ⟨rfl, HS1⟩ := hcut
    clear HS a0 a1 a2 a3 a4 a5 a6 c0 c1 d0 d1 d2 d3 d4
    obtain ⟨P, hP⟩ : ∃ P, w.heap.size = P := ⟨_, rfl⟩
    have HP := Lib.hid hP
    simp only [hP]
    have e0 : wc.cell? ⟨P, 0, none⟩ = some (.int .i64 xk) := by rw [← hP]; exact HS1.out.fi.cell 0
    have e1 : wc.cell? ⟨P, 1, none⟩ = some (.int .i64 xn) := by rw [← hP]; exact HS1.out.fi.cell 1
    clear hP
    have HBAD := Lib.hid (fun (k l : Int) (w2 : World) (hAA : A = .bad k l) (hp : Rst w0 w2 p (.slice (some ⟨b, off, none⟩) n cap) L t nv ns k l S) (hk : Kb wc w2 (some p) nv.ownBlock) => (show RbE w0 w p (.slice (some ⟨b, off, none⟩) n cap) L nv ns S A (.returned (.int .i64 0)) w2 by
      have hkk := HS1.out.kb.trans hk
      obtain ⟨m1, m2⟩ := More.ofS HSB.out hkk.size
      rw [hAA]
      exact ⟨0, t, nv, ns, k, l, rfl, hp.mono m1 m2, hkk, Near.refl _ _, rfl, rfl, ⟨[], (List.append_nil _).symm⟩, HN.out⟩))
    have HFA := Lib.hid (fun (k : Int) => rfail_any HS1.out.rs k xn)
    have E := Lib.hid (show A = .bad 6 xn by rw [HF.out, HDR.out, DC.blk_kind hk0])
    obtain ⟨k3, k1, k2⟩ := nk_no hk0
    have b3 : (xk != 3) = true := by simpa using k3
    have b1 : (xk != 1) = true := by simpa using k1
    have b2 : (xk != 2) = true := by simpa using k2
    go_wp2_with (go_at_call 49; refine (HFA.out 6).mono ?_; rintro e w2 ⟨rfl, hp, hk⟩)
    go_ret
    exact HBAD.out 6 xn w2 E.out hp hk
end Go.Proofs.YthhngkoopaolkaaGreatDoor

/- The walk of the document's own block. -/
namespace Go.Proofs.YthhngkoopaolkaaGreatDoor
open Go.RowKit

theorem rblock_any {f : Nat} (hb : ∀ f', f' < f → RbC f') : RbC (f + 1) := by
  intro w0 w p lv nv L t ns S d h ht hL hf hN hd
  obtain ⟨x, hx, hdr⟩ := dropt_at ht
  by_cases hk : DC.nk x.1 = 0
  · exact rblock0_any hb w0 w p lv nv L t ns S d x hx hdr hk h ht hL hf hN hd
  rcases DC.nk_three hk with hk | hk | hk
  · exact rblock1_any hb w0 w p lv nv L t ns S d x hx hdr hk h ht hL hf hN hd
  · exact rblock2_any hb w0 w p lv nv L t ns S d x hx hdr hk h ht hL hf hN hd
  · exact rblock3_any hb w0 w p lv nv L t ns S d x hx hdr hk h ht hL hf hN hd
theorem rbc_all (f : Nat) : RbC f := by
  induction f using Nat.strongRecOn with
  | ind f ih =>
    cases f with
    | zero => intro w0 w p lv nv L t ns S d h ht hL hf; exact absurd hf (by omega)
    | succ f => exact rblock_any fun f' hf' => ih f' (by omega)
end Go.Proofs.YthhngkoopaolkaaGreatDoor

/- The walk of the document's own Of. -/
namespace Go.Proofs.YthhngkoopaolkaaGreatDoor
open Go.RowKit

theorem rof_ret {tmps : Array Value} {w : World} {p q : Nat} {x y z : Value} (hp : tmps.getD 2 undef = .pointer (some ⟨p, 0, none⟩)) (hq : tmps.getD 3 undef = .pointer (some ⟨q, 0, none⟩)) (h1 : Str w p 26 #[x]) (h2 : Str w q 28 #[y, z]) :
    (results Tryz.f22 tmps).run Tryz.prog w = .ok (.tuple #[.agg #[x], .agg #[y, z]]) w := by
  have hs' : w.heap[q]? = some (.cells #[y, z] 28 (0, 0)) := h2
  have hs1 : w.heap[p]? = some (.cells #[x] 26 (0, 0)) := h1
  have l2 := run_loadVar_row (P := Tryz.prog) w q 28 28 #[y, z] (0, 0) _ hs' Tryz.underlying28 rfl fault_size
  have l1 := run_loadVar_row (P := Tryz.prog) w p 26 26 #[x] (0, 0) _ hs1 Tryz.underlying26 rfl doc_size
  have hp' : (asAddr (tmps.getD 2 undef)).run Tryz.prog w = .ok ⟨p, 0, none⟩ w := by rw [hp]; simp [asAddr]
  have hq' : (asAddr (tmps.getD 3 undef)).run Tryz.prog w = .ok ⟨q, 0, none⟩ w := by rw [hq]; simp [asAddr]
  simp only [Array.getD_eq_getD_getElem?] at hp' hq'
  simp only [results, Tryz.results22]
  simp [Sem.run_bind, Result.andThen, hp', hq', l1, l2]
/-- The results' variables, where the first has been laid. -/
theorem DoD.lay {w wr : World} {x y z : Value} (h : DoD w wr x y z) (v : Value) :
    wr.cell? ⟨w.heap.size, 0, none⟩ = some x ∧ wr.frozen? ⟨w.heap.size, 0, none⟩ = false ∧ (wr.setCell ⟨w.heap.size, 0, none⟩ v).cell? ⟨w.heap.size + 1, 0, none⟩ = some y ∧ (wr.setCell ⟨w.heap.size, 0, none⟩ v).cell? ⟨w.heap.size + 1, 1, none⟩ = some z ∧ (wr.setCell ⟨w.heap.size, 0, none⟩ v).frozen? ⟨w.heap.size + 1, 0, none⟩ = false ∧ (wr.setCell ⟨w.heap.size, 0, none⟩ v).frozen? ⟨w.heap.size + 1, 1, none⟩ = false := by
  have sc : Str (wr.setCell ⟨w.heap.size, 0, none⟩ v) (w.heap.size + 1) 28 #[y, z] := h.c.kb (Kb.set wr w.heap.size 0 _ none) (by simp) (by simp)
  exact ⟨h.b.cell 0, h.b.frozen 0, sc.cell 0, sc.cell 1, sc.frozen 0, sc.frozen 1⟩
theorem own_low {w w1 : World} {x y z v : Value} {S : Nat → Prop} {ns : List DC.Nd} (h : Nds w1 w.heap.size S v ns) (d : DoD w w1 x y z) {g : Nat} (hg : v.ownBlock = some g) : w.heap.size + 2 ≤ g := by
  have h1 := (h.ge hg).1
  have h2 : g ≠ w.heap.size := fun e => by
    rcases h.off d.b (by decide) with e1 | e1
    · rw [e1] at hg; cases hg
    · exact e1 (by rw [hg, e])
  have h3 : g ≠ w.heap.size + 1 := fun e => by
    rcases h.off d.c (by decide) with e1 | e1
    · rw [e1] at hg; cases hg
    · exact e1 (by rw [hg, e])
  omega
theorem rof_start (w : World) (lv : Value) (l : List LX.Pc) (hr : Rdp w lv l) :
    Rst w (((w.alloc (.cells #[.slice none 0 0] 26)).alloc (.cells #[.int .i64 0, .int .i64 0] 28)).alloc (.cells #[lv, .int .i64 0, .slice none 0 0, .int .i64 0, .int .i64 0] 108)) (w.heap.size + 1 + 1) lv l 0 (.slice none 0 0) [] 0 0 (fun _ => False) ∧
    DoD w (((w.alloc (.cells #[.slice none 0 0] 26)).alloc (.cells #[.int .i64 0, .int .i64 0] 28)).alloc (.cells #[lv, .int .i64 0, .slice none 0 0, .int .i64 0, .int .i64 0] 108)) (.slice none 0 0) (.int .i64 0) (.int .i64 0) := by
  have hd := pars_start w
  have zz : ((w.alloc (.cells #[.slice none 0 0] 26)).alloc (.cells #[.int .i64 0, .int .i64 0] 28)).heap.size = w.heap.size + 1 + 1 := by rw [bx_size, bx_size]
  generalize (w.alloc (.cells #[.slice none 0 0] 26)).alloc (.cells #[.int .i64 0, .int .i64 0] 28) = W at *
  have b := below_alloc W (.cells #[lv, .int .i64 0, .slice none 0 0, .int .i64 0, .int .i64 0] 108)
  have s := Str.new W 108 #[lv, .int .i64 0, .slice none 0 0, .int .i64 0, .int .i64 0]
  rw [zz] at s
  exact ⟨⟨below_trans hd.bl b, by omega, s, hr, Nat.zero_le _, Nds.nil _ _ _, fun _ hg => hg.elim⟩, hd.calm b⟩
theorem ofe_bad {w w' : World} {l : List LX.Pc} {k n : Int} (h : DC.doc l = .bad k n) (hb : Below w.heap.size w w') : OfE w l (.returned (.tuple #[.agg #[.slice none 0 0], .agg #[.int .i64 k, .int .i64 n]])) w' := by
  refine ⟨hb, .slice none 0 0, fun _ => False, ?_, ?_⟩
  · simp only [DC.fault, h]
  · simp only [DC.nodes, h]; exact Nds.nil _ _ _
theorem ofe_ok {w w' : World} {l : List LX.Pc} {ns : List DC.Nd} {v : Value} {S : Nat → Prop} (h : DC.doc l = .ok ns) (hb : Below w.heap.size w w') (hn : Nds w' w.heap.size S v ns) : OfE w l (.returned (.tuple #[.agg #[v], .agg #[.int .i64 0, .int .i64 0]])) w' := by
  refine ⟨hb, v, S, ?_, ?_⟩
  · simp only [DC.fault, h]
  · simp only [DC.nodes, h]; exact hn
section
variable {l : List LX.Pc} (h0 : l ≠ [])
include h0
theorem doc_bad {a b : Int} (hA : DC.blk (2 * l.length + 2) 1 0 l = .bad a b) : DC.doc l = .bad a b := by
  unfold DC.doc DC.fuel
  rw [if_neg h0, hA]; rfl
theorem doc_nil {E : List DC.Nd} (hA : DC.blk (2 * l.length + 2) 1 0 l = .ok (E, [])) : DC.doc l = .ok E := by
  unfold DC.doc DC.fuel
  rw [if_neg h0, hA]; rfl
theorem doc_more {E : List DC.Nd} {q : LX.Pc} {r : List LX.Pc} (hA : DC.blk (2 * l.length + 2) 1 0 l = .ok (E, q :: r)) : DC.doc l = .bad 6 q.2.1 := by
  unfold DC.doc DC.fuel
  rw [if_neg h0, hA]; rfl
end
set_option maxRecDepth 10000 in
set_option maxHeartbeats 8000000 in
theorem rof_any (lv : Value) (l : List LX.Pc) (w : World) (hr : Rdp w lv l) (hl : l.length ≤ 1000000) :
    Calls Tryz.prog 22 #[lv] w (OfE w l) := by
  have hs := rof_start w lv l hr
  obtain ⟨al, cl, rfl, _, _⟩ := hr.slice
  have HS := Lib.hid hs.1
  have HD := Lib.hid hs.2
  have HD0 := Lib.hid (pars_start w)
  by_cases h0 : l = []
  · subst h0
    have HE := Lib.hid (fun (w' : World) (hb : Below w.heap.size w w') => ofe_bad (w := w) (w' := w') (l := []) (k := 10) (n := 1) (by decide) hb)
    have HZ := Lib.hid (HD0.out.laid (.slice none 0 0) (.int .i64 10) (.int .i64 1)).1
    obtain ⟨d0, df, c0, c1, cf0, cf1⟩ := HD0.out.lay (.slice none 0 0)
    clear HS HD hr hl hs
    go_enter Tryz.func22, Tryz.ntmps22
    go_upto_region 2 with fail
    generalize World.alloc (World.alloc _ _) _ = W at *
    go_wp2
    (try rw [Exit.noGoto_ret])
    (try simp only [Exit.inBlock, Exit.then])
    refine bodyPost_ret (rof_ret rfl rfl HZ.out.b HZ.out.c) rfl ?_
    exact HE.out _ HZ.out.bl
  · have hpos : 0 < l.length := by
      cases l with
      | nil => exact absurd rfl h0
      | cons x l => simp
    obtain ⟨n, hn⟩ : ∃ n, l.length = n := ⟨_, rfl⟩
    obtain ⟨A, hA⟩ : ∃ A, DC.blk (2 * l.length + 2) 1 0 l = A := ⟨_, rfl⟩
    have HB := Lib.hid (rbc_all (2 * l.length + 2) w _ _ _ _ l 0 [] (fun _ => False) 1 HS.out hpos hl (by simp) (by simp) (by omega))
    rw [List.drop_zero, List.length_nil, hA] at HB
    have H0 := Lib.hid h0
    have HA := Lib.hid hA
    have HN := Lib.hid hn
    rw [hn] at hpos HS HD HB ⊢
    have hn0 : ¬ (n : Int) = 0 := by omega
    have hnb : ((n : Int) == 0) = false := by simpa using hn0
    have hnc : (n == 0) = false := by simpa using (show ¬ n = 0 by omega)
    have hnd : ¬ n = 0 := by omega
    clear hA hr hl h0 hn hs HD0
    go_enter Tryz.func22, Tryz.ntmps22
    go_upto_region 4 with fail
    generalize World.alloc (World.alloc (World.alloc _ _) _) _ = W at *
    clear hnb hnc hn0 hnd hpos
    go_wp2_with fail
    refine HB.out.mono ?_
    rintro e w1 ⟨z, t', nv', ns', k, m, rfl, hp, hk, hnr, hR⟩
    have HP := Lib.hid hp
    have HD1 := Lib.hid (HD.out.far hk (by intro g hg; cases hg))
    have r1 : w1.cell? ⟨w.heap.size + 1 + 1, 1, none⟩ = some (.int .i64 (t' : Int)) := hp.st.cell 1
    have r2 : w1.cell? ⟨w.heap.size + 1 + 1, 2, none⟩ = some nv' := hp.st.cell 2
    have r3 : w1.cell? ⟨w.heap.size + 1 + 1, 3, none⟩ = some (.int .i64 k) := hp.st.cell 3
    have r4 : w1.cell? ⟨w.heap.size + 1 + 1, 4, none⟩ = some (.int .i64 m) := hp.st.cell 4
    clear hp hk hnr HB HS HD
    cases A with
    | bad a b =>
      obtain ⟨rfl, rfl, _, _⟩ := hR
      have hne := DC.blk_bad HA.out
      have hb1 : (k == 0) = false := by simpa using hne
      have hb2 : (k != 0) = true := by simpa using hne
      have HE := Lib.hid (fun (w' : World) (hb : Below w.heap.size w w') => ofe_bad (w := w) (w' := w') (l := l) (k := k) (n := m) (doc_bad H0.out HA.out) hb)
      clear HA H0 hne
      go_upto_region 8 with fail
      have HZ := Lib.hid (HD1.out.laid (.slice none 0 0) (.int .i64 k) (.int .i64 m)).1
      obtain ⟨d0, df, -⟩ := HD1.out.lay (.slice none 0 0)
      obtain ⟨-, -, c0', c1', cf0', cf1'⟩ := HD1.out.lay (.slice none 0 0)
      have c0 : w1.cell? ⟨w.heap.size + 1, 0, none⟩ = some (.int .i64 0) := HD1.out.c.cell 0
      have c1 : w1.cell? ⟨w.heap.size + 1, 1, none⟩ = some (.int .i64 0) := HD1.out.c.cell 1
      have cf0 := HD1.out.c.frozen 0
      have cf1 := HD1.out.c.frozen 1
      have hqd : w.heap.size + 1 + 1 ≠ w.heap.size := by omega
      have S1 := HP.out.st.kb (Kb.set w1 w.heap.size 0 (.slice none 0 0) none) (fun e => hqd (Option.some.inj e)) (by simp)
      have r3' : (w1.setCell ⟨w.heap.size, 0, none⟩ (.slice none 0 0)).cell? ⟨w.heap.size + 1 + 1, 3, none⟩ = some (.int .i64 k) := S1.cell 3
      have r4' : (w1.setCell ⟨w.heap.size, 0, none⟩ (.slice none 0 0)).cell? ⟨w.heap.size + 1 + 1, 4, none⟩ = some (.int .i64 m) := S1.cell 4
      clear S1 hqd
      go_wp2
      go_region
      all_goals (go_wp2; (try rw [Exit.noGoto_ret]); (try simp only [Exit.inBlock, Exit.then]); refine bodyPost_ret (rof_ret rfl rfl (HZ.out.b.below (below_drew _)) (HZ.out.c.below (below_drew _))) rfl ?_; exact HE.out _ (below_trans HZ.out.bl (below_drew _)))
    | ok a =>
      obtain ⟨E, r⟩ := a
      obtain ⟨rfl, rfl, rfl, rfl, hdr⟩ := hR
      have hle := HP.out.le
      have HNN := HN.out
      cases r with
      | nil =>
        have hti : ¬ (t' : Int) < (n : Int) := fun h => by
          have := congrArg List.length hdr
          simp only [List.length_drop, List.length_nil] at this
          omega
        have htb : ¬ t' < n := by omega
        obtain ⟨an, cn, hnv⟩ := HP.out.nd.slice
        subst hnv
        have HE := Lib.hid (fun (v : Value) (w' : World) (S : Nat → Prop) (hb : Below w.heap.size w w') (h : Nds w' w.heap.size S v _) => ofe_ok (w := w) (w' := w') (l := l) (ns := ns') (S := S) (doc_nil H0.out HA.out) hb h)
        obtain ⟨d0, df, c0, c1, cf0, cf1⟩ := HD1.out.lay (.slice an ns'.length cn)
        have hz := HD1.out.laid (.slice an ns'.length cn) (.int .i64 0) (.int .i64 0)
        have HZ := Lib.hid hz.1
        have HNZ := Lib.hid (HP.out.nd.kb hz.2 (Far.str HD1.out.b (by decide) (by decide)) (Far.str HD1.out.c (by decide) (by decide)) (HP.out.nd.off HD1.out.b (by decide)) (HP.out.nd.off HD1.out.c (by decide)))
        clear HA H0 hle HNN hdr hz
        go_wp2
        (try rw [Exit.noGoto_ret])
        (try simp only [Exit.inBlock, Exit.then])
        refine bodyPost_ret (rof_ret rfl rfl HZ.out.b HZ.out.c) rfl ?_
        exact HE.out _ _ _ HZ.out.bl HNZ.out
      | cons q r =>
        have ht : t' < n := by
          have := congrArg List.length hdr
          simp only [List.length_drop, List.length_cons] at this
          omega
        have hti : (t' : Int) < (n : Int) := by omega
        have ht0 : (0 : Int) ≤ (t' : Int) := by omega
        obtain ⟨q', hq, hdq⟩ := dropt_at (L := l) (t := t') (by omega)
        obtain rfl : q' = q := by rw [hdq] at hdr; exact (List.cons.inj hdr).1
        obtain ⟨b, off, cap, hlv, hq5⟩ := HP.out.at hq
        simp only [Value.slice.injEq] at hlv
        obtain ⟨rfl, -, rfl⟩ := hlv
        have q1 := hq5.c1
        obtain ⟨qk, qn, qc, qt, qq⟩ := q'
        simp only at q1
        have HF := Lib.hid (rfail_any HP.out 6 qn)
        have HE := Lib.hid (fun (w' : World) (hb : Below w.heap.size w w') => ofe_bad (w := w) (w' := w') (l := l) (k := 6) (n := qn) (doc_more H0.out HA.out) hb)
        clear HA H0 hle HNN hdr hdq hq hq5
        go_upto_region 7 with (go_at_call 49; refine HF.out.mono ?_; rintro e w2 ⟨rfl, hp2, hk2⟩; have HP2 := Lib.hid hp2; have HD2 := Lib.hid (HD1.out.far hk2 (fun g hg => Nat.le_trans (Nat.le_refl _) (own_low HP.out.nd HD1.out hg))); have s3 : w2.cell? ⟨w.heap.size + 1 + 1, 3, none⟩ = some (.int .i64 6) := hp2.st.cell 3; have s4 : w2.cell? ⟨w.heap.size + 1 + 1, 4, none⟩ = some (.int .i64 qn) := hp2.st.cell 4; clear hp2 hk2)
        clear r1 r2 r3 r4 q1 HF HP HD1
        go_upto_region 8 with fail
        have HZ := Lib.hid (HD2.out.laid (.slice none 0 0) (.int .i64 6) (.int .i64 qn)).1
        obtain ⟨d0, df, -⟩ := HD2.out.lay (.slice none 0 0)
        obtain ⟨-, -, c0', c1', cf0', cf1'⟩ := HD2.out.lay (.slice none 0 0)
        have c0 : w2.cell? ⟨w.heap.size + 1, 0, none⟩ = some (.int .i64 0) := HD2.out.c.cell 0
        have c1 : w2.cell? ⟨w.heap.size + 1, 1, none⟩ = some (.int .i64 0) := HD2.out.c.cell 1
        have cf0 := HD2.out.c.frozen 0
        have cf1 := HD2.out.c.frozen 1
        have hqd : w.heap.size + 1 + 1 ≠ w.heap.size := by omega
        have S1 := HP2.out.st.kb (Kb.set w2 w.heap.size 0 (.slice none 0 0) none) (fun e => hqd (Option.some.inj e)) (by simp)
        have r3' : (w2.setCell ⟨w.heap.size, 0, none⟩ (.slice none 0 0)).cell? ⟨w.heap.size + 1 + 1, 3, none⟩ = some (.int .i64 6) := S1.cell 3
        have r4' : (w2.setCell ⟨w.heap.size, 0, none⟩ (.slice none 0 0)).cell? ⟨w.heap.size + 1 + 1, 4, none⟩ = some (.int .i64 qn) := S1.cell 4
        clear S1 hqd
        go_wp2
        go_region
        all_goals (go_wp2; (try rw [Exit.noGoto_ret]); (try simp only [Exit.inBlock, Exit.then]); refine bodyPost_ret (rof_ret rfl rfl (HZ.out.b.below (below_drew _)) (HZ.out.c.below (below_drew _))) rfl ?_; exact HE.out _ (below_trans HZ.out.bl (below_drew _)))
end Go.Proofs.YthhngkoopaolkaaGreatDoor

/- The walk of the document's own Parse. -/
namespace Go.Proofs.YthhngkoopaolkaaGreatDoor
open Go.RowKit

namespace LX
theorem all_len : ∀ ls : List Lz, (all ls).1.2.length ≤ wt ls
  | [] => Nat.zero_le _
  | l :: ls => by
    rw [all]
    split
    · simp only
      split
      · rw [List.length_append, wt_cons]
        have := row_len l
        have := all_len ls
        omega
      · exact Nat.zero_le _
    · exact Nat.zero_le _
end LX
theorem rparse_ret {tmps : Array Value} {w : World} {p q : Nat} {x y z : Value} (hp : tmps.getD 2 undef = .pointer (some ⟨p, 0, none⟩)) (hq : tmps.getD 3 undef = .pointer (some ⟨q, 0, none⟩)) (h1 : Str w p 26 #[x]) (h2 : Str w q 28 #[y, z]) :
    (results Tryz.f8 tmps).run Tryz.prog w = .ok (.tuple #[.agg #[x], .agg #[y, z]]) w := by
  have hs' : w.heap[q]? = some (.cells #[y, z] 28 (0, 0)) := h2
  have hs1 : w.heap[p]? = some (.cells #[x] 26 (0, 0)) := h1
  have l2 := run_loadVar_row (P := Tryz.prog) w q 28 28 #[y, z] (0, 0) _ hs' Tryz.underlying28 rfl fault_size
  have l1 := run_loadVar_row (P := Tryz.prog) w p 26 26 #[x] (0, 0) _ hs1 Tryz.underlying26 rfl doc_size
  have hp' : (asAddr (tmps.getD 2 undef)).run Tryz.prog w = .ok ⟨p, 0, none⟩ w := by rw [hp]; simp [asAddr]
  have hq' : (asAddr (tmps.getD 3 undef)).run Tryz.prog w = .ok ⟨q, 0, none⟩ w := by rw [hq]; simp [asAddr]
  simp only [Array.getD_eq_getD_getElem?] at hp' hq'
  simp only [results, Tryz.results8]
  simp [Sem.run_bind, Result.andThen, hp', hq', l1, l2]
set_option maxRecDepth 10000 in
set_option maxHeartbeats 8000000 in
theorem rparse_any (v : Value) (bs : List UInt8) (w : World) (hr : Rdv w v (bv bs)) :
    Calls Tryz.prog 8 #[v] w (ParE w (DC.parse bs)) := by
  have HD0 := Lib.hid (pars_start w)
  have HLI := Lib.hid (rlines_any v bs _ (hr.below HD0.out.bl))
  obtain ⟨A, HA⟩ : ∃ A, Hid (A = DC.parse bs) := ⟨_, Lib.hid rfl⟩
  rw [show DC.parse bs = A from HA.out.symm]
  obtain ⟨K, hK⟩ : ∃ K, (LN.outF bs).1 = K := ⟨_, rfl⟩
  obtain ⟨L, hL⟩ : ∃ L, (LN.outF bs).2 = L := ⟨_, rfl⟩
  have HK := Lib.hid hK
  have HL := Lib.hid hL
  obtain ⟨ls, hls⟩ : ∃ ls, LN.outL bs = ls := ⟨_, rfl⟩
  have HLS := Lib.hid hls
  have HLO := Lib.hid (fun (u : World) (e : Ending) (w' : World) (h : LinE u bs e w') => (show ∃ x, e = .returned (.tuple #[x, .agg #[.int .i64 (K : Int), .int .i64 (L : Int)]]) ∧ Ownn w' u.heap.size x ls ∧ Below u.heap.size u w' by rw [← hK, ← hL, ← hls]; exact h))
  clear hr hK hL hls
  go_enter Tryz.func8, Tryz.ntmps8
  go_wp2_with fail
  refine HLI.out.mono ?_
  rintro e w1 he
  obtain ⟨x, rfl, ho, hb⟩ := HLO.out _ _ _ he
  clear he
  obtain ⟨q, hq⟩ : ∃ q, w1.heap.size = q := ⟨_, rfl⟩
  have BX := below_alloc w1 (.cells #[.int .i64 (K : Int), .int .i64 (L : Int)] 28)
  have HD1 := Lib.hid ((HD0.out.calm hb).calm BX)
  have HF1 : Hid (Str (w1.alloc (.cells #[.int .i64 (K : Int), .int .i64 (L : Int)] 28)) q 28 #[.int .i64 (K : Int), .int .i64 (L : Int)]) := by
    rw [← hq]; exact Lib.hid (Str.new w1 _ _)
  have HZ1 := Lib.hid ((ho.below BX).rdz)
  clear ho hb BX HLI HLO HD0
  by_cases hk : K = 0
  · have E0 := Lib.hid (show A = if (LX.all (ls.map DC.zl)).1.1 ≠ 0 then .bad (LX.all (ls.map DC.zl)).1.1 (LX.all (ls.map DC.zl)).2 else DC.doc (LX.all (ls.map DC.zl)).1.2 by rw [HA.out, DC.parse, if_neg (by rw [HK.out]; simpa using hk), HLS.out])
    have h0 : (K : Int) = 0 := by omega
    have hK0 : (LN.outF bs).1 = 0 := by rw [HK.out]; exact hk
    have HALL := Lib.hid (rall_any x (ls.map DC.zl) _ HZ1.out (by rw [← HLS.out]; exact DC.outL_text hK0) (by rw [← HLS.out]; exact Nat.le_trans (DC.outL_wt bs) (by have := DC.outF_small hK0; omega)))
    have HPL : Hid ((LX.all (ls.map DC.zl)).1.2.length ≤ 1000000) := by
      show _ ≤ _
      have h1 := LX.all_len (ls.map DC.zl)
      have h2 := DC.outL_wt bs
      rw [HLS.out] at h2
      have h3 := DC.outF_small hK0
      omega
    have HSH := Lib.hid (LX.all_short (ls.map DC.zl))
    obtain ⟨a, ha⟩ : ∃ a, (LX.all (ls.map DC.zl)).1.1 = a := ⟨_, rfl⟩
    obtain ⟨b, hb⟩ : ∃ b, (LX.all (ls.map DC.zl)).2 = b := ⟨_, rfl⟩
    obtain ⟨PP, hP⟩ : ∃ PP, (LX.all (ls.map DC.zl)).1.2 = PP := ⟨_, rfl⟩
    have HAO := Lib.hid (fun (u : World) (e : Ending) (w' : World) (h : AllE u (ls.map DC.zl) e w') => (show ∃ v3, e = .returned (.tuple #[v3, .agg #[.int .i64 a, .int .i64 b]]) ∧ Ownp w' u.heap.size v3 PP ∧ Below u.heap.size u w' by
      obtain ⟨h1, v3, h2, h3⟩ := h
      rw [ha, hb] at h2
      rw [hP] at h3
      exact ⟨v3, h2, h3, h1⟩))
    rw [ha, hb, hP] at E0
    rw [hP] at HSH
    rw [hP] at HPL
    clear ha hb hP hK0 hk HLS HK HL HA HZ1 HSH
    simp only [h0] at HD1 HF1 HALL ⊢
    clear h0
    have hzz : ((0 : Int) != 0) = false := rfl
    go_upto_region 2 with (rw [hq])
    generalize w1.alloc (.cells #[.int .i64 0, .int .i64 (L : Int)] 28) = w2 at *
    have r0 : w2.cell? ⟨q, 0, none⟩ = some (.int .i64 0) := HF1.out.cell 0
    go_upto_region 5 with (go_at_call 21; refine HALL.out.mono ?_; rintro e w3 he; obtain ⟨v3, rfl, ho3, hb3⟩ := HAO.out _ _ _ he; clear he)
    have BY := below_alloc w3 (.cells #[.int .i64 a, .int .i64 b] 28)
    have HD4 := Lib.hid ((HD1.out.calm hb3).calm BY)
    have HP4 := Lib.hid (ho3.below BY)
    obtain ⟨q3, hq3⟩ : ∃ q, w3.heap.size = q := ⟨_, rfl⟩
    have HF4 : Hid (Str (w3.alloc (.cells #[.int .i64 a, .int .i64 b] 28)) q3 28 #[.int .i64 a, .int .i64 b]) := by
      rw [← hq3]; exact Lib.hid (Str.new w3 _ _)
    rw [hq3]
    clear BY ho3 hb3 HD1 HF1 r0 HALL HAO
    generalize w3.alloc (.cells #[.int .i64 a, .int .i64 b] 28) = w4 at *
    clear hq3 hq
    have r0 : w4.cell? ⟨q3, 0, none⟩ = some (.int .i64 a) := HF4.out.cell 0
    have r1 : w4.cell? ⟨q3, 1, none⟩ = some (.int .i64 b) := HF4.out.cell 1
    by_cases ha : a = 0
    · subst ha
      have E := Lib.hid (show A = DC.doc PP by rw [E0.out, if_neg (by simp)])
      clear E0
      have HOF := Lib.hid (rof_any v3 PP w4 HP4.out.rd HPL.out)
      go_wp2_with fail
      refine HOF.out.mono ?_
      rintro e w5 ⟨hb5, v5, S5, rfl, hn5⟩
      have HD5 := Lib.hid (HD4.out.calm hb5)
      obtain ⟨a5, c5, rfl⟩ := hn5.slice
      obtain ⟨F, hFF⟩ : ∃ F, (DC.fault PP).1 = F := ⟨_, rfl⟩
      obtain ⟨G, hGG⟩ : ∃ G, (DC.fault PP).2 = G := ⟨_, rfl⟩
      have hz := HD5.out.laid (.slice a5 (DC.nodes PP).length c5) (.int .i64 F) (.int .i64 G)
      have d0 : w5.cell? ⟨w.heap.size, 0, none⟩ = some (.slice none 0 0) := HD5.out.b.cell 0
      have df := HD5.out.b.frozen 0
      have sc : Str (w5.setCell ⟨w.heap.size, 0, none⟩ (.slice a5 (DC.nodes PP).length c5)) (w.heap.size + 1) 28 #[.int .i64 0, .int .i64 0] := HD5.out.c.kb (Kb.set w5 w.heap.size 0 _ none) (by simp) (by simp)
      have c0 : (w5.setCell ⟨w.heap.size, 0, none⟩ (.slice a5 (DC.nodes PP).length c5)).cell? ⟨w.heap.size + 1, 0, none⟩ = some (.int .i64 0) := sc.cell 0
      have c1 : (w5.setCell ⟨w.heap.size, 0, none⟩ (.slice a5 (DC.nodes PP).length c5)).cell? ⟨w.heap.size + 1, 1, none⟩ = some (.int .i64 0) := sc.cell 1
      have cf0 := sc.frozen 0
      have cf1 := sc.frozen 1
      have HR5 := Lib.hid (hn5.kb hz.2 (Far.str HD5.out.b (by decide) (by decide)) (Far.str HD5.out.c (by decide) (by decide)) (hn5.off HD5.out.b (by decide)) (hn5.off HD5.out.c (by decide))).rd
      have HZ := Lib.hid hz.1
      have HFG := Lib.hid (And.intro hFF hGG)
      rw [hFF, hGG]
      obtain ⟨NL, hNL⟩ : ∃ NL, (DC.nodes PP).length = NL := ⟨_, rfl⟩
      rw [hNL] at HZ HR5 c0 c1 cf0 cf1 ⊢
      clear hb5 hn5 hz sc hFF hGG hNL
      go_wp2
      try rw [Exit.noGoto_ret]
      (try simp only [Exit.inBlock, Exit.then])
      refine bodyPost_ret (rparse_ret rfl rfl HZ.out.b HZ.out.c) rfl ?_
      rw [E.out]
      refine ⟨HZ.out.bl, _, ?_, HR5.out⟩
      obtain ⟨h1, h2⟩ := HFG.out
      rw [← h1, ← h2]
      unfold DC.fault DC.wrong
      cases DC.doc PP <;> rfl
    · have E := Lib.hid (show A = .bad a b by rw [E0.out, if_pos ha])
      have hab : (a != 0) = true := by simpa using ha
      clear E0
      have HQ := Lib.hid (HD4.out.laid (.slice none 0 0) (.int .i64 a) (.int .i64 b))
      have d0 : w4.cell? ⟨w.heap.size, 0, none⟩ = some (.slice none 0 0) := HD4.out.b.cell 0
      have df := HD4.out.b.frozen 0
      have c0 : w4.cell? ⟨w.heap.size + 1, 0, none⟩ = some (.int .i64 0) := HD4.out.c.cell 0
      have c1 : w4.cell? ⟨w.heap.size + 1, 1, none⟩ = some (.int .i64 0) := HD4.out.c.cell 1
      have cf0 := HD4.out.c.frozen 0
      have cf1 := HD4.out.c.frozen 1
      have kb := Kb.set w4 w.heap.size 0 (.slice none 0 0) none
      have hqd : q3 ≠ w.heap.size := HF4.out.apart_str HD4.out.b (by decide)
      have S1 := HF4.out.kb kb (fun e => hqd (Option.some.inj e)) (by simp)
      have S2 : Str (w4.setCell ⟨w.heap.size, 0, none⟩ (.slice none 0 0)) (w.heap.size + 1) 28 #[.int .i64 0, .int .i64 0] := HD4.out.c.kb kb (by simp) (by simp)
      have r0' : (w4.setCell ⟨w.heap.size, 0, none⟩ (.slice none 0 0)).cell? ⟨q3, 0, none⟩ = some (.int .i64 a) := S1.cell 0
      have r1' : (w4.setCell ⟨w.heap.size, 0, none⟩ (.slice none 0 0)).cell? ⟨q3, 1, none⟩ = some (.int .i64 b) := S1.cell 1
      have c0' : (w4.setCell ⟨w.heap.size, 0, none⟩ (.slice none 0 0)).cell? ⟨w.heap.size + 1, 0, none⟩ = some (.int .i64 0) := S2.cell 0
      have c1' : (w4.setCell ⟨w.heap.size, 0, none⟩ (.slice none 0 0)).cell? ⟨w.heap.size + 1, 1, none⟩ = some (.int .i64 0) := S2.cell 1
      have cf0' := S2.frozen 0
      have cf1' := S2.frozen 1
      clear kb S1 S2 hqd
      go_wp2
      go_region
      go_wp2
      try rw [Exit.noGoto_ret]
      (try simp only [Exit.inBlock, Exit.then])
      refine bodyPost_ret (rparse_ret rfl rfl (HQ.out.1.b.below (below_drew _)) (HQ.out.1.c.below (below_drew _))) rfl ?_
      rw [E.out]
      exact ⟨below_trans HQ.out.1.bl (below_drew _), _, rfl, Rdoc.nil _⟩
  · have E := Lib.hid (show A = .bad (K : Int) (L : Int) by rw [HA.out, DC.parse, if_pos (by rw [HK.out]; exact hk), HK.out, HL.out])
    have hkb : ((K : Int) != 0) = true := by simp; omega
    go_upto_region 2 with (rw [hq])
    generalize w1.alloc (.cells #[.int .i64 (K : Int), .int .i64 (L : Int)] 28) = w2 at *
    have HQ := Lib.hid (HD1.out.laid (.slice none 0 0) (.int .i64 (K : Int)) (.int .i64 (L : Int)))
    have r0 : w2.cell? ⟨q, 0, none⟩ = some (.int .i64 (K : Int)) := HF1.out.cell 0
    have r1 : w2.cell? ⟨q, 1, none⟩ = some (.int .i64 (L : Int)) := HF1.out.cell 1
    have d0 : w2.cell? ⟨w.heap.size, 0, none⟩ = some (.slice none 0 0) := HD1.out.b.cell 0
    have df := HD1.out.b.frozen 0
    have c0 : w2.cell? ⟨w.heap.size + 1, 0, none⟩ = some (.int .i64 0) := HD1.out.c.cell 0
    have c1 : w2.cell? ⟨w.heap.size + 1, 1, none⟩ = some (.int .i64 0) := HD1.out.c.cell 1
    have cf0 := HD1.out.c.frozen 0
    have cf1 := HD1.out.c.frozen 1
    have kb := Kb.set w2 w.heap.size 0 (.slice none 0 0) none
    have hqd : q ≠ w.heap.size := HF1.out.apart_str HD1.out.b (by decide)
    have S1 := HF1.out.kb kb (fun e => hqd (Option.some.inj e)) (by simp)
    have S2 : Str (w2.setCell ⟨w.heap.size, 0, none⟩ (.slice none 0 0)) (w.heap.size + 1) 28 #[.int .i64 0, .int .i64 0] := HD1.out.c.kb kb (by simp) (by simp)
    have r0' : (w2.setCell ⟨w.heap.size, 0, none⟩ (.slice none 0 0)).cell? ⟨q, 0, none⟩ = some (.int .i64 (K : Int)) := S1.cell 0
    have r1' : (w2.setCell ⟨w.heap.size, 0, none⟩ (.slice none 0 0)).cell? ⟨q, 1, none⟩ = some (.int .i64 (L : Int)) := S1.cell 1
    have c0' : (w2.setCell ⟨w.heap.size, 0, none⟩ (.slice none 0 0)).cell? ⟨w.heap.size + 1, 0, none⟩ = some (.int .i64 0) := S2.cell 0
    have c1' : (w2.setCell ⟨w.heap.size, 0, none⟩ (.slice none 0 0)).cell? ⟨w.heap.size + 1, 1, none⟩ = some (.int .i64 0) := S2.cell 1
    have cf0' := S2.frozen 0
    have cf1' := S2.frozen 1
    clear kb S1 S2 hqd
    go_wp2
    go_region
    go_wp2
    try rw [Exit.noGoto_ret]
    (try simp only [Exit.inBlock, Exit.then])
    refine bodyPost_ret (rparse_ret rfl rfl (HQ.out.1.b.below (below_drew _)) (HQ.out.1.c.below (below_drew _))) rfl ?_
    rw [E.out]
    exact ⟨below_trans HQ.out.1.bl (below_drew _), _, rfl, Rdoc.nil _⟩
end Go.Proofs.YthhngkoopaolkaaGreatDoor

/- The law DocParse. -/
namespace Go.Proofs.YthhngkoopaolkaaGreatDoor
open Go.RowKit

theorem told_len (bs : List UInt8) : (DC.told (DC.parse bs)).length ≤ 2000 := by
  unfold DC.parse
  split
  · simp [DC.told]
  · split
    · simp [DC.told]
    · have h : ∀ l, (DC.told (DC.doc l)).length ≤ 2000 := fun l => by
        cases h : DC.doc l with
        | bad k n => simp [DC.told]
        | ok E =>
          unfold DC.doc at h
          split at h
          · cases h
          · obtain ⟨a, h1, h2⟩ := DC.bind_ok h
            obtain ⟨e, r⟩ := a
            have h3 := (DC.blk_fine h1).1.many
            cases r with
            | nil => simp only [DC.Out.ok.injEq] at h2; subst h2; simpa [DC.told] using h3
            | cons q r => cases h2
      exact h _
set_option maxRecDepth 10000 in
set_option maxHeartbeats 8000000 in
theorem docParse_walk (v : Value) (bs : List UInt8) (w : World) (hr : Rdv w v (bv bs)) (_hl : bs.length ≤ 140737488351232) (hm : MaxIs w) :
    Calls Tryz.prog 3 #[v] w fun e w' => e = .returned (.bool true) ∧ Below w.heap.size w w' := by
  have HAW := Lib.hid (awake12 w hm)
  have HM := Lib.hid hm
  have HRD := Lib.hid hr
  obtain ⟨NS, hNS⟩ : ∃ NS, DC.told (DC.parse bs) = NS := ⟨_, rfl⟩
  obtain ⟨M, hMM⟩ : ∃ M, NS.length = M := ⟨_, rfl⟩
  obtain ⟨K, N, hKN⟩ : ∃ K N, DC.wrong (DC.parse bs) = (K, N) := ⟨_, _, rfl⟩
  have hq := eq_fault K N
  have hg2 := fault_guard
  have HNS := Lib.hid hNS
  have HMM := Lib.hid hMM
  have HKN := Lib.hid hKN
  have HNL : Hid (NS.length ≤ 2000) := by show _ ≤ _; rw [← hNS]; exact told_len bs
  have HO := Lib.hid (parse_any v bs w hr hm)
  have HRO := Lib.hid (fun (u : World) (h : Rdv u v (bv bs)) => rparse_any v bs u h)
  obtain ⟨ao, cap, hv⟩ := hr.slice
  subst hv
  obtain ⟨L, hL⟩ : ∃ L, (bv bs).length = L := ⟨_, rfl⟩
  have hLm : (L : Int) ≤ 140737488351232 := by rw [bv_len] at hL; omega
  rw [hL] at HRD HO HRO ⊢
  clear hNS hMM hKN hr hm hL _hl
  by_cases hbig : 6000 < L
  · have hb1 : (6000 : Int) < (L : Int) := by omega
    go_enter Tryz.func3, Tryz.ntmps3
    go_wp2_with (go_at_call 6; refine HAW.out.mono ?_; rintro e w1 ⟨rfl, hb⟩)
    go_ret
    exact ⟨rfl, hb⟩
  have hb1 : ¬ (6000 : Int) < (L : Int) := by omega
  clear hbig HAW
  go_enter Tryz.func3, Tryz.ntmps3
  go_wp2_with fail
  refine HO.out.mono ?_
  rintro e w1 he
  obtain ⟨a1, c1, rfl, r1, b1⟩ := aw_par HNS.out HKN.out HMM.out he
  obtain ⟨z1, z2⟩ := var2 w1
  obtain ⟨s1, s2, s3⟩ := two_vars w1 (.slice a1 M c1) (.int .i64 K) (.int .i64 N)
  have HB1 := Lib.hid (below_trans b1 s3)
  have HS1 := Lib.hid s1
  have HF1 := Lib.hid s2
  have HR1 := Lib.hid (r1.below s3)
  have H2 := Lib.hid (HRO.out _ (HRD.out.below HB1.out))
  clear he r1 b1 s1 s2 s3 HO HRO
  go_wp2_with fail
  clear z1 z2
  refine H2.out.mono ?_
  rintro e w2 he
  obtain ⟨a2, c2, rfl, r2, b2⟩ := aw_par HNS.out HKN.out HMM.out he
  obtain ⟨z1, z2⟩ := var2 w2
  obtain ⟨s1, s2, s3⟩ := two_vars w2 (.slice a2 M c2) (.int .i64 K) (.int .i64 N)
  have b3 := below_trans b2 s3
  have HB2 := Lib.hid (below_trans HB1.out b3)
  have HF2 := Lib.hid (HF1.out.below b3)
  have HG2 := Lib.hid s2
  have e1 := (HS1.out.below b3).cell 0
  have e2 := s1.cell 0
  have HAL := Lib.hid (dalike_any _ _ NS _ (HR1.out.below b3) (r2.below s3) (by have := HNL.out; omega))
  simp only [List.getElem?_toArray, List.getElem?_cons_zero] at e1 e2
  clear he r2 b2 s1 s2 s3 b3 H2 HB1 HS1 HF1 HR1
  go_wp2_with fail
  refine HAL.out.mono ?_
  rintro e w3 ⟨rfl, b4⟩
  have HB3 := Lib.hid (below_trans HB2.out b4)
  obtain ⟨f0, f1⟩ := (HF2.out.below b4).cells2
  obtain ⟨g0, g1⟩ := (HG2.out.below b4).cells2
  clear b4 HAL HF2 HG2 e1 e2 z1 z2
  go_wp2_with (go_at_call 6; refine (awake12 _ (HM.out.below HB3.out)).mono ?_; rintro e w4 ⟨rfl, hb4⟩)
  go_ret
  exact ⟨rfl, below_trans HB3.out hb4⟩
end Go.Proofs.YthhngkoopaolkaaGreatDoor

/- An argument that is a slice of bytes, opened for a walk. -/
namespace Go.Proofs.YthhngkoopaolkaaGreatDoor
open Go.RowKit Go.ChangeShapes Go.WideShapes

theorem bytes_of_ints : ∀ (zs : List Int), (∀ n ∈ zs, (Lit.int .u8 n).wf = true) → ∃ bs : List UInt8, zs.map (Value.int .u8) = bv bs
  | [], _ => ⟨[], rfl⟩
  | z :: zs, h => by
    obtain ⟨bs, hb⟩ := bytes_of_ints zs (fun n hn => h n (List.mem_cons_of_mem _ hn))
    have hz := h z List.mem_cons_self
    simp [Lit.wf, IntKind.min, IntKind.max, IntKind.signed, IntKind.bits] at hz
    refine ⟨UInt8.ofNat z.toNat :: bs, ?_⟩
    have e : ((UInt8.ofNat z.toNat).toNat : Int) = z := by simp; omega
    rw [List.map_cons, hb]
    show _ = Value.int .u8 ((UInt8.ofNat z.toNat).toNat : Int) :: bv bs
    rw [e]

theorem open_bytes {H : Type} {enc : TypeId × Value → H} {P : Program} {W : World} {t e : TypeId} {a : Option Addr} {len cap : Nat} {d : DataW H} {p : List MemPlace} (ht : P.underlying t = some (.slice e)) (he : P.underlying e = some (.int .u8)) (hc : P.cellsOf e = 1)
    (h : DataW.Trod enc P W 0 (fun _ => true) true t (.slice a len cap) d p) : ∃ bs : List UInt8, Rdv W (.slice a len cap) (bv bs) ∧ (d = .nil ∧ bs = [] ∨ ∃ elems spare, d = .slice elems spare ∧ elems.length = bs.length) := by
  obtain ⟨fuel, hf⟩ := h
  rcases open_ints ht he hc hf with ⟨hcs, hx⟩ | ⟨x, l, c, zs, hcs, _, hl, hm, hz, hx, hcell, hwz⟩
  · simp [Value.cells] at hcs
    obtain ⟨rfl, rfl, rfl⟩ := hcs
    exact ⟨[], Rdv.nil W, Or.inl ⟨congrArg Prod.fst hx, rfl⟩⟩
  · simp [Value.cells] at hcs
    obtain ⟨rfl, rfl, rfl⟩ := hcs
    simp only [if_true] at hz
    obtain ⟨bs, hb⟩ := bytes_of_ints (zs.take len) (fun n hn => hwz n (List.mem_of_mem_take hn))
    have hbl : bs.length = len := by
      have := congrArg List.length hb
      simp [bv] at this
      omega
    refine ⟨bs, ⟨some x, cap, by rw [bv_len, hbl], by rw [bv_len]; omega, hm, (by intro h; cases h), fun j u hu => ⟨x, rfl, ?_⟩⟩, Or.inr ⟨_, _, congrArg Prod.fst hx, by simp [lits]; omega⟩⟩
    have hj : j < len := by
      have := (List.getElem?_eq_some_iff.1 hu).1
      rw [bv_len] at this; omega
    rw [← hb, List.getElem?_map, List.getElem?_take, if_pos hj] at hu
    rw [hcell j (by omega)]
    rw [List.getElem?_eq_getElem (by omega : j < zs.length)] at hu
    simp only [Option.map_some] at hu
    rw [← hu]
    simp [List.getD, show j < zs.length by omega]
end Go.Proofs.YthhngkoopaolkaaGreatDoor
