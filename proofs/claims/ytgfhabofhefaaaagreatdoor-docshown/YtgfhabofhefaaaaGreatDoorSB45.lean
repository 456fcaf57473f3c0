/- A part of the proof. -/
import Derived.Test.YtgfhabofhefaaaaGreatDoorSB44
import Derived.Recover
import Derived.Test.YtgfhabofhefaaaaGreatDoorSB01
import Derived.Test.YtgfhabofhefaaaaGreatDoorSB05
import Derived.Test.YtgfhabofhefaaaaGreatDoorSB06
import Derived.Test.YtgfhabofhefaaaaGreatDoorSB09
import Derived.Deep.AppendLies
import Derived.Lib.SlSplitV
import Derived.Test.YtgfhabofhefaaaaGreatDoorSB17
namespace Go.Proofs.YtgfhabofhefaaaaGreatDoor
open Go.RowKit
def RootE (w0 w : World) (p : Nat) (nv : Value) (r : DC.Out (List DC.Nd)) (e : Ending) (w' : World) : Prop :=
  Kb w w' (some p) nv.ownBlock ∧ match r with
  | .bad k n => e = .panicked (gaveD k n)
  | .ok ns => e = .returned (.tuple #[]) ∧ ∃ lv' nv' S', Pst w0 w' p lv' nv' [] ns S'
set_option maxRecDepth 10000 in
set_option maxHeartbeats 2000000 in
theorem root_any {w0 w : World} {p : Nat} {lv nv : Value} {l : List LX.Pc} {S : Nat → Prop} (h : Pst w0 w p lv nv l [] S) (ht : Texts l) :
    Calls Tryz.prog 39 #[.pointer (some ⟨p, 0, none⟩)] w (RootE w0 w p nv (DC.doc l)) := by
  cases l with
  | nil =>
    obtain ⟨ao, cap, rfl, _, _⟩ := h.rd.slice
    have c0 : w.cell? ⟨p, 0, none⟩ = some (.slice ao 0 cap) := h.st.cell 0
    clear h ht
    go_enter Tryz.func39, Tryz.ntmps39
    go_wp2_with (go_at_call 67; refine (dmust_false 10 1 _).mono ?_; rintro e u ⟨rfl, rfl⟩)
    exact ⟨rfl, Kb.refl _ _ _, rfl⟩
  | cons x t =>
    have HB := Lib.hid (block_all (DC.fuel (x :: t)) w0 w p lv nv (x :: t) [] S 1 h (by simp) ht (Nat.le_refl _) (by simp) (by omega))
    obtain ⟨A, HA⟩ : ∃ A, Hid (A = DC.doc (x :: t)) := ⟨_, Lib.hid rfl⟩
    rw [show DC.doc (x :: t) = A from HA.out.symm]
    obtain ⟨R, hR⟩ : ∃ R, DC.blk (DC.fuel (x :: t)) 1 ([] : List DC.Nd).length (x :: t) = R := ⟨_, rfl⟩
    have HE := Lib.hid (show A = R.bind fun a => match a.2 with | [] => .ok a.1 | q :: _ => .bad 6 q.2.1 by rw [HA.out, DC.doc, if_neg (by simp), ← hR]; rfl)
    rw [hR] at HB
    obtain ⟨ao, cap, rfl, _, _⟩ := h.rd.slice
    have c0 : w.cell? ⟨p, 0, none⟩ = some (.slice ao (t.length + 1) cap) := h.st.cell 0
    have hn : decide ((0 : Int) < (t.length : Int) + 1) = true := decide_eq_true (by omega)
    have hn2 : (0 : Int) < (t.length : Int) + 1 := by omega
    rw [show ((1 : Nat) : Int) = 1 from rfl] at HB
    clear h ht hR HA
    cases R with
    | bad k n =>
      have E := Lib.hid (show A = .bad k n from HE.out)
      clear HE
      go_enter Tryz.func39, Tryz.ntmps39
      go_wp2_with (first
        | (go_at_call 67; refine (dmust_true 10 1 _).mono ?_; rintro e u ⟨rfl, hw1⟩; replace hw1 := hw1.symm; subst hw1)
        | (go_at_call 68; refine HB.out.mono ?_; rintro e w2 ⟨hk, rfl⟩))
      rw [E.out]
      exact ⟨rfl, hk, rfl⟩
    | ok a =>
      obtain ⟨ns, r⟩ := a
      cases r with
      | nil =>
        have E := Lib.hid (show A = .ok ns from HE.out)
        clear HE
        go_enter Tryz.func39, Tryz.ntmps39
        go_wp2_with (first
          | (go_at_call 67; refine (dmust_true 10 1 _).mono ?_; rintro e u ⟨rfl, hw1⟩; replace hw1 := hw1.symm; subst hw1)
          | (go_at_call 68; refine HB.out.mono ?_; rintro e w2 ⟨hk, rfl, lv2, nv2, hp2, hn2⟩; have HK := Lib.hid hk; have HP := Lib.hid hp2; clear hk hn2; obtain ⟨ao2, cap2, rfl, _, _⟩ := hp2.rd.slice; have c2 : w2.cell? ⟨p, 0, none⟩ = some (.slice ao2 0 cap2) := hp2.st.cell 0; clear hp2))
        go_end0
        rw [E.out]
        exact ⟨HK.out, rfl, _, _, _, HP.out⟩
      | cons q r =>
        have E := Lib.hid (show A = .bad 6 q.2.1 from HE.out)
        clear HE
        go_enter Tryz.func39, Tryz.ntmps39
        go_wp2_with (first
          | (go_at_call 67; refine (dmust_true 10 1 _).mono ?_; rintro e u ⟨rfl, hw1⟩; replace hw1 := hw1.symm; subst hw1)
          | (go_at_call 68; refine HB.out.mono ?_; rintro e w2 ⟨hk, rfl, lv2, nv2, hp2, hn2⟩; have HK := Lib.hid hk; have HBL := Lib.hid hp2.bl; clear hk hn2; obtain ⟨bx, off, cap2, rfl, _, _, hx, _⟩ := hp2.rd.first; have hx2 := (hx.below hp2.bl).c1; have c2 : w2.cell? ⟨p, 0, none⟩ = some (.slice (some ⟨bx, off, none⟩) (r.length + 1) cap2) := hp2.st.cell 0; have hr2 : (0 : Int) < (r.length : Int) + 1 := (by omega); clear hp2 hx)
          | (go_at_call 69; refine (dfail_any 6 q.2.1 _).mono ?_; rintro e u ⟨rfl, rfl⟩))
        rw [E.out]
        exact ⟨rfl, HK.out, rfl⟩
end Go.Proofs.YtgfhabofhefaaaaGreatDoor
namespace Go.Proofs.YtgfhabofhefaaaaGreatDoor
open Go.RowKit
set_option maxHeartbeats 1000000 in
theorem dcatch_idle (p q : Value) (w : World) :
    CallsD Tryz.prog 38 #[p, q] .returning w fun e u' w' => e = .returned (.tuple #[]) ∧ u' = .returning ∧ w' = w := by
  refine callsD_of_wpS Tryz.func38 rfl fun c₀ cs hu => ?_
  apply wpS_seq
  apply wpS_region
  simp [wpOpsS, go_sem, recoverD, hu, Tryz.ntmps38, Exit.thenS]
  refine wpS_of_wp ?_
  go_wp2
  cases c₀
  simp_all [bodyPostS, results, Tryz.results38]
theorem dassert_yes (k n : Int) (w : World) : (Instr.typeAssert (.iface 82 (.agg #[.int .i64 k, .int .i64 n])) 20 82 true).run Tryz.prog w = .ok (.tuple #[.agg #[.int .i64 k, .int .i64 n], .bool true]) w := by kernel_rfl
theorem dframe (p q v : Value) : #[p, q] ++ (Array.replicate 12 undef).setIfInBounds 3 v = #[p, q, undef, undef, undef, v, undef, undef, undef, undef, undef, undef, undef, undef] := rfl
set_option maxHeartbeats 2000000 in
theorem dcatch_panicking (k n : Int) (b c : Nat) (y f0 f1 : Value) (w : World) (hb : Str w b 26 #[y]) (hc : Str w c 39 #[f0, f1]) :
    CallsD Tryz.prog 38 #[.pointer (some ⟨b, 0, none⟩), .pointer (some ⟨c, 0, none⟩)] (.panicking (gaveD k n)) w fun e u' w' =>
      e = .returned (.tuple #[]) ∧ u' = .panicking (tookD k n) ∧ Str w' b 26 #[.slice none 0 0] ∧ Str w' c 39 #[.int .i64 k, .int .i64 n] ∧ Kb w w' (some b) (some c) := by
  have hbc : b ≠ c := hb.apart_str hc (by decide)
  have BA := below_alloc w (.cells #[.int .i64 k, .int .i64 n] 82)
  have HB := Lib.hid (hb.below BA)
  have HC := Lib.hid (hc.below BA)
  have HN := Lib.hid (Str.new w 82 #[.int .i64 k, .int .i64 n])
  have HK := Lib.hid (Kb.of_below BA (some b) (some c))
  have asr := dassert_yes k n
  clear hb hc BA
  refine callsD_of_wpS Tryz.func38 rfl fun c₀ cs hu => ?_
  apply wpS_seq
  apply wpS_region
  simp [wpOpsS, go_sem, recoverD, hu, gaveD, Tryz.ntmps38, Exit.thenS]
  refine wpS_of_wp ?_
  rw [dframe]
  go_wp2
  generalize w.alloc (.cells #[.int .i64 k, .int .i64 n] 82) = w1 at *
  generalize w.heap.size = P at *
  have k0 : w1.cell? ⟨P, 0, none⟩ = some (.int .i64 k) := HN.out.cell 0
  have k1 : w1.cell? ⟨P, 1, none⟩ = some (.int .i64 n) := HN.out.cell 1
  have b0 : w1.cell? ⟨b, 0, none⟩ = some y := HB.out.cell 0
  have bf := HB.out.frozen 0
  have c0 : w1.cell? ⟨c, 0, none⟩ = some f0 := HC.out.cell 0
  have c1 : w1.cell? ⟨c, 1, none⟩ = some f1 := HC.out.cell 1
  have cf0 := HC.out.frozen 0
  have cf1 := HC.out.frozen 1
  have hPb : P ≠ b := HN.out.apart_str HB.out (by decide)
  have kbb := Kb.set w1 b 0 (.slice none 0 0) none
  have SB1 := Lib.hid (HB.out.set 0 (.slice none 0 0))
  have SN1 := Lib.hid (HN.out.kb kbb (by simpa using hPb) (by simp))
  have SC1 := Lib.hid (HC.out.kb kbb (by simpa using fun h => hbc h.symm) (by simp))
  have k0' : (w1.setCell ⟨b, 0, none⟩ (.slice none 0 0)).cell? ⟨P, 0, none⟩ = some (.int .i64 k) := SN1.out.cell 0
  have k1' : (w1.setCell ⟨b, 0, none⟩ (.slice none 0 0)).cell? ⟨P, 1, none⟩ = some (.int .i64 n) := SN1.out.cell 1
  have c0' : (w1.setCell ⟨b, 0, none⟩ (.slice none 0 0)).cell? ⟨c, 0, none⟩ = some f0 := SC1.out.cell 0
  have c1' : (w1.setCell ⟨b, 0, none⟩ (.slice none 0 0)).cell? ⟨c, 1, none⟩ = some f1 := SC1.out.cell 1
  have cf0' := SC1.out.frozen 0
  have cf1' := SC1.out.frozen 1
  have SF : Hid (Str _ c 39 #[.int .i64 k, .int .i64 n]) := (SC1.out.two' (.int .i64 k) (.int .i64 n)).below (below_drew _)
  have kcc := (Kb.set (w1.setCell ⟨b, 0, none⟩ (.slice none 0 0)) c 0 (.int .i64 k) none).trans (Kb.set _ c 1 (.int .i64 n) none)
  have SB : Hid (Str _ b 26 #[.slice none 0 0]) := (Str.kb (by simpa using SB1.out) kcc (by simpa using hbc) (by simp)).below (below_drew _)
  have KK : Hid (Kb w _ (some b) (some c)) := (((HK.out.trans (Kb.set w1 b 0 (.slice none 0 0) (some c))).trans ⟨kcc.os, kcc.tape, kcc.output, kcc.size, fun j hj h1 h2 => kcc.block j hj h2 (by simp)⟩).trans (Kb.of_below (below_drew _) (some b) (some c)))
  clear kbb kcc
  go_region
  exact ⟨rfl, _, rfl, .tuple #[], by simp [results, Tryz.results38], rfl, rfl, SB.out, SF.out, KK.out⟩
def OfE (w : World) (l : List LX.Pc) (e : Ending) (w' : World) : Prop :=
  Below w.heap.size w w' ∧ ∃ v S, e = .returned (.tuple #[.agg #[v], .agg #[.int .i64 (DC.fault l).1, .int .i64 (DC.fault l).2]]) ∧ Nds w' w.heap.size S v (DC.nodes l)
theorem doc_size : (Tryz.prog.info? 26).map (·.size) = some 1 := by kernel_rfl
theorem dret_both {tmps : Array Value} {w : World} {p q : Nat} {x y z : Value} (hp : tmps.getD 2 undef = .pointer (some ⟨p, 0, none⟩)) (hq : tmps.getD 3 undef = .pointer (some ⟨q, 0, none⟩)) (h1 : Str w p 26 #[x]) (h2 : Str w q 39 #[y, z]) :
    (results Tryz.f16 tmps).run Tryz.prog w = .ok (.tuple #[.agg #[x], .agg #[y, z]]) w := by
  have hs' : w.heap[q]? = some (.cells #[y, z] 39 (0, 0)) := h2
  have hs1 : w.heap[p]? = some (.cells #[x] 26 (0, 0)) := h1
  have l2 := run_loadVar_row (P := Tryz.prog) w q 39 39 #[y, z] (0, 0) _ hs' Tryz.underlying39 rfl fault_size
  have l1 := run_loadVar_row (P := Tryz.prog) w p 26 26 #[x] (0, 0) _ hs1 Tryz.underlying26 rfl doc_size
  have hp' : (asAddr (tmps.getD 2 undef)).run Tryz.prog w = .ok ⟨p, 0, none⟩ w := by rw [hp]; simp [asAddr]
  have hq' : (asAddr (tmps.getD 3 undef)).run Tryz.prog w = .ok ⟨q, 0, none⟩ w := by rw [hq]; simp [asAddr]
  simp only [Array.getD_eq_getD_getElem?] at hp' hq'
  simp only [results, Tryz.results16]
  simp [Sem.run_bind, Result.andThen, hp', hq', l1, l2]
abbrev dDef (n : Nat) : List Deferred := [{ target := .fn (.func 38) #[.pointer (some ⟨n, 0, none⟩), .pointer (some ⟨n + 1, 0, none⟩)], args := #[] }]
structure DoD (w wr : World) (x y z : Value) : Prop where
  bl : Below w.heap.size w wr
  b : Str wr w.heap.size 26 #[x]
  c : Str wr (w.heap.size + 1) 39 #[y, z]
theorem ddoor_gave {w wr : World} {tmps : Array Value} {l : List LX.Pc} {x y z : Value} {k n : Int} (hp : tmps.getD 2 undef = .pointer (some ⟨w.heap.size, 0, none⟩)) (hq : tmps.getD 3 undef = .pointer (some ⟨w.heap.size + 1, 0, none⟩)) (h : DoD w wr x y z) (hr : DC.doc l = .bad k n) :
    Leaves Tryz.prog Tryz.f16 tmps (OfE w l) (dDef w.heap.size) (.panicking (gaveD k n)) wr := by
  refine leaves_cons (f := 38) (args := #[.pointer (some ⟨w.heap.size, 0, none⟩), .pointer (some ⟨w.heap.size + 1, 0, none⟩)]) (by simp) (by simp [go_sem]) ?_
  refine (dcatch_panicking k n w.heap.size (w.heap.size + 1) x y z wr h.b h.c).mono ?_
  rintro e u' w' ⟨rfl, rfl, s1, s2, kb⟩
  refine ⟨_, dret_both hp hq s1 s2, ?_, .slice none 0 0, fun _ => False, ?_, ?_⟩
  · exact h.bl.trans (kb.below h.bl.size (fun g hg => by have := Option.some.inj hg; omega) (fun g hg => by have := Option.some.inj hg; omega))
  · simp only [DC.fault, hr]
  · simp only [DC.nodes, hr]; exact Nds.nil _ _ _
theorem ddoor_done {w wr : World} {tmps : Array Value} {l : List LX.Pc} {x : Value} {ns : List DC.Nd} {S : Nat → Prop} (hp : tmps.getD 2 undef = .pointer (some ⟨w.heap.size, 0, none⟩)) (hq : tmps.getD 3 undef = .pointer (some ⟨w.heap.size + 1, 0, none⟩)) (h : DoD w wr x (.int .i64 0) (.int .i64 0)) (hr : DC.doc l = .ok ns) (ho : Nds wr w.heap.size S x ns) :
    Leaves Tryz.prog Tryz.f16 tmps (OfE w l) (dDef w.heap.size) .returning wr := by
  refine leaves_cons (f := 38) (args := #[.pointer (some ⟨w.heap.size, 0, none⟩), .pointer (some ⟨w.heap.size + 1, 0, none⟩)]) (by simp) (by simp [go_sem]) ?_
  refine (dcatch_idle _ _ wr).mono ?_
  rintro e u' w' ⟨rfl, rfl, rfl⟩
  refine ⟨_, dret_both hp hq h.b h.c, h.bl, x, S, ?_, ?_⟩
  · simp only [DC.fault, hr]
  · simp only [DC.nodes, hr]; exact ho
theorem DoD.far {w wr w' : World} {x y z : Value} {q : Option Nat} (h : DoD w wr x y z) (hk : Kb wr w' (some (w.heap.size + 2)) q) (hq : ∀ g, q = some g → w.heap.size + 2 ≤ g) : DoD w w' x y z := by
  refine ⟨h.bl.trans (hk.below h.bl.size (fun g hg => by have := Option.some.inj hg; omega) (fun g hg => by have := hq g hg; omega)), h.b.kb hk (by simp) (fun e => ?_), h.c.kb hk (by simp) (fun e => ?_)⟩
  · have := hq _ e.symm; omega
  · have := hq _ e.symm; omega
theorem DoD.laid {w wr : World} {x y z : Value} (h : DoD w wr x y z) (v f g : Value) :
    DoD w (((wr.setCell ⟨w.heap.size, 0, none⟩ v).setCell ⟨w.heap.size + 1, 0, none⟩ f).setCell ⟨w.heap.size + 1, 1, none⟩ g) v f g ∧ Kb wr (((wr.setCell ⟨w.heap.size, 0, none⟩ v).setCell ⟨w.heap.size + 1, 0, none⟩ f).setCell ⟨w.heap.size + 1, 1, none⟩ g) (some w.heap.size) (some (w.heap.size + 1)) := by
  have kb := Kb.set wr w.heap.size 0 v none
  have kc := (Kb.set (wr.setCell ⟨w.heap.size, 0, none⟩ v) (w.heap.size + 1) 0 f none).trans (Kb.set _ (w.heap.size + 1) 1 g none)
  have sb : Str (wr.setCell ⟨w.heap.size, 0, none⟩ v) w.heap.size 26 #[v] := by simpa using h.b.set 0 v
  have sc : Str (wr.setCell ⟨w.heap.size, 0, none⟩ v) (w.heap.size + 1) 39 #[y, z] := h.c.kb kb (by simp) (by simp)
  have kk : Kb wr _ (some w.heap.size) (some (w.heap.size + 1)) := (Kb.set wr w.heap.size 0 v (some (w.heap.size + 1))).trans ⟨kc.os, kc.tape, kc.output, kc.size, fun j hj h1 h2 => kc.block j hj h2 (by simp)⟩
  exact ⟨⟨h.bl.trans (kk.below h.bl.size (fun g hg => by have := Option.some.inj hg; omega) (fun g hg => by have := Option.some.inj hg; omega)), sb.kb kc (by simp) (by simp), sc.two' f g⟩, kk⟩
theorem of_start (w : World) (lv : Value) (l : List LX.Pc) (hr : Rdp w lv l) :
    Pst w (((w.alloc (.cells #[.slice none 0 0] 26)).alloc (.cells #[.int .i64 0, .int .i64 0] 39)).alloc (.cells #[lv, .slice none 0 0] 84)) (w.heap.size + 1 + 1) lv (.slice none 0 0) l [] (fun _ => False) ∧
    DoD w (((w.alloc (.cells #[.slice none 0 0] 26)).alloc (.cells #[.int .i64 0, .int .i64 0] 39)).alloc (.cells #[lv, .slice none 0 0] 84)) (.slice none 0 0) (.int .i64 0) (.int .i64 0) := by
  obtain ⟨w1, h1⟩ : ∃ w1, w.alloc (.cells #[.slice none 0 0] 26) = w1 := ⟨_, rfl⟩
  have B1 := below_alloc w (.cells #[.slice none 0 0] 26)
  have s1 := Str.new w 26 #[.slice none 0 0]
  have z1 := bx_size w (.cells #[.slice none 0 0] 26)
  rw [h1] at B1 s1 z1 ⊢
  obtain ⟨w2, h2⟩ : ∃ w2, w1.alloc (.cells #[.int .i64 0, .int .i64 0] 39) = w2 := ⟨_, rfl⟩
  have B2 := below_alloc w1 (.cells #[.int .i64 0, .int .i64 0] 39)
  have s2 := Str.new w1 39 #[.int .i64 0, .int .i64 0]
  have z2 := bx_size w1 (.cells #[.int .i64 0, .int .i64 0] 39)
  rw [h2] at B2 s2 z2 ⊢
  have B3 := below_alloc w2 (.cells #[lv, .slice none 0 0] 84)
  have s3 := Str.new w2 84 #[lv, .slice none 0 0]
  rw [z2, z1] at s3
  rw [z1] at s2
  have BB := below_trans B1 (below_trans B2 B3)
  exact ⟨⟨BB, by omega, s3, hr, Nds.nil _ _ _, fun g hg => hg.elim⟩, BB, s1.below (below_trans B2 B3), s2.below B3⟩
set_option maxHeartbeats 8000000 in
theorem of_any (lv : Value) (l : List LX.Pc) (w : World) (hr : Rdp w lv l) (ht : Texts l) :
    Calls Tryz.prog 16 #[lv] w (OfE w l) := by
  have hmf : ∀ (fn : Fn) (first cap : Array Value) (w : World), (Instr.makeFunc fn first cap).run Tryz.prog w = .ok (.func fn first cap) w := fun _ _ _ _ => rfl
  have hs := of_start w lv l hr
  obtain ⟨al, cl, rfl, _, _⟩ := hr.slice
  have HR := Lib.hid (root_any hs.1 ht)
  have HD := Lib.hid hs.2
  obtain ⟨A, hA⟩ : ∃ A, DC.doc l = A := ⟨_, rfl⟩
  have HA := Lib.hid hA
  rw [hA] at HR
  clear hs hr ht hA
  go_enter_defers Tryz.func16, Tryz.ntmps16
  go_wp2_with fail
  refine HR.out.mono ?_
  rintro e w1 ⟨hk, he⟩
  have HD1 := Lib.hid (HD.out.far hk (by intro g hg; cases hg))
  cases A with
  | bad k n =>
    subst he
    exact ddoor_gave rfl rfl HD1.out HA.out
  | ok ns =>
    obtain ⟨rfl, lv', nv', S', hp⟩ := he
    obtain ⟨ao, cp, rfl⟩ := hp.nd.slice
    have p1 : w1.cell? ⟨w.heap.size + 1 + 1, 1, none⟩ = some (.slice ao ns.length cp) := hp.st.cell 1
    have b0 : w1.cell? ⟨w.heap.size, 0, none⟩ = some (.slice none 0 0) := HD1.out.b.cell 0
    have bf : w1.frozen? ⟨w.heap.size, 0, none⟩ = false := HD1.out.b.frozen 0
    have hz := HD1.out.laid (.slice ao ns.length cp) (.int .i64 0) (.int .i64 0)
    have sc : Str (w1.setCell ⟨w.heap.size, 0, none⟩ (.slice ao ns.length cp)) (w.heap.size + 1) 39 #[.int .i64 0, .int .i64 0] := HD1.out.c.kb (Kb.set w1 w.heap.size 0 _ none) (by simp) (by simp)
    have c0 : (w1.setCell ⟨w.heap.size, 0, none⟩ (.slice ao ns.length cp)).cell? ⟨w.heap.size + 1, 0, none⟩ = some (.int .i64 0) := sc.cell 0
    have c1 : (w1.setCell ⟨w.heap.size, 0, none⟩ (.slice ao ns.length cp)).cell? ⟨w.heap.size + 1, 1, none⟩ = some (.int .i64 0) := sc.cell 1
    have cf0 : (w1.setCell ⟨w.heap.size, 0, none⟩ (.slice ao ns.length cp)).frozen? ⟨w.heap.size + 1, 0, none⟩ = false := sc.frozen 0
    have cf1 : (w1.setCell ⟨w.heap.size, 0, none⟩ (.slice ao ns.length cp)).frozen? ⟨w.heap.size + 1, 1, none⟩ = false := sc.frozen 1
    have HO2 : Hid (Nds _ _ _ _ ns) := Lib.hid (hp.nd.kb hz.2 (Far.str HD1.out.b (by decide) (by decide)) (Far.str HD1.out.c (by decide) (by decide)) (hp.nd.off HD1.out.b (by decide)) (hp.nd.off HD1.out.c (by decide)))
    have HZ := Lib.hid hz.1
    clear hk hp hz sc HR HD HD1
    go_wp2
    exact ddoor_done rfl rfl HZ.out HA.out HO2.out
end Go.Proofs.YtgfhabofhefaaaaGreatDoor
namespace Go.Proofs.YtgfhabofhefaaaaGreatDoor
open Go.RowKit
def lc (x : LN.Ln) : Array Value := #[.int .i64 (x.1 : Int), .int .i64 (x.2.1 : Int), .string ⟨x.2.2.toArray⟩]
def lv1 (x : LN.Ln) : List Value := [.int .i64 (x.1 : Int), .int .i64 (x.2.1 : Int), .string ⟨x.2.2.toArray⟩]
def lv (ls : List LN.Ln) : List Value := ls.flatMap lv1
theorem lv_app (a b : List LN.Ln) : lv (a ++ b) = lv a ++ lv b := by simp [lv]
theorem lv_at : ∀ {ls : List LN.Ln} {j : Nat} {x : LN.Ln}, ls[j]? = some x → (lv ls)[j * 3]? = some (.int .i64 (x.1 : Int)) ∧ (lv ls)[j * 3 + 1]? = some (.int .i64 (x.2.1 : Int)) ∧ (lv ls)[j * 3 + 2]? = some (.string ⟨x.2.2.toArray⟩)
  | [], _, _, h => by simp at h
  | x :: ls, 0, s, h => by
    have : x = s := by simpa using h
    subst this
    exact ⟨rfl, rfl, rfl⟩
  | x :: ls, j + 1, s, h => by
    have h' : ls[j]? = some s := by simpa using h
    have hh := lv_at h'
    have e1 : ∀ i, (lv (x :: ls))[(j + 1) * 3 + i]? = (lv ls)[j * 3 + i]? := by
      intro i
      have e0 : lv (x :: ls) = lv1 x ++ lv ls := rfl
      rw [e0, List.getElem?_append_right (by simp [lv1]; omega)]
      congr 1
      simp [lv1]; omega
    have e2 := e1 0
    simp only [Nat.add_zero] at e2
    rw [e2, e1, e1]
    exact hh
theorem lv_one {ls : List LN.Ln} : ∀ u ∈ lv ls, u.oneCell' = true := by
  intro u hu
  obtain ⟨s, _, h⟩ := List.mem_flatMap.1 hu
  simp [lv1] at h
  rcases h with rfl | rfl | rfl <;> rfl
structure At3 (w : World) (b o : Nat) (x : LN.Ln) : Prop where
  c0 : w.cell? ⟨b, o, none⟩ = some (.int .i64 (x.1 : Int))
  c1 : w.cell? ⟨b, o + 1, none⟩ = some (.int .i64 (x.2.1 : Int))
  c2 : w.cell? ⟨b, o + 2, none⟩ = some (.string ⟨x.2.2.toArray⟩)
theorem At3.below {w w' : World} {b o : Nat} {x : LN.Ln} (h : At3 w b o x) (hb : Below w.heap.size w w') : At3 w' b o x :=
  ⟨(hb.cell (cell_lt h.c0)).trans h.c0, (hb.cell (cell_lt h.c1)).trans h.c1, (hb.cell (cell_lt h.c2)).trans h.c2⟩
def Rdn (w : World) (v : Value) (ls : List LN.Ln) : Prop :=
  ∃ ao cap, v = .slice ao ls.length cap ∧ ls.length ≤ cap ∧ cap ≤ maxLen ∧ (ao = none → cap = 0) ∧ ∀ j x, ls[j]? = some x → ∃ b off, ao = some ⟨b, off, none⟩ ∧ At3 w b (off + j * 3) x
theorem Rdn.below {w w' : World} {v : Value} {ls : List LN.Ln} (h : Rdn w v ls) (hb : Below w.heap.size w w') : Rdn w' v ls := by
  obtain ⟨ao, cap, hv, h1, h2, h3, h4⟩ := h
  refine ⟨ao, cap, hv, h1, h2, h3, fun j s hs => ?_⟩
  obtain ⟨b, off, hx, c⟩ := h4 j s hs
  exact ⟨b, off, hx, c.below hb⟩
theorem Rdn.nil (w : World) : Rdn w (.slice none 0 0) [] := ⟨none, 0, rfl, by simp, by simp [maxLen], fun _ => rfl, by simp⟩
def Ownn (w : World) (base : Nat) (v : Value) (ls : List LN.Ln) : Prop := w.ownsRow base 105 3 v ls.length (lv ls)
theorem Ownn.nil (w : World) (base : Nat) : Ownn w base (.slice none 0 0) [] := World.ownsRow_nil w base _ 3
theorem Ownn.below {w w' : World} {base : Nat} {v : Value} {ls : List LN.Ln} (h : Ownn w base v ls) (hb : Below w.heap.size w w') : Ownn w' base v ls := by
  refine ⟨h.1, ?_⟩
  rcases h.2 with hn | ⟨g, cap, cur, hv, hbg, hg, rest⟩
  · exact .inl hn
  · exact .inr ⟨g, cap, cur, hv, hbg, (hb.block g (Array.getElem?_eq_some_iff.1 hg).1).trans hg, rest⟩
theorem Ownn.rd {w : World} {base : Nat} {v : Value} {ls : List LN.Ln} (h : Ownn w base v ls) : Rdn w v ls := by
  rcases h.2 with ⟨hv, hn⟩ | ⟨g, cap, cur, hv, hb, hg, hnc, hcm, hcs, ht⟩
  · obtain rfl : ls = [] := List.length_eq_zero_iff.1 hn
    rw [hv]; exact Rdn.nil w
  · refine ⟨some ⟨g, 0, none⟩, cap, hv, hnc, hcm, (by intro h; cases h), fun j s hs => ⟨g, 0, rfl, ?_⟩⟩
    obtain ⟨k0, k1, k2⟩ := lv_at hs
    have q0 := World.ownsRow.cells h (by rw [hv]; rfl) _ _ k0
    have q1 := World.ownsRow.cells h (by rw [hv]; rfl) _ _ k1
    have q2 := World.ownsRow.cells h (by rw [hv]; rfl) _ _ k2
    rw [Addr.add_lit] at q0 q1 q2
    simp only [Nat.zero_add] at q0 q1 q2 ⊢
    exact ⟨q0, q1, q2⟩
theorem Ownn.slice {w : World} {base : Nat} {v : Value} {ls : List LN.Ln} (h : Ownn w base v ls) : ∃ ao cap, v = .slice ao ls.length cap := by
  rcases h.2 with ⟨hv, hn⟩ | ⟨g, cap, cur, hv, _⟩
  · exact ⟨none, 0, by rw [hv, hn]⟩
  · exact ⟨_, cap, hv⟩
theorem Ownn.ownBlock {w : World} {base : Nat} {v : Value} {ls : List LN.Ln} (h : Ownn w base v ls) {g : Nat} (hg : v.ownBlock = some g) : (∃ cur, w.heap[g]? = some (.cells cur 105 (0, 0))) ∧ base ≤ g ∧ g < w.heap.size := by
  rcases h.2 with ⟨hv, _⟩ | ⟨g', cap, cur, hv, hb, hc, _⟩
  · rw [hv] at hg; cases hg
  · rw [hv] at hg
    obtain rfl : g' = g := Option.some.inj hg
    exact ⟨⟨cur, hc⟩, hb, (Array.getElem?_eq_some_iff.1 hc).1⟩
theorem Ownn.kb {w w' : World} {base : Nat} {v : Value} {ls : List LN.Ln} {p q : Option Nat} (h : Ownn w base v ls) (hk : Kb w w' p q) (h1 : v.ownBlock = none ∨ v.ownBlock ≠ p) (h2 : v.ownBlock = none ∨ v.ownBlock ≠ q) : Ownn w' base v ls := by
  refine ⟨h.1, ?_⟩
  rcases h.2 with hn | ⟨g, cap, cur, rfl, hb, hgg, rest⟩
  · exact .inl hn
  · refine .inr ⟨g, cap, cur, rfl, hb, ?_, rest⟩
    rw [hk.block g (Array.getElem?_eq_some_iff.1 hgg).1 (by simpa [Value.ownBlock] using h1) (by simpa [Value.ownBlock] using h2)]
    exact hgg
theorem Ownn.off {w : World} {base : Nat} {T : TypeId} {v : Value} {ls : List LN.Ln} {p : Nat} {cs : Array Value} (h : Ownn w base v ls) (hs : Str w p T cs) (hne : 105 ≠ T) : v.ownBlock = none ∨ v.ownBlock ≠ some p := by
  cases hg : v.ownBlock with
  | none => exact .inl rfl
  | some g =>
    right
    intro e
    obtain rfl := Option.some.inj e
    obtain ⟨⟨cur, hc⟩, _⟩ := h.ownBlock hg
    have h' : w.heap[g]? = some (.cells cs T (0, 0)) := hs
    rw [h'] at hc
    simp at hc
    exact hne hc.2.symm
theorem Ownn.base {w : World} {b b' : Nat} {v : Value} {ls : List LN.Ln} (h : Ownn w b v ls) (hb : b' ≤ b) : Ownn w b' v ls := by
  refine ⟨h.1, ?_⟩
  rcases h.2 with hn | ⟨g, cap, cur, hv, hbg, rest⟩
  · exact .inl hn
  · exact .inr ⟨g, cap, cur, hv, Nat.le_trans hb hbg, rest⟩
theorem Tryz.info_line : (Tryz.prog.info? 105).map (fun i => (i.zero, i.size, i.bytes)) = some (some (.agg #[.int .i64 0, .int .i64 0, .string ⟨#[]⟩]), 3, 32) := by kernel_rfl
theorem line_size : (Tryz.prog.info? 105).map (·.size) = some 3 := by kernel_rfl
theorem Str.at3 {x : World} {p : Nat} {T : TypeId} {l : LN.Ln} (h : Str x p T (lc l)) : At3 x p 0 l := ⟨h.cell 0, h.cell 1, h.cell 2⟩
theorem line_news {w : World} {g0 : Nat} {x : LN.Ln} (hc : At3 w g0 0 x) : ∀ j u, (lv [x])[j]? = some u → w.cell? ((⟨g0, 0, none⟩ : Addr).add j) = some u := by
  intro j y hy
  rw [Addr.add_lit, Nat.zero_add]
  match j, hy with
  | 0, hy =>
    have : Value.int .i64 (x.1 : Int) = y := by simpa [lv, lv1] using hy
    rw [← this]; exact hc.c0
  | 1, hy =>
    have : Value.int .i64 (x.2.1 : Int) = y := by simpa [lv, lv1] using hy
    rw [← this]; exact hc.c1
  | 2, hy =>
    have : Value.string ⟨x.2.2.toArray⟩ = y := by simpa [lv, lv1] using hy
    rw [← this]; exact hc.c2
  | j + 3, hy => simp [lv, lv1] at hy
theorem wpList_append_line {w : World} {ops : Array Oper} {rest : List Oper} {o : Oper} {a : Act} {Q : Exit → Act → World → Prop} (hgd : o.guard = none) (s x : Operand)
    (ho : o.op = .call { callee := .builtin .append, args := #[s, x], argTypes := #[68, 68] })
    (base : Nat) {v : Value} {ls : List LN.Ln} {l : LN.Ln} {g0 c : Nat} (hs : a.eval s = v) (hown : Ownn w base v ls) (hx : a.eval x = .slice (some ⟨g0, 0, none⟩) 1 c) (hc : At3 w g0 0 l)
    (hlen : ls.length ≤ 20000) (hbase : base ≤ w.heap.size)
    (h : ∀ g cap w', Ownn w' base (.slice (some ⟨g, 0, none⟩) (ls.length + 1) cap) (ls ++ [l]) → w.grownBy w' v.ownBlock → wpList Tryz.prog ops Q rest (a.put o.dst (.slice (some ⟨g, 0, none⟩) (ls.length + 1) cap)) w') : wpList Tryz.prog ops Q (o :: rest) a w := by
  obtain ⟨i, hi, hz0, hz1, hz2⟩ := infoparts Tryz.info_line
  refine wpList_append_lies _ hgd s x _ ho base _ i _ 3 32 Tryz.underlying68 hi hz0 hz1 hz2 rfl (by decide) v ls.length (lv ls) hs hown ⟨g0, 0, none⟩ 1 c (lv [l]) hx rfl (line_news hc) lv_one (by decide) (by unfold maxLen; omega) (by omega) hbase _ rfl ?_
  intro g cap' w' ho' hg _ _
  refine h g cap' w' ?_ hg
  show w'.ownsRow base _ 3 _ (ls ++ [l]).length (lv (ls ++ [l]))
  rw [lv_app, List.length_append]; exact ho'
theorem splitV_cap : ∀ (k : Nat) (a : Addr) (cap : Nat) (l : List UInt8), l.length ≤ cap → ∀ v ∈ Lib.splitV [10] 0 k a cap l, ∃ a' len cp, v = .slice (some a') len cp ∧ cp ≤ cap
  | 0, a, cap, l, _, v, hv => by
    simp [Lib.splitV] at hv
    exact ⟨a, l.length, cap, hv, Nat.le_refl _⟩
  | k + 1, a, cap, l, hl, v, hv => by
    unfold Lib.splitV at hv
    by_cases hm : (Lib.index l [10] == -1) = true
    · rw [if_pos hm] at hv
      simp at hv
      exact ⟨a, l.length, cap, hv, Nat.le_refl _⟩
    · rw [if_neg hm] at hv
      have hge := Lib.index_ge l [10]
      have hne : Lib.index l [10] ≠ -1 := fun e => hm (beq_iff_eq.2 e)
      have hroom := Lib.index_room l [10] (by omega)
      simp only [List.length_cons, List.length_nil] at hroom
      rcases List.mem_cons.1 hv with rfl | hv
      · exact ⟨a, _, _, rfl, by omega⟩
      · obtain ⟨a', len, cp, h1, h2⟩ := splitV_cap k _ _ _ (by rw [List.length_drop]; simp; omega) v hv
        exact ⟨a', len, cp, h1, by omega⟩
def zs (bs : List UInt8) : List Int := bs.map fun b => (b.toNat : Int)
theorem zs_bytes (bs : List UInt8) : Lib.bytesOf (zs bs) = bs := by
  unfold Lib.bytesOf zs
  rw [List.map_map]
  conv => rhs; rw [← List.map_id bs]
  apply List.map_congr_left
  intro b _
  simp
theorem zs_get {bs : List UInt8} {i : Nat} (h : i < bs.length) : (zs bs).getD i 0 = (bs[i].toNat : Int) := by
  simp [zs, List.getD_eq_getElem?_getD, h]
theorem split_any (v : Value) (bs : List UInt8) (g : Nat) (w : World) (hr : Rdv w v (bv bs)) (hl : bs.length ≤ 16384) (hg : w.cell? ⟨g, 0, none⟩ = some (.int .u8 10)) (hm : MaxIs w) :
    Calls Tryz.prog 54 #[v, .slice (some ⟨g, 0, none⟩) 1 1] w fun e w' => ∃ x vs, e = .returned x ∧ Own w' w.heap.size 35 x vs ∧ RdAll w vs (LN.rows bs) ∧ Below w.heap.size w w' := by
  obtain ⟨ao, cap, rfl, h1, h2, h3, h4⟩ := hr
  rw [bv_len] at h1 ⊢
  cases ao with
  | none =>
    obtain rfl := h3 rfl
    obtain rfl : bs = [] := List.length_eq_zero_iff.1 (by omega)
    refine (Tryz.bytes_Split_nil (some ⟨g, 0, none⟩) 1 1 w (by decide) (by decide) (fun _ => ⟨g, 0, 10, rfl, hg⟩)).mono ?_
    rintro e w' ⟨rfl, rfl⟩
    refine ⟨_, [.slice none 0 0], rfl, Own.lit w [.slice none 0 0] (Nat.le_refl _) (by decide), ⟨rfl, ?_⟩, below_alloc _ _⟩
    intro j v bs h1 h2
    cases j with
    | zero =>
      have e1 : Value.slice none 0 0 = v := by simpa using h1
      have e2 : [] = bs := by simpa [LN.rows] using h2
      subst e1 e2
      exact Rdv.nil _
    | succ j => simp at h1
  | some a =>
    obtain ⟨m, hm⟩ := hm
    have hcells : ∀ i, i < bs.length → w.cell? (a.add i) = some (.int .u8 ((zs bs).getD i 0)) := by
      intro i hi
      obtain ⟨x, hx, hc⟩ := h4 i _ (bv_get hi)
      obtain rfl := Option.some.inj hx
      rw [hc, zs_get hi]
    have T := Tryz.bytes_Split a ⟨g, 0, none⟩ bs.length cap 1 1 (zs bs) [10] m w (by simp [zs]) rfl (by
        intro x hx
        obtain ⟨b, _, rfl⟩ := List.mem_map.1 hx
        have := b.toNat_lt
        omega) (by intro y hy; obtain rfl : y = 10 := by simpa using hy
                   decide) hcells (by
        intro i hi
        obtain rfl : i = 0 := by omega
        exact hg) h1 (by omega) (by decide) (by unfold maxLen at h2; omega) (by decide) hm
    rw [zs_bytes] at T
    have e10 : Lib.bytesOf [10] = [10] := rfl
    rw [e10] at T
    refine T.mono ?_
    rintro e w' ⟨rfl, q, rfl⟩
    generalize hP : Lib.splitV [10] 0 (Lib.count bs [10]) a cap bs = pieces
    have hlen : pieces.length = Lib.count bs [10] + 1 := by
      rw [← hP, Lib.splitV_length, LN.split_all, LN.rows_len, Lib.count_one]
    have hB : Below w.heap.size w ((w.alloc (.cells pieces.toArray 35)).drewN q) := below_tr (below_alloc _ _) (below_drewN _ _)
    refine ⟨_, pieces, rfl, ?_, ⟨?_, ?_⟩, hB⟩
    · have := (Own.lit (base := w.heap.size) (e := 35) w pieces (Nat.le_refl _) (by
        rw [hlen, Lib.count_one]
        have := List.count_le_length (a := (10 : UInt8)) (l := bs)
        unfold maxLen; omega)).below (below_drewN _ q)
      rwa [hlen] at this
    · rw [hlen, LN.rows_len, Lib.count_one]
    · intro j v row hv hrow
      obtain ⟨a', off, len, cp, rfl, hlc, hol, hrw, hadd⟩ := Lib.splitV_spec [10] 0 (by simp) (by simp) (Lib.count bs [10]) a cap bs h1 j v (by rw [hP]; exact hv)
      rw [LN.split_all, hrow] at hrw
      obtain rfl := Option.some.inj hrw
      obtain ⟨a2, len2, cp2, he, hcp⟩ := splitV_cap (Lib.count bs [10]) a cap bs h1 _ (by rw [hP]; exact List.mem_of_getElem? hv)
      have hcp' : cp ≤ cap := by cases he; exact hcp
      have hrl : (bv ((bs.drop off).take len)).length = len := by rw [bv_len]; simp; omega
      refine ⟨some a', cp, by rw [hrl], by rw [hrl]; exact hlc, by omega, (by intro h; cases h), fun i u hu => ⟨a', rfl, ?_⟩⟩
      have hi : i < len := by
        have := (List.getElem?_eq_some_iff.1 hu).1
        omega
      rw [hadd i hi, hcells (off + i) (by omega), zs_get (by omega), ← hu]
      rw [bv_get (by simp; omega)]
      simp
end Go.Proofs.YtgfhabofhefaaaaGreatDoor
namespace Go.Proofs.YtgfhabofhefaaaaGreatDoor
open Go.RowKit
def wrongB (c : UInt8) : Bool := decide (c.toNat < 32) || decide (c.toNat = 127)
theorem bad_take {bs : List UInt8} {k : Nat} {c : UInt8} (h : bs[k]? = some c) (hk : LN.bad (bs.take k) = false) (hc : wrongB c = false) : LN.bad (bs.take (k + 1)) = false := by
  have hlt := (List.getElem?_eq_some_iff.1 h).1
  have e : bs.take (k + 1) = bs.take k ++ [c] := by
    rw [List.take_succ_eq_append_getElem hlt]
    rw [List.getElem?_eq_getElem hlt] at h
    rw [Option.some.inj h]
  unfold LN.bad at hk ⊢
  rw [e, List.any_append, hk]
  simpa [wrongB] using hc
theorem bad_at {bs : List UInt8} {k : Nat} {c : UInt8} (h : bs[k]? = some c) (hc : wrongB c = true) : LN.bad bs = true := by
  unfold LN.bad
  rw [List.any_eq_true]
  exact ⟨c, List.mem_of_getElem? h, hc⟩
theorem wrongB_cases (c : UInt8) {z : Int} (hz : (c.toNat : Int) = z) : (z < 32 ∧ wrongB c = true) ∨ (¬ z < 32 ∧ z = 127 ∧ wrongB c = true) ∨ (¬ z < 32 ∧ ¬ z = 127 ∧ wrongB c = false) := by
  unfold wrongB
  by_cases h1 : c.toNat < 32
  · exact .inl ⟨by omega, by simp [h1]⟩
  · by_cases h2 : c.toNat = 127
    · exact .inr (.inl ⟨by omega, by omega, by simp [h2]⟩)
    · exact .inr (.inr ⟨by omega, by omega, by simp [h1, h2]⟩)
set_option maxHeartbeats 800000 in
theorem wrong_any (v : Value) (bs : List UInt8) (w : World) (hr : Rdv w v (bv bs)) (hl : bs.length ≤ 20000) :
    Calls Tryz.prog 82 #[v] w fun e w' => e = .returned (.bool (LN.bad bs)) ∧ w' = w := by
  have HR := Lib.hid hr
  obtain ⟨ao, cap, rfl, -⟩ := hr
  rw [bv_len]
  have HN := Lib.hid (HR.out)
  rw [bv_len] at HN
  clear HR
  obtain ⟨n, hn⟩ : ∃ n, bs.length = n := ⟨_, rfl⟩
  have HL := Lib.hid hn
  rw [hn] at HN hl ⊢
  clear hn
  go_enter Tryz.func82, Tryz.ntmps82
  go_wp2
  go_loopg [7] n (fun g s7 wx => ∃ k : Nat, k + g = n ∧ s7 = .int .i64 (k : Int) ∧ wx = w ∧ Hid (LN.bad (bs.take k) = false))
  case atStart => exact ⟨0, by omega, rfl, rfl, by show LN.bad (bs.take 0) = false; simp [LN.bad]⟩
  case round =>
    obtain ⟨k, hk, rfl, rfl, HB⟩ := hrel
    cases gk with
    | zero =>
      obtain rfl : k = n := by omega
      have E := Lib.hid (show LN.bad bs = false by have := HB.out; rwa [List.take_of_length_le (by have := HL.out; omega)] at this)
      go_wp2
      go_ret
      exact ret_b E.out.symm rfl
    | succ g =>
      have hkn : (k : Int) < (n : Int) := by omega
      obtain ⟨b, off, cp, e1, hb, hcells⟩ := HN.out.at (j := k) (by have := HL.out; omega)
      have hcell := hcells k (by have := HL.out; omega)
      obtain ⟨rfl, rfl⟩ : ao = some ⟨b, off, none⟩ ∧ cap = cp := by
        have := e1
        simp at this
        exact ⟨this.1, this.2.2⟩
      obtain ⟨c, hc⟩ : ∃ c, bs[k]? = some c := ⟨bs[k]'(by have := HL.out; omega), List.getElem?_eq_getElem _⟩
      have hcc : bs[k]'(by have := HL.out; omega) = c := by
        rw [List.getElem?_eq_getElem (by have := HL.out; omega)] at hc
        exact Option.some.inj hc
      rw [hcc] at hcell
      obtain ⟨z, hz⟩ : ∃ z : Int, (c.toNat : Int) = z := ⟨_, rfl⟩
      rw [hz] at hcell
      have hub := c.toNat_lt
      have hz0 : 0 ≤ z := by omega
      have hz1 : z < 256 := by omega
      have HC := Lib.hid hc
      have hw := wrongB_cases c hz
      clear hcells e1 hc hcc hz hub hb
      rcases hw with ⟨h1, h2⟩ | ⟨h1, rfl, h2⟩ | ⟨h1, h3, h2⟩
      · have E := Lib.hid (bad_at HC.out h2)
        clear h2
        go_wp2
        go_ret
        exact ret_b E.out.symm rfl
      · have E := Lib.hid (bad_at HC.out h2)
        clear h2
        go_wp2
        go_ret
        exact ret_b E.out.symm rfl
      · have E := Lib.hid (bad_take HC.out HB.out h2)
        clear h2
        go_wp2
        go_roundg g
        case rel => exact ⟨k + 1, by omega, rfl, rfl, E⟩
        case measure => omega
theorem tleft_any (l : List UInt8) (w : World) : Calls Tryz.prog 83 #[.string ⟨l.toArray⟩, .string ⟨#[32]⟩] w fun e w' => e = .returned (.string ⟨(LN.tl l).toArray⟩) ∧ w' = w :=
  Tryz.strings_TrimLeft_one ⟨l.toArray⟩ 32 (by decide) w
theorem tl_len (l : List UInt8) : (LN.tl l).length ≤ l.length := (List.dropWhile_sublist _).length_le
def oneC (no : Nat) (r : List UInt8) : Array Value := if LN.kind r = 0 then lc (no, LN.ind r, LN.said r) else #[.int .i64 0, .int .i64 0, .string ⟨#[]⟩]
theorem one_bad {no : Nat} {r : List UInt8} {P : Prop} (h : LN.bad r = true) (hp : P) : Ending.returned (.tuple #[.agg #[.int .i64 0, .int .i64 0, .string ⟨#[]⟩], .int .i64 2]) = .returned (.tuple #[.agg (oneC no r), .int .i64 (LN.kind r : Int)]) ∧ P := by
  have : LN.kind r = 2 := by unfold LN.kind; rw [if_pos h]
  unfold oneC
  rw [this]
  exact ⟨rfl, hp⟩
theorem one_quote {no : Nat} {r R : List UInt8} {P : Prop} (h : LN.bad r = false) (hR : R = LN.tl r) (h2 : stB R = false) (hp : P) : Ending.returned (.tuple #[.agg #[.int .i64 0, .int .i64 0, .string ⟨#[]⟩], .int .i64 3]) = .returned (.tuple #[.agg (oneC no r), .int .i64 (LN.kind r : Int)]) ∧ P := by
  have : LN.kind r = 3 := by
    unfold LN.kind
    rw [if_neg (by rw [h]; simp), ← hR]
    unfold stB at h2
    rw [if_pos (by simpa using h2)]
  unfold oneC
  rw [this]
  exact ⟨rfl, hp⟩
theorem one_ok {no i : Nat} {r R S : List UInt8} {P : Prop} (h : LN.bad r = false) (hR : R = LN.tl r) (h2 : stB R = true) (hS : S = stS R) (hi : i = r.length - R.length) (hp : P) : Ending.returned (.tuple #[.agg #[.int .i64 (no : Int), .int .i64 (i : Int), .string ⟨S.toArray⟩], .int .i64 0]) = .returned (.tuple #[.agg (oneC no r), .int .i64 (LN.kind r : Int)]) ∧ P := by
  have h3 : LN.strip R ≠ none := by
    unfold stB at h2
    intro e
    rw [e] at h2; cases h2
  have : LN.kind r = 0 := by
    unfold LN.kind
    rw [if_neg (by rw [h]; simp), ← hR, if_neg h3]
  unfold oneC
  rw [this, if_pos rfl]
  unfold LN.ind LN.said lc
  rw [← hR, hi, hS]
  exact ⟨rfl, hp⟩
set_option maxHeartbeats 1600000 in
theorem one_any (no : Nat) (_hno : no ≤ 20000) (v : Value) (r : List UInt8) (w : World) (hr : Rdv w v (bv r)) (hl : r.length ≤ 16384) :
    Calls Tryz.prog 55 #[.int .i64 (no : Int), v] w fun e w' => e = .returned (.tuple #[.agg (oneC no r), .int .i64 (LN.kind r : Int)]) ∧ Below w.heap.size w w' := by
  have B0 := below_alloc w (.cells #[.int .i64 0, .int .i64 0, .string ⟨#[]⟩] 105)
  have hr1 := hr.below B0
  have HS := Lib.hid (Str.new w 105 #[.int .i64 0, .int .i64 0, .string ⟨#[]⟩])
  have HB := Lib.hid B0
  have HW := Lib.hid (wrong_any v r _ hr1 (by omega))
  have hcs := run_string_rd (P := Tryz.prog) 35 5 9 Tryz.underlying35 Tryz.underlying5 Tryz.underlying9 hr1
  obtain ⟨ao, cap, rfl, -⟩ := hr
  rw [bv_len] at HW hcs ⊢
  obtain ⟨c0, c1, c2⟩ := HS.out.cells3
  obtain ⟨f0, f1, f2, -⟩ := HS.out.frozen4
  clear hr1 B0
  obtain ⟨R, hR⟩ : ∃ R, R = LN.tl r := ⟨_, rfl⟩
  obtain ⟨S, hSS⟩ : ∃ S, S = stS R := ⟨_, rfl⟩
  obtain ⟨i, hi⟩ : ∃ i, i = r.length - R.length := ⟨_, rfl⟩
  have hRl : R.length ≤ r.length := by rw [hR]; exact tl_len r
  have HT := Lib.hid (show ∀ x : World, Calls Tryz.prog 83 #[.string ⟨r.toArray⟩, .string ⟨#[32]⟩] x fun e w' => e = .returned (.string ⟨R.toArray⟩) ∧ w' = x from fun x => by rw [hR]; exact tleft_any r x)
  have HP := Lib.hid (show ∀ x : World, Calls Tryz.prog 84 #[.string ⟨R.toArray⟩] x fun e w' => e = .returned (.tuple #[.string ⟨S.toArray⟩, .bool (stB R)]) ∧ w' = x from fun x => by rw [hSS]; exact strip_any R (by omega) x)
  have HR := Lib.hid hR
  have HSS := Lib.hid hSS
  have HI := Lib.hid hi
  have hRs := str_size R
  obtain ⟨m, hm⟩ : ∃ m, R.length = m := ⟨_, rfl⟩
  obtain ⟨n, hn⟩ : ∃ n, r.length = n := ⟨_, rfl⟩
  rw [hm] at hRs
  rw [hn] at hcs HW ⊢
  have hin : (n : Int) - (m : Int) = (i : Int) := by omega
  have hn9 : n ≤ 16384 := by omega
  have hm9 : m ≤ n := by omega
  clear hR hSS hi hm hn hl hRl
  go_enter Tryz.func55, Tryz.ntmps55
  cases hbad : LN.bad r with
  | true =>
    have E := Lib.hid hbad
    rw [hbad] at HW
    clear hbad hcs
    go_wp2_with (go_at_call 82; refine HW.out.mono ?_; rintro e w' ⟨rfl, rfl⟩)
    (try simp only [Exit.inBlock, Exit.then])
    refine bodyPost_ret (ret_cb rfl rfl rfl (Str.new w _ _) Tryz.underlying105 rfl line_size) rfl ?_
    exact one_bad E.out (below_alloc w _)
  | false =>
    have E := Lib.hid hbad
    rw [hbad] at HW
    clear hbad
    cases hst : stB R with
    | false =>
      have E2 := Lib.hid hst
      rw [hst] at HP
      clear hst
      go_wp2_with (first
        | (go_at_call 82; refine HW.out.mono ?_; rintro e w' ⟨rfl, rfl⟩)
        | (go_at_call 83; refine (HT.out _).mono ?_; rintro e w' ⟨rfl, rfl⟩)
        | (go_at_call 84; refine (HP.out _).mono ?_; rintro e w' ⟨rfl, rfl⟩))
      (try simp only [Exit.inBlock, Exit.then])
      refine bodyPost_ret (ret_cb rfl rfl rfl (Str.new w _ _) Tryz.underlying105 rfl line_size) rfl ?_
      exact one_quote E.out HR.out E2.out (below_alloc w _)
    | true =>
      have E2 := Lib.hid hst
      rw [hst] at HP
      clear hst
      go_wp2_with (first
        | (go_at_call 82; refine HW.out.mono ?_; rintro e w' ⟨rfl, rfl⟩)
        | (go_at_call 83; refine (HT.out _).mono ?_; rintro e w' ⟨rfl, rfl⟩)
        | (go_at_call 84; refine (HP.out _).mono ?_; rintro e w' ⟨rfl, rfl⟩))
      (try simp only [Exit.inBlock, Exit.then])
      refine bodyPost_ret (ret_cb rfl rfl rfl (Str.new w _ _) Tryz.underlying105 rfl line_size) rfl ?_
      exact one_ok E.out HR.out E2.out HSS.out HI.out (below_alloc w _)
theorem one_good (no : Nat) (hno : no ≤ 20000) (v : Value) (r : List UInt8) (w : World) (hr : Rdv w v (bv r)) (hl : r.length ≤ 16384) (hk : LN.kind r = 0) :
    Calls Tryz.prog 55 #[.int .i64 (no : Int), v] w fun e w' => e = .returned (.tuple #[.agg #[.int .i64 (no : Int), .int .i64 (LN.ind r : Int), .string ⟨(LN.said r).toArray⟩], .int .i64 0]) ∧ Below w.heap.size w w' := by
  have := one_any no hno v r w hr hl
  unfold oneC at this
  rw [hk, if_pos rfl] at this
  exact this
theorem one_wrong (no : Nat) (hno : no ≤ 20000) (v : Value) (r : List UInt8) (w : World) (hr : Rdv w v (bv r)) (hl : r.length ≤ 16384) (hk : ¬ LN.kind r = 0) :
    Calls Tryz.prog 55 #[.int .i64 (no : Int), v] w fun e w' => e = .returned (.tuple #[.agg #[.int .i64 0, .int .i64 0, .string ⟨#[]⟩], .int .i64 (LN.kind r : Int)]) ∧ Below w.heap.size w w' := by
  have := one_any no hno v r w hr hl
  unfold oneC at this
  rw [if_neg hk] at this
  exact this
end Go.Proofs.YtgfhabofhefaaaaGreatDoor
