/- The walk of doc.Of, with its deferred closure. -/
import Derived.Test.YthhngkoopaolkaaGreatDoorDcR
import Derived.Recover
namespace Go.Proofs.YthhngkoopaolkaaGreatDoor
open Go.RowKit

set_option maxHeartbeats 1000000 in
theorem dcatch_idle (p q : Value) (w : World) :
    CallsD Tryz.prog 41 #[p, q] .returning w fun e u' w' => e = .returned (.tuple #[]) ∧ u' = .returning ∧ w' = w := by
  refine callsD_of_wpS Tryz.func41 rfl fun c₀ cs hu => ?_
  apply wpS_seq
  apply wpS_region
  simp [wpOpsS, go_sem, recoverD, hu, Tryz.ntmps41, Exit.thenS]
  refine wpS_of_wp ?_
  go_wp2
  cases c₀
  simp_all [bodyPostS, results, Tryz.results41]
theorem dassert_yes (k n : Int) (w : World) : (Instr.typeAssert (.iface 94 (.agg #[.int .i64 k, .int .i64 n])) 20 94 true).run Tryz.prog w = .ok (.tuple #[.agg #[.int .i64 k, .int .i64 n], .bool true]) w := by kernel_rfl
theorem dframe (p q v : Value) : #[p, q] ++ (Array.replicate 12 undef).setIfInBounds 3 v = #[p, q, undef, undef, undef, v, undef, undef, undef, undef, undef, undef, undef, undef] := rfl
set_option maxHeartbeats 2000000 in
theorem dcatch_panicking (k n : Int) (b c : Nat) (y f0 f1 : Value) (w : World) (hb : Str w b 26 #[y]) (hc : Str w c 28 #[f0, f1]) :
    CallsD Tryz.prog 41 #[.pointer (some ⟨b, 0, none⟩), .pointer (some ⟨c, 0, none⟩)] (.panicking (gaveD k n)) w fun e u' w' =>
      e = .returned (.tuple #[]) ∧ u' = .panicking (tookD k n) ∧ Str w' b 26 #[.slice none 0 0] ∧ Str w' c 28 #[.int .i64 k, .int .i64 n] ∧ Kb w w' (some b) (some c) := by
  have hbc : b ≠ c := hb.apart_str hc (by decide)
  have BA := below_alloc w (.cells #[.int .i64 k, .int .i64 n] 94)
  have HB := Lib.hid (hb.below BA)
  have HC := Lib.hid (hc.below BA)
  have HN := Lib.hid (Str.new w 94 #[.int .i64 k, .int .i64 n])
  have HK := Lib.hid (Kb.of_below BA (some b) (some c))
  have asr := dassert_yes k n
  clear hb hc BA
  refine callsD_of_wpS Tryz.func41 rfl fun c₀ cs hu => ?_
  apply wpS_seq
  apply wpS_region
  simp [wpOpsS, go_sem, recoverD, hu, gaveD, Tryz.ntmps41, Exit.thenS]
  refine wpS_of_wp ?_
  rw [dframe]
  go_wp2
  generalize w.alloc (.cells #[.int .i64 k, .int .i64 n] 94) = w1 at *
  generalize w.heap.size = P at *
  have k0 : w1.cell? ⟨P, 0, none⟩ = some (.int .i64 k) := HN.out.cell 0
  have k1 : w1.cell? ⟨P, 1, none⟩ = some (.int .i64 n) := HN.out.cell 1
  have b0 : w1.cell? ⟨b, 0, none⟩ = some y := HB.out.cell 0
  have bf := HB.out.frozen 0
  have c0 : w1.cell? ⟨c, 0, none⟩ = some f0 := HC.out.cell 0
  have c1 : w1.cell? ⟨c, 1, none⟩ = some f1 := HC.out.cell 1
  have cf0 := HC.out.frozen 0
  have cf1 := HC.out.frozen 1
  have hPb : P ≠ b := HN.out.apart_str HB.out (by decide)
  have kbb := Kb.set w1 b 0 (.slice none 0 0) none
  have SB1 := Lib.hid (HB.out.set 0 (.slice none 0 0))
  have SN1 := Lib.hid (HN.out.kb kbb (by simpa using hPb) (by simp))
  have SC1 := Lib.hid (HC.out.kb kbb (by simpa using fun h => hbc h.symm) (by simp))
  have k0' : (w1.setCell ⟨b, 0, none⟩ (.slice none 0 0)).cell? ⟨P, 0, none⟩ = some (.int .i64 k) := SN1.out.cell 0
  have k1' : (w1.setCell ⟨b, 0, none⟩ (.slice none 0 0)).cell? ⟨P, 1, none⟩ = some (.int .i64 n) := SN1.out.cell 1
  have c0' : (w1.setCell ⟨b, 0, none⟩ (.slice none 0 0)).cell? ⟨c, 0, none⟩ = some f0 := SC1.out.cell 0
  have c1' : (w1.setCell ⟨b, 0, none⟩ (.slice none 0 0)).cell? ⟨c, 1, none⟩ = some f1 := SC1.out.cell 1
  have cf0' := SC1.out.frozen 0
  have cf1' := SC1.out.frozen 1
  have SF : Hid (Str _ c 28 #[.int .i64 k, .int .i64 n]) := (SC1.out.two' (.int .i64 k) (.int .i64 n)).below (below_drew _)
  have kcc := (Kb.set (w1.setCell ⟨b, 0, none⟩ (.slice none 0 0)) c 0 (.int .i64 k) none).trans (Kb.set _ c 1 (.int .i64 n) none)
  have SB : Hid (Str _ b 26 #[.slice none 0 0]) := (Str.kb (by simpa using SB1.out) kcc (by simpa using hbc) (by simp)).below (below_drew _)
  have KK : Hid (Kb w _ (some b) (some c)) := (((HK.out.trans (Kb.set w1 b 0 (.slice none 0 0) (some c))).trans ⟨kcc.os, kcc.tape, kcc.output, kcc.size, fun j hj h1 h2 => kcc.block j hj h2 (by simp)⟩).trans (Kb.of_below (below_drew _) (some b) (some c)))
  clear kbb kcc
  go_region
  exact ⟨rfl, _, rfl, .tuple #[], by simp [results, Tryz.results41], rfl, rfl, SB.out, SF.out, KK.out⟩

/-- What Of answers, at its end. -/
def OfE (w : World) (l : List LX.Pc) (e : Ending) (w' : World) : Prop :=
  Below w.heap.size w w' ∧ ∃ v S, e = .returned (.tuple #[.agg #[v], .agg #[.int .i64 (DC.fault l).1, .int .i64 (DC.fault l).2]]) ∧ Nds w' w.heap.size S v (DC.nodes l)
theorem doc_size : (Tryz.prog.info? 26).map (·.size) = some 1 := by kernel_rfl
theorem dret_both {tmps : Array Value} {w : World} {p q : Nat} {x y z : Value} (hp : tmps.getD 2 undef = .pointer (some ⟨p, 0, none⟩)) (hq : tmps.getD 3 undef = .pointer (some ⟨q, 0, none⟩)) (h1 : Str w p 26 #[x]) (h2 : Str w q 28 #[y, z]) :
    (results Tryz.f17 tmps).run Tryz.prog w = .ok (.tuple #[.agg #[x], .agg #[y, z]]) w := by
  have hs' : w.heap[q]? = some (.cells #[y, z] 28 (0, 0)) := h2
  have hs1 : w.heap[p]? = some (.cells #[x] 26 (0, 0)) := h1
  have l2 := run_loadVar_row (P := Tryz.prog) w q 28 28 #[y, z] (0, 0) _ hs' Tryz.underlying28 rfl fault_size
  have l1 := run_loadVar_row (P := Tryz.prog) w p 26 26 #[x] (0, 0) _ hs1 Tryz.underlying26 rfl doc_size
  have hp' : (asAddr (tmps.getD 2 undef)).run Tryz.prog w = .ok ⟨p, 0, none⟩ w := by rw [hp]; simp [asAddr]
  have hq' : (asAddr (tmps.getD 3 undef)).run Tryz.prog w = .ok ⟨q, 0, none⟩ w := by rw [hq]; simp [asAddr]
  simp only [Array.getD_eq_getD_getElem?] at hp' hq'
  simp only [results, Tryz.results17]
  simp [Sem.run_bind, Result.andThen, hp', hq', l1, l2]
abbrev dDef (n : Nat) : List Deferred := [{ target := .fn (.func 41) #[.pointer (some ⟨n, 0, none⟩), .pointer (some ⟨n + 1, 0, none⟩)], args := #[] }]
/-- Where Of stands at its door. -/
structure DoD (w wr : World) (x y z : Value) : Prop where
  bl : Below w.heap.size w wr
  b : Str wr w.heap.size 26 #[x]
  c : Str wr (w.heap.size + 1) 28 #[y, z]
theorem ddoor_gave {w wr : World} {tmps : Array Value} {l : List LX.Pc} {x y z : Value} {k n : Int} (hp : tmps.getD 2 undef = .pointer (some ⟨w.heap.size, 0, none⟩)) (hq : tmps.getD 3 undef = .pointer (some ⟨w.heap.size + 1, 0, none⟩)) (h : DoD w wr x y z) (hr : DC.doc l = .bad k n) :
    Leaves Tryz.prog Tryz.f17 tmps (OfE w l) (dDef w.heap.size) (.panicking (gaveD k n)) wr := by
  refine leaves_cons (f := 41) (args := #[.pointer (some ⟨w.heap.size, 0, none⟩), .pointer (some ⟨w.heap.size + 1, 0, none⟩)]) (by simp) (by simp [go_sem]) ?_
  refine (dcatch_panicking k n w.heap.size (w.heap.size + 1) x y z wr h.b h.c).mono ?_
  rintro e u' w' ⟨rfl, rfl, s1, s2, kb⟩
  refine ⟨_, dret_both hp hq s1 s2, ?_, .slice none 0 0, fun _ => False, ?_, ?_⟩
  · exact h.bl.trans (kb.below h.bl.size (fun g hg => by have := Option.some.inj hg; omega) (fun g hg => by have := Option.some.inj hg; omega))
  · simp only [DC.fault, hr]
  · simp only [DC.nodes, hr]; exact Nds.nil _ _ _
theorem ddoor_done {w wr : World} {tmps : Array Value} {l : List LX.Pc} {x : Value} {ns : List DC.Nd} {S : Nat → Prop} (hp : tmps.getD 2 undef = .pointer (some ⟨w.heap.size, 0, none⟩)) (hq : tmps.getD 3 undef = .pointer (some ⟨w.heap.size + 1, 0, none⟩)) (h : DoD w wr x (.int .i64 0) (.int .i64 0)) (hr : DC.doc l = .ok ns) (ho : Nds wr w.heap.size S x ns) :
    Leaves Tryz.prog Tryz.f17 tmps (OfE w l) (dDef w.heap.size) .returning wr := by
  refine leaves_cons (f := 41) (args := #[.pointer (some ⟨w.heap.size, 0, none⟩), .pointer (some ⟨w.heap.size + 1, 0, none⟩)]) (by simp) (by simp [go_sem]) ?_
  refine (dcatch_idle _ _ wr).mono ?_
  rintro e u' w' ⟨rfl, rfl, rfl⟩
  refine ⟨_, dret_both hp hq h.b h.c, h.bl, x, S, ?_, ?_⟩
  · simp only [DC.fault, hr]
  · simp only [DC.nodes, hr]; exact ho
theorem DoD.far {w wr w' : World} {x y z : Value} {q : Option Nat} (h : DoD w wr x y z) (hk : Kb wr w' (some (w.heap.size + 2)) q) (hq : ∀ g, q = some g → w.heap.size + 2 ≤ g) : DoD w w' x y z := by
  refine ⟨h.bl.trans (hk.below h.bl.size (fun g hg => by have := Option.some.inj hg; omega) (fun g hg => by have := hq g hg; omega)), h.b.kb hk (by simp) (fun e => ?_), h.c.kb hk (by simp) (fun e => ?_)⟩
  · have := hq _ e.symm; omega
  · have := hq _ e.symm; omega
/-- The results have been laid. -/
theorem DoD.laid {w wr : World} {x y z : Value} (h : DoD w wr x y z) (v f g : Value) :
    DoD w (((wr.setCell ⟨w.heap.size, 0, none⟩ v).setCell ⟨w.heap.size + 1, 0, none⟩ f).setCell ⟨w.heap.size + 1, 1, none⟩ g) v f g ∧ Kb wr (((wr.setCell ⟨w.heap.size, 0, none⟩ v).setCell ⟨w.heap.size + 1, 0, none⟩ f).setCell ⟨w.heap.size + 1, 1, none⟩ g) (some w.heap.size) (some (w.heap.size + 1)) := by
  have kb := Kb.set wr w.heap.size 0 v none
  have kc := (Kb.set (wr.setCell ⟨w.heap.size, 0, none⟩ v) (w.heap.size + 1) 0 f none).trans (Kb.set _ (w.heap.size + 1) 1 g none)
  have sb : Str (wr.setCell ⟨w.heap.size, 0, none⟩ v) w.heap.size 26 #[v] := by simpa using h.b.set 0 v
  have sc : Str (wr.setCell ⟨w.heap.size, 0, none⟩ v) (w.heap.size + 1) 28 #[y, z] := h.c.kb kb (by simp) (by simp)
  have kk : Kb wr _ (some w.heap.size) (some (w.heap.size + 1)) := (Kb.set wr w.heap.size 0 v (some (w.heap.size + 1))).trans ⟨kc.os, kc.tape, kc.output, kc.size, fun j hj h1 h2 => kc.block j hj h2 (by simp)⟩
  exact ⟨⟨h.bl.trans (kk.below h.bl.size (fun g hg => by have := Option.some.inj hg; omega) (fun g hg => by have := Option.some.inj hg; omega)), sb.kb kc (by simp) (by simp), sc.two' f g⟩, kk⟩
theorem of_start (w : World) (lv : Value) (l : List LX.Pc) (hr : Rdp w lv l) :
    Pst w (((w.alloc (.cells #[.slice none 0 0] 26)).alloc (.cells #[.int .i64 0, .int .i64 0] 28)).alloc (.cells #[lv, .slice none 0 0] 96)) (w.heap.size + 1 + 1) lv (.slice none 0 0) l [] (fun _ => False) ∧
    DoD w (((w.alloc (.cells #[.slice none 0 0] 26)).alloc (.cells #[.int .i64 0, .int .i64 0] 28)).alloc (.cells #[lv, .slice none 0 0] 96)) (.slice none 0 0) (.int .i64 0) (.int .i64 0) := by
  obtain ⟨w1, h1⟩ : ∃ w1, w.alloc (.cells #[.slice none 0 0] 26) = w1 := ⟨_, rfl⟩
  have B1 := below_alloc w (.cells #[.slice none 0 0] 26)
  have s1 := Str.new w 26 #[.slice none 0 0]
  have z1 := bx_size w (.cells #[.slice none 0 0] 26)
  rw [h1] at B1 s1 z1 ⊢
  obtain ⟨w2, h2⟩ : ∃ w2, w1.alloc (.cells #[.int .i64 0, .int .i64 0] 28) = w2 := ⟨_, rfl⟩
  have B2 := below_alloc w1 (.cells #[.int .i64 0, .int .i64 0] 28)
  have s2 := Str.new w1 28 #[.int .i64 0, .int .i64 0]
  have z2 := bx_size w1 (.cells #[.int .i64 0, .int .i64 0] 28)
  rw [h2] at B2 s2 z2 ⊢
  have B3 := below_alloc w2 (.cells #[lv, .slice none 0 0] 96)
  have s3 := Str.new w2 96 #[lv, .slice none 0 0]
  rw [z2, z1] at s3
  rw [z1] at s2
  have BB := below_trans B1 (below_trans B2 B3)
  exact ⟨⟨BB, by omega, s3, hr, Nds.nil _ _ _, fun g hg => hg.elim⟩, BB, s1.below (below_trans B2 B3), s2.below B3⟩

set_option maxHeartbeats 8000000 in
theorem of_any (lv : Value) (l : List LX.Pc) (w : World) (hr : Rdp w lv l) (ht : Texts l) :
    Calls Tryz.prog 17 #[lv] w (OfE w l) := by
  have hmf : ∀ (fn : Fn) (first cap : Array Value) (w : World), (Instr.makeFunc fn first cap).run Tryz.prog w = .ok (.func fn first cap) w := fun _ _ _ _ => rfl
  have hs := of_start w lv l hr
  obtain ⟨al, cl, rfl, _, _⟩ := hr.slice
  have HR := Lib.hid (root_any hs.1 ht)
  have HD := Lib.hid hs.2
  obtain ⟨A, hA⟩ : ∃ A, DC.doc l = A := ⟨_, rfl⟩
  have HA := Lib.hid hA
  rw [hA] at HR
  clear hs hr ht hA
  go_enter_defers Tryz.func17, Tryz.ntmps17
  go_wp2_with fail
  refine HR.out.mono ?_
  rintro e w1 ⟨hk, he⟩
  have HD1 := Lib.hid (HD.out.far hk (by intro g hg; cases hg))
  cases A with
  | bad k n =>
    subst he
    exact ddoor_gave rfl rfl HD1.out HA.out
  | ok ns =>
    obtain ⟨rfl, lv', nv', S', hp⟩ := he
    obtain ⟨ao, cp, rfl⟩ := hp.nd.slice
    have p1 : w1.cell? ⟨w.heap.size + 1 + 1, 1, none⟩ = some (.slice ao ns.length cp) := hp.st.cell 1
    have b0 : w1.cell? ⟨w.heap.size, 0, none⟩ = some (.slice none 0 0) := HD1.out.b.cell 0
    have bf : w1.frozen? ⟨w.heap.size, 0, none⟩ = false := HD1.out.b.frozen 0
    have hz := HD1.out.laid (.slice ao ns.length cp) (.int .i64 0) (.int .i64 0)
    have sc : Str (w1.setCell ⟨w.heap.size, 0, none⟩ (.slice ao ns.length cp)) (w.heap.size + 1) 28 #[.int .i64 0, .int .i64 0] := HD1.out.c.kb (Kb.set w1 w.heap.size 0 _ none) (by simp) (by simp)
    have c0 : (w1.setCell ⟨w.heap.size, 0, none⟩ (.slice ao ns.length cp)).cell? ⟨w.heap.size + 1, 0, none⟩ = some (.int .i64 0) := sc.cell 0
    have c1 : (w1.setCell ⟨w.heap.size, 0, none⟩ (.slice ao ns.length cp)).cell? ⟨w.heap.size + 1, 1, none⟩ = some (.int .i64 0) := sc.cell 1
    have cf0 : (w1.setCell ⟨w.heap.size, 0, none⟩ (.slice ao ns.length cp)).frozen? ⟨w.heap.size + 1, 0, none⟩ = false := sc.frozen 0
    have cf1 : (w1.setCell ⟨w.heap.size, 0, none⟩ (.slice ao ns.length cp)).frozen? ⟨w.heap.size + 1, 1, none⟩ = false := sc.frozen 1
    have HO2 : Hid (Nds _ _ _ _ ns) := Lib.hid (hp.nd.kb hz.2 (Far.str HD1.out.b (by decide) (by decide)) (Far.str HD1.out.c (by decide) (by decide)) (hp.nd.off HD1.out.b (by decide)) (hp.nd.off HD1.out.c (by decide)))
    have HZ := Lib.hid hz.1
    clear hk hp hz sc HR HD HD1
    go_wp2
    exact ddoor_done rfl rfl HZ.out HA.out HO2.out
end Go.Proofs.YthhngkoopaolkaaGreatDoor
