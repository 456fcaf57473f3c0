/- The walk of lex.Row, with its deferred closure. -/
import Derived.Test.YtmgalfdiiegjjaaDoorLxV
import Derived.Recover
namespace Go.Proofs.YtmgalfdiiegjjaaDoor
open Go.RowKit

set_option maxHeartbeats 1000000 in
theorem lcatch_idle (p q r : Value) (w : World) :
    CallsD Tryd.prog 58 #[p, q, r] .returning w fun e u' w' => e = .returned (.tuple #[]) ∧ u' = .returning ∧ w' = w := by
  refine callsD_of_wpS Tryd.func58 rfl fun c₀ cs hu => ?_
  apply wpS_seq
  apply wpS_region
  simp [wpOpsS, go_sem, recoverD, hu, Tryd.ntmps58, Exit.thenS]
  refine wpS_of_wp ?_
  go_wp2
  cases c₀
  simp_all [bodyPostS, results, Tryd.results58]
theorem lassert_yes (k : Int) (w : World) : (Instr.typeAssert (.iface 92 (.agg #[.int .i64 k])) 20 92 true).run Tryd.prog w = .ok (.tuple #[.agg #[.int .i64 k], .bool true]) w := by kernel_rfl
theorem lframe (p q r v : Value) : #[p, q, r] ++ (Array.replicate 14 undef).setIfInBounds 3 v = #[p, q, r, undef, undef, undef, v, undef, undef, undef, undef, undef, undef, undef, undef, undef, undef] := rfl
set_option maxHeartbeats 2000000 in
theorem lcatch_panicking (k : Int) (a b c : Nat) (no ind : Int) (tx : List UInt8) (y f0 f1 : Value) (w : World) (ha : Str w a 76 #[.int .i64 no, .int .i64 ind, .string ⟨tx.toArray⟩]) (hb : Str w b 70 #[y]) (hc : Str w c 72 #[f0, f1]) :
    CallsD Tryd.prog 58 #[.pointer (some ⟨a, 0, none⟩), .pointer (some ⟨b, 0, none⟩), .pointer (some ⟨c, 0, none⟩)] (.panicking (gave k)) w fun e u' w' =>
      e = .returned (.tuple #[]) ∧ u' = .panicking (took k) ∧ Str w' b 70 #[.slice none 0 0] ∧ Str w' c 72 #[.int .i64 k, .int .i64 no] ∧ Kb w w' (some b) (some c) := by
  have hab : a ≠ b := ha.apart_str hb (by decide)
  have hac : a ≠ c := ha.apart_str hc (by decide)
  have hbc : b ≠ c := hb.apart_str hc (by decide)
  have BA := below_alloc w (.cells #[.int .i64 k] 92)
  have HA := Lib.hid (ha.below BA)
  have HB := Lib.hid (hb.below BA)
  have HC := Lib.hid (hc.below BA)
  have HN := Lib.hid (Str.new w 92 #[.int .i64 k])
  have HK := Lib.hid (Kb.of_below BA (some b) (some c))
  have asr := lassert_yes k
  clear ha hb hc BA
  refine callsD_of_wpS Tryd.func58 rfl fun c₀ cs hu => ?_
  apply wpS_seq
  apply wpS_region
  simp [wpOpsS, go_sem, recoverD, hu, gave, Tryd.ntmps58, Exit.thenS]
  refine wpS_of_wp ?_
  rw [lframe]
  go_wp2
  generalize w.alloc (.cells #[.int .i64 k] 92) = w1 at *
  generalize w.heap.size = P at *
  have k0 : w1.cell? ⟨P, 0, none⟩ = some (.int .i64 k) := HN.out.cell 0
  have a0 : w1.cell? ⟨a, 0, none⟩ = some (.int .i64 no) := HA.out.cell 0
  have b0 : w1.cell? ⟨b, 0, none⟩ = some y := HB.out.cell 0
  have bf := HB.out.frozen 0
  have c0 : w1.cell? ⟨c, 0, none⟩ = some f0 := HC.out.cell 0
  have c1 : w1.cell? ⟨c, 1, none⟩ = some f1 := HC.out.cell 1
  have cf0 := HC.out.frozen 0
  have cf1 := HC.out.frozen 1
  have hPb : P ≠ b := HN.out.apart_str HB.out (by decide)
  have hPc : P ≠ c := HN.out.apart_str HC.out (by decide)
  have kbb := Kb.set w1 b 0 (.slice none 0 0) none
  have SB1 := Lib.hid (HB.out.set 0 (.slice none 0 0))
  have SA1 := Lib.hid (HA.out.kb kbb (by simpa using hab) (by simp))
  have SN1 := Lib.hid (HN.out.kb kbb (by simpa using hPb) (by simp))
  have SC1 := Lib.hid (HC.out.kb kbb (by simpa using fun h => hbc h.symm) (by simp))
  have k0' : (w1.setCell ⟨b, 0, none⟩ (.slice none 0 0)).cell? ⟨P, 0, none⟩ = some (.int .i64 k) := SN1.out.cell 0
  have a0' : (w1.setCell ⟨b, 0, none⟩ (.slice none 0 0)).cell? ⟨a, 0, none⟩ = some (.int .i64 no) := SA1.out.cell 0
  have c0' : (w1.setCell ⟨b, 0, none⟩ (.slice none 0 0)).cell? ⟨c, 0, none⟩ = some f0 := SC1.out.cell 0
  have c1' : (w1.setCell ⟨b, 0, none⟩ (.slice none 0 0)).cell? ⟨c, 1, none⟩ = some f1 := SC1.out.cell 1
  have cf0' := SC1.out.frozen 0
  have cf1' := SC1.out.frozen 1
  have SF : Hid (Str _ c 72 #[.int .i64 k, .int .i64 no]) := (SC1.out.two' (.int .i64 k) (.int .i64 no)).below (below_drew _)
  have kcc := (Kb.set (w1.setCell ⟨b, 0, none⟩ (.slice none 0 0)) c 0 (.int .i64 k) none).trans (Kb.set _ c 1 (.int .i64 no) none)
  have SB : Hid (Str _ b 70 #[.slice none 0 0]) := (Str.kb (by simpa using SB1.out) kcc (by simpa using hbc) (by simp)).below (below_drew _)
  have KK : Hid (Kb w _ (some b) (some c)) := (((HK.out.trans (Kb.set w1 b 0 (.slice none 0 0) (some c))).trans ⟨kcc.os, kcc.tape, kcc.output, kcc.size, fun j hj h1 h2 => kcc.block j hj h2 (by simp)⟩).trans (Kb.of_below (below_drew _) (some b) (some c)))
  clear kbb kcc
  go_region
  exact ⟨rfl, _, rfl, .tuple #[], by simp [results, Tryd.results58], rfl, rfl, SB.out, SF.out, KK.out⟩

/-- What Row answers, at its end. -/
def RowE (w : World) (l : LX.Lz) (e : Ending) (w' : World) : Prop :=
  Below w.heap.size w w' ∧ ∃ v, e = .returned (.tuple #[v, .agg #[.int .i64 (LX.row l).1, .int .i64 (if (LX.row l).1 = 0 then 0 else l.1)]]) ∧ Ownp w' w.heap.size v (LX.row l).2
/-- The results of Row are read where they lie. -/
theorem lret_both {tmps : Array Value} {w : World} {p q : Nat} {x y z : Value} (hp : tmps.getD 2 undef = .pointer (some ⟨p, 0, none⟩)) (hq : tmps.getD 3 undef = .pointer (some ⟨q, 0, none⟩)) (h1 : Str w p 70 #[x]) (h2 : Str w q 72 #[y, z]) :
    (results Tryd.f45 tmps).run Tryd.prog w = .ok (.tuple #[x, .agg #[y, z]]) w := by
  have hs' : w.heap[q]? = some (.cells #[y, z] 72 (0, 0)) := h2
  have l2 := run_loadVar_row (P := Tryd.prog) w q 72 72 #[y, z] (0, 0) _ hs' Tryd.underlying72 rfl fault_size
  have c1 : w.cell? ⟨p, 0, none⟩ = some x := h1.cell 0
  have l1 : (loadVar 70 ⟨p, 0, none⟩).run Tryd.prog w = .ok x w := by
    simp [loadVar, isAgg, go_sem, c1]
  have hp' : (asAddr (tmps.getD 2 undef)).run Tryd.prog w = .ok ⟨p, 0, none⟩ w := by rw [hp]; simp [asAddr]
  have hq' : (asAddr (tmps.getD 3 undef)).run Tryd.prog w = .ok ⟨q, 0, none⟩ w := by rw [hq]; simp [asAddr]
  simp only [Array.getD_eq_getD_getElem?] at hp' hq'
  simp only [results, Tryd.results45]
  simp [Sem.run_bind, Result.andThen, hp', hq', l1, l2]
abbrev lDef (n : Nat) : List Deferred := [{ target := .fn (.func 58) #[.pointer (some ⟨n, 0, none⟩), .pointer (some ⟨n + 1, 0, none⟩), .pointer (some ⟨n + 2, 0, none⟩)], args := #[] }]
/-- Where Row stands at its door. -/
structure DoR (w wr : World) (l : LX.Lz) (x y z : Value) : Prop where
  bl : Below w.heap.size w wr
  a : Str wr w.heap.size 76 #[.int .i64 l.1, .int .i64 l.2.1, .string ⟨l.2.2.toArray⟩]
  b : Str wr (w.heap.size + 1) 70 #[x]
  c : Str wr (w.heap.size + 2) 72 #[y, z]
theorem ldoor_gave {w wr : World} {tmps : Array Value} {l : LX.Lz} {x y z : Value} {k : Int} (hp : tmps.getD 2 undef = .pointer (some ⟨w.heap.size + 1, 0, none⟩)) (hq : tmps.getD 3 undef = .pointer (some ⟨w.heap.size + 2, 0, none⟩)) (h : DoR w wr l x y z) (hr : LX.row l = (k, [])) (hk : k ≠ 0) :
    Leaves Tryd.prog Tryd.f45 tmps (RowE w l) (lDef w.heap.size) (.panicking (gave k)) wr := by
  refine leaves_cons (f := 58) (args := #[.pointer (some ⟨w.heap.size, 0, none⟩), .pointer (some ⟨w.heap.size + 1, 0, none⟩), .pointer (some ⟨w.heap.size + 2, 0, none⟩)]) (by simp) (by simp [go_sem]) ?_
  refine (lcatch_panicking k w.heap.size (w.heap.size + 1) (w.heap.size + 2) l.1 l.2.1 l.2.2 x y z wr h.a h.b h.c).mono ?_
  rintro e u' w' ⟨rfl, rfl, s1, s2, kb⟩
  refine ⟨_, lret_both hp hq s1 s2, ?_, .slice none 0 0, ?_, ?_⟩
  · exact h.bl.trans (kb.below h.bl.size (fun g hg => by have := Option.some.inj hg; omega) (fun g hg => by have := Option.some.inj hg; omega))
  · rw [hr, if_neg hk]
  · rw [hr]; exact Ownp.nil _ _
theorem ldoor_done {w wr : World} {tmps : Array Value} {l : LX.Lz} {x : Value} {ls : List LX.Pc} (hp : tmps.getD 2 undef = .pointer (some ⟨w.heap.size + 1, 0, none⟩)) (hq : tmps.getD 3 undef = .pointer (some ⟨w.heap.size + 2, 0, none⟩)) (h : DoR w wr l x (.int .i64 0) (.int .i64 0)) (hr : LX.row l = (0, ls)) (ho : Ownp wr w.heap.size x ls) :
    Leaves Tryd.prog Tryd.f45 tmps (RowE w l) (lDef w.heap.size) .returning wr := by
  refine leaves_cons (f := 58) (args := #[.pointer (some ⟨w.heap.size, 0, none⟩), .pointer (some ⟨w.heap.size + 1, 0, none⟩), .pointer (some ⟨w.heap.size + 2, 0, none⟩)]) (by simp) (by simp [go_sem]) ?_
  refine (lcatch_idle _ _ _ wr).mono ?_
  rintro e u' w' ⟨rfl, rfl, rfl⟩
  refine ⟨_, lret_both hp hq h.b h.c, h.bl, x, ?_, ?_⟩
  · rw [hr, if_pos rfl]
  · rw [hr]; exact ho

theorem DoR.far {w wr w' : World} {l : LX.Lz} {x y z : Value} (h : DoR w wr l x y z) (hb : Below (w.heap.size + 3) wr w') : DoR w w' l x y z :=
  ⟨h.bl.trans (hb.mono (by omega)), (hb.block _ (by omega)).trans h.a, (hb.block _ (by omega)).trans h.b, (hb.block _ (by omega)).trans h.c⟩
/-- The results have been laid. -/
theorem DoR.laid {w wr : World} {l : LX.Lz} {x y z : Value} (h : DoR w wr l x y z) (v : Value) (f g : Value) :
    DoR w (((wr.setCell ⟨w.heap.size + 1, 0, none⟩ v).setCell ⟨w.heap.size + 2, 0, none⟩ f).setCell ⟨w.heap.size + 2, 1, none⟩ g) l v f g ∧ Kb wr (((wr.setCell ⟨w.heap.size + 1, 0, none⟩ v).setCell ⟨w.heap.size + 2, 0, none⟩ f).setCell ⟨w.heap.size + 2, 1, none⟩ g) (some (w.heap.size + 1)) (some (w.heap.size + 2)) := by
  have kb := Kb.set wr (w.heap.size + 1) 0 v none
  have kc := (Kb.set (wr.setCell ⟨w.heap.size + 1, 0, none⟩ v) (w.heap.size + 2) 0 f none).trans (Kb.set _ (w.heap.size + 2) 1 g none)
  have sb : Str (wr.setCell ⟨w.heap.size + 1, 0, none⟩ v) (w.heap.size + 1) 70 #[v] := by simpa using h.b.set 0 v
  have sc : Str (wr.setCell ⟨w.heap.size + 1, 0, none⟩ v) (w.heap.size + 2) 72 #[y, z] := h.c.kb kb (by simp) (by simp)
  have kk : Kb wr _ (some (w.heap.size + 1)) (some (w.heap.size + 2)) := (Kb.set wr (w.heap.size + 1) 0 v (some (w.heap.size + 2))).trans ⟨kc.os, kc.tape, kc.output, kc.size, fun j hj h1 h2 => kc.block j hj h2 (by simp)⟩
  refine ⟨⟨h.bl.trans (kk.below h.bl.size (fun g hg => by have := Option.some.inj hg; omega) (fun g hg => by have := Option.some.inj hg; omega)), (h.a.kb kb (by simp) (by simp)).kb kc (by simp) (by simp), sb.kb kc (by simp) (by simp), sc.two' f g⟩, kk⟩
theorem lex_start (w : World) (no ind : Int) (tx : List UInt8) (hm : MaxIs w) :
    Lxr ((((w.alloc (.cells #[.int .i64 no, .int .i64 ind, .string ⟨tx.toArray⟩] 76)).alloc (.cells #[.slice none 0 0] 70)).alloc (.cells #[.int .i64 0, .int .i64 0] 72)).alloc (.cells #[.int .i64 no, .int .i64 ind, .string ⟨tx.toArray⟩, .string ⟨tx.toArray⟩, .slice none 0 0] 94)) (w.heap.size + 1 + 1 + 1) (w.heap.size + 1 + 1 + 1) no ind tx tx (.slice none 0 0) [] ∧
    DoR w ((((w.alloc (.cells #[.int .i64 no, .int .i64 ind, .string ⟨tx.toArray⟩] 76)).alloc (.cells #[.slice none 0 0] 70)).alloc (.cells #[.int .i64 0, .int .i64 0] 72)).alloc (.cells #[.int .i64 no, .int .i64 ind, .string ⟨tx.toArray⟩, .string ⟨tx.toArray⟩, .slice none 0 0] 94)) (no, ind, tx) (.slice none 0 0) (.int .i64 0) (.int .i64 0) ∧
    MaxIs ((((w.alloc (.cells #[.int .i64 no, .int .i64 ind, .string ⟨tx.toArray⟩] 76)).alloc (.cells #[.slice none 0 0] 70)).alloc (.cells #[.int .i64 0, .int .i64 0] 72)).alloc (.cells #[.int .i64 no, .int .i64 ind, .string ⟨tx.toArray⟩, .string ⟨tx.toArray⟩, .slice none 0 0] 94)) := by
  obtain ⟨w1, h1⟩ : ∃ w1, w.alloc (.cells #[.int .i64 no, .int .i64 ind, .string ⟨tx.toArray⟩] 76) = w1 := ⟨_, rfl⟩
  have B1 := below_alloc w (.cells #[.int .i64 no, .int .i64 ind, .string ⟨tx.toArray⟩] 76)
  have s1 := Str.new w 76 #[.int .i64 no, .int .i64 ind, .string ⟨tx.toArray⟩]
  have z1 := bx_size w (.cells #[.int .i64 no, .int .i64 ind, .string ⟨tx.toArray⟩] 76)
  rw [h1] at B1 s1 z1 ⊢
  obtain ⟨w2, h2⟩ : ∃ w2, w1.alloc (.cells #[.slice none 0 0] 70) = w2 := ⟨_, rfl⟩
  have B2 := below_alloc w1 (.cells #[.slice none 0 0] 70)
  have s2 := Str.new w1 70 #[.slice none 0 0]
  have z2 := bx_size w1 (.cells #[.slice none 0 0] 70)
  rw [h2] at B2 s2 z2 ⊢
  obtain ⟨w3, h3⟩ : ∃ w3, w2.alloc (.cells #[.int .i64 0, .int .i64 0] 72) = w3 := ⟨_, rfl⟩
  have B3 := below_alloc w2 (.cells #[.int .i64 0, .int .i64 0] 72)
  have s3 := Str.new w2 72 #[.int .i64 0, .int .i64 0]
  have z3 := bx_size w2 (.cells #[.int .i64 0, .int .i64 0] 72)
  rw [h3] at B3 s3 z3 ⊢
  have B4 := below_alloc w3 (.cells #[.int .i64 no, .int .i64 ind, .string ⟨tx.toArray⟩, .string ⟨tx.toArray⟩, .slice none 0 0] 94)
  have s4 := Str.new w3 94 #[.int .i64 no, .int .i64 ind, .string ⟨tx.toArray⟩, .string ⟨tx.toArray⟩, .slice none 0 0]
  rw [z3, z2, z1] at s4
  rw [z2, z1] at s3
  rw [z1] at s2
  have BB := below_trans B1 (below_trans B2 (below_trans B3 B4))
  exact ⟨⟨Nat.le_refl _, s4, Ownp.nil _ _⟩, ⟨BB, s1.below (below_trans B2 (below_trans B3 B4)), s2.below (below_trans B3 B4), s3.below B4⟩, hm.below BB⟩

set_option maxHeartbeats 8000000 in
theorem lexRow_any (l : LX.Lz) (w : World) (hl : l.2.2.length ≤ 17000) (hm : MaxIs w) :
    Calls Tryd.prog 45 #[.agg #[.int .i64 l.1, .int .i64 l.2.1, .string ⟨l.2.2.toArray⟩]] w (RowE w l) := by
  have hmf : ∀ (fn : Fn) (first cap : Array Value) (w : World), (Instr.makeFunc fn first cap).run Tryd.prog w = .ok (.func fn first cap) w := fun _ _ _ _ => rfl
  obtain ⟨no, ind, tx⟩ := l
  simp only at hl ⊢
  have hs := lex_start w no ind tx hm
  have hB : 2 < w.heap.size + 1 + 1 + 1 := by
    obtain ⟨m, hc⟩ := hm
    have := cell_lt hc
    simp only at this
    omega
  have HR := Lib.hid (lrow_any hs.1 hs.2.2 hB hl)
  have HD := Lib.hid hs.2.1
  clear hs hm hB
  go_enter_defers Tryd.func45, Tryd.ntmps45
  go_wp2_with fail
  refine HR.out.mono ?_
  rintro e w1 ⟨hb, ⟨h1, rfl, rest, v', hl1⟩ | ⟨h1, rfl, h2⟩⟩
  · have HD1 := Lib.hid (HD.out.far hb)
    obtain ⟨ao, cp, rfl⟩ := hl1.own.slice
    have HO := Lib.hid hl1.own
    have p4 : w1.cell? ⟨w.heap.size + 1 + 1 + 1, 4, none⟩ = some (.slice ao (LX.row (no, ind, tx)).2.length cp) := hl1.str.cell 4
    have b0 : w1.cell? ⟨w.heap.size + 1, 0, none⟩ = some (.slice none 0 0) := HD1.out.b.cell 0
    have bf : w1.frozen? ⟨w.heap.size + 1, 0, none⟩ = false := HD1.out.b.frozen 0
    have hz := HD1.out.laid (.slice ao (LX.row (no, ind, tx)).2.length cp) (.int .i64 0) (.int .i64 0)
    have sc : Str (w1.setCell ⟨w.heap.size + 1, 0, none⟩ (.slice ao (LX.row (no, ind, tx)).2.length cp)) (w.heap.size + 2) 72 #[.int .i64 0, .int .i64 0] := HD1.out.c.kb (Kb.set w1 (w.heap.size + 1) 0 _ none) (by simp) (by simp)
    have c0 : (w1.setCell ⟨w.heap.size + 1, 0, none⟩ (.slice ao (LX.row (no, ind, tx)).2.length cp)).cell? ⟨w.heap.size + 1 + 1, 0, none⟩ = some (.int .i64 0) := sc.cell 0
    have c1 : (w1.setCell ⟨w.heap.size + 1, 0, none⟩ (.slice ao (LX.row (no, ind, tx)).2.length cp)).cell? ⟨w.heap.size + 1 + 1, 1, none⟩ = some (.int .i64 0) := sc.cell 1
    have cf0 : (w1.setCell ⟨w.heap.size + 1, 0, none⟩ (.slice ao (LX.row (no, ind, tx)).2.length cp)).frozen? ⟨w.heap.size + 1 + 1, 0, none⟩ = false := sc.frozen 0
    have cf1 : (w1.setCell ⟨w.heap.size + 1, 0, none⟩ (.slice ao (LX.row (no, ind, tx)).2.length cp)).frozen? ⟨w.heap.size + 1 + 1, 1, none⟩ = false := sc.frozen 1
    have HO2 : Hid (Ownp _ w.heap.size _ (LX.row (no, ind, tx)).2) := (HO.out.base (by omega)).kb hz.2 (HO.out.off HD1.out.b (by decide)) (HO.out.off HD1.out.c (by decide))
    have HZ := Lib.hid hz.1
    have ER := Lib.hid (show LX.row (no, ind, tx) = (0, (LX.row (no, ind, tx)).2) from Prod.ext h1 rfl)
    clear hb h1 hl1 hz sc HR HD
    go_wp2
    exact ldoor_done rfl rfl HZ.out ER.out HO2.out
  · exact ldoor_gave rfl rfl (HD.out.far hb) (Prod.ext rfl h2) h1
end Go.Proofs.YtmgalfdiiegjjaaDoor
