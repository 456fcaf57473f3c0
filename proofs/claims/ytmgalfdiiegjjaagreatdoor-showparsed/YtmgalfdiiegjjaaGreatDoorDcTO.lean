/- The walk of the document's own Of. -/
import Derived.Test.YtmgalfdiiegjjaaGreatDoorDcTB
import Derived.Test.YtmgalfdiiegjjaaGreatDoorSeg41
namespace Go.Proofs.YtmgalfdiiegjjaaGreatDoor
open Go.RowKit

theorem rof_ret {tmps : Array Value} {w : World} {p q : Nat} {x y z : Value} (hp : tmps.getD 2 undef = .pointer (some ⟨p, 0, none⟩)) (hq : tmps.getD 3 undef = .pointer (some ⟨q, 0, none⟩)) (h1 : Str w p 26 #[x]) (h2 : Str w q 39 #[y, z]) :
    (results Tryz.f38 tmps).run Tryz.prog w = .ok (.tuple #[.agg #[x], .agg #[y, z]]) w := by
  have hs' : w.heap[q]? = some (.cells #[y, z] 39 (0, 0)) := h2
  have hs1 : w.heap[p]? = some (.cells #[x] 26 (0, 0)) := h1
  have l2 := run_loadVar_row (P := Tryz.prog) w q 39 39 #[y, z] (0, 0) _ hs' Tryz.underlying39 rfl fault_size
  have l1 := run_loadVar_row (P := Tryz.prog) w p 26 26 #[x] (0, 0) _ hs1 Tryz.underlying26 rfl doc_size
  have hp' : (asAddr (tmps.getD 2 undef)).run Tryz.prog w = .ok ⟨p, 0, none⟩ w := by rw [hp]; simp [asAddr]
  have hq' : (asAddr (tmps.getD 3 undef)).run Tryz.prog w = .ok ⟨q, 0, none⟩ w := by rw [hq]; simp [asAddr]
  simp only [Array.getD_eq_getD_getElem?] at hp' hq'
  simp only [results, Tryz.results38]
  simp [Sem.run_bind, Result.andThen, hp', hq', l1, l2]
/-- The results' variables, where the first has been laid. -/
theorem DoD.lay {w wr : World} {x y z : Value} (h : DoD w wr x y z) (v : Value) :
    wr.cell? ⟨w.heap.size, 0, none⟩ = some x ∧ wr.frozen? ⟨w.heap.size, 0, none⟩ = false ∧ (wr.setCell ⟨w.heap.size, 0, none⟩ v).cell? ⟨w.heap.size + 1, 0, none⟩ = some y ∧ (wr.setCell ⟨w.heap.size, 0, none⟩ v).cell? ⟨w.heap.size + 1, 1, none⟩ = some z ∧ (wr.setCell ⟨w.heap.size, 0, none⟩ v).frozen? ⟨w.heap.size + 1, 0, none⟩ = false ∧ (wr.setCell ⟨w.heap.size, 0, none⟩ v).frozen? ⟨w.heap.size + 1, 1, none⟩ = false := by
  have sc : Str (wr.setCell ⟨w.heap.size, 0, none⟩ v) (w.heap.size + 1) 39 #[y, z] := h.c.kb (Kb.set wr w.heap.size 0 _ none) (by simp) (by simp)
  exact ⟨h.b.cell 0, h.b.frozen 0, sc.cell 0, sc.cell 1, sc.frozen 0, sc.frozen 1⟩
theorem own_low {w w1 : World} {x y z v : Value} {S : Nat → Prop} {ns : List DC.Nd} (h : Nds w1 w.heap.size S v ns) (d : DoD w w1 x y z) {g : Nat} (hg : v.ownBlock = some g) : w.heap.size + 2 ≤ g := by
  have h1 := (h.ge hg).1
  have h2 : g ≠ w.heap.size := fun e => by
    rcases h.off d.b (by decide) with e1 | e1
    · rw [e1] at hg; cases hg
    · exact e1 (by rw [hg, e])
  have h3 : g ≠ w.heap.size + 1 := fun e => by
    rcases h.off d.c (by decide) with e1 | e1
    · rw [e1] at hg; cases hg
    · exact e1 (by rw [hg, e])
  omega
theorem rof_start (w : World) (lv : Value) (l : List LX.Pc) (hr : Rdp w lv l) :
    Rst w (((w.alloc (.cells #[.slice none 0 0] 26)).alloc (.cells #[.int .i64 0, .int .i64 0] 39)).alloc (.cells #[lv, .int .i64 0, .slice none 0 0, .int .i64 0, .int .i64 0] 117)) (w.heap.size + 1 + 1) lv l 0 (.slice none 0 0) [] 0 0 (fun _ => False) ∧
    DoD w (((w.alloc (.cells #[.slice none 0 0] 26)).alloc (.cells #[.int .i64 0, .int .i64 0] 39)).alloc (.cells #[lv, .int .i64 0, .slice none 0 0, .int .i64 0, .int .i64 0] 117)) (.slice none 0 0) (.int .i64 0) (.int .i64 0) := by
  have hd := pars_start w
  have zz : ((w.alloc (.cells #[.slice none 0 0] 26)).alloc (.cells #[.int .i64 0, .int .i64 0] 39)).heap.size = w.heap.size + 1 + 1 := by rw [bx_size, bx_size]
  generalize (w.alloc (.cells #[.slice none 0 0] 26)).alloc (.cells #[.int .i64 0, .int .i64 0] 39) = W at *
  have b := below_alloc W (.cells #[lv, .int .i64 0, .slice none 0 0, .int .i64 0, .int .i64 0] 117)
  have s := Str.new W 117 #[lv, .int .i64 0, .slice none 0 0, .int .i64 0, .int .i64 0]
  rw [zz] at s
  exact ⟨⟨below_trans hd.bl b, by omega, s, hr, Nat.zero_le _, Nds.nil _ _ _, fun _ hg => hg.elim⟩, hd.calm b⟩
theorem ofe_bad {w w' : World} {l : List LX.Pc} {k n : Int} (h : DC.doc l = .bad k n) (hb : Below w.heap.size w w') : OfE w l (.returned (.tuple #[.agg #[.slice none 0 0], .agg #[.int .i64 k, .int .i64 n]])) w' := by
  refine ⟨hb, .slice none 0 0, fun _ => False, ?_, ?_⟩
  · simp only [DC.fault, h]
  · simp only [DC.nodes, h]; exact Nds.nil _ _ _
theorem ofe_ok {w w' : World} {l : List LX.Pc} {ns : List DC.Nd} {v : Value} {S : Nat → Prop} (h : DC.doc l = .ok ns) (hb : Below w.heap.size w w') (hn : Nds w' w.heap.size S v ns) : OfE w l (.returned (.tuple #[.agg #[v], .agg #[.int .i64 0, .int .i64 0]])) w' := by
  refine ⟨hb, v, S, ?_, ?_⟩
  · simp only [DC.fault, h]
  · simp only [DC.nodes, h]; exact hn
section
variable {l : List LX.Pc} (h0 : l ≠ [])
include h0
theorem doc_bad {a b : Int} (hA : DC.blk (2 * l.length + 2) 1 0 l = .bad a b) : DC.doc l = .bad a b := by
  unfold DC.doc DC.fuel
  rw [if_neg h0, hA]; rfl
theorem doc_nil {E : List DC.Nd} (hA : DC.blk (2 * l.length + 2) 1 0 l = .ok (E, [])) : DC.doc l = .ok E := by
  unfold DC.doc DC.fuel
  rw [if_neg h0, hA]; rfl
theorem doc_more {E : List DC.Nd} {q : LX.Pc} {r : List LX.Pc} (hA : DC.blk (2 * l.length + 2) 1 0 l = .ok (E, q :: r)) : DC.doc l = .bad 6 q.2.1 := by
  unfold DC.doc DC.fuel
  rw [if_neg h0, hA]; rfl
end
set_option maxRecDepth 10000 in
set_option maxHeartbeats 8000000 in
theorem rof_any (lv : Value) (l : List LX.Pc) (w : World) (hr : Rdp w lv l) (hl : l.length ≤ 1000000) :
    Calls Tryz.prog 38 #[lv] w (OfE w l) := by
  have hs := rof_start w lv l hr
  obtain ⟨al, cl, rfl, _, _⟩ := hr.slice
  have HS := Lib.hid hs.1
  have HD := Lib.hid hs.2
  have HD0 := Lib.hid (pars_start w)
  by_cases h0 : l = []
  · subst h0
    have HE := Lib.hid (fun (w' : World) (hb : Below w.heap.size w w') => ofe_bad (w := w) (w' := w') (l := []) (k := 10) (n := 1) (by decide) hb)
    have HZ := Lib.hid (HD0.out.laid (.slice none 0 0) (.int .i64 10) (.int .i64 1)).1
    obtain ⟨d0, df, c0, c1, cf0, cf1⟩ := HD0.out.lay (.slice none 0 0)
    clear HS HD hr hl hs
    go_enter Tryz.func38, Tryz.ntmps38
    go_upto_region 2 with fail
    generalize World.alloc (World.alloc _ _) _ = W at *
    go_wp2
    (try rw [Exit.noGoto_ret])
    (try simp only [Exit.inBlock, Exit.then])
    refine bodyPost_ret (rof_ret rfl rfl HZ.out.b HZ.out.c) rfl ?_
    exact HE.out _ HZ.out.bl
  · have hpos : 0 < l.length := by
      cases l with
      | nil => exact absurd rfl h0
      | cons x l => simp
    obtain ⟨n, hn⟩ : ∃ n, l.length = n := ⟨_, rfl⟩
    obtain ⟨A, hA⟩ : ∃ A, DC.blk (2 * l.length + 2) 1 0 l = A := ⟨_, rfl⟩
    have HB := Lib.hid (rbc_all (2 * l.length + 2) w _ _ _ _ l 0 [] (fun _ => False) 1 HS.out hpos hl (by simp) (by simp) (by omega))
    rw [List.drop_zero, List.length_nil, hA] at HB
    have H0 := Lib.hid h0
    have HA := Lib.hid hA
    have HN := Lib.hid hn
    rw [hn] at hpos HS HD HB ⊢
    have hn0 : ¬ (n : Int) = 0 := by omega
    have hnb : ((n : Int) == 0) = false := by simpa using hn0
    have hnc : (n == 0) = false := by simpa using (show ¬ n = 0 by omega)
    have hnd : ¬ n = 0 := by omega
    clear hA hr hl h0 hn hs HD0
    go_enter Tryz.func38, Tryz.ntmps38
    go_upto_region 4 with fail
    generalize World.alloc (World.alloc (World.alloc _ _) _) _ = W at *
    clear hnb hnc hn0 hnd hpos
    go_wp2_with fail
    refine HB.out.mono ?_
    rintro e w1 ⟨z, t', nv', ns', k, m, rfl, hp, hk, hnr, hR⟩
    have HP := Lib.hid hp
    have HD1 := Lib.hid (HD.out.far hk (by intro g hg; cases hg))
    have r1 : w1.cell? ⟨w.heap.size + 1 + 1, 1, none⟩ = some (.int .i64 (t' : Int)) := hp.st.cell 1
    have r2 : w1.cell? ⟨w.heap.size + 1 + 1, 2, none⟩ = some nv' := hp.st.cell 2
    have r3 : w1.cell? ⟨w.heap.size + 1 + 1, 3, none⟩ = some (.int .i64 k) := hp.st.cell 3
    have r4 : w1.cell? ⟨w.heap.size + 1 + 1, 4, none⟩ = some (.int .i64 m) := hp.st.cell 4
    clear hp hk hnr HB HS HD
    cases A with
    | bad a b =>
      obtain ⟨rfl, rfl, _, _⟩ := hR
      have hne := DC.blk_bad HA.out
      have hb1 : (k == 0) = false := by simpa using hne
      have hb2 : (k != 0) = true := by simpa using hne
      have HE := Lib.hid (fun (w' : World) (hb : Below w.heap.size w w') => ofe_bad (w := w) (w' := w') (l := l) (k := k) (n := m) (doc_bad H0.out HA.out) hb)
      clear HA H0 hne
      go_upto_region 8 with fail
      have HZ := Lib.hid (HD1.out.laid (.slice none 0 0) (.int .i64 k) (.int .i64 m)).1
      obtain ⟨d0, df, -⟩ := HD1.out.lay (.slice none 0 0)
      obtain ⟨-, -, c0', c1', cf0', cf1'⟩ := HD1.out.lay (.slice none 0 0)
      have c0 : w1.cell? ⟨w.heap.size + 1, 0, none⟩ = some (.int .i64 0) := HD1.out.c.cell 0
      have c1 : w1.cell? ⟨w.heap.size + 1, 1, none⟩ = some (.int .i64 0) := HD1.out.c.cell 1
      have cf0 := HD1.out.c.frozen 0
      have cf1 := HD1.out.c.frozen 1
      have hqd : w.heap.size + 1 + 1 ≠ w.heap.size := by omega
      have S1 := HP.out.st.kb (Kb.set w1 w.heap.size 0 (.slice none 0 0) none) (fun e => hqd (Option.some.inj e)) (by simp)
      have r3' : (w1.setCell ⟨w.heap.size, 0, none⟩ (.slice none 0 0)).cell? ⟨w.heap.size + 1 + 1, 3, none⟩ = some (.int .i64 k) := S1.cell 3
      have r4' : (w1.setCell ⟨w.heap.size, 0, none⟩ (.slice none 0 0)).cell? ⟨w.heap.size + 1 + 1, 4, none⟩ = some (.int .i64 m) := S1.cell 4
      clear S1 hqd
      go_wp2
      go_region
      all_goals (go_wp2; (try rw [Exit.noGoto_ret]); (try simp only [Exit.inBlock, Exit.then]); refine bodyPost_ret (rof_ret rfl rfl (HZ.out.b.below (below_drew _)) (HZ.out.c.below (below_drew _))) rfl ?_; exact HE.out _ (below_trans HZ.out.bl (below_drew _)))
    | ok a =>
      obtain ⟨E, r⟩ := a
      obtain ⟨rfl, rfl, rfl, rfl, hdr⟩ := hR
      have hle := HP.out.le
      have HNN := HN.out
      cases r with
      | nil =>
        have hti : ¬ (t' : Int) < (n : Int) := fun h => by
          have := congrArg List.length hdr
          simp only [List.length_drop, List.length_nil] at this
          omega
        have htb : ¬ t' < n := by omega
        obtain ⟨an, cn, hnv⟩ := HP.out.nd.slice
        subst hnv
        have HE := Lib.hid (fun (v : Value) (w' : World) (S : Nat → Prop) (hb : Below w.heap.size w w') (h : Nds w' w.heap.size S v _) => ofe_ok (w := w) (w' := w') (l := l) (ns := ns') (S := S) (doc_nil H0.out HA.out) hb h)
        obtain ⟨d0, df, c0, c1, cf0, cf1⟩ := HD1.out.lay (.slice an ns'.length cn)
        have hz := HD1.out.laid (.slice an ns'.length cn) (.int .i64 0) (.int .i64 0)
        have HZ := Lib.hid hz.1
        have HNZ := Lib.hid (HP.out.nd.kb hz.2 (Far.str HD1.out.b (by decide) (by decide)) (Far.str HD1.out.c (by decide) (by decide)) (HP.out.nd.off HD1.out.b (by decide)) (HP.out.nd.off HD1.out.c (by decide)))
        clear HA H0 hle HNN hdr hz
        go_wp2
        (try rw [Exit.noGoto_ret])
        (try simp only [Exit.inBlock, Exit.then])
        refine bodyPost_ret (rof_ret rfl rfl HZ.out.b HZ.out.c) rfl ?_
        exact HE.out _ _ _ HZ.out.bl HNZ.out
      | cons q r =>
        have ht : t' < n := by
          have := congrArg List.length hdr
          simp only [List.length_drop, List.length_cons] at this
          omega
        have hti : (t' : Int) < (n : Int) := by omega
        have ht0 : (0 : Int) ≤ (t' : Int) := by omega
        obtain ⟨q', hq, hdq⟩ := dropt_at (L := l) (t := t') (by omega)
        obtain rfl : q' = q := by rw [hdq] at hdr; exact (List.cons.inj hdr).1
        obtain ⟨b, off, cap, hlv, hq5⟩ := HP.out.at hq
        simp only [Value.slice.injEq] at hlv
        obtain ⟨rfl, -, rfl⟩ := hlv
        have q1 := hq5.c1
        obtain ⟨qk, qn, qc, qt, qq⟩ := q'
        simp only at q1
        have HF := Lib.hid (rfail_any HP.out 6 qn)
        have HE := Lib.hid (fun (w' : World) (hb : Below w.heap.size w w') => ofe_bad (w := w) (w' := w') (l := l) (k := 6) (n := qn) (doc_more H0.out HA.out) hb)
        clear HA H0 hle HNN hdr hdq hq hq5
        go_upto_region 7 with (go_at_call 67; refine HF.out.mono ?_; rintro e w2 ⟨rfl, hp2, hk2⟩; have HP2 := Lib.hid hp2; have HD2 := Lib.hid (HD1.out.far hk2 (fun g hg => Nat.le_trans (Nat.le_refl _) (own_low HP.out.nd HD1.out hg))); have s3 : w2.cell? ⟨w.heap.size + 1 + 1, 3, none⟩ = some (.int .i64 6) := hp2.st.cell 3; have s4 : w2.cell? ⟨w.heap.size + 1 + 1, 4, none⟩ = some (.int .i64 qn) := hp2.st.cell 4; clear hp2 hk2)
        clear r1 r2 r3 r4 q1 HF HP HD1
        go_upto_region 8 with fail
        have HZ := Lib.hid (HD2.out.laid (.slice none 0 0) (.int .i64 6) (.int .i64 qn)).1
        obtain ⟨d0, df, -⟩ := HD2.out.lay (.slice none 0 0)
        obtain ⟨-, -, c0', c1', cf0', cf1'⟩ := HD2.out.lay (.slice none 0 0)
        have c0 : w2.cell? ⟨w.heap.size + 1, 0, none⟩ = some (.int .i64 0) := HD2.out.c.cell 0
        have c1 : w2.cell? ⟨w.heap.size + 1, 1, none⟩ = some (.int .i64 0) := HD2.out.c.cell 1
        have cf0 := HD2.out.c.frozen 0
        have cf1 := HD2.out.c.frozen 1
        have hqd : w.heap.size + 1 + 1 ≠ w.heap.size := by omega
        have S1 := HP2.out.st.kb (Kb.set w2 w.heap.size 0 (.slice none 0 0) none) (fun e => hqd (Option.some.inj e)) (by simp)
        have r3' : (w2.setCell ⟨w.heap.size, 0, none⟩ (.slice none 0 0)).cell? ⟨w.heap.size + 1 + 1, 3, none⟩ = some (.int .i64 6) := S1.cell 3
        have r4' : (w2.setCell ⟨w.heap.size, 0, none⟩ (.slice none 0 0)).cell? ⟨w.heap.size + 1 + 1, 4, none⟩ = some (.int .i64 qn) := S1.cell 4
        clear S1 hqd
        go_wp2
        go_region
        all_goals (go_wp2; (try rw [Exit.noGoto_ret]); (try simp only [Exit.inBlock, Exit.then]); refine bodyPost_ret (rof_ret rfl rfl (HZ.out.b.below (below_drew _)) (HZ.out.c.below (below_drew _))) rfl ?_; exact HE.out _ (below_trans HZ.out.bl (below_drew _)))
end Go.Proofs.YtmgalfdiiegjjaaGreatDoor
