/- A part of the proof. -/
import Derived.Test.YtgfhabofhefaaaaGreatDoorSB24
namespace Go.Proofs.YtgfhabofhefaaaaGreatDoor
open Go.RowKit
def Wnt (w0 w : World) (p T : Nat) (ns : List SH.Ni) : Prop := ∃ nv vs, vs.map (fun a : Nv => SH.up a.1) = ns ∧ Wrt w0 w p nv T vs
theorem Wnt.calm {w0 w w' : World} {p T : Nat} {ns : List SH.Ni} (h : Wnt w0 w p T ns) (hb : Below w.heap.size w w') : Wnt w0 w' p T ns := by
  obtain ⟨nv, vs, h1, h2⟩ := h
  exact ⟨nv, vs, h1, h2.calm hb⟩
theorem Wnt.mono {w0 w : World} {p T T' : Nat} {ns : List SH.Ni} (h : Wnt w0 w p T ns) (ht : T ≤ T') : Wnt w0 w p T' ns := by
  obtain ⟨nv, vs, h1, h2⟩ := h
  exact ⟨nv, vs, h1, h2.bl, h2.hp, h2.st, h2.nd, h2.nk, fun a ha => by have := h2.tl a ha; omega⟩
theorem Wnt.bl {w0 w : World} {p T : Nat} {ns : List SH.Ni} (h : Wnt w0 w p T ns) : Below w0.heap.size w0 w := by
  obtain ⟨nv, vs, _, h2⟩ := h
  exact h2.bl
theorem wpList_append_node {w : World} {ops : Array Oper} {rest : List Oper} {o : Oper} {a : Act} {Q : Exit → Act → World → Prop} (hgd : o.guard = none) (s x : Operand)
    (ho : o.op = .call { callee := .builtin .append, args := #[s, x], argTypes := #[24, 24] })
    (base : Nat) {v : Value} {ls : List Nv} {l : Nv} {g0 c : Nat} (hs : a.eval s = v) (hown : Ownv w base v ls) (hx : a.eval x = .slice (some ⟨g0, 0, none⟩) 1 c) (hc : At6 w g0 0 l) (h4 : l.2.1.oneCell' = true) (h5 : l.2.2.oneCell' = true)
    (hlen : ls.length ≤ 20000) (hbase : base ≤ w.heap.size)
    (h : ∀ g cap w', Ownv w' base (.slice (some ⟨g, 0, none⟩) (ls.length + 1) cap) (ls ++ [l]) → w.grownBy w' v.ownBlock → wpList Tryz.prog ops Q rest (a.put o.dst (.slice (some ⟨g, 0, none⟩) (ls.length + 1) cap)) w') : wpList Tryz.prog ops Q (o :: rest) a w := by
  obtain ⟨i, hi, hz0, hz1, hz2⟩ := infoparts Tryz.info_node
  refine wpList_append_lies _ hgd s x _ ho base _ i _ 6 88 Tryz.underlying24 hi hz0 hz1 hz2 rfl (by decide) v ls.length (ncs ls) hs hown ⟨g0, 0, none⟩ 1 c (ncs [l]) hx rfl (node_news hc) (node_one h4 h5) (by decide) (by unfold maxLen; omega) (by omega) hbase _ rfl ?_
  intro g cap' w' ho' hg h6 h7
  refine h g cap' w' ?_ hg
  show w'.ownsRow base _ 6 _ (ls ++ [l]).length (ncs (ls ++ [l]))
  rw [ncs_app, List.length_append]; exact ho'
theorem step_append_cell {P : Program} {w : World} {ops : Array Oper} {o : Oper} {a : Act} {K : Act → World → Prop} {Q : Exit → Act → World → Prop} {E : Prop} (hgd : o.guard = none) (s x : Operand) (t : TypeId)
    (ho : o.op = .call { callee := .builtin .append, args := #[s, x], argTypes := #[t, t] })
    (base : Nat) (e : TypeId) (z : Value) (bytes : Nat) (ht : P.underlying t = some (.slice e)) (hinfo : (P.info? e).map (fun i => (i.zero, i.size, i.bytes)) = some (some z, 1, bytes)) (hz : z.cells.size = 1)
    {v : Value} {xs : List Value} {u : Value} {g0 c : Nat} (hs : a.eval s = v) (hown : Own w base e v xs) (hx : a.eval x = .slice (some ⟨g0, 0, none⟩) 1 c) (hc : w.cell? ⟨g0, 0, none⟩ = some u) (hu : u.oneCell' = true)
    (h63 : xs.length + 1 ≤ maxLen) (hbytes : (xs.length + 1) * bytes ≤ 140737488355328) (hbase : base ≤ w.heap.size)
    (h : ∀ g cap w', Own w' base e (.slice (some ⟨g, 0, none⟩) (xs.length + 1) cap) (xs ++ [u]) → w.grownBy w' v.ownBlock → Near w v (.slice (some ⟨g, 0, none⟩) (xs.length + 1) cap) → K (a.put o.dst (.slice (some ⟨g, 0, none⟩) (xs.length + 1) cap)) w') :
    if Region.wanted o (yielded ops a.tmps) = true then Oper.wp P o a w K Q else E := by
  obtain ⟨i, hi, hz0, hz1, hz2⟩ := info_parts hinfo
  refine step_append_lies _ hgd s x t ho base e i z 1 bytes ht hi hz0 hz1 hz2 hz (by decide) v xs.length xs hs hown ⟨g0, 0, none⟩ 1 c [u] hx rfl ?_ (by simpa using hu) (by decide) h63 hbytes hbase _ rfl ?_
  · intro j y hy
    rw [Addr.add_lit, Nat.zero_add]
    match j, hy with
    | 0, hy => obtain rfl : u = y := by simpa using hy
               exact hc
    | j + 1, hy => simp at hy
  · intro g cap' w' ho' hg h6 _
    refine h g cap' w' ?_ hg ?_
    · show w'.ownsRow base e 1 _ (xs ++ [u]).length (xs ++ [u])
      rw [List.length_append]; exact ho'
    · rcases h6 with h6 | h6
      · exact .inl h6.symm
      · refine .inr fun g' hg' => ?_
        have := Option.some.inj hg'
        subst this
        exact Nat.le_of_eq h6.symm
theorem up_set {vs : List Nv} {n : Nat} {a : Nv} {y : Nv} {f : SH.Ni → SH.Ni} (ha : vs[n]? = some a) (h : SH.up y.1 = f (SH.up a.1)) : (vs.set n y).map (fun a : Nv => SH.up a.1) = (vs.map (fun a : Nv => SH.up a.1)).modify n f := by
  apply List.ext_getElem?
  intro i
  rw [List.getElem?_map, List.getElem?_set, List.getElem?_modify, List.getElem?_map]
  have hl := (List.getElem?_eq_some_iff.1 ha).1
  by_cases e : n = i
  · subst e
    rw [if_pos rfl, if_pos hl, ha]
    simp [h]
  · rw [if_neg e]
    simp [e]
theorem sv_one1 {ks : List LX.B} {k : LX.B} : sv ks ++ [.string ⟨k.toArray⟩] = sv (ks ++ [k]) := by rw [sv_app]; rfl
theorem nats_one1 {ks : List Nat} {k : Nat} : nats ks ++ [.int .i64 (k : Int)] = nats (ks ++ [k]) := by rw [nats_app]; rfl
set_option maxRecDepth 4000 in
set_option maxHeartbeats 4000000 in
theorem wopen_any {w0 w : World} {p T : Nat} {ns : List SH.Ni} (h : Wnt w0 w p T ns) (hl : ns.length ≤ 19000) (k : Int) :
    Calls Tryz.prog 19 #[.pointer (some ⟨p, 0, none⟩), .int .i64 k] w fun e w' => e = .returned (.int .i64 (ns.length : Int)) ∧ Wnt w0 w' p T (CF.opn k ns) ∧ Kw w w' := by
  obtain ⟨nv, vs, rfl, h⟩ := h
  rw [List.length_map] at hl ⊢
  obtain ⟨ao, cap, rfl⟩ := h.len
  have c0 : w.cell? ⟨p, 0, none⟩ = some (.slice ao vs.length cap) := h.st.cell 0
  have BX := below_alloc w (.cells (nc ((⟨k, 0, [], false, [], []⟩ : DC.Nd), .slice none 0 0, .slice none 0 0)) 48)
  have HA := Lib.hid ((Str.new w 48 (nc ((⟨k, 0, [], false, [], []⟩ : DC.Nd), .slice none 0 0, .slice none 0 0))).at6)
  have H1 := Lib.hid (h.calm BX)
  have HK1 := Lib.hid (Kw.of_below BX)
  have HL := Lib.hid hl
  obtain ⟨L, hL⟩ : ∃ L, vs.length = L := ⟨_, rfl⟩
  have HLL := Lib.hid hL
  rw [hL] at c0 H1 ⊢
  have hLi : (L : Int) ≤ 20000 := by omega
  unfold nc at H1 HA HK1
  simp only at H1 HA HK1
  clear h BX hl hL
  go_enter Tryz.func19, Tryz.ntmps19
  go_wp2_with (at_builtin; refine wpList_append_node (l := ((⟨k, 0, [], false, [], []⟩ : DC.Nd), .slice none 0 0, .slice none 0 0)) rfl (.tmp 9) (.tmp 12) rfl w0.heap.size (by rfl) H1.out.nd (by rfl) HA.out rfl rfl (by have := HL.out; omega) H1.out.size ?_; intro g cap2 w2 ho2 hg2; obtain ⟨s2, h2, k2⟩ := H1.out.push hg2 ho2 rfl rfl; rw [HLL.out] at *; have H2 := Lib.hid h2; have K2 := Lib.hid k2; have f1 := s2.frozen 0; have q1 := s2.cell 0; have q2 := h2.st.cell 0; simp only [List.getElem?_toArray, List.getElem?_cons_zero] at q1 q2; clear ho2 hg2 s2 h2 k2)
  go_ret
  refine ⟨?_, ⟨_, _, ?_, H2.out⟩, HK1.out.trans K2.out⟩
  · simp
  · simp [CF.opn, SH.up]
set_option maxRecDepth 4000 in
set_option maxHeartbeats 4000000 in
theorem ctext_any {w0 w : World} {p T : Nat} {ns : List SH.Ni} (h : Wnt w0 w p T ns) (hl : ns.length ≤ 19000) (s : LX.B) (q : Bool) :
    Calls Tryz.prog 42 #[.pointer (some ⟨p, 0, none⟩), .string ⟨s.toArray⟩, .bool q] w fun e w' => e = .returned (.int .i64 (ns.length : Int)) ∧ Wnt w0 w' p T (CF.txt s q ns) ∧ Kw w w' := by
  obtain ⟨nv, vs, rfl, h⟩ := h
  rw [List.length_map] at hl ⊢
  obtain ⟨ao, cap, rfl⟩ := h.len
  have c0 : w.cell? ⟨p, 0, none⟩ = some (.slice ao vs.length cap) := h.st.cell 0
  have BX := below_alloc w (.cells (nc ((⟨1, 0, s, q, [], []⟩ : DC.Nd), .slice none 0 0, .slice none 0 0)) 48)
  have HA := Lib.hid ((Str.new w 48 (nc ((⟨1, 0, s, q, [], []⟩ : DC.Nd), .slice none 0 0, .slice none 0 0))).at6)
  have H1 := Lib.hid (h.calm BX)
  have HK1 := Lib.hid (Kw.of_below BX)
  have HL := Lib.hid hl
  obtain ⟨L, hL⟩ : ∃ L, vs.length = L := ⟨_, rfl⟩
  have HLL := Lib.hid hL
  rw [hL] at c0 H1 ⊢
  have hLi : (L : Int) ≤ 20000 := by omega
  unfold nc at H1 HA HK1
  simp only at H1 HA HK1
  clear h BX hl hL
  go_enter Tryz.func42, Tryz.ntmps42
  go_wp2_with (at_builtin; refine wpList_append_node (l := ((⟨1, 0, s, q, [], []⟩ : DC.Nd), .slice none 0 0, .slice none 0 0)) rfl (.tmp 11) (.tmp 15) rfl w0.heap.size (by rfl) H1.out.nd (by rfl) HA.out rfl rfl (by have := HL.out; omega) H1.out.size ?_; intro g cap2 w2 ho2 hg2; obtain ⟨s2, h2, k2⟩ := H1.out.push hg2 ho2 rfl rfl; rw [HLL.out] at *; have H2 := Lib.hid h2; have K2 := Lib.hid k2; have f1 := s2.frozen 0; have q1 := s2.cell 0; have q2 := h2.st.cell 0; simp only [List.getElem?_toArray, List.getElem?_cons_zero] at q1 q2; clear ho2 hg2 s2 h2 k2)
  go_ret
  refine ⟨?_, ⟨_, _, ?_, H2.out⟩, HK1.out.trans K2.out⟩
  · simp
  · simp [CF.txt, SH.up]
set_option maxRecDepth 4000 in
set_option maxHeartbeats 8000000 in
theorem witem_any {w0 w : World} {p T : Nat} {ns : List SH.Ni} (h : Wnt w0 w p T ns) (n k : Nat) (hn : n < ns.length) (hl : ns.length ≤ 19000) (hT : T ≤ 100000) :
    Calls Tryz.prog 21 #[.pointer (some ⟨p, 0, none⟩), .int .i64 (n : Int), .int .i64 (k : Int)] w fun e w' => e = .returned (.tuple #[]) ∧ Wnt w0 w' p (T + 1) (CF.addI n k ns) ∧ Kw w w' := by
  obtain ⟨nv, vs, rfl, h⟩ := h
  rw [List.length_map] at hn hl
  obtain ⟨a, ha⟩ : ∃ a, vs[n]? = some a := ⟨vs[n], List.getElem?_eq_getElem hn⟩
  have BX := below_trans (below_alloc w (.cells #[.int .i64 (k : Int)] 3)) (below_drew _)
  obtain ⟨g, cap, rfl, _, _, c6, _⟩ := h.nd.at ha
  have c0 : w.cell? ⟨p, 0, none⟩ = some (.slice (some ⟨g, 0, none⟩) vs.length cap) := h.st.cell 0
  have hk := h.nk.kids n a ha
  obtain ⟨ao, cp, hv⟩ := hk.slice
  have d5 := c6.c5
  rw [hv] at d5
  have HTA := Lib.hid (h.tl a (List.mem_of_getElem? ha))
  have H1 := Lib.hid (h.calm BX)
  have HK1 := Lib.hid (Kw.of_below BX)
  have HO := Lib.hid (hk.below BX)
  have HCX : Hid ((w.alloc (.cells #[.int .i64 (k : Int)] 3)).drew.cell? ⟨w.heap.size, 0, none⟩ = some (.int .i64 (k : Int))) := Lib.hid (((Str.new w 3 #[.int .i64 (k : Int)]).below (below_drew _)).cell 0)
  have A_c0 := fun o => ((below_alloc w o).cell (cell_lt c0)).trans c0
  have A_d5 := fun o => ((below_alloc w o).cell (cell_lt d5)).trans d5
  have hni : (n : Int) < (vs.length : Int) := by omega
  have hn0 : (0 : Int) ≤ (n : Int) := by omega
  obtain ⟨L, hL⟩ : ∃ L, vs.length = L := ⟨_, rfl⟩
  obtain ⟨N, hN⟩ : ∃ N, (nats a.1.kids).length = N := ⟨_, rfl⟩
  have HAA := Lib.hid ha
  rw [hN] at hv
  rw [hv] at HO
  have HV := Lib.hid hv
  have HNB : Hid (N + 1 ≤ 200000) := by show _ ≤ _; rw [← hN, nats_len]; have := HTA.out; omega
  have HNN := Lib.hid hN
  rw [hL] at c0 A_c0 H1 hni
  rw [hN] at d5 A_d5
  clear h hk c6 BX hL hN ha hv hn hl hT
  go_enter Tryz.func21, Tryz.ntmps21
  go_wp2
  go_region_law (refine step_append_cell (by rfl) (.tmp 18) (.tmp 20) 22 (by rfl) w0.heap.size 3 (.int .i64 0) 8 Tryz.underlying22 Tryz.info_int rfl (by rfl) HO.out (by rfl) HCX.out rfl (by have := HNB.out; rw [HNN.out]; unfold maxLen; omega) (by have := HNB.out; rw [HNN.out]; omega) H1.out.size ?_; intro g4 cap4 w4 ho4 hg4 hn4; obtain ⟨g', cap', e', -, q6, s4, f4, h4, k4⟩ := H1.out.kid (k := k) HAA.out (by rw [HV.out]; exact hg4) (by rw [← nats_one1]; exact ho4) (by rw [HV.out]; exact hn4); simp only [Value.slice.injEq, Option.some.injEq, Addr.mk.injEq, and_true] at e'; obtain ⟨rfl, -, rfl⟩ := e'; have H4 := Lib.hid h4; have K4 := Lib.hid k4; have p4 := s4.cell 0; have f5 := f4 (n * 6 + 5); have d4 := q6.c5; simp only [List.getElem?_toArray, List.getElem?_cons_zero] at p4; clear ho4 hg4 hn4 q6 s4 f4 h4 k4)
  all_goals
    go_wp2
    go_end0
    exact ⟨rfl, ⟨_, _, up_set HAA.out (by simp [SH.up]), H4.out⟩, HK1.out.trans K4.out⟩
end Go.Proofs.YtgfhabofhefaaaaGreatDoor
