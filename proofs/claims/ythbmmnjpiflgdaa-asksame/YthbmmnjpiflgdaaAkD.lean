/- The walk of ask.readDesc. -/
import Derived.Test.YthbmmnjpiflgdaaAkR
import Derived.Laws.ResultCell
import Derived.Deep.AppendLies
import Derived.Deep.RegionLaw
namespace Go.Proofs.Ythbmmnjpiflgdaa
open Go.RowKit

theorem Try.info_entry : (Try.prog.info? 44).map (fun i => (i.zero, i.size, i.bytes)) = some (some (.agg #[.string ⟨#[]⟩, .string ⟨#[]⟩]), 2, 32) := by kernel_rfl
theorem two_cells (w : World) (t : TypeId) (x y : Value) : (w.alloc (.cells #[x, y] t)).cell? ⟨w.heap.size, 0, none⟩ = some x ∧ (w.alloc (.cells #[x, y] t)).cell? ⟨w.heap.size, 1, none⟩ = some y := by
  have hh : (w.alloc (.cells #[x, y] t)).heap[w.heap.size]? = some (.cells #[x, y] t) := heap_alloc_new w _
  unfold World.cell?
  simp only [hh]
  simp
theorem own_slice {w : World} {base : Nat} {t : TypeId} {v : Value} {es : List D.E} (h : Owne w base t v es) : ∃ ao cap, v = .slice ao es.length cap := by
  rcases h.2 with ⟨hv, hn⟩ | ⟨g, cap, cur, hv, _⟩
  · exact ⟨none, 0, by rw [hv, hn]⟩
  · exact ⟨_, cap, hv⟩
/-- 'append(l, e)' of entries, l the call's own, at a step of a region that draws. -/
theorem step_append_entry {P : Program} {w : World} {ops : Array Oper} {o : Oper} {a : Act} {K : Act → World → Prop} {Q : Exit → Act → World → Prop} {E : Prop} (hgd : o.guard = none) (s x : Operand) (t : TypeId)
    (ho : o.op = .call { callee := .builtin .append, args := #[s, x], argTypes := #[t, t] })
    (base : Nat) (e : TypeId) (z : Value) (ht : P.underlying t = some (.slice e)) (hinfo : (P.info? e).map (fun i => (i.zero, i.size, i.bytes)) = some (some z, 2, 32)) (hz : z.cells.size = 2)
    {v : Value} {es : List D.E} {k u : List UInt8} {g0 c : Nat} (hs : a.eval s = v) (hown : Owne w base e v es) (hx : a.eval x = .slice (some ⟨g0, 0, none⟩) 1 c) (hc : w.cell? ⟨g0, 0, none⟩ = some (.string ⟨k.toArray⟩) ∧ w.cell? ⟨g0, 1, none⟩ = some (.string ⟨u.toArray⟩))
    (hlen : es.length ≤ 100) (hbase : base ≤ w.heap.size)
    (h : ∀ g cap w', Owne w' base e (.slice (some ⟨g, 0, none⟩) (es.length + 1) cap) (es ++ [(k, u)]) → w.grownBy w' v.ownBlock → K (a.put o.dst (.slice (some ⟨g, 0, none⟩) (es.length + 1) cap)) w') :
    if Region.wanted o (yielded ops a.tmps) = true then Oper.wp P o a w K Q else E := by
  obtain ⟨i, hi, hz0, hz1, hz2⟩ := info_parts hinfo
  refine step_append_lies _ hgd s x t ho base e i z 2 32 ht hi hz0 hz1 hz2 hz (by decide) v es.length (ev es) hs hown ⟨g0, 0, none⟩ 1 c (ev [(k, u)]) hx rfl ?_ ev_one (by decide) (by unfold maxLen; omega) (by omega) hbase _ rfl ?_
  · intro j y hy
    rw [Addr.add_lit, Nat.zero_add]
    match j, hy with
    | 0, hy =>
      have : tv k = y := by simpa [ev] using hy
      rw [← this]; exact hc.1
    | 1, hy =>
      have : tv u = y := by simpa [ev] using hy
      rw [← this]; exact hc.2
    | j + 2, hy => simp [ev] at hy
  · intro g cap' w' ho' hg _ _
    refine h g cap' w' ?_ hg
    show w'.ownsRow base e 2 _ (es ++ [(k, u)]).length (ev (es ++ [(k, u)]))
    rw [ev_app, List.length_append]; exact ho'

/-- A result that is a struct, alone. -/
theorem ret_cell1 {P : Program} {fn : Func} {p : Tmp} {ty : TypeId} (h : fn.results = #[.cell p ty]) {tmps : Array Value} {w : World} {g : Nat} {T : TypeId} {cs : Array Value} {d : TypeDesc} (hp : tmps.getD p undef = .pointer (some ⟨g, 0, none⟩)) (hs : Str w g T cs)
    (hu : P.underlying ty = some d) (hd : (match d with | .struct _ | .array _ _ => true | _ => false) = true) (hi : (P.info? ty).map (·.size) = some cs.size) :
    (results fn tmps).run P w = .ok (.agg cs) w := by
  have hs' : w.heap[g]? = some (.cells cs T (0, 0)) := hs
  have hp' : (asAddr (tmps.getD p undef)).run P w = .ok ⟨g, 0, none⟩ w := by rw [hp]; simp [asAddr]
  have hl := run_loadVar_row w g T ty cs (0, 0) d hs' hu hd hi
  simp only [results, h]
  simp only [Array.getD_eq_getD_getElem?] at hp'
  simp [Sem.run_bind, Result.andThen, hp', hl]
theorem desc_size : (Try.prog.info? 42).map (·.size) = some 1 := by kernel_rfl
theorem Str.one {w : World} {p : Nat} {T : TypeId} {x : Value} (h : Str w p T #[x]) (u : Value) : Str (w.setCell ⟨p, 0, none⟩ u) p T #[u] := by
  have := h.set 0 u
  simpa using this

/-- Where readDesc stands. -/
structure DS (w wr : World) (p : Nat) (vs : Value) (es : List D.E) (rest : List UInt8) : Prop where
  kb : Kb w wr (some p) none
  lt : p < w.heap.size
  big : w.heap.size + 2 ≤ wr.heap.size
  res : Str wr w.heap.size 42 #[.slice none 0 0]
  d : Str wr (w.heap.size + 1) 42 #[vs]
  own : Owne wr (w.heap.size + 2) 44 vs es
  rd : Rdr wr p rest
theorem DS.later {w wr w1 : World} {p : Nat} {vs : Value} {es : List D.E} {rest rest' : List UInt8} (h : DS w wr p vs es rest) (hk : Kb wr w1 (some p) none) (hr : Rdr w1 p rest') : DS w w1 p vs es rest' := by
  have hlt := h.lt
  obtain ⟨v, hs, _, _⟩ := h.rd
  exact ⟨h.kb.trans hk, h.lt, Nat.le_trans h.big hk.size, h.res.kb hk (by simp; omega) (by simp), h.d.kb hk (by simp; omega) (by simp), h.own.kb1 hs (by decide) hk, hr⟩
theorem DS.calm {w wr w1 : World} {p : Nat} {vs : Value} {es : List D.E} {rest : List UInt8} (h : DS w wr p vs es rest) (hb : Below wr.heap.size wr w1) : DS w w1 p vs es rest :=
  ⟨h.kb.trans (Kb.of_below hb _ _), h.lt, Nat.le_trans h.big hb.size, h.res.below hb, h.d.below hb, h.own.below hb, h.rd.below hb⟩
theorem row_new {w wr : World} {p : Nat} {vs : Value} {es : List D.E} {rest : List UInt8} (h : DS w wr p vs es rest) {g : Nat} (hg : vs.ownBlock = some g) : w.heap.size + 2 ≤ g ∧ g < wr.heap.size := (h.own.ownBlock hg).2
/-- The row has grown. -/
theorem DS.grown {w wr w1 : World} {p : Nat} {vs v' : Value} {es es' : List D.E} {rest : List UInt8} (h : DS w wr p vs es rest) (hg : wr.grownBy w1 vs.ownBlock) (ho : Owne w1 (w.heap.size + 2) 44 v' es') :
    Str w1 (w.heap.size + 1) 42 #[vs] ∧ DS w (w1.setCell ⟨w.heap.size + 1, 0, none⟩ v') p v' es' rest := by
  have far : ∀ k, k < w.heap.size + 2 → w1.heap[k]? = wr.heap[k]? := fun k hk => hg.block k (by have := h.big; omega) (by
    intro e
    have := row_new h e.symm
    omega)
  have hb : Below (w.heap.size + 2) wr w1 := ⟨hg.os, hg.tape, hg.output, hg.size, far⟩
  have hd : Str w1 (w.heap.size + 1) 42 #[vs] := (far _ (by omega)).trans h.d
  have hres : Str w1 w.heap.size 42 #[.slice none 0 0] := (far _ (by omega)).trans h.res
  have kb := Kb.set w1 (w.heap.size + 1) 0 v' none
  refine ⟨hd, ?_⟩
  have hlt := h.lt
  refine ⟨⟨kb.os.trans (hb.os.trans h.kb.os), kb.tape.trans (hb.tape.trans h.kb.tape), kb.output.trans (hb.output.trans h.kb.output), Nat.le_trans h.kb.size (Nat.le_trans hb.size kb.size), fun k hk h1 h2 => ?_⟩, h.lt, Nat.le_trans h.big (Nat.le_trans hb.size kb.size), hres.kb kb (by simp) (by simp), hd.one v', ?_, ?_⟩
  · have hk1 : k < w1.heap.size := by have := h.big; have := hb.size; omega
    rw [kb.block k hk1 (by simp; omega) (by simp), far k (by omega)]
    exact h.kb.block k hk h1 h2
  · refine ho.kb kb ?_ (by cases hh : v'.ownBlock <;> simp)
    exact ho.off hd (by decide)
  · refine h.rd.keep fun k hk => ?_
    have hk1 : k < w1.heap.size := by have := h.big; have := hb.size; omega
    rw [kb.block k hk1 (by simp; omega) (by simp), far k (by omega)]

/-- What readDesc hands over, at its end. -/
def GotD (p : Nat) (w : World) (o : Option (List D.E × List UInt8)) (e : Ending) (w' : World) : Prop :=
  (∃ es r vs, o = some (es, r) ∧ e = .returned (.agg #[vs]) ∧ Owne w' w.heap.size 44 vs es ∧ Rdr w' p r ∧ Kb w w' (some p) none) ∨ (o = none ∧ Gave p w e w')
theorem ds_start {w : World} {p : Nat} {bs : List UInt8} (h : Rdr w p bs) : DS w ((w.alloc (.cells #[.slice none 0 0] 42)).alloc (.cells #[.slice none 0 0] 42)) p (.slice none 0 0) [] bs := by
  have WB := below_trans (below_alloc w (.cells #[.slice none 0 0] 42)) (below_alloc _ (.cells #[.slice none 0 0] 42))
  refine ⟨Kb.of_below WB _ _, h.lt, by rw [box_size, box_size]; omega, (Str.new w _ _).below (below_alloc _ _), ?_, Owne.nil _ _ _, h.below WB⟩
  have := Str.new (w.alloc (.cells #[.slice none 0 0] 42)) 42 #[.slice none 0 0]
  rwa [box_size] at this
theorem Owne.base {w : World} {b b' : Nat} {t : TypeId} {v : Value} {es : List D.E} (h : Owne w b t v es) (hb : b' ≤ b) : Owne w b' t v es := by
  refine ⟨h.1, ?_⟩
  rcases h.2 with hn | ⟨g, cap, cur, hv, hbg, rest⟩
  · exact .inl hn
  · exact .inr ⟨g, cap, cur, hv, Nat.le_trans hb hbg, rest⟩

set_option maxHeartbeats 4000000 in
theorem readDesc_any (p : Nat) (bs : List UInt8) (w : World) (hr : Rdr w p bs) :
    Calls Try.prog 49 #[.pointer (some ⟨p, 0, none⟩)] w (GotD p w (K.desc bs)) := by
  have HD0 := Lib.hid (ds_start hr)
  clear hr
  cases hn : K.num 8 bs with
  | none =>
    have E := Lib.hid (K.desc_bad hn)
    have HN := Lib.hid (number_none p bs 8 (by omega) hn _ HD0.out.rd)
    go_enter Try.func49, Try.ntmps49
    go_wp2_with fail
    refine HN.out.mono ?_
    rintro e w1 ⟨rfl, hk⟩
    exact ⟨rfl, .inr ⟨E.out, rfl, HD0.out.kb.trans hk⟩⟩
  | some x =>
    obtain ⟨n, r⟩ := x
    have HA0 := Lib.hid (K.At.start hn)
    have hn8 : n ≤ 8 := (K.num_some hn).2.1
    have HN := Lib.hid (number_some p bs 8 (by omega) n r hn _ HD0.out.rd)
    clear hn
    go_enter Try.func49, Try.ntmps49
    go_wp2_with fail
    refine HN.out.mono ?_
    rintro e w1 ⟨rfl, hr1, hk1⟩
    have HD1 := Lib.hid (HD0.out.later hk1 hr1)
    clear hr1 hk1 HN HD0
    go_wp2
    go_loopw [7] (fun i wr => ∃ (k : Nat), i = .int .i64 (k : Int) ∧ k ≤ n ∧ Hid (∃ vs es rest, DS w wr p vs es rest ∧ es.length = k ∧ K.At (K.desc bs) es (n - k) rest)) (fun i _ => n - (intOf i).toNat)
    case atStart => exact ⟨0, rfl, Nat.zero_le _, _, _, _, HD1.out, rfl, HA0.out⟩
    case round =>
      obtain ⟨k, rfl, hk, HK⟩ := hrel
      obtain ⟨vs, es, rest, hds, hlen, hat⟩ := HK.out
      have HR := Lib.hid hds
      have HLN := Lib.hid hlen
      obtain ⟨ao, cp, rfl⟩ := own_slice hds.own
      clear hds HK hlen
      by_cases hlt : k < n
      · have g0 : (k : Int) < (n : Int) := by omega
        obtain ⟨m, hm⟩ : ∃ m, n - k = m + 1 := ⟨n - k - 1, by omega⟩
        rw [hm] at hat
        cases ht : K.text 64 rest with
        | none =>
          have E := Lib.hid (hat.bad1 ht)
          have HT := Lib.hid (text_none p rest 64 (by omega) ht wr HR.out.rd)
          clear ht hat
          go_wp2_with fail
          refine HT.out.mono ?_
          rintro e w2 ⟨rfl, hk2⟩
          exact ⟨rfl, .inr ⟨E.out, rfl, HR.out.kb.trans hk2⟩⟩
        | some x =>
          obtain ⟨key, r1⟩ := x
          have HT := Lib.hid (text_some p rest 64 (by omega) key r1 ht wr HR.out.rd)
          cases ht2 : K.text 128 r1 with
          | none =>
            have E := Lib.hid (hat.bad2 ht ht2)
            clear ht hat
            go_wp2_with fail
            refine HT.out.mono ?_
            rintro e w2 ⟨rfl, hr2, hk2⟩
            have HR2 := Lib.hid (HR.out.later hk2 hr2)
            have HT2 := Lib.hid (text_none p r1 128 (by omega) ht2 w2.drew (hr2.below (below_drew _)))
            have c0 : w2.cell? ⟨w.heap.size + 1, 0, none⟩ = some (.slice ao es.length cp) := HR2.out.d.cell 0
            clear ht2 hr2 hk2 HT
            go_wp2
            refine wp_region_any (by kernel_rfl) ?_
            change wpAny _ _ _ _ _ _ _ (World.drew _)
            refine wpAny_take (i := 0) (v := ?v0) rfl (by kernel_rfl) (by kernel_rfl) (by kernel_rfl) (fun _ _ _ h => h) (Or.inl ⟨by rfl, ?h0⟩) ?r0
            case h0 => intro w; go_simp; with_reducible rfl
            refine wpAny_take (i := 2) (v := ?v2) rfl (by kernel_rfl) (by kernel_rfl) (by kernel_rfl) (fun _ _ _ h => h) (Or.inl ⟨by rfl, ?h2⟩) ?r2
            case h2 => intro w; go_simp; with_reducible rfl
            refine wpAny_take (i := 3) (v := ?v3) rfl (by kernel_rfl) (by kernel_rfl) (by kernel_rfl) (fun _ _ _ h => h) (Or.inl ⟨by rfl, ?h3⟩) ?r3
            case h3 => intro w; go_simp; with_reducible rfl
            refine wpAny_ready (rs := [1, 4]) (by kernel_rfl) (by simp) ?_
            refine AllReady.cons rfl (fun K hK => ?_) ?_
            · go_simp
              refine hK _ _ ?_
              clear hK K
              refine wpAny_ready (rs := [4]) (by kernel_rfl) (by simp) ?_
              refine AllReady.cons rfl (fun K hK => ?_) AllReady.nil
              go_simp
              go_at_call 48
              refine HT2.out.mono ?_
              rintro e w3 ⟨rfl, hk3⟩
              exact ⟨rfl, .inr ⟨E.out, rfl, HR2.out.kb.trans ((kb_drew w2 _ _).trans hk3)⟩⟩
            · refine AllReady.cons rfl (fun K hK => ?_) AllReady.nil
              go_simp
              go_at_call 48
              refine HT2.out.mono ?_
              rintro e w3 ⟨rfl, hk3⟩
              exact ⟨rfl, .inr ⟨E.out, rfl, HR2.out.kb.trans ((kb_drew w2 _ _).trans hk3)⟩⟩
          | some y =>
            obtain ⟨val, r2⟩ := y
            have HAT := Lib.hid (hat.more ht ht2)
            clear ht hat
            go_wp2_with fail
            refine HT.out.mono ?_
            rintro e w2 ⟨rfl, hr2, hk2⟩
            have HR2 := Lib.hid (HR.out.later hk2 hr2)
            have HT2 := Lib.hid (text_some p r1 128 (by omega) val r2 ht2 w2.drew (hr2.below (below_drew _)))
            have c0 : w2.cell? ⟨w.heap.size + 1, 0, none⟩ = some (.slice ao es.length cp) := HR2.out.d.cell 0
            have HRD := Lib.hid (HR2.out.calm (below_drew w2))
            have HLE : Hid (es.length ≤ 100) := by have := HLN.out; show _ ≤ _; omega
            clear ht2 hr2 hk2 HT
            go_wp2
            go_region_law (first
              | (go_simp; go_at_call 48; refine HT2.out.mono ?_; rintro e w3 ⟨rfl, hr3, hk3⟩; have HR3 := Lib.hid (HRD.out.later hk3 hr3); have c3 : w3.cell? ⟨w.heap.size + 1, 0, none⟩ = some (.slice ao es.length cp) := HR3.out.d.cell 0; have e3 : (w3.alloc (.cells #[.string ⟨key.toArray⟩, .string ⟨val.toArray⟩] 44)).cell? ⟨w.heap.size + 1, 0, none⟩ = some (.slice ao es.length cp) := (HR3.out.calm (below_alloc _ _)).d.cell 0; clear hr3 hk3)
              | (refine step_append_entry (k := key) (u := val) (by rfl) (.tmp 12) (.tmp 17) 40 (by rfl) (w.heap.size + 2) 44 _ Try.underlying40 Try.info_entry rfl (by rfl) (HR3.out.calm (below_alloc _ _)).own (by rfl) (two_cells w3 _ _ _) HLE.out (HR3.out.calm (below_alloc _ _)).big ?_; intro g cap4 w4 ho4 hg4; obtain ⟨s4, hd4⟩ := (HR3.out.calm (below_alloc _ _)).grown hg4 ho4; have HD4 := Lib.hid hd4; have k0 := s4.cell 0; have j0 := s4.frozen 0; simp only [List.getElem?_toArray, List.getElem?_cons_zero] at k0; clear ho4 hg4 s4 hd4))
            all_goals
              go_wp2
              go_roundw
              case rel => exact ⟨k + 1, by go_num, by omega, _, _, _, HD4.out, by rw [List.length_append, HLN.out]; rfl, by rw [show n - (k + 1) = m by omega]; exact HAT.out⟩
              case measure => simp [intOf]; omega
      · have g0 : ¬ (k : Int) < (n : Int) := by omega
        rw [show n - k = 0 by omega] at hat
        have E := Lib.hid hat.over
        have c0 := HR.out.d.cell 0
        have c1 := HR.out.res.cell 0
        have f1 := HR.out.res.frozen 0
        simp only [List.getElem?_toArray, List.getElem?_cons_zero] at c0 c1
        clear hat
        go_wp2
        (try simp only [Exit.inBlock, Exit.then])
        refine bodyPost_ret (ret_cell1 rfl rfl (HR.out.res.one _) Try.underlying42 rfl desc_size) rfl ?_
        have kb := Kb.set wr w.heap.size 0 (.slice ao es.length cp) none
        have hlt' := HR.out.lt
        have hbig := HR.out.big
        refine .inl ⟨es, rest, _, E.out, rfl, (HR.out.own.base (Nat.le_add_right _ 2)).kb kb (HR.out.own.off HR.out.res (by decide)) (by cases hh : Value.ownBlock (.slice ao es.length cp) <;> simp), HR.out.rd.keep fun j hj => kb.block j (by omega) (by simp; omega) (by simp), ?_⟩
        exact ⟨kb.os.trans HR.out.kb.os, kb.tape.trans HR.out.kb.tape, kb.output.trans HR.out.kb.output, Nat.le_trans HR.out.kb.size kb.size, fun j hj h1 h2 => (kb.block j (by omega) (by simp; omega) (by simp)).trans (HR.out.kb.block j hj h1 h2)⟩
end Go.Proofs.Ythbmmnjpiflgdaa
