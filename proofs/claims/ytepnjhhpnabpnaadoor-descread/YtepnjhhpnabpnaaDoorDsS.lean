/- strings.SplitN at a comma; append of an entry; the walk of desc.readEntries. -/
import Derived.Test.YtepnjhhpnabpnaaDoorDsR
namespace Go.Proofs.YtepnjhhpnabpnaaDoor
open Go.RowKit

/-- The parts that are looked at. -/
def parts (s : List UInt8) : List (List UInt8) := Lib.splitK [44] 0 (min 9 (s.length + 1) - 1) s
theorem parts_len (s : List UInt8) : 1 ≤ (parts s).length ∧ (parts s).length ≤ 9 := by
  have := D.split_count (min 9 (s.length + 1) - 1) s
  unfold parts
  omega
def SplitIs (s : List UInt8) (w : World) (e : Ending) (w' : World) : Prop :=
  ∃ cap, e = .returned (.slice (some ⟨w.heap.size, 0, none⟩) (parts s).length cap) ∧ (parts s).length ≤ cap ∧ cap ≤ 9 ∧ Below w.heap.size w w' ∧ w'.heap.size = w.heap.size + 1 ∧ ∀ j p, (parts s)[j]? = some p → w'.cell? ⟨w.heap.size, j, none⟩ = some (.string ⟨p.toArray⟩)
theorem split_any (s : List UInt8) (hs : s.length ≤ 5000) (w : World) (hm : MaxIs w) :
    Calls Tryd.prog 34 #[.string ⟨s.toArray⟩, .string ⟨#[44]⟩, .int .i64 9] w (SplitIs s w) := by
  obtain ⟨m, hm⟩ := hm
  refine (Tryd.strings_SplitN ⟨s.toArray⟩ ⟨#[44]⟩ 9 m w (by rw [str_size]; omega) hm (by decide) (by decide) (by decide)).mono ?_
  rintro e w' ⟨rfl, rfl⟩
  rw [str_size]
  obtain ⟨B, hB⟩ : ∃ B, B = Lib.splitB ⟨#[44]⟩ 0 (min 9 (s.length + 1) - 1) ⟨s.toArray⟩ := ⟨_, rfl⟩
  have hd : B.map (·.data.toList) = parts s := by rw [hB]; exact Lib.splitB_data ⟨#[44]⟩ 0 _ ⟨s.toArray⟩
  have hl : B.length = (parts s).length := by rw [← hd]; simp
  have hle : B.length ≤ min 9 (s.length + 1) := by
    have := Lib.splitB_length_le ⟨#[44]⟩ 0 (min 9 (s.length + 1) - 1) ⟨s.toArray⟩
    rw [← hB] at this
    omega
  rw [← hB]
  refine ⟨min 9 (s.length + 1), by rw [hl], by omega, by omega, below_alloc _ _, box_size _ _, fun j p hp => ?_⟩
  have hh : (w.alloc (.cells (Lib.cellsOf B (min 9 (s.length + 1))) 9)).heap[w.heap.size]? = some (.cells (Lib.cellsOf B (min 9 (s.length + 1))) 9) := heap_alloc_new w _
  rw [← hd, List.getElem?_map] at hp
  obtain ⟨b, hb, rfl⟩ := Option.map_eq_some_iff.1 hp
  have hj : j < B.length := (List.getElem?_eq_some_iff.1 hb).1
  have hc : (Lib.cellsOf B (min 9 (s.length + 1)))[j]? = some (.string b) := by
    unfold Lib.cellsOf
    rw [List.getElem?_toArray, List.getElem?_append_left (by simpa using hj), List.getElem?_map, hb]; rfl
  rw [cell_of_row _ _ _ _ _ _ hh, hc]

theorem Tryd.info_entry : (Tryd.prog.info? 38).map (fun i => (i.zero, i.size, i.bytes)) = some (some (.agg #[.string ⟨#[]⟩, .string ⟨#[]⟩]), 2, 32) := by kernel_rfl
/-- 'append(l, e)' of entries, l the call's own. -/
theorem wpList_append_entry {P : Program} {w : World} {ops : Array Oper} {rest : List Oper} {o : Oper} {a : Act} {Q : Exit → Act → World → Prop} (hgd : o.guard = none) (s x : Operand) (t : TypeId)
    (ho : o.op = .call { callee := .builtin .append, args := #[s, x], argTypes := #[t, t] })
    (base : Nat) (e : TypeId) (z : Value) (ht : P.underlying t = some (.slice e)) (hinfo : (P.info? e).map (fun i => (i.zero, i.size, i.bytes)) = some (some z, 2, 32)) (hz : z.cells.size = 2)
    {v : Value} {es : List D.E} {k u : List UInt8} {g0 c : Nat} (hs : a.eval s = v) (hown : Owne w base e v es) (hx : a.eval x = .slice (some ⟨g0, 0, none⟩) 1 c) (hc : w.cell? ⟨g0, 0, none⟩ = some (.string ⟨k.toArray⟩) ∧ w.cell? ⟨g0, 1, none⟩ = some (.string ⟨u.toArray⟩))
    (hlen : es.length ≤ 100) (hbase : base ≤ w.heap.size)
    (h : ∀ v' w', Owne w' base e v' (es ++ [(k, u)]) → Below base w w' → wpList P ops Q rest (a.put o.dst v') w') : wpList P ops Q (o :: rest) a w := by
  obtain ⟨i, hi, hz0, hz1, hz2⟩ := info_parts hinfo
  refine wpList_append_own _ hgd s x t ho base e i z 2 32 ht hi hz0 hz1 hz2 hz (by decide) v es.length (ev es) hs hown ⟨g0, 0, none⟩ 1 c (ev [(k, u)]) hx rfl ?_ ev_one (by unfold maxLen; omega) (by omega) hbase ?_
  · intro j y hy
    rw [Addr.add_lit, Nat.zero_add]
    match j, hy with
    | 0, hy =>
      have : tv k = y := by simpa [ev] using hy
      rw [← this]; exact hc.1
    | 1, hy =>
      have : tv u = y := by simpa [ev] using hy
      rw [← this]; exact hc.2
    | j + 2, hy => simp [ev] at hy
  · intro v' w' ho' hg _
    refine h v' w' ?_ ((Below.refl base w).grown hg hbase (fun k hk => (World.ownsRow.lt hown k hk).1))
    show w'.ownsRow base e 2 v' (es ++ [(k, u)]).length (ev (es ++ [(k, u)]))
    rw [ev_app, List.length_append]; exact ho'
theorem Owne.alloc {w : World} {base : Nat} {t : TypeId} {v : Value} {es : List D.E} (h : Owne w base t v es) (o : Obj) : Owne (w.alloc o) base t v es := h.below (below_alloc w o)

/-- Where readEntries stands. -/
structure RE (w : World) (s : List UInt8) (wr : World) (vs : Value) (es : List D.E) : Prop where
  below : Below w.heap.size w wr
  big : w.heap.size + 3 ≤ wr.heap.size
  res : Str wr w.heap.size 24 #[.slice none 0 0]
  d : Str wr (w.heap.size + 1) 24 #[vs]
  row : ∀ j p, (parts s)[j]? = some p → wr.cell? ⟨w.heap.size + 2, j, none⟩ = some (.string ⟨p.toArray⟩)
  own : Owne wr (w.heap.size + 3) 38 vs es
  rd : ∀ (j : Nat) p e, (parts s)[j]? = some p → es[j]? = some e → D.Rd p e
theorem RE.later {w wr w1 : World} {s : List UInt8} {vs : Value} {es : List D.E} (h : RE w s wr vs es) (hb : Below wr.heap.size wr w1) : RE w s w1 vs es :=
  ⟨below_trans h.below hb, Nat.le_trans h.big hb.size, h.res.below hb, h.d.below hb, fun j p hp => cell_later hb (h.row j p hp), h.own.below hb, h.rd⟩
theorem RE.more {w wr w1 : World} {s : List UInt8} {vs v' : Value} {es : List D.E} {p : List UInt8} {x : D.E} (h : RE w s wr vs es) (hb : Below (w.heap.size + 3) wr w1) (ho : Owne w1 (w.heap.size + 3) 38 v' (es ++ [x])) (hp : (parts s)[es.length]? = some p) (hr : D.Rd p x) :
    RE w s (w1.setCell ⟨w.heap.size + 1, 0, none⟩ v') v' (es ++ [x]) := by
  have hres : Str w1 w.heap.size 24 #[.slice none 0 0] := (hb.block _ (by omega)).trans h.res
  have hd : Str w1 (w.heap.size + 1) 24 #[vs] := (hb.block _ (by omega)).trans h.d
  have kb := Kb.set w1 (w.heap.size + 1) 0 v' none
  have hsz : w.heap.size ≤ w1.heap.size := by have := h.below.size; have := hb.size; omega
  refine ⟨(h.below.trans (hb.mono (by omega))).trans (kb.below hsz (fun g hg => by have := Option.some.inj hg; omega) (fun g hg => by cases hg)), ?_, hres.kb kb (by simp) (by simp), ?_, ?_, ?_, ?_⟩
  · have := h.big; have := hb.size; have := kb.size; omega
  · have := hd.set 0 v'
    simpa using this
  · intro j q hq
    have hc := h.row j q hq
    have h1 : w1.cell? ⟨w.heap.size + 2, j, none⟩ = some (.string ⟨q.toArray⟩) := (hb.cell (by show w.heap.size + 2 < w.heap.size + 3; omega)).trans hc
    have hlt := cell_lt h1
    rw [← h1]
    exact World.cell?_of_block (kb.block _ hlt (by simp) (by simp))
  · refine ⟨ho.1, ?_⟩
    rcases ho.2 with hn | ⟨g, cap, cur, hv, hbg, hg, rest⟩
    · exact .inl hn
    · refine .inr ⟨g, cap, cur, hv, hbg, ?_, rest⟩
      rw [kb.block g (Array.getElem?_eq_some_iff.1 hg).1 (by intro e; have := Option.some.inj e; omega) (by simp)]
      exact hg
  · intro j q e hq he
    by_cases hj : j < es.length
    · rw [List.getElem?_append_left hj] at he
      exact h.rd j q e hq he
    · have hj1 := (List.getElem?_eq_some_iff.1 he).1
      rw [List.length_append] at hj1
      obtain rfl : j = es.length := by simp at hj1; omega
      rw [List.getElem?_append_right (Nat.le_refl _)] at he
      simp at he
      rw [hp] at hq
      rw [← Option.some.inj hq, ← he]
      exact hr

/-- What a text is read as, at a call's end. -/
def ReadS (s : List UInt8) (w : World) (e : Ending) (w' : World) : Prop :=
  Below w.heap.size w w' ∧ ((∃ vs es, e = .returned (.tuple #[.agg #[vs], .bool true]) ∧ Rde w' vs es ∧ es.length = (parts s).length ∧ ∀ (j : Nat) p x, (parts s)[j]? = some p → es[j]? = some x → D.Rd p x) ∨
    (e = .returned (.tuple #[.agg #[.slice none 0 0], .bool false]) ∧ ∃ (j : Nat) (p : List UInt8), (parts s)[j]? = some p ∧ ∀ x, ¬ D.Rd p x))
theorem desc_size : (Tryd.prog.info? 24).map (·.size) = some 1 := by kernel_rfl
theorem Str.one {w : World} {p : Nat} {T : TypeId} {x : Value} (h : Str w p T #[x]) (u : Value) : Str (w.setCell ⟨p, 0, none⟩ u) p T #[u] := by
  have := h.set 0 u
  simpa using this
theorem Rde.set {w w' : World} {v : Value} {es : List D.E} (h : Rde w v es) (hk : ∀ k, k < w.heap.size → ∀ b off cap, v = .slice (some ⟨b, off, none⟩) es.length cap → k = b → w'.heap[k]? = w.heap[k]?) : Rde w' v es := by
  obtain ⟨ao, cap, hv, h1, h2, h3, h4⟩ := h
  refine ⟨ao, cap, hv, h1, h2, h3, fun j e he => ?_⟩
  obtain ⟨b, off, hx, c1, c2⟩ := h4 j e he
  have hb := hk b (cell_lt c1) b off cap (by rw [hv, hx]) rfl
  exact ⟨b, off, hx, (World.cell?_of_block hb).trans c1, (World.cell?_of_block hb).trans c2⟩
theorem own_slice {w : World} {base : Nat} {t : TypeId} {v : Value} {es : List D.E} (h : Owne w base t v es) : ∃ ao cap, v = .slice ao es.length cap := by
  rcases h.2 with ⟨hv, hn⟩ | ⟨g, cap, cur, hv, _⟩
  · exact ⟨none, 0, by rw [hv, hn]⟩
  · exact ⟨_, cap, hv⟩

theorem str_keep {w w' : World} {p B : Nat} {T : TypeId} {cs : Array Value} (h : Str w p T cs) (hb : Below B w w') (hp : p < B) : Str w' p T cs := (hb.block p hp).trans h
theorem re_final {w wr : World} {s : List UInt8} {vs : Value} {es : List D.E} (h : RE w s wr vs es) (u : Value) : Rde (wr.setCell ⟨w.heap.size, 0, none⟩ u) vs es := by
  refine h.own.rd.set fun k hk b off cap hv hkb => ?_
  have hb : w.heap.size + 3 ≤ b := by
    have := World.ownsRow.lt h.own b (by rw [hv]; rfl)
    exact this.1
  exact (Kb.set wr w.heap.size 0 u none).block k hk (by intro e; have := Option.some.inj e; omega) (by simp)

set_option maxHeartbeats 4000000 in
theorem readEntries_any (s : List UInt8) (hl : s.length ≤ 5000) (w : World) (hm : MaxIs w) :
    Calls Tryd.prog 24 #[.string ⟨s.toArray⟩] w (ReadS s w) := by
  have HSP := Lib.hid (fun x (h : MaxIs x) => split_any s hl x h)
  have HM := Lib.hid hm
  have hpl := parts_len s
  have HPL := Lib.hid (fun j p (hp : (parts s)[j]? = some p) => show p.length ≤ 5000 from Nat.le_trans (D.split_len _ s p (List.mem_of_getElem? hp)) hl)
  clear hm hl
  have WA := below_alloc w (.cells #[.slice none 0 0] 24)
  have WB := below_trans WA (below_alloc _ (.cells #[.slice none 0 0] 24))
  have HWB := Lib.hid WB
  have SA := Lib.hid ((Str.new w 24 #[.slice none 0 0]).below (below_alloc _ (.cells #[.slice none 0 0] 24)))
  have SB := Lib.hid (Str.new (w.alloc (.cells #[.slice none 0 0] 24)) 24 #[.slice none 0 0])
  have hsz1 : Hid (((w.alloc (.cells #[.slice none 0 0] 24)).alloc (.cells #[.slice none 0 0] 24)).heap.size = w.heap.size + 2) := by
    show _ = _
    rw [box_size, box_size]
  clear WA WB
  go_enter Tryd.func24, Tryd.ntmps24
  go_wp2_with fail
  refine (HSP.out _ (HM.out.below HWB.out)).mono ?_
  rintro e w1 ⟨cap, rfl, hc1, hc9, b1, hz1, hrow⟩
  have HRE : Hid (RE w s w1 (.slice none 0 0) []) := by
    have hs := hsz1.out
    rw [hs] at hz1 hrow
    refine Lib.hid ⟨below_trans HWB.out b1, by omega, SA.out.below b1, ?_, hrow, Owne.nil _ _ _, by simp⟩
    have := SB.out.below b1
    rwa [box_size] at this
  rw [hsz1.out]
  clear hrow hz1 b1 hsz1 SA SB HSP
  have hc63 : cap ≤ 9223372036854775807 := by omega
  obtain ⟨L, hL⟩ : ∃ L, (parts s).length = L := ⟨_, rfl⟩
  rw [hL] at hpl hc1 ⊢
  have HL := Lib.hid hL
  clear hL
  go_wp2
  go_loopw [12] (fun i wr => ∃ (k : Nat), i = .int .i64 (k : Int) ∧ k ≤ L ∧ Hid (∃ vs es, RE w s wr vs es ∧ es.length = k)) (fun i _ => L - (intOf i).toNat)
  case atStart => exact ⟨0, rfl, Nat.zero_le _, _, _, HRE.out, rfl⟩
  case round =>
    obtain ⟨k, rfl, hk, HK⟩ := hrel
    obtain ⟨vs, es, hre, hlen⟩ := HK.out
    obtain ⟨ao, cp, rfl⟩ := own_slice hre.own
    have HR := Lib.hid hre
    have HLN := Lib.hid hlen
    clear hre hlen HK
    by_cases hlt : k < L
    · obtain ⟨p, hp⟩ : ∃ p, (parts s)[k]? = some p := ⟨(parts s)[k]'(by have := HL.out; omega), List.getElem?_eq_getElem _⟩
      have hc := HR.out.row k p hp
      have HRD := Lib.hid (readEntry_any p (HPL.out k p hp) wr (HM.out.below HR.out.below))
      have HP := Lib.hid hp
      have g0 : (k : Int) < (L : Int) := by omega
      clear hp
      go_wp2_with fail
      refine HRD.out.mono ?_
      rintro e w2 ⟨K, V, ok, rfl, hy, hno, b2⟩
      have HR2 := Lib.hid (HR.out.later b2)
      clear b2 HRD hc
      cases ok
      · have E := Lib.hid (hno rfl)
        clear hno hy
        have HR3 := Lib.hid (HR2.out.later (below_alloc w2 (.cells #[.string ⟨K.toArray⟩, .string ⟨V.toArray⟩] 38)))
        have c0 := HR3.out.res.cell 0
        have f0 := HR3.out.res.frozen 0
        simp only [List.getElem?_toArray, List.getElem?_cons_zero] at c0
        go_wp2
        (try simp only [Exit.inBlock, Exit.then])
        refine bodyPost_ret (ret_cell rfl rfl rfl (HR3.out.res.one _) Tryd.underlying24 rfl desc_size) rfl ?_
        exact ⟨below_set HR3.out.below _ _, .inr ⟨rfl, k, p, HP.out, E.out⟩⟩
      · have E := Lib.hid (hy rfl)
        clear hno hy
        have HR3 := Lib.hid (HR2.out.later (below_alloc w2 (.cells #[.string ⟨K.toArray⟩, .string ⟨V.toArray⟩] 38)))
        obtain ⟨e0, e1⟩ := two_cells w2 38 (.string ⟨K.toArray⟩) (.string ⟨V.toArray⟩)
        have c0 := HR3.out.d.cell 0
        simp only [List.getElem?_toArray, List.getElem?_cons_zero] at c0
        clear HR HR2
        have HLE : Hid (es.length ≤ 100) := by have := HLN.out; show _ ≤ _; omega
        have HR4 := Lib.hid (HR3.out.later (below_alloc _ (.cells #[.string ⟨K.toArray⟩, .string ⟨V.toArray⟩] 38)))
        have HCC := two_cells (w2.alloc (.cells #[.string ⟨K.toArray⟩, .string ⟨V.toArray⟩] 38)) 38 (.string ⟨K.toArray⟩) (.string ⟨V.toArray⟩)
        rw [box_size] at HCC
        have HC2 := Lib.hid HCC
        clear HCC
        go_wp2_with (at_builtin; refine wpList_append_entry rfl (.tmp 25) (.tmp 27) 22 rfl (w.heap.size + 3) 38 _ Tryd.underlying22 Tryd.info_entry rfl (by rfl) HR4.out.own (by rfl) HC2.out HLE.out HR4.out.big ?_; intro v4 w4 ho4 hb4; obtain ⟨ao4, cp4, rfl⟩ := own_slice ho4; rw [List.length_append, List.length_cons, List.length_nil, Nat.zero_add] at ho4; have O4 := Lib.hid ho4; have B4 := Lib.hid hb4; have k0 := (str_keep HR4.out.d hb4 (by omega)).cell 0; have j0 := (str_keep HR4.out.d hb4 (by omega)).frozen 0; simp only [List.getElem?_toArray, List.getElem?_cons_zero] at k0; clear ho4 hb4)
        go_roundw
        case rel => exact ⟨k + 1, by go_num, by omega, _, _, HR4.out.more B4.out O4.out (by rw [HLN.out]; exact HP.out) E.out, by rw [List.length_append, HLN.out]; rfl⟩
        case measure => simp [intOf]; omega
    · have g0 : ¬ (k : Int) < (L : Int) := by omega
      have c0 := HR.out.d.cell 0
      have c1 := HR.out.res.cell 0
      have f1 := HR.out.res.frozen 0
      simp only [List.getElem?_toArray, List.getElem?_cons_zero] at c0 c1
      have HF := Lib.hid (re_final HR.out (.slice ao es.length cp))
      have HLL : Hid (es.length = (parts s).length) := by have := HLN.out; have := HL.out; show _ = _; omega
      go_wp2
      (try simp only [Exit.inBlock, Exit.then])
      refine bodyPost_ret (ret_cell rfl rfl rfl (HR.out.res.one _) Tryd.underlying24 rfl desc_size) rfl ?_
      exact ⟨below_set HR.out.below _ _, .inl ⟨_, es, rfl, HF.out, HLL.out, HR.out.rd⟩⟩
end Go.Proofs.YtepnjhhpnabpnaaDoor
