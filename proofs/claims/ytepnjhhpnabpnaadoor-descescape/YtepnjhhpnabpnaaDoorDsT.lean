/- Walks of desc.Text and of the document's own DescText. -/
import Derived.Test.YtepnjhhpnabpnaaDoorDsQ
import Derived.Deep.RegionHeld3
namespace Go.Proofs.YtepnjhhpnabpnaaDoor
open Go.RowKit

theorem Tryd.info_str : (Tryd.prog.info? 9).map (fun i => (i.zero, i.size, i.bytes)) = some (some (.string ⟨#[]⟩), 1, 16) := by kernel_rfl
/-- 'append(s, x)' of one-cell elements, at a step of a region that draws. -/
theorem step_append_one {P : Program} {w : World} {ops : Array Oper} {o : Oper} {a : Act} {K : Act → World → Prop} {Q : Exit → Act → World → Prop} {E : Prop} (hgd : o.guard = none) (s x : Operand) (t : TypeId)
    (ho : o.op = .call { callee := .builtin .append, args := #[s, x], argTypes := #[t, t] })
    (base : Nat) (e : TypeId) (z : Value) (bytes : Nat) (ht : P.underlying t = some (.slice e)) (hinfo : (P.info? e).map (fun i => (i.zero, i.size, i.bytes)) = some (some z, 1, bytes)) (hz : z.cells.size = 1)
    {v u : Value} {xs : List Value} {ad : Addr} {c : Nat} (hs : a.eval s = v) (hown : Own w base e v xs) (hx : a.eval x = .slice (some ad) 1 c) (hcell : w.cell? (ad.add 0) = some u) (h1 : u.oneCell' = true)
    (hlen : xs.length < 1099511627776) (hb24 : bytes ≤ 64) (hbase : base ≤ w.heap.size)
    (h : ∀ g cap w', Own w' base e (.slice (some ⟨g, 0, none⟩) (xs.length + 1) cap) (xs ++ [u]) → w.grownBy w' v.ownBlock → Below base w w' → K (a.put o.dst (.slice (some ⟨g, 0, none⟩) (xs.length + 1) cap)) w') :
    if Region.wanted o (yielded ops a.tmps) = true then Oper.wp P o a w K Q else E := by
  obtain ⟨i, hi, hz0, hz1, hz2⟩ := info_parts hinfo
  have hmul : (xs.length + 1) * bytes ≤ (xs.length + 1) * 64 := Nat.mul_le_mul_left _ hb24
  refine step_append_lies _ hgd s x t ho base e i z 1 bytes ht hi hz0 hz1 hz2 hz (by decide) v xs.length xs hs hown ad 1 c [u] hx rfl ?_ (by simpa using h1) (by decide) (by unfold maxLen; omega) (by omega) hbase _ rfl ?_
  · intro j y hy
    cases j with
    | zero =>
      have : u = y := by simpa using hy
      rw [← this]; exact hcell
    | succ j => simp at hy
  · intro g cap' w' ho' hg _ _
    refine h g cap' w' ?_ hg (below_of_grown hown hg hbase)
    show w'.ownsRow base e 1 _ (xs ++ [u]).length (xs ++ [u])
    rw [List.length_append]; exact ho'

theorem own_far {w : World} {base : Nat} {e : TypeId} {v : Value} {xs : List Value} (h : Own w base e v xs) : v.ownBlock ≠ some w.heap.size := by
  intro hh
  have := (World.ownsRow.lt h _ hh).2
  omega
def sv (ps : List (List UInt8)) : List Value := ps.map tv
theorem sv_app (a b : List (List UInt8)) : sv (a ++ b) = sv a ++ sv b := by simp [sv]
theorem sv_len (a : List (List UInt8)) : (sv a).length = a.length := by simp [sv]
theorem two_cells (w : World) (t : TypeId) (x y : Value) : (w.alloc (.cells #[x, y] t)).cell? ⟨w.heap.size, 0, none⟩ = some x ∧ (w.alloc (.cells #[x, y] t)).cell? ⟨w.heap.size, 1, none⟩ = some y := by
  have hh : (w.alloc (.cells #[x, y] t)).heap[w.heap.size]? = some (.cells #[x, y] t) := heap_alloc_new w _
  unfold World.cell?
  simp only [hh]
  simp
theorem cell_later {w w' : World} {a : Addr} {v : Value} (hb : Below w.heap.size w w') (h : w.cell? a = some v) : w'.cell? a = some v := (hb.cell (cell_lt h)).trans h
theorem grown_old {w w' : World} {o : Obj} {row : Option Nat} {a : Addr} {v : Value} (hg : (w.alloc o).grownBy w' row) (hne : row ≠ some a.block) (hc : w.cell? a = some v) : w'.cell? a = some v :=
  have hc' := cell_later (below_alloc w o) hc
  (hg.cell_far a (cell_lt hc') (Ne.symm hne)).trans hc'
theorem okE_len {e : D.E} (h : D.okE e = true) : e.1.length ≤ 64 ∧ e.2.length ≤ 128 := by
  unfold D.okE D.nm at h
  simp only [Bool.and_eq_true, decide_eq_true_eq] at h
  omega
theorem chk_all {es : List D.E} (h : D.chk es = true) : es.length ≤ 8 ∧ ∀ e ∈ es, D.okE e = true := by
  unfold D.chk at h
  simp only [Bool.and_eq_true, decide_eq_true_eq] at h
  exact ⟨h.1.2, List.all_eq_true.1 h.2⟩
theorem ent_bytes {e : D.E} {X Y : ByteArray} (hX : (⟨(D.escL e.1).toArray⟩ : ByteArray) = X) (hY : (⟨(D.escL e.2).toArray⟩ : ByteArray) = Y) : X ++ ⟨#[61]⟩ ++ Y = ⟨(D.ent e).toArray⟩ := by
  subst hX hY
  have e1 : (⟨#[61]⟩ : ByteArray) = ⟨[61].toArray⟩ := rfl
  rw [e1, str_app, str_app]
  unfold D.ent
  simp
theorem txt_bad {es : List D.E} (h : D.chk es = false) : D.txt es = [] := by unfold D.txt; rw [h]; rfl
theorem txt_good {es : List D.E} (h : D.chk es = true) : D.txt es = D.jn (es.map D.ent) := by unfold D.txt; rw [h]; rfl

theorem ent_len {e : D.E} (h : D.okE e = true) : (D.ent e).length ≤ 577 := by
  obtain ⟨h1, h2⟩ := okE_len h
  have l1 := D.escL_len e.1
  have l2 := D.escL_len e.2
  unfold D.ent
  simp
  omega
theorem jn_bound : ∀ (ps : List (List UInt8)), (∀ p ∈ ps, p.length ≤ 577) → (D.jn ps).length ≤ ps.length * 578
  | [], _ => by simp [D.jn]
  | [x], h => by
    have := h x List.mem_cons_self
    show x.length ≤ 1 * 578
    omega
  | x :: y :: r, h => by
    have h1 := h x List.mem_cons_self
    have h2 := jn_bound (y :: r) (fun p hp => h p (List.mem_cons_of_mem _ hp))
    show (x ++ 44 :: D.jn (y :: r)).length ≤ _
    simp at h2 ⊢
    omega
theorem ents_len {es : List D.E} (h : es.length ≤ 8 ∧ ∀ e ∈ es, D.okE e = true) : (D.jn (es.map D.ent)).length ≤ 4624 := by
  have h1 := jn_bound (es.map D.ent) (by
    intro p hp
    obtain ⟨e, he, rfl⟩ := List.mem_map.1 hp
    exact ent_len (h.2 e he))
  rw [List.length_map] at h1
  omega
theorem join_own {w : World} {base : Nat} {v : Value} {ps : List (List UInt8)} (ho : Own w base 9 v (sv ps)) (hl : 1 ≤ ps.length) (hb : (D.jn ps).length ≤ 4624) :
    ∀ x, Below w.heap.size w x → Calls Tryd.prog 23 #[v, .string ⟨#[44]⟩] x fun e w' => e = .returned (.string ⟨(D.jn ps).toArray⟩) ∧ Below x.heap.size x w' := by
  intro x hx
  have hrd := (ho.below hx).rd
  obtain ⟨ao, cap, rfl, g1, g2, g3, g4⟩ := hrd
  have hpos : 0 < (sv ps).length := by rw [sv_len]; omega
  obtain ⟨⟨bk, off, spot⟩, rfl, hc0⟩ := g4 0 (sv ps)[0] (by simp)
  have hspot : spot = none := by simpa [Addr.add] using World.cell?_spot hc0
  subst hspot
  have hlen : (ps.map fun p => (⟨p.toArray⟩ : ByteArray)).length = (sv ps).length := by simp [sv]
  have hmap : (ps.map fun p => (⟨p.toArray⟩ : ByteArray)).map (·.data.toList) = ps := by simp [Function.comp_def]
  have hsep : (⟨#[44]⟩ : ByteArray).data.toList = [44] := rfl
  have := Tryd.strings_Join bk off cap (ps.map fun p => (⟨p.toArray⟩ : ByteArray)) ⟨#[44]⟩ x (by
    intro j b hj
    rw [List.getElem?_map] at hj
    obtain ⟨p, hp, rfl⟩ := Option.map_eq_some_iff.1 hj
    obtain ⟨y, hy, hc⟩ := g4 j (tv p) (by simp [sv, hp])
    obtain rfl := Option.some.inj hy
    rwa [Addr.add_lit] at hc) (cell_lt hc0) (by have := jn_bound; have := D.jn_len ps; rw [List.length_map]; omega) (by rw [hlen]; exact g1) (by rw [hmap, hsep, D.lib_join]; omega)
  rw [hmap, hsep, D.lib_join, hlen] at this
  exact this

set_option maxHeartbeats 4000000 in
theorem text_any (v : Value) (es : List D.E) (w : World) (hr : Rde w v es) (hf : Fits es) (hp : PlainIs w) :
    Calls Tryd.prog 10 #[.agg #[v]] w fun e w' => e = .returned (.string ⟨(D.txt es).toArray⟩) ∧ Below w.heap.size w w' := by
  have hlm : es.length ≤ 9223372036854775807 := by have := hr.len_le; unfold maxLen at this; omega
  have HCK := Lib.hid (fun w' (h : Below w.heap.size w w') => check_any v es w' (hr.below h) hf)
  obtain ⟨ao, cap, rfl, h1, h2, h3, h4⟩ := hr
  obtain ⟨L, hL⟩ : ∃ L, es.length = L := ⟨_, rfl⟩
  have HL := Lib.hid hL
  have H4 := Lib.hid h4
  have HP := Lib.hid hp
  rw [hL] at hlm HCK ⊢
  clear hf h4 h1 h2 h3 hL hp
  cases hc : D.chk es
  · rw [hc] at HCK
    have E := Lib.hid (txt_bad hc)
    have e1 : errOf false = 1 := rfl
    rw [e1] at HCK
    clear hc e1
    go_enter Tryd.func10, Tryd.ntmps10
    go_wp2_with (go_at_call 11; refine (HCK.out _ (below_alloc _ _)).mono ?_; rintro e w1 ⟨rfl, b1⟩; have B1 := Lib.hid b1; clear b1)
    go_ret
    exact ret_s E.out.symm (below_trans (below_alloc _ _) B1.out)
  · rw [hc] at HCK
    have E := Lib.hid (txt_good hc)
    have HA := Lib.hid (chk_all hc)
    have HN := Lib.hid (D.chk_len hc)
    have e1 : errOf true = 0 := rfl
    rw [e1] at HCK
    clear hc e1
    go_enter Tryd.func10, Tryd.ntmps10
    go_wp2_with (go_at_call 11; refine (HCK.out _ (below_alloc _ _)).mono ?_; rintro e w1 ⟨rfl, b1⟩; have B1 := Lib.hid b1; have hbox := cell_later b1 (box_cell w 24 (.slice ao L cap)); clear b1)
    have HB1 := Lib.hid (below_trans (below_alloc _ _) B1.out)
    clear hbox B1 HCK
    go_loopw [3, 12] (fun s i wr => ∃ (k : Nat), i = .int .i64 (k : Int) ∧ k ≤ L ∧ Hid (Below w1.heap.size w1 wr) ∧ Hid (Own wr w1.heap.size 9 s (sv ((es.take k).map D.ent)))) (fun _ i _ => L - (intOf i).toNat)
    case atStart => exact ⟨0, rfl, Nat.zero_le _, Below.refl _ _, Own.nil _ _ _⟩
    case round =>
      obtain ⟨k, rfl, hk, HW, HO⟩ := hrel
      by_cases hlt : k < L
      · obtain ⟨e, he⟩ : ∃ e, es[k]? = some e := ⟨es[k]'(by have := HL.out; omega), List.getElem?_eq_getElem _⟩
        obtain ⟨b, off, rfl, c1, c2⟩ := H4.out k e he
        have hbwr := below_trans HB1.out HW.out
        have d1 := cell_later hbwr c1
        have d2 := cell_later hbwr c2
        unfold tv at d1 d2
        have hle := okE_len (HA.out.2 e (List.mem_of_getElem? he))
        have HE := Lib.hid he
        have HPR := Lib.hid (HP.out.below hbwr)
        have hEK := Lib.hid (fun x (h : PlainIs x) => escape_any e.1 (by omega) x h)
        have hEV := Lib.hid (fun x (h : PlainIs x) => escape_any e.2 (by omega) x h)
        have l1 := D.escL_len e.1
        have l2 := D.escL_len e.2
        have s1 := str_size (D.escL e.1)
        have s2 := str_size (D.escL e.2)
        obtain ⟨K, hK⟩ : ∃ K, (⟨e.1.toArray⟩ : ByteArray) = K := ⟨_, rfl⟩
        obtain ⟨V, hV⟩ : ∃ V, (⟨e.2.toArray⟩ : ByteArray) = V := ⟨_, rfl⟩
        obtain ⟨X, hX⟩ : ∃ X, (⟨(D.escL e.1).toArray⟩ : ByteArray) = X := ⟨_, rfl⟩
        obtain ⟨Y, hY⟩ : ∃ Y, (⟨(D.escL e.2).toArray⟩ : ByteArray) = Y := ⟨_, rfl⟩
        have HT := Lib.hid (ent_bytes hX hY)
        rw [hK] at d1 hEK
        rw [hV] at d2 hEV
        rw [hX] at hEK s1
        rw [hY] at hEV s2
        have x1 : X.size ≤ 192 := by omega
        have x2 : Y.size ≤ 384 := by omega
        have f1 : ¬ 9223372036854775807 < X.size + 1 := by omega
        have f2 : ¬ 9223372036854775807 < X.size + 1 + Y.size := by omega
        have g0 : (k : Int) < (L : Int) := by omega
        have hkL8 : L ≤ 8 := by have := HN.out; have := HL.out; omega
        clear c1 c2 he hbwr hle l1 l2 s1 s2 hK hV hX hY
        go_wp2_with fail
        have W0 := below_alloc wr (.cells #[.string K, .string V] 38)
        have HPW := Lib.hid (HPR.out.below W0)
        obtain ⟨p0, p1⟩ := two_cells wr 38 (.string K) (.string V)
        have HO0 := Lib.hid (HO.out.below W0)
        have BW0 := Lib.hid (HW.out.trans (W0.mono HW.out.size))
        have HLN : Hid ((sv ((es.take k).map D.ent)).length < 1099511627776) := by
          show _ < _
          rw [sv_len, List.length_map, List.length_take]
          omega
        have HFAR := Lib.hid (own_far HO.out)
        generalize hww : wr.alloc (.cells #[.string K, .string V] 38) = ww at *
        clear d1 d2 W0 HPR HO HW hww
        go_region_held3 (fun x => x.cell? ⟨wr.heap.size, 0, none⟩ = some (.string K) ∧ x.cell? ⟨wr.heap.size, 1, none⟩ = some (.string V)) (first | exact ⟨p0, p1⟩ | exact ⟨q0, q1⟩ | exact ⟨r0, r1⟩ | exact ⟨cell_later (below_alloc _ _) r0, cell_later (below_alloc _ _) r1⟩ | exact ⟨t0, t1⟩) (first
          | (go_at_call 19; refine (hEV.out _ (HPW.out.below B2.out)).mono ?_; rintro e w3 ⟨rfl, b3⟩; have B3 := Lib.hid (below_trans B2.out b3); have r0 := cell_later b3 q0; have r1 := cell_later b3 q1; clear b3)
          | (go_at_call 19; refine (hEK.out _ (HPW.out.below (below_drew _))).mono ?_; rintro e w2 ⟨rfl, b2⟩; have B2 := Lib.hid (below_undrew b2); have q0 := cell_later B2.out p0; have q1 := cell_later B2.out p1; clear b2)
          | (refine step_append_one (xs := sv ((es.take k).map D.ent)) (by rfl) (.tmp 16) (.tmp 25) 39 (by rfl) w1.heap.size 9 (.string ⟨#[]⟩) 16 Tryd.underlying39 Tryd.info_str rfl (by rfl) ((HO0.out.below B3.out).alloc _) (by rfl) (box_cell _ _ _) rfl HLN.out (by decide) (by have := B3.out.size; have := BW0.out.size; have := (below_alloc w3 (.cells #[] 0)).size; simp; omega) ?_; intro g cap3 w4 ho4 hg4 hb4; have O4 := Lib.hid ho4; have B4 := Lib.hid hb4; have t0 := grown_old hg4 HFAR.out r0; have t1 := grown_old hg4 HFAR.out r1; clear ho4 hb4 hg4))
        clear t0 t1 r0 r1 q0 q1 p0 p1
        go_wp2
        go_roundw
        case rel =>
          refine ⟨k + 1, by go_num, by omega, BW0.out.trans ((B3.out.mono BW0.out.size).trans (((Below.refl _ w3).alloc (by have := B3.out.size; have := BW0.out.size; omega) _).trans B4.out)), ?_⟩
          show Own _ _ _ _ _
          have := O4.out
          rw [HT.out] at this
          rw [List.take_add_one, HE.out, List.map_append, sv_app]
          rw [List.map_take] at this ⊢
          exact this
        case measure => simp [intOf]; omega
      · have g0 : ¬ (k : Int) < (L : Int) := by omega
        have ET : (es.take k).map D.ent = es.map D.ent := by rw [List.take_of_length_le (by have := HL.out; omega)]
        have HO1 := Lib.hid HO.out
        rw [ET] at HO1
        have HLS : Hid ((es.map D.ent).length = L) := by show _ = _; rw [List.length_map]; exact HL.out
        have HBD := Lib.hid (ents_len HA.out)
        obtain ⟨ps, hps⟩ : ∃ ps, ps = es.map D.ent := ⟨_, rfl⟩
        rw [← hps] at HO1 HLS E HBD
        clear ET hps HO
        have hJ := join_own HO1.out (by have := HLS.out; have := HN.out; have := HL.out; omega) HBD.out
        have HJ := Lib.hid hJ
        clear hJ
        go_wp2_with fail
        refine (HJ.out _ (Below.refl _ _)).mono ?_
        rintro e w5 ⟨rfl, b5⟩
        have B5 := Lib.hid b5
        clear b5
        go_wp2
        go_ret
        exact ret_s E.out.symm (below_trans HB1.out (below_trans HW.out B5.out))
end Go.Proofs.YtepnjhhpnabpnaaDoor
