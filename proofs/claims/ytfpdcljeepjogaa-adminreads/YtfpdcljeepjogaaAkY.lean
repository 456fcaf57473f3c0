/- Walks of the document's own reader: text, begin, done. -/
import Derived.Test.YtfpdcljeepjogaaAkX
namespace Go.Proofs.Ytfpdcljeepjogaa
open Go.RowKit

theorem textS_none {most : Nat} {s : Option (List UInt8)} (h : numS most s = none) : textS most s = none := by
  cases s with
  | none => rfl
  | some bs =>
    have h' : K.num most bs = none := h
    show K.text most bs = none
    unfold K.text
    rw [h']; rfl
theorem textS_some {most n : Nat} {s : Option (List UInt8)} {q : List UInt8} (h : numS most s = some (n, q)) : textS most s = if n ≤ q.length then some (q.take n, q.drop n) else none := by
  cases s with
  | none => cases h
  | some bs =>
    have h' : K.num most bs = some (n, q) := h
    show K.text most bs = _
    unfold K.text
    rw [h']; rfl
set_option maxHeartbeats 1600000 in
theorem rrtext_any (p : Nat) (s : Option (List UInt8)) (most : Nat) (hm : most ≤ 9223372036854775807) (w : World) (hr : RS w p s) :
    Calls Try.prog 39 #[.pointer (some ⟨p, 0, none⟩), .int .i64 (most : Int)] w fun e w' => e = .returned (.string ⟨(tvl (textS most s)).toArray⟩) ∧ RS w' p ((textS most s).map (·.2)) ∧ Kb w w' (some p) none := by
  have HN := Lib.hid (rrnum_any p s most hm w hr)
  clear hr
  cases hn : numS most s with
  | none =>
    rw [hn] at HN
    have E := Lib.hid (textS_none hn)
    clear hn
    go_enter Try.func39, Try.ntmps39
    go_wp2_with fail
    refine HN.out.mono ?_
    rintro e w1 ⟨rfl, ⟨bs, hr1⟩, hk1⟩
    have HZ := Lib.hid hr1.off
    have HK := Lib.hid hk1
    obtain ⟨u, hs, hu, -⟩ := hr1
    have hd' : w1.cell? ⟨p, 1, none⟩ = some (.bool true) := hs.cell 1
    have hf' := hs.frozen 1
    clear hs hu hk1 HN
    go_wp2
    go_ret
    rw [E.out]
    exact ⟨rfl, ⟨bs, HZ.out.1⟩, HK.out.trans HZ.out.2⟩
  | some x =>
    obtain ⟨n, q⟩ := x
    rw [hn] at HN
    have E0 := textS_some hn
    clear hn
    by_cases hnq : n ≤ q.length
    · rw [if_pos hnq] at E0
      have E := Lib.hid E0
      clear E0
      go_enter Try.func39, Try.ntmps39
      go_wp2_with fail
      refine HN.out.mono ?_
      rintro e w1 ⟨rfl, ⟨u, hs, hu, hlow⟩, hk1⟩
      have en : nv (some (n, q)) = n := rfl
      rw [en]
      have HK := Lib.hid hk1
      have HS := Lib.hid hs
      have HU := Lib.hid hu
      have HLOW := Lib.hid hlow
      have hc' : w1.cell? ⟨p, 0, none⟩ = some u := hs.cell 0
      have hd' : w1.cell? ⟨p, 1, none⟩ = some (.bool false) := hs.cell 1
      have hf' := hs.frozen 0
      simp only at hu HU HLOW hnq
      obtain ⟨ao, cap, rfl, g1, g2, g3, g4⟩ := hu
      simp only [bv_len] at g1 g2 HS HU HLOW hc'
      have hRest := Rdv.rest HU.out hnq
      have hTake := run_string_rd (P := Try.prog) 25 5 9 Try.underlying25 Try.underlying5 Try.underlying9 (Rdv.take HU.out hnq)
      obtain ⟨S, hS⟩ : ∃ S, q.take n = S := ⟨_, rfl⟩
      obtain ⟨R, hR⟩ : ∃ R, q.drop n = R := ⟨_, rfl⟩
      rw [hS] at hTake
      rw [hS, hR] at E
      unfold maxLen at g2
      obtain ⟨L, hL⟩ : ∃ L, q.length = L := ⟨_, rfl⟩
      rw [hL] at hnq g1 HS HU HLOW hc' hRest
      have gn : ¬ (L : Int) < (n : Int) := by omega
      clear g3 g4 hs hk1 HN hL hS en hlow
      by_cases hcap : cap = n
      · have HR := Lib.hid (hRest.2 hcap)
        clear hRest
        subst hcap
        rw [Nat.sub_eq_zero_of_le g1] at HR
        go_wp2
        go_ret
        have hz := RR.set HS.out HU.out HR.out (HLOW.out.same (drop_ne rfl))
        rw [hR] at hz
        rw [E.out]
        exact ⟨rfl, hz.1, HK.out.trans hz.2⟩
      · have HR := Lib.hid (hRest.1 hcap)
        clear hRest
        go_wp2
        go_ret
        have hz := RR.set HS.out HU.out HR.out (HLOW.out.cut (drop_ne rfl))
        rw [hR] at hz
        rw [E.out]
        exact ⟨rfl, hz.1, HK.out.trans hz.2⟩
    · rw [if_neg hnq] at E0
      have E := Lib.hid E0
      clear E0
      go_enter Try.func39, Try.ntmps39
      go_wp2_with fail
      refine HN.out.mono ?_
      rintro e w1 ⟨rfl, hr1, hk1⟩
      have en : nv (some (n, q)) = n := rfl
      rw [en]
      have hr2 : RR w1 p q false := hr1
      have HZ := Lib.hid hr2.off
      have HK := Lib.hid hk1
      obtain ⟨u, hs, hu, -⟩ := hr2
      have hc' : w1.cell? ⟨p, 0, none⟩ = some u := hs.cell 0
      have hd' : w1.cell? ⟨p, 1, none⟩ = some (.bool false) := hs.cell 1
      have hf' := hs.frozen 1
      obtain ⟨ao, cap, rfl, -⟩ := hu
      simp only [bv_len] at hc'
      have gn : ((q.length : Int)) < (n : Int) := by omega
      clear hs hk1 HN hr1 en
      go_wp2
      go_ret
      rw [E.out]
      exact ⟨rfl, ⟨q, HZ.out.1⟩, HK.out.trans HZ.out.2⟩

/-- A reader has begun. -/
def Begun (w : World) (s : Option (List UInt8)) (e : Ending) (w' : World) : Prop := e = .returned (.pointer (some ⟨w.heap.size, 0, none⟩)) ∧ RS w' w.heap.size s ∧ Below w.heap.size w w' ∧ w'.heap.size = w.heap.size + 1
theorem rr_new {w : World} {v : Value} {bs : List UInt8} (h : Rdv w v (bv bs)) (bad : Bool) : RR (w.alloc (.cells #[v, .bool bad] 72)) w.heap.size bs bad := by
  refine ⟨v, Str.new _ _ _, h.below (below_alloc _ _), fun hne => ?_⟩
  have hpos : 0 < bs.length := List.length_pos_iff.2 hne
  obtain ⟨ao, cap, rfl, -, -, -, h4⟩ := h
  obtain ⟨x, rfl, hc⟩ := h4 0 _ (bv_get hpos)
  refine ⟨x, _, _, rfl, ?_⟩
  have := cell_lt hc
  rwa [add_block] at this
set_option maxHeartbeats 800000 in
theorem begink_any (kd : UInt8) (kz : Int) (hkz : (kd.toNat : Int) = kz) (v : Value) (bs : List UInt8) (w : World) (hr : Rdv w v (bv bs)) :
    Calls Try.prog 37 #[v, .int .i64 kz] w (Begun w (K.firstOf kd bs)) := by
  have HNIL := Lib.hid (rr_new (bs := []) (show Rdv w (.slice none 0 0) (bv []) from Rdv.nil w) true)
  cases bs with
  | nil =>
    obtain ⟨ao, cap, rfl, -⟩ := hr
    go_enter Try.func37, Try.ntmps37
    go_wp2
    go_ret
    exact ⟨rfl, ⟨[], HNIL.out⟩, below_alloc _ _, box_size _ _⟩
  | cons c r =>
    have HU := Lib.hid hr
    have hcap' := hr
    obtain ⟨b, off, cap, rfl, hb, hcells⟩ := hr.at (j := 0) (by simp)
    have h0 : w.cell? ⟨b, off, none⟩ = some (.int .u8 (c.toNat : Int)) := hcells 0 (by simp)
    have g1 : (c :: r).length ≤ cap ∧ cap ≤ maxLen := by
      obtain ⟨ao', cap', hv, q1, q2, _⟩ := hcap'
      have : cap = cap' := by simpa using (Value.slice.inj hv).2.2
      rw [bv_len] at q1
      omega
    have hRest := Rdv.rest HU.out (l := 1) (by simp)
    have hub := c.toNat_lt
    obtain ⟨z, hz⟩ : ∃ z : Int, (c.toNat : Int) = z := ⟨_, rfl⟩
    have hz0 : 0 ≤ z := by omega
    have hz1 : z < 256 := by omega
    have hz2 : z = kz ↔ c = kd := by
      rw [← hz, ← hkz]
      constructor
      · intro h
        exact UInt8.toNat_inj.1 (by omega)
      · rintro rfl; rfl
    obtain ⟨L, hL⟩ : ∃ L, (c :: r).length = L := ⟨_, rfl⟩
    have hL0 : 1 ≤ L := by rw [← hL]; simp
    have hL1 : ¬ (L : Int) < 1 := by omega
    rw [hz] at h0
    rw [hL] at g1 hRest ⊢
    obtain ⟨g1, g2⟩ := g1
    unfold maxLen at g2
    by_cases hc : c = kd
    · have hzz := hz2.2 hc
      have E := Lib.hid (show K.firstOf kd (c :: r) = some r by simp [K.firstOf, hc])
      rw [E.out]
      clear hcells hcap' hL hz hz2 HU hub hr hkz
      subst hzz
      by_cases hcap : cap = 1
      · have HR := Lib.hid (rr_new (hRest.2 hcap) false)
        clear hRest
        subst hcap
        rw [Nat.sub_eq_zero_of_le g1] at HR
        go_enter Try.func37, Try.ntmps37
        go_wp2
        go_ret
        exact ⟨rfl, HR.out, below_alloc _ _, box_size _ _⟩
      · have HR := Lib.hid (rr_new (hRest.1 hcap) false)
        clear hRest
        go_enter Try.func37, Try.ntmps37
        go_wp2
        go_ret
        exact ⟨rfl, HR.out, below_alloc _ _, box_size _ _⟩
    · have E := Lib.hid (show K.firstOf kd (c :: r) = none by simp [K.firstOf, hc])
      rw [E.out]
      have hb0 : (z == kz) = false := by simp; exact fun h => hc (hz2.1 h)
      clear hcells hcap' hL hz hz2 HU hub hr hRest hkz
      go_enter Try.func37, Try.ntmps37
      go_wp2
      go_ret
      exact ⟨rfl, ⟨[], HNIL.out⟩, below_alloc _ _, box_size _ _⟩

theorem begin_any (v : Value) (bs : List UInt8) (w : World) (hr : Rdv w v (bv bs)) :
    Calls Try.prog 37 #[v, .int .i64 1] w (Begun w (K.first bs)) := begink_any 1 1 rfl v bs w hr

/-- Was all right, and is all read? -/
def doneS (s : Option (List UInt8)) : Bool := decide (s = some [])
set_option maxHeartbeats 800000 in
theorem done_any (p : Nat) (s : Option (List UInt8)) (w : World) (hr : RS w p s) :
    Calls Try.prog 40 #[.pointer (some ⟨p, 0, none⟩)] w fun e w' => e = .returned (.bool (doneS s)) ∧ w' = w := by
  cases s with
  | none =>
    obtain ⟨bs, u, hs, hu, -⟩ := hr
    have hd' : w.cell? ⟨p, 1, none⟩ = some (.bool true) := hs.cell 1
    clear hs hu
    go_enter Try.func40, Try.ntmps40
    go_wp2
    go_ret
    exact ret_b (by simp [doneS]) rfl
  | some bs =>
    obtain ⟨u, hs, hu, -⟩ := hr
    have hc' : w.cell? ⟨p, 0, none⟩ = some u := hs.cell 0
    have hd' : w.cell? ⟨p, 1, none⟩ = some (.bool false) := hs.cell 1
    obtain ⟨ao, cap, rfl, -⟩ := hu
    simp only [bv_len] at hc'
    cases bs with
    | nil =>
      clear hs
      go_enter Try.func40, Try.ntmps40
      go_wp2
      go_ret
      exact ret_b (by simp [doneS]) rfl
    | cons c r =>
      have h1 : (((c :: r).length : Int) == 0) = false := by simp; omega
      obtain ⟨L, hL⟩ : ∃ L, (c :: r).length = L := ⟨_, rfl⟩
      rw [hL] at hc' h1
      clear hL hs
      go_enter Try.func40, Try.ntmps40
      go_wp2
      go_ret
      exact ret_b (by simp [doneS]) rfl

/-- 'append(l, e)' of entries, l the call's own, for a walk. -/
theorem wpList_append_entry2 {P : Program} {w : World} {ops : Array Oper} {rest : List Oper} {o : Oper} {a : Act} {Q : Exit → Act → World → Prop} (hgd : o.guard = none) (s x : Operand) (t : TypeId)
    (ho : o.op = .call { callee := .builtin .append, args := #[s, x], argTypes := #[t, t] })
    (base : Nat) (e : TypeId) (z : Value) (ht : P.underlying t = some (.slice e)) (hinfo : (P.info? e).map (fun i => (i.zero, i.size, i.bytes)) = some (some z, 2, 32)) (hz : z.cells.size = 2)
    {v : Value} {es : List D.E} {k u : List UInt8} {g0 c : Nat} (hs : a.eval s = v) (hown : Owne w base e v es) (hx : a.eval x = .slice (some ⟨g0, 0, none⟩) 1 c) (hc : w.cell? ⟨g0, 0, none⟩ = some (.string ⟨k.toArray⟩) ∧ w.cell? ⟨g0, 1, none⟩ = some (.string ⟨u.toArray⟩))
    (hlen : es.length ≤ 100) (hbase : base ≤ w.heap.size)
    (h : ∀ g cap w', Owne w' base e (.slice (some ⟨g, 0, none⟩) (es.length + 1) cap) (es ++ [(k, u)]) → w.grownBy w' v.ownBlock → wpList P ops Q rest (a.put o.dst (.slice (some ⟨g, 0, none⟩) (es.length + 1) cap)) w') : wpList P ops Q (o :: rest) a w := by
  obtain ⟨i, hi, hz0, hz1, hz2⟩ := info_parts hinfo
  refine wpList_append_lies _ hgd s x t ho base e i z 2 32 ht hi hz0 hz1 hz2 hz (by decide) v es.length (ev es) hs hown ⟨g0, 0, none⟩ 1 c (ev [(k, u)]) hx rfl ?_ ev_one (by decide) (by unfold maxLen; omega) (by omega) hbase _ rfl ?_
  · intro j y hy
    rw [Addr.add_lit, Nat.zero_add]
    match j, hy with
    | 0, hy =>
      have : tv k = y := by simpa [ev] using hy
      rw [← this]; exact hc.1
    | 1, hy =>
      have : tv u = y := by simpa [ev] using hy
      rw [← this]; exact hc.2
    | j + 2, hy => simp [ev] at hy
  · intro g cap' w' ho' hg _ _
    refine h g cap' w' ?_ hg
    show w'.ownsRow base e 2 _ (es ++ [(k, u)]).length (ev (es ++ [(k, u)]))
    rw [ev_app, List.length_append]; exact ho'
theorem nv_le {most : Nat} {s : Option (List UInt8)} {o : Option (Nat × List UInt8)} (h : numS most s = o) : nv o ≤ most := by
  cases o with
  | none => exact Nat.zero_le _
  | some x =>
    obtain ⟨v, r⟩ := x
    cases s with
    | none => cases h
    | some bs => exact (K.num_some h).2.1
theorem ret_cellA {P : Program} {fn : Func} {p u : Tmp} {ty : TypeId} (h : fn.results = #[.cell p ty, .tmp u]) {tmps : Array Value} {w : World} {g : Nat} {T : TypeId} {cs : Array Value} {d : TypeDesc} {b : Value} (hp : tmps.getD p undef = .pointer (some ⟨g, 0, none⟩)) (hb : tmps.getD u undef = b) (hs : Str w g T cs)
    (hu : P.underlying ty = some d) (hd : (match d with | .struct _ | .array _ _ => true | _ => false) = true) (hi : (P.info? ty).map (·.size) = some cs.size) :
    (results fn tmps).run P w = .ok (.tuple #[.agg cs, b]) w := by
  rw [results_cell_tmp h, hp, hb]
  have hs' : w.heap[g]? = some (.cells cs T (0, 0)) := hs
  simp [asAddr, run_loadVar_row w g T ty cs (0, 0) d hs' hu hd hi]
theorem rrnumE {p : Nat} {s : Option (List UInt8)} {most : Nat} {o : Option (Nat × List UInt8)} {v : Nat} {s' : Option (List UInt8)} (hm : most ≤ 9223372036854775807) (h : numS most s = o) (hv : nv o = v) (hs : o.map (·.2) = s') (x : World) (hx : RS x p s) :
    Calls Try.prog 38 #[.pointer (some ⟨p, 0, none⟩), .int .i64 (most : Int)] x fun e w' => e = .returned (.int .i64 (v : Int)) ∧ RS w' p s' ∧ Kb x w' (some p) none := by
  subst h hv hs
  exact rrnum_any p s most hm x hx
theorem rrtextE {p : Nat} {s : Option (List UInt8)} {most : Nat} {o : Option (List UInt8 × List UInt8)} {v : List UInt8} {s' : Option (List UInt8)} (hm : most ≤ 9223372036854775807) (h : textS most s = o) (hv : tvl o = v) (hs : o.map (·.2) = s') (x : World) (hx : RS x p s) :
    Calls Try.prog 39 #[.pointer (some ⟨p, 0, none⟩), .int .i64 (most : Int)] x fun e w' => e = .returned (.string ⟨v.toArray⟩) ∧ RS w' p s' ∧ Kb x w' (some p) none := by
  subst h hv hs
  exact rrtext_any p s most hm x hx
theorem bad_cell {w : World} {p : Nat} {s : Option (List UInt8)} (h : RS w p s) : w.cell? ⟨p, 1, none⟩ = some (.bool s.isNone) := by
  obtain ⟨v, hs, _⟩ := h.str
  exact hs.cell 1
end Go.Proofs.Ytfpdcljeepjogaa
