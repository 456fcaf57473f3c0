/- A part of the proof. -/
import Derived.Test.YtgfhabofhefaaaaGreatDoorSB09
import Derived.Test.YtgfhabofhefaaaaGreatDoorSB00
import Derived.Deep.AppendLies
import Derived.Test.YtgfhabofhefaaaaGreatDoorSB05
namespace Go.Proofs.YtgfhabofhefaaaaGreatDoor
open Go.RowKit
def brA (b : CF.Br) (kv : Value) : Array Value := #[.string ⟨b.key.toArray⟩, .string ⟨b.val.toArray⟩, .bool b.any, .int .i64 b.dom, .int .i64 b.up, .bool b.has, .string ⟨b.rule.name.toArray⟩, .int .i64 b.rule.unit, .int .i64 b.rule.limit, .float .f64 b.rule.near, .bool b.rule.shadow, .bool b.rule.unl, kv]
structure BrOk (b : CF.Br) : Prop where
  kl : b.key.length ≤ maxLen
  vl : b.val.length ≤ maxLen
  ru : RuOk b.rule
set_option maxHeartbeats 16000000 in
theorem fits_any (b : CF.Br) (ka : Option Addr) (kn kc : Nat) (dom up : Int) (w : World) (h : BrOk b) :
    Calls Tryz.prog 70 #[.agg (brA b (.slice ka kn kc)), .int .i64 dom, .int .i64 up] w fun e w' => e = .returned (.bool (CF.fits b dom up)) ∧ Below w.heap.size w w' := by
  obtain ⟨K, HK⟩ : ∃ K, Hid (K = CF.fits b dom up) := ⟨_, Lib.hid rfl⟩
  rw [← HK.out]
  have HBX : Hid (∀ a : Array Value, Below w.heap.size w (w.alloc (.cells a 92))) := fun a => below_alloc _ _
  obtain ⟨bk, bv, ba, bd, bu, bh, br, bi⟩ := b
  have HN := Lib.hid (fun w => rname_any bk h.kl w)
  have HCR := Lib.hid (fun w => chkRule_any br w h.ru)
  have HSR := Lib.hid (fun w => sameRule_any br CF.ru0 w h.ru.nr (by decide))
  have hvl : bv.length ≤ maxLen := h.vl
  unfold maxLen at hvl
  obtain ⟨bn, bun, bl, bnr, bs, bx⟩ := br
  unfold brA
  unfold ruA CF.ru0 at *
  simp only at HN HCR HSR ⊢
  obtain ⟨nb, hnb⟩ : ∃ b, D.nm bk = b := ⟨_, rfl⟩
  rw [hnb] at HN
  clear h
  by_cases h1 : ¬ bd = dom
  · have E : K = false := by rw [HK.out]; unfold CF.fits; rw [if_pos (.inl h1)]
    subst E
    have hb : (bd == dom) = false := by simpa using h1
    clear HN HCR HSR HK hvl
    go_enter Tryz.func70, Tryz.ntmps70
    go_wp2
    go_ret
    exact ⟨rfl, HBX.out _⟩
  have h1 : bd = dom := Classical.byContradiction h1
  by_cases h2 : ¬ bu = up
  · have E : K = false := by rw [HK.out]; unfold CF.fits; rw [if_pos (.inr (.inl h2))]
    subst E h1
    have hb : (bu == up) = false := by simpa using h2
    clear HN HCR HSR HK hvl
    go_enter Tryz.func70, Tryz.ntmps70
    go_wp2
    go_ret
    exact ⟨rfl, HBX.out _⟩
  have h2 : bu = up := Classical.byContradiction h2
  by_cases h3 : nb = false
  · have E : K = false := by rw [HK.out]; unfold CF.fits; rw [if_pos (.inr (.inr (.inl (by simp only; rw [hnb]; exact h3))))]
    subst E h1 h2 h3
    clear HCR HSR HK hvl
    go_enter Tryz.func70, Tryz.ntmps70
    go_wp2_with (go_at_call 40; refine (HN.out _).mono ?_; rintro e w1 ⟨rfl, rfl⟩)
    go_ret
    exact ⟨rfl, HBX.out _⟩
  have h3 : nb = true := by simpa using h3
  by_cases h4 : 128 < bv.length
  · have E : K = false := by rw [HK.out]; unfold CF.fits; rw [if_pos (.inr (.inr (.inr (.inl h4))))]
    subst E h1 h2 h3
    have hi : (128 : Int) < (bv.length : Int) := by omega
    clear HCR HSR HK
    go_enter Tryz.func70, Tryz.ntmps70
    go_wp2_with (go_at_call 40; refine (HN.out _).mono ?_; rintro e w1 ⟨rfl, rfl⟩)
    go_ret
    exact ⟨rfl, HBX.out _⟩
  have hi : ¬ (128 : Int) < (bv.length : Int) := by omega
  by_cases h5 : ba = true ∧ bv ≠ []
  · have E : K = false := by rw [HK.out]; unfold CF.fits; rw [if_pos (.inr (.inr (.inr (.inr h5))))]
    obtain ⟨rfl, h5⟩ := h5
    have hb : (bv == []) = false := by simpa using h5
    subst E h1 h2 h3
    clear HCR HSR HK
    go_enter Tryz.func70, Tryz.ntmps70
    go_wp2_with (go_at_call 40; refine (HN.out _).mono ?_; rintro e w1 ⟨rfl, rfl⟩)
    go_ret
    exact ⟨rfl, HBX.out _⟩
  have hz : ba = false ∨ (ba = true ∧ bv = []) := by
    cases ba with
    | false => exact .inl rfl
    | true => exact .inr ⟨rfl, Classical.byContradiction fun h => h5 ⟨rfl, h⟩⟩
  have E0 : K = if bh then CF.chkRule ⟨bn, bun, bl, bnr, bs, bx⟩ else CF.sameRule ⟨bn, bun, bl, bnr, bs, bx⟩ CF.ru0 := by
    rw [HK.out]; unfold CF.fits
    rw [if_neg (by
      simp only
      rw [hnb]
      rintro (h | h | h | h | h)
      · exact h h1
      · exact h h2
      · rw [h3] at h; cases h
      · omega
      · exact h5 h)]
  unfold CF.ru0 at E0
  obtain ⟨kc1, hk1⟩ : ∃ z, CF.chkRule ⟨bn, bun, bl, bnr, bs, bx⟩ = z := ⟨_, rfl⟩
  obtain ⟨ks1, hs1⟩ : ∃ z, CF.sameRule ⟨bn, bun, bl, bnr, bs, bx⟩ ⟨[], 0, 0, 0, false, false⟩ = z := ⟨_, rfl⟩
  rw [hk1] at HCR E0
  rw [hs1] at HSR E0
  subst h1 h2 h3
  clear HK hnb h5 h4
  cases bh with
  | true =>
    simp only [if_true] at E0
    subst E0
    rcases hz with rfl | ⟨rfl, rfl⟩
    all_goals
      go_enter Tryz.func70, Tryz.ntmps70
      go_wp2_with (first
        | (go_at_call 40; refine (HN.out _).mono ?_; rintro e w1 ⟨rfl, rfl⟩)
        | (go_at_call 102; refine (HCR.out _).mono ?_; rintro e w2 ⟨rfl, b2⟩; have B2 := Lib.hid (below_trans (HBX.out _) b2); clear b2)
        | (go_at_call 103; refine (HSR.out _).mono ?_; rintro e w2 ⟨rfl, b2⟩; have B2 := Lib.hid (below_trans (HBX.out _) b2); clear b2))
      go_ret
      exact ⟨rfl, B2.out⟩
  | false =>
    simp only [Bool.false_eq_true, if_false] at E0
    subst E0
    rcases hz with rfl | ⟨rfl, rfl⟩
    all_goals
      go_enter Tryz.func70, Tryz.ntmps70
      go_wp2_with (first
        | (go_at_call 40; refine (HN.out _).mono ?_; rintro e w1 ⟨rfl, rfl⟩)
        | (go_at_call 102; refine (HCR.out _).mono ?_; rintro e w2 ⟨rfl, b2⟩; have B2 := Lib.hid (below_trans (HBX.out _) b2); clear b2)
        | (go_at_call 103; refine (HSR.out _).mono ?_; rintro e w2 ⟨rfl, b2⟩; have B2 := Lib.hid (below_trans (HBX.out _) b2); clear b2))
      go_ret
      exact ⟨rfl, B2.out⟩
end Go.Proofs.YtgfhabofhefaaaaGreatDoor
namespace Go.Proofs.YtgfhabofhefaaaaGreatDoor
open Go.RowKit
def pc (x : LX.Pc) : Array Value := #[.int .i64 x.1, .int .i64 x.2.1, .int .i64 x.2.2.1, .string ⟨x.2.2.2.1.toArray⟩, .bool x.2.2.2.2]
def pv1 (x : LX.Pc) : List Value := [.int .i64 x.1, .int .i64 x.2.1, .int .i64 x.2.2.1, .string ⟨x.2.2.2.1.toArray⟩, .bool x.2.2.2.2]
def pv (ls : List LX.Pc) : List Value := ls.flatMap pv1
theorem pv_app (a b : List LX.Pc) : pv (a ++ b) = pv a ++ pv b := by simp [pv]
theorem pv_len (a : List LX.Pc) : (pv a).length = a.length * 5 := by
  induction a with
  | nil => rfl
  | cons x t ih =>
    have e0 : pv (x :: t) = pv1 x ++ pv t := rfl
    rw [e0, List.length_append, ih]
    simp [pv1]; omega
theorem pv_at : ∀ {ls : List LX.Pc} {j : Nat} {x : LX.Pc}, ls[j]? = some x → ∀ i, i < 5 → (pv ls)[j * 5 + i]? = (pv1 x)[i]?
  | [], _, _, h => by simp at h
  | x :: ls, 0, s, h => by
    have : x = s := by simpa using h
    subst this
    intro i hi
    have e0 : pv (x :: ls) = pv1 x ++ pv ls := rfl
    rw [e0, List.getElem?_append_left (by simp [pv1]; omega)]
    congr 1
    omega
  | x :: ls, j + 1, s, h => by
    have h' : ls[j]? = some s := by simpa using h
    intro i hi
    rw [← pv_at h' i hi]
    have e0 : pv (x :: ls) = pv1 x ++ pv ls := rfl
    rw [e0, List.getElem?_append_right (by simp [pv1]; omega)]
    congr 1
    simp [pv1]; omega
theorem pv_one {ls : List LX.Pc} : ∀ u ∈ pv ls, u.oneCell' = true := by
  intro u hu
  obtain ⟨s, _, h⟩ := List.mem_flatMap.1 hu
  simp [pv1] at h
  rcases h with rfl | rfl | rfl | rfl | rfl <;> rfl
structure At5 (w : World) (b o : Nat) (x : LX.Pc) : Prop where
  c0 : w.cell? ⟨b, o, none⟩ = some (.int .i64 x.1)
  c1 : w.cell? ⟨b, o + 1, none⟩ = some (.int .i64 x.2.1)
  c2 : w.cell? ⟨b, o + 2, none⟩ = some (.int .i64 x.2.2.1)
  c3 : w.cell? ⟨b, o + 3, none⟩ = some (.string ⟨x.2.2.2.1.toArray⟩)
  c4 : w.cell? ⟨b, o + 4, none⟩ = some (.bool x.2.2.2.2)
theorem At5.below {w w' : World} {b o : Nat} {x : LX.Pc} (h : At5 w b o x) (hb : Below w.heap.size w w') : At5 w' b o x :=
  ⟨(hb.cell (cell_lt h.c0)).trans h.c0, (hb.cell (cell_lt h.c1)).trans h.c1, (hb.cell (cell_lt h.c2)).trans h.c2, (hb.cell (cell_lt h.c3)).trans h.c3, (hb.cell (cell_lt h.c4)).trans h.c4⟩
theorem Str.at5 {x : World} {p : Nat} {T : TypeId} {l : LX.Pc} (h : Str x p T (pc l)) : At5 x p 0 l := ⟨h.cell 0, h.cell 1, h.cell 2, h.cell 3, h.cell 4⟩
def Rdp (w : World) (v : Value) (ls : List LX.Pc) : Prop :=
  ∃ ao cap, v = .slice ao ls.length cap ∧ ls.length ≤ cap ∧ cap ≤ maxLen ∧ (ao = none → cap = 0) ∧ ∀ j x, ls[j]? = some x → ∃ b off, ao = some ⟨b, off, none⟩ ∧ At5 w b (off + j * 5) x
theorem Rdp.below {w w' : World} {v : Value} {ls : List LX.Pc} (h : Rdp w v ls) (hb : Below w.heap.size w w') : Rdp w' v ls := by
  obtain ⟨ao, cap, hv, h1, h2, h3, h4⟩ := h
  refine ⟨ao, cap, hv, h1, h2, h3, fun j s hs => ?_⟩
  obtain ⟨b, off, hx, c⟩ := h4 j s hs
  exact ⟨b, off, hx, c.below hb⟩
theorem Rdp.nil (w : World) : Rdp w (.slice none 0 0) [] := ⟨none, 0, rfl, by simp, by simp [maxLen], fun _ => rfl, by simp⟩
def Ownp (w : World) (base : Nat) (v : Value) (ls : List LX.Pc) : Prop := w.ownsRow base 117 5 v ls.length (pv ls)
theorem Ownp.nil (w : World) (base : Nat) : Ownp w base (.slice none 0 0) [] := World.ownsRow_nil w base _ 5
theorem Ownp.below {w w' : World} {base : Nat} {v : Value} {ls : List LX.Pc} (h : Ownp w base v ls) (hb : Below w.heap.size w w') : Ownp w' base v ls := by
  refine ⟨h.1, ?_⟩
  rcases h.2 with hn | ⟨g, cap, cur, hv, hbg, hg, rest⟩
  · exact .inl hn
  · exact .inr ⟨g, cap, cur, hv, hbg, (hb.block g (Array.getElem?_eq_some_iff.1 hg).1).trans hg, rest⟩
theorem Ownp.rd {w : World} {base : Nat} {v : Value} {ls : List LX.Pc} (h : Ownp w base v ls) : Rdp w v ls := by
  rcases h.2 with ⟨hv, hn⟩ | ⟨g, cap, cur, hv, hb, hg, hnc, hcm, hcs, ht⟩
  · obtain rfl : ls = [] := List.length_eq_zero_iff.1 hn
    rw [hv]; exact Rdp.nil w
  · refine ⟨some ⟨g, 0, none⟩, cap, hv, hnc, hcm, (by intro h; cases h), fun j s hs => ⟨g, 0, rfl, ?_⟩⟩
    have k := pv_at hs
    have q0 := World.ownsRow.cells h (by rw [hv]; rfl) _ _ (k 0 (by decide))
    have q1 := World.ownsRow.cells h (by rw [hv]; rfl) _ _ (k 1 (by decide))
    have q2 := World.ownsRow.cells h (by rw [hv]; rfl) _ _ (k 2 (by decide))
    have q3 := World.ownsRow.cells h (by rw [hv]; rfl) _ _ (k 3 (by decide))
    have q4 := World.ownsRow.cells h (by rw [hv]; rfl) _ _ (k 4 (by decide))
    rw [Addr.add_lit] at q0 q1 q2 q3 q4
    simp only [Nat.zero_add, Nat.add_zero] at q0 q1 q2 q3 q4 ⊢
    exact ⟨q0, q1, q2, q3, q4⟩
theorem Ownp.slice {w : World} {base : Nat} {v : Value} {ls : List LX.Pc} (h : Ownp w base v ls) : ∃ ao cap, v = .slice ao ls.length cap := by
  rcases h.2 with ⟨hv, hn⟩ | ⟨g, cap, cur, hv, _⟩
  · exact ⟨none, 0, by rw [hv, hn]⟩
  · exact ⟨_, cap, hv⟩
theorem Ownp.ownBlock {w : World} {base : Nat} {v : Value} {ls : List LX.Pc} (h : Ownp w base v ls) {g : Nat} (hg : v.ownBlock = some g) : (∃ cur, w.heap[g]? = some (.cells cur 117 (0, 0))) ∧ base ≤ g ∧ g < w.heap.size := by
  rcases h.2 with ⟨hv, _⟩ | ⟨g', cap, cur, hv, hb, hc, _⟩
  · rw [hv] at hg; cases hg
  · rw [hv] at hg
    obtain rfl : g' = g := Option.some.inj hg
    exact ⟨⟨cur, hc⟩, hb, (Array.getElem?_eq_some_iff.1 hc).1⟩
theorem Ownp.kb {w w' : World} {base : Nat} {v : Value} {ls : List LX.Pc} {p q : Option Nat} (h : Ownp w base v ls) (hk : Kb w w' p q) (h1 : v.ownBlock = none ∨ v.ownBlock ≠ p) (h2 : v.ownBlock = none ∨ v.ownBlock ≠ q) : Ownp w' base v ls := by
  refine ⟨h.1, ?_⟩
  rcases h.2 with hn | ⟨g, cap, cur, rfl, hb, hgg, rest⟩
  · exact .inl hn
  · refine .inr ⟨g, cap, cur, rfl, hb, ?_, rest⟩
    rw [hk.block g (Array.getElem?_eq_some_iff.1 hgg).1 (by simpa [Value.ownBlock] using h1) (by simpa [Value.ownBlock] using h2)]
    exact hgg
theorem Ownp.off {w : World} {base : Nat} {T : TypeId} {v : Value} {ls : List LX.Pc} {p : Nat} {cs : Array Value} (h : Ownp w base v ls) (hs : Str w p T cs) (hne : 117 ≠ T) : v.ownBlock = none ∨ v.ownBlock ≠ some p := by
  cases hg : v.ownBlock with
  | none => exact .inl rfl
  | some g =>
    right
    intro e
    obtain rfl := Option.some.inj e
    obtain ⟨⟨cur, hc⟩, _⟩ := h.ownBlock hg
    have h' : w.heap[g]? = some (.cells cs T (0, 0)) := hs
    rw [h'] at hc
    simp at hc
    exact hne hc.2.symm
theorem Ownp.base {w : World} {b b' : Nat} {v : Value} {ls : List LX.Pc} (h : Ownp w b v ls) (hb : b' ≤ b) : Ownp w b' v ls := by
  refine ⟨h.1, ?_⟩
  rcases h.2 with hn | ⟨g, cap, cur, hv, hbg, rest⟩
  · exact .inl hn
  · exact .inr ⟨g, cap, cur, hv, Nat.le_trans hb hbg, rest⟩
theorem Ownp.lit (w : World) {base : Nat} (ls : List LX.Pc) (hb : base ≤ w.heap.size) (hm : ls.length ≤ maxLen) :
    Ownp (w.alloc (.cells (pv ls).toArray 117)) base (.slice (some ⟨w.heap.size, 0, none⟩) ls.length ls.length) ls := by
  have := World.ownsRow_lit (e := 117) (size := 5) (base := base) w (pv ls).toArray ls.length hb hm (by simp [pv_len])
  show (w.alloc (.cells (pv ls).toArray 117)).ownsRow base 117 5 _ ls.length (pv ls)
  simpa using this
theorem Tryz.info_piece : (Tryz.prog.info? 117).map (fun i => (i.zero, i.size, i.bytes)) = some (some (.agg #[.int .i64 0, .int .i64 0, .int .i64 0, .string ⟨#[]⟩, .bool false]), 5, 48) := by kernel_rfl
theorem piece_news {w : World} {g0 : Nat} {x : LX.Pc} (hc : At5 w g0 0 x) : ∀ j u, (pv [x])[j]? = some u → w.cell? ((⟨g0, 0, none⟩ : Addr).add j) = some u := by
  intro j y hy
  rw [Addr.add_lit, Nat.zero_add]
  match j, hy with
  | 0, hy => have : Value.int .i64 x.1 = y := by simpa [pv, pv1] using hy
             rw [← this]; exact hc.c0
  | 1, hy => have : Value.int .i64 x.2.1 = y := by simpa [pv, pv1] using hy
             rw [← this]; exact hc.c1
  | 2, hy => have : Value.int .i64 x.2.2.1 = y := by simpa [pv, pv1] using hy
             rw [← this]; exact hc.c2
  | 3, hy => have : Value.string ⟨x.2.2.2.1.toArray⟩ = y := by simpa [pv, pv1] using hy
             rw [← this]; exact hc.c3
  | 4, hy => have : Value.bool x.2.2.2.2 = y := by simpa [pv, pv1] using hy
             rw [← this]; exact hc.c4
  | j + 5, hy => simp [pv, pv1] at hy
theorem wpList_append_piece {w : World} {ops : Array Oper} {rest : List Oper} {o : Oper} {a : Act} {Q : Exit → Act → World → Prop} (hgd : o.guard = none) (s x : Operand)
    (ho : o.op = .call { callee := .builtin .append, args := #[s, x], argTypes := #[71, 71] })
    (base : Nat) {v : Value} {ls : List LX.Pc} {l : LX.Pc} {g0 c : Nat} (hs : a.eval s = v) (hown : Ownp w base v ls) (hx : a.eval x = .slice (some ⟨g0, 0, none⟩) 1 c) (hc : At5 w g0 0 l)
    (hlen : ls.length ≤ 20000) (hbase : base ≤ w.heap.size)
    (h : ∀ g cap w', Ownp w' base (.slice (some ⟨g, 0, none⟩) (ls.length + 1) cap) (ls ++ [l]) → w.grownBy w' v.ownBlock → wpList Tryz.prog ops Q rest (a.put o.dst (.slice (some ⟨g, 0, none⟩) (ls.length + 1) cap)) w') : wpList Tryz.prog ops Q (o :: rest) a w := by
  obtain ⟨i, hi, hz0, hz1, hz2⟩ := infoparts Tryz.info_piece
  refine wpList_append_lies _ hgd s x _ ho base _ i _ 5 48 Tryz.underlying71 hi hz0 hz1 hz2 rfl (by decide) v ls.length (pv ls) hs hown ⟨g0, 0, none⟩ 1 c (pv [l]) hx rfl (piece_news hc) pv_one (by decide) (by unfold maxLen; omega) (by omega) hbase _ rfl ?_
  intro g cap' w' ho' hg _ _
  refine h g cap' w' ?_ hg
  show w'.ownsRow base _ 5 _ (ls ++ [l]).length (pv (ls ++ [l]))
  rw [pv_app, List.length_append]; exact ho'
theorem step_append_piece {w : World} {ops : Array Oper} {o : Oper} {a : Act} {K : Act → World → Prop} {Q : Exit → Act → World → Prop} {E : Prop} (hgd : o.guard = none) (s x : Operand)
    (ho : o.op = .call { callee := .builtin .append, args := #[s, x], argTypes := #[71, 71] })
    (base : Nat) {v : Value} {ls : List LX.Pc} {l : LX.Pc} {g0 c : Nat} (hs : a.eval s = v) (hown : Ownp w base v ls) (hx : a.eval x = .slice (some ⟨g0, 0, none⟩) 1 c) (hc : At5 w g0 0 l)
    (hlen : ls.length ≤ 20000) (hbase : base ≤ w.heap.size)
    (h : ∀ g cap w', Ownp w' base (.slice (some ⟨g, 0, none⟩) (ls.length + 1) cap) (ls ++ [l]) → w.grownBy w' v.ownBlock → K (a.put o.dst (.slice (some ⟨g, 0, none⟩) (ls.length + 1) cap)) w') :
    if Region.wanted o (yielded ops a.tmps) = true then Oper.wp Tryz.prog o a w K Q else E := by
  obtain ⟨i, hi, hz0, hz1, hz2⟩ := infoparts Tryz.info_piece
  refine step_append_lies _ hgd s x _ ho base _ i _ 5 48 Tryz.underlying71 hi hz0 hz1 hz2 rfl (by decide) v ls.length (pv ls) hs hown ⟨g0, 0, none⟩ 1 c (pv [l]) hx rfl (piece_news hc) pv_one (by decide) (by unfold maxLen; omega) (by omega) hbase _ rfl ?_
  intro g cap' w' ho' hg _ _
  refine h g cap' w' ?_ hg
  show w'.ownsRow base _ 5 _ (ls ++ [l]).length (pv (ls ++ [l]))
  rw [pv_app, List.length_append]; exact ho'
theorem wpList_append_pieces {w : World} {ops : Array Oper} {rest : List Oper} {o : Oper} {a : Act} {Q : Exit → Act → World → Prop} (hgd : o.guard = none) (s x : Operand)
    (ho : o.op = .call { callee := .builtin .append, args := #[s, x], argTypes := #[71, 71] })
    (base : Nat) {v vx : Value} {ls ms : List LX.Pc} (hs : a.eval s = v) (hown : Ownp w base v ls) (hx : a.eval x = vx) (hrd : Rdp w vx ms)
    (hlen : ls.length + ms.length ≤ 1000000) (hbase : base ≤ w.heap.size)
    (h : ∀ v' w', Ownp w' base v' (ls ++ ms) → w.grownBy w' v.ownBlock → wpList Tryz.prog ops Q rest (a.put o.dst v') w') : wpList Tryz.prog ops Q (o :: rest) a w := by
  obtain ⟨i, hi, hz0, hz1, hz2⟩ := infoparts Tryz.info_piece
  obtain ⟨ao, cap, rfl, h1', h2, h3, h4⟩ := hrd
  cases ao with
  | none =>
    have hc := h3 rfl
    have hn : ms = [] := List.length_eq_zero_iff.1 (by omega)
    subst hn
    subst hc
    refine wpList_append_own_none hgd s x _ ho base _ i 5 Tryz.underlying71 hi v ls.length (pv ls) hs hown hx ?_
    exact h v w (by simpa using hown) (World.grownBy.refl _ _)
  | some ad =>
    refine wpList_append_own _ hgd s x _ ho base _ i _ 5 48 Tryz.underlying71 hi hz0 hz1 hz2 rfl (by decide) v ls.length (pv ls) hs hown ad ms.length cap (pv ms) hx (by simp [pv_len]) (fun j u hu => ?_) pv_one (by unfold maxLen; omega) (by omega) hbase ?_
    · have hj := (List.getElem?_eq_some_iff.1 hu).1
      rw [pv_len] at hj
      have hd : j / 5 < ms.length := by omega
      obtain ⟨b, off, hb, hc⟩ := h4 (j / 5) ms[j / 5] (by simp [hd])
      obtain rfl := Option.some.inj hb
      rw [Addr.add_lit]
      have k := pv_at (ls := ms) (j := j / 5) (x := ms[j / 5]) (by simp [hd]) (j % 5) (Nat.mod_lt _ (by decide))
      rw [show j / 5 * 5 + j % 5 = j by omega, hu] at k
      have e : off + j = off + j / 5 * 5 + j % 5 := by omega
      rw [e]
      have hm : j % 5 < 5 := Nat.mod_lt _ (by decide)
      generalize j % 5 = m at *
      match m, hm, k with
      | 0, _, k => obtain rfl : u = _ := Option.some.inj k
                   exact hc.c0
      | 1, _, k => obtain rfl : u = _ := Option.some.inj k
                   exact hc.c1
      | 2, _, k => obtain rfl : u = _ := Option.some.inj k
                   exact hc.c2
      | 3, _, k => obtain rfl : u = _ := Option.some.inj k
                   exact hc.c3
      | 4, _, k => obtain rfl : u = _ := Option.some.inj k
                   exact hc.c4
    · intro v' w' ho' hg _
      refine h v' w' ?_ hg
      show w'.ownsRow base _ 5 v' (ls ++ ms).length (pv (ls ++ ms))
      rw [List.length_append, pv_app]; exact ho'
structure Az (w : World) (b o : Nat) (x : LX.Lz) : Prop where
  c0 : w.cell? ⟨b, o, none⟩ = some (.int .i64 x.1)
  c1 : w.cell? ⟨b, o + 1, none⟩ = some (.int .i64 x.2.1)
  c2 : w.cell? ⟨b, o + 2, none⟩ = some (.string ⟨x.2.2.toArray⟩)
theorem Az.below {w w' : World} {b o : Nat} {x : LX.Lz} (h : Az w b o x) (hb : Below w.heap.size w w') : Az w' b o x :=
  ⟨(hb.cell (cell_lt h.c0)).trans h.c0, (hb.cell (cell_lt h.c1)).trans h.c1, (hb.cell (cell_lt h.c2)).trans h.c2⟩
def Rdz (w : World) (v : Value) (ls : List LX.Lz) : Prop :=
  ∃ ao cap, v = .slice ao ls.length cap ∧ ls.length ≤ cap ∧ cap ≤ maxLen ∧ (ao = none → cap = 0) ∧ ∀ j x, ls[j]? = some x → ∃ b off, ao = some ⟨b, off, none⟩ ∧ Az w b (off + j * 3) x
theorem Rdz.below {w w' : World} {v : Value} {ls : List LX.Lz} (h : Rdz w v ls) (hb : Below w.heap.size w w') : Rdz w' v ls := by
  obtain ⟨ao, cap, hv, h1, h2, h3, h4⟩ := h
  refine ⟨ao, cap, hv, h1, h2, h3, fun j s hs => ?_⟩
  obtain ⟨b, off, hx, c⟩ := h4 j s hs
  exact ⟨b, off, hx, c.below hb⟩
end Go.Proofs.YtgfhabofhefaaaaGreatDoor
namespace Go.Proofs.YtgfhabofhefaaaaGreatDoor
open Go.RowKit Go.Shelf
def bren : Ren := ⟨fun | 166 => 169 | 167 => 171 | 240 => 180 | 276 => 183 | n => n, fun | 0 => 0 | 3 => 3 | 4 => 4 | 5 => 5 | 9 => 9 | 20 => 20 | 37 => 35 | 70 => 192 | 72 => 194 | 75 => 198 | 80 => 201 | 164 => 213 | n => n, fun n => n⟩
theorem bl166 : Lays.n166 Tryz.prog bren := {
  mixed := by kernel_rfl
  f166 := Tryz.func169.trans (congrArg some (by kernel_rfl))
  f240 := Tryz.func180.trans (congrArg some (by kernel_rfl))
  f276 := Tryz.func183.trans (congrArg some (by kernel_rfl))
  t0 := Tryz.underlying0
  a0 := Tryz.isAgg0
  z0 := Tryz.sizeOf0
  v0 := Tryz.zeroValue0
  t3 := Tryz.underlying3
  a3 := Tryz.isAgg3
  z3 := Tryz.sizeOf3
  v3 := Tryz.zeroValue3
  t4 := Tryz.underlying4
  a4 := Tryz.isAgg4
  z4 := Tryz.sizeOf4
  v4 := Tryz.zeroValue4
  t9 := Tryz.underlying9
  a9 := Tryz.isAgg9
  z9 := Tryz.sizeOf9
  v9 := Tryz.zeroValue9
  t20 := Tryz.underlying20
  a20 := Tryz.isAgg20
  z20 := Tryz.sizeOf20
  v20 := Tryz.zeroValue20
  t37 := Tryz.underlying35
  a37 := Tryz.isAgg35
  z37 := Tryz.sizeOf35
  v37 := Tryz.zeroValue35
  t70 := Tryz.underlying192
  a70 := Tryz.isAgg192
  z70 := Tryz.sizeOf192
  v70 := Tryz.zeroValue192
  t72 := Tryz.underlying194
  a72 := Tryz.isAgg194
  z72 := Tryz.sizeOf194
  v72 := Tryz.zeroValue194
  t75 := Tryz.underlying198
  a75 := Tryz.isAgg198
  z75 := Tryz.sizeOf198
  v75 := Tryz.zeroValue198
  t164 := Tryz.underlying213
  a164 := Tryz.isAgg213
  z164 := Tryz.sizeOf213
  v164 := Tryz.zeroValue213 }
theorem bl167 : Lays.n167 Tryz.prog bren := {
  mixed := by kernel_rfl
  f167 := Tryz.func171.trans (congrArg some (by kernel_rfl))
  f240 := Tryz.func180.trans (congrArg some (by kernel_rfl))
  f276 := Tryz.func183.trans (congrArg some (by kernel_rfl))
  t0 := Tryz.underlying0
  a0 := Tryz.isAgg0
  z0 := Tryz.sizeOf0
  v0 := Tryz.zeroValue0
  t4 := Tryz.underlying4
  a4 := Tryz.isAgg4
  z4 := Tryz.sizeOf4
  v4 := Tryz.zeroValue4
  t5 := Tryz.underlying5
  a5 := Tryz.isAgg5
  z5 := Tryz.sizeOf5
  v5 := Tryz.zeroValue5
  t9 := Tryz.underlying9
  a9 := Tryz.isAgg9
  z9 := Tryz.sizeOf9
  v9 := Tryz.zeroValue9
  t20 := Tryz.underlying20
  a20 := Tryz.isAgg20
  z20 := Tryz.sizeOf20
  v20 := Tryz.zeroValue20
  t37 := Tryz.underlying35
  a37 := Tryz.isAgg35
  z37 := Tryz.sizeOf35
  v37 := Tryz.zeroValue35
  t70 := Tryz.underlying192
  a70 := Tryz.isAgg192
  z70 := Tryz.sizeOf192
  v70 := Tryz.zeroValue192
  t72 := Tryz.underlying194
  a72 := Tryz.isAgg194
  z72 := Tryz.sizeOf194
  v72 := Tryz.zeroValue194
  t75 := Tryz.underlying198
  a75 := Tryz.isAgg198
  z75 := Tryz.sizeOf198
  v75 := Tryz.zeroValue198
  t164 := Tryz.underlying213
  a164 := Tryz.isAgg213
  z164 := Tryz.sizeOf213
  v164 := Tryz.zeroValue213 }
theorem bext : Builder.Extra Tryz.prog bren := {
  sizeBuilder := by kernel_rfl
  liesBuilder := by kernel_rfl
  t5 := Tryz.underlying5
  a5 := Tryz.isAgg5
  z5 := Tryz.sizeOf5
  v5 := Tryz.zeroValue5
  infoByte := by kernel_rfl
  cellsByte := by kernel_rfl
  sizeByte := by kernel_rfl
  neB5 := by decide }
def Bd (w : World) (B b : Nat) (l : List UInt8) : Prop := Lib.IsBuilder 194 5 B b (Lib.byteCells l) w
theorem Bd.new (w : World) : Bd (w.alloc (.cells #[.pointer none, .slice none 0 0] 194)) w.heap.size w.heap.size [] :=
  .inl ⟨Nat.le_refl _, .slice none 0 0, heap_alloc_new w _, World.ownsRow_nil _ _ _ 1, by simp [Value.ownBlock]⟩
theorem Bd.below {w w' : World} {B b : Nat} {l : List UInt8} (h : Bd w B b l) (hb : Below w.heap.size w w') : Bd w' B b l := by
  have one : ∀ {p : Value}, Lib.BuilderAt 194 5 B b p (Lib.byteCells l) w → Lib.BuilderAt 194 5 B b p (Lib.byteCells l) w' := by
    rintro p ⟨h1, v, h2, h3, h4⟩
    exact ⟨h1, v, (hb.block b (Array.getElem?_eq_some_iff.1 h2).1).trans h2, Own.below (xs := Lib.byteCells l) h3 hb, h4⟩
  exact h.imp one one
theorem Bd.byte {B b : Nat} {l : List UInt8} {w : World} (h : Bd w B b l) (c : UInt8) (z : Int) (hz : (c.toNat : Int) = z) (hl : l.length ≤ 100000) (hB : B ≤ w.heap.size) :
    Calls Tryz.prog 171 #[.pointer (some ⟨b, 0, none⟩), .int .u8 z] w fun e w' => e = .returned .nilIface ∧ Bd w' B b (l ++ [c]) ∧ Below B w w' := by
  subst hz
  refine (Any.Builder_WriteByte bl167 bext B b (Lib.byteCells l) (c.toNat : Int) w h (by simp [Lib.byteCells]; omega) hB).mono ?_
  rintro e w' ⟨rfl, h1, h2⟩
  refine ⟨rfl, .inr ?_, h2⟩
  have e1 : Lib.byteCells (l ++ [c]) = Lib.byteCells l ++ [.int .u8 (c.toNat : Int)] := by simp [Lib.byteCells]
  rw [e1]; exact h1
theorem Bd.text {B b : Nat} {l : List UInt8} {w : World} (h : Bd w B b l) (s : List UInt8) (hl : l.length + s.length ≤ 100000) (hB : B ≤ w.heap.size) :
    Calls Tryz.prog 169 #[.pointer (some ⟨b, 0, none⟩), .string ⟨s.toArray⟩] w fun e w' => (∃ n, e = .returned (.tuple #[.int .i64 n, .nilIface])) ∧ Bd w' B b (l ++ s) ∧ Below B w w' := by
  refine (Any.Builder_WriteString bl166 bext B b (Lib.byteCells l) ⟨s.toArray⟩ w h (by rw [str_size]; simp [Lib.byteCells]; omega) hB).mono ?_
  rintro e w' ⟨rfl, h1, h2⟩
  refine ⟨⟨_, rfl⟩, .inr ?_, h2⟩
  have e1 : Lib.byteCells (l ++ s) = Lib.byteCells l ++ Lib.strCells ⟨s.toArray⟩ := by simp [Lib.byteCells, Lib.strCells]
  rw [e1]; exact h1
theorem Bd.str {B b : Nat} {l : List UInt8} {w : World} (h : Bd w B b l) (hB : B ≤ w.heap.size) :
    Calls Tryz.prog 170 #[.pointer (some ⟨b, 0, none⟩)] w fun e w' => e = .returned (.string ⟨l.toArray⟩) ∧ Below B w w' :=
  Tryz.Builder_String_any B b l w h hB
end Go.Proofs.YtgfhabofhefaaaaGreatDoor
namespace Go.Proofs.YtgfhabofhefaaaaGreatDoor
open Go.RowKit
def gave (k : Int) : List PanicEntry := [{ v := .iface 135 (.agg #[.int .i64 k]), recovered := false }]
def took (k : Int) : List PanicEntry := [{ v := .iface 135 (.agg #[.int .i64 k]), recovered := true }]
set_option maxHeartbeats 400000 in
theorem lmust_true (k : Int) (w : World) :
    Calls Tryz.prog 122 #[.bool true, .int .i64 k] w fun e w' => e = .returned (.tuple #[]) ∧ w' = w := by
  go_enter Tryz.func122, Tryz.ntmps122
  go_wp2
  go_end0
  exact ⟨rfl, rfl⟩
set_option maxHeartbeats 400000 in
theorem lmust_false (k : Int) (w : World) :
    Calls Tryz.prog 122 #[.bool false, .int .i64 k] w fun e w' => e = .panicked (gave k) ∧ w' = w := by
  go_enter Tryz.func122, Tryz.ntmps122
  go_wp2
  exact ⟨rfl, rfl, rfl⟩
theorem sgn_paths (c : UInt8) (z : Int) (hz : (c.toNat : Int) = z) :
    (97 ≤ z ∧ z ≤ 122 ∧ LX.sgn c = true) ∨ (97 ≤ z ∧ ¬ z ≤ 122 ∧ 65 ≤ z ∧ ¬ z ≤ 90 ∧ 48 ≤ z ∧ ¬ z ≤ 57 ∧ (z == 95) = false ∧ (z == 45) = false ∧ (z == 46) = false ∧ LX.sgn c = false) ∨
    (¬ 97 ≤ z ∧ 65 ≤ z ∧ z ≤ 90 ∧ LX.sgn c = true) ∨ (¬ 97 ≤ z ∧ 65 ≤ z ∧ ¬ z ≤ 90 ∧ 48 ≤ z ∧ ¬ z ≤ 57 ∧ z = 95 ∧ LX.sgn c = true) ∨
    (¬ 97 ≤ z ∧ 65 ≤ z ∧ ¬ z ≤ 90 ∧ 48 ≤ z ∧ ¬ z ≤ 57 ∧ (z == 95) = false ∧ (z == 45) = false ∧ (z == 46) = false ∧ LX.sgn c = false) ∨
    (¬ 97 ≤ z ∧ ¬ 65 ≤ z ∧ 48 ≤ z ∧ z ≤ 57 ∧ LX.sgn c = true) ∨
    (¬ 97 ≤ z ∧ ¬ 65 ≤ z ∧ 48 ≤ z ∧ ¬ z ≤ 57 ∧ (z == 95) = false ∧ (z == 45) = false ∧ (z == 46) = false ∧ LX.sgn c = false) ∨
    (¬ 97 ≤ z ∧ ¬ 65 ≤ z ∧ ¬ 48 ≤ z ∧ (z == 95) = false ∧ z = 45 ∧ LX.sgn c = true) ∨ (¬ 97 ≤ z ∧ ¬ 65 ≤ z ∧ ¬ 48 ≤ z ∧ (z == 95) = false ∧ (z == 45) = false ∧ z = 46 ∧ LX.sgn c = true) ∨
    (¬ 97 ≤ z ∧ ¬ 65 ≤ z ∧ ¬ 48 ≤ z ∧ (z == 95) = false ∧ (z == 45) = false ∧ (z == 46) = false ∧ LX.sgn c = false) := by
  have hs : LX.sgn c = decide ((97 ≤ z ∧ z ≤ 122) ∨ (65 ≤ z ∧ z ≤ 90) ∨ (48 ≤ z ∧ z ≤ 57) ∨ z = 95 ∨ z = 45 ∨ z = 46) := by
    unfold LX.sgn
    rw [Bool.eq_iff_iff]
    simp only [Bool.or_eq_true, decide_eq_true_eq]
    omega
  have ht : ((97 ≤ z ∧ z ≤ 122) ∨ (65 ≤ z ∧ z ≤ 90) ∨ (48 ≤ z ∧ z ≤ 57) ∨ z = 95 ∨ z = 45 ∨ z = 46) → LX.sgn c = true := fun h => by rw [hs]; simpa using h
  have hf : ¬ ((97 ≤ z ∧ z ≤ 122) ∨ (65 ≤ z ∧ z ≤ 90) ∨ (48 ≤ z ∧ z ≤ 57) ∨ z = 95 ∨ z = 45 ∨ z = 46) → LX.sgn c = false := fun h => by rw [hs]; exact decide_eq_false h
  have nz : ∀ {k : Int}, z ≠ k → (z == k) = false := fun h => beq_eq_false_iff_ne.2 h
  clear hs hz
  by_cases a1 : 97 ≤ z
  · by_cases a2 : z ≤ 122
    · exact .inl ⟨a1, a2, ht (by omega)⟩
    · exact .inr (.inl ⟨a1, a2, by omega, by omega, by omega, by omega, nz (by omega), nz (by omega), nz (by omega), hf (by omega)⟩)
  refine .inr (.inr ?_)
  by_cases a2 : 65 ≤ z
  · by_cases a3 : z ≤ 90
    · exact .inl ⟨a1, a2, a3, ht (by omega)⟩
    · by_cases a4 : z = 95
      · exact .inr (.inl ⟨a1, a2, a3, by omega, by omega, a4, ht (by omega)⟩)
      · exact .inr (.inr (.inl ⟨a1, a2, a3, by omega, by omega, nz a4, nz (by omega), nz (by omega), hf (by omega)⟩))
  refine .inr (.inr (.inr ?_))
  by_cases a3 : 48 ≤ z
  · by_cases a4 : z ≤ 57
    · exact .inl ⟨a1, a2, a3, a4, ht (by omega)⟩
    · exact .inr (.inl ⟨a1, a2, a3, a4, nz (by omega), nz (by omega), nz (by omega), hf (by omega)⟩)
  refine .inr (.inr ?_)
  by_cases a4 : z = 45
  · exact .inl ⟨a1, a2, a3, nz (by omega), a4, ht (by omega)⟩
  · by_cases a5 : z = 46
    · exact .inr (.inl ⟨a1, a2, a3, nz (by omega), nz a4, a5, ht (by omega)⟩)
    · exact .inr (.inr ⟨a1, a2, a3, nz (by omega), nz a4, nz a5, hf (by omega)⟩)
set_option maxHeartbeats 4000000 in
theorem isKeySign_any (c : UInt8) (z : Int) (hz : (c.toNat : Int) = z) (w : World) :
    Calls Tryz.prog 155 #[.int .u8 z] w fun e w' => e = .returned (.bool (LX.sgn c)) ∧ w' = w := by
  have hp := sgn_paths c z hz
  clear hz
  rcases hp with ⟨h1, h2, hs⟩ | ⟨h1, h2, h3, h4, h5, h6, h7, h8, h9, hs⟩ | ⟨h1, h2, h3, hs⟩ | ⟨h1, h2, h3, h4, h5, rfl, hs⟩ | ⟨h1, h2, h3, h4, h5, h6, h7, h8, hs⟩ | ⟨h1, h2, h3, h4, hs⟩ | ⟨h1, h2, h3, h4, h5, h6, h7, hs⟩ | ⟨h1, h2, h3, h4, rfl, hs⟩ | ⟨h1, h2, h3, h4, h5, rfl, hs⟩ | ⟨h1, h2, h3, h4, h5, h6, hs⟩
  all_goals
    rw [hs]
    clear hs
    go_enter Tryz.func155, Tryz.ntmps155
    go_wp2
    go_ret
    exact ⟨rfl, rfl⟩
set_option maxHeartbeats 4000000 in
theorem rsign_any (c : UInt8) (z : Int) (hz : (c.toNat : Int) = z) (w : World) :
    Calls Tryz.prog 129 #[.int .u8 z] w fun e w' => e = .returned (.bool (LX.sgn c)) ∧ w' = w := by
  have hp := sgn_paths c z hz
  clear hz
  rcases hp with ⟨h1, h2, hs⟩ | ⟨h1, h2, h3, h4, h5, h6, h7, h8, h9, hs⟩ | ⟨h1, h2, h3, hs⟩ | ⟨h1, h2, h3, h4, h5, rfl, hs⟩ | ⟨h1, h2, h3, h4, h5, h6, h7, h8, hs⟩ | ⟨h1, h2, h3, h4, hs⟩ | ⟨h1, h2, h3, h4, h5, h6, h7, hs⟩ | ⟨h1, h2, h3, h4, rfl, hs⟩ | ⟨h1, h2, h3, h4, h5, rfl, hs⟩ | ⟨h1, h2, h3, h4, h5, h6, hs⟩
  all_goals
    rw [hs]
    clear hs
    go_enter Tryz.func129, Tryz.ntmps129
    go_wp2
    go_ret
    exact ⟨rfl, rfl⟩
theorem hasp_any (l : List UInt8) (m : List UInt8) (b : Bool) (hb : m.isPrefixOf l = b) (w : World) : Calls Tryz.prog 120 #[.string ⟨l.toArray⟩, .string ⟨m.toArray⟩] w fun e w' => e = .returned (.bool b) ∧ w' = w := by
  rw [← hb]
  exact Tryz.strings_HasPrefix ⟨l.toArray⟩ ⟨m.toArray⟩ w
theorem dash_cases (l : List UInt8) : (l = [45] ∧ LX.dash l = true) ∨ (l ≠ [45] ∧ [45, 32].isPrefixOf l = LX.dash l) := by
  match l with
  | [] => exact .inr ⟨by simp, rfl⟩
  | [c] =>
    by_cases h : c = 45
    · subst h; exact .inl ⟨rfl, rfl⟩
    · exact .inr ⟨by simpa using h, by simp [LX.dash, List.isPrefixOf, h]⟩
  | c :: d :: t =>
    refine .inr ⟨by simp, ?_⟩
    show (45 == c && (32 == d && true)) = (c == 45 && d == 32)
    rw [Bool.and_true, Bool.beq_comm, Bool.beq_comm (a := (32 : UInt8))]
set_option maxHeartbeats 1000000 in
theorem ldash_any (l : List UInt8) (w : World) :
    Calls Tryz.prog 124 #[.string ⟨l.toArray⟩] w fun e w' => e = .returned (.bool (LX.dash l)) ∧ w' = w := by
  rcases dash_cases l with ⟨rfl, h⟩ | ⟨h1, h2⟩
  · rw [h]
    go_enter Tryz.func124, Tryz.ntmps124
    go_wp2
    go_ret
    exact ⟨rfl, rfl⟩
  · have HP := Lib.hid (hasp_any l [45, 32] _ h2 w)
    have hne : (l == [45]) = false := beq_eq_false_iff_ne.2 h1
    clear h1 h2
    generalize LX.dash l = b at *
    go_enter Tryz.func124, Tryz.ntmps124
    go_wp2_with (go_at_call 120; refine HP.out.mono ?_; rintro e w1 ⟨rfl, hw1⟩; replace hw1 := hw1.symm; subst hw1)
    go_ret
    exact ⟨rfl, rfl⟩
end Go.Proofs.YtgfhabofhefaaaaGreatDoor
