/- Slices of lines: what one reads as, what a call's own one holds. The rows of a text, as bytes.Split tells them. -/
import Derived.Test.YthhngkoopaolkaaGreatDoorLnMath
import Derived.Test.YthhngkoopaolkaaGreatDoorShelf
import Derived.Test.YthhngkoopaolkaaGreatDoorDsA
import Derived.Test.YthhngkoopaolkaaGreatDoorLnC
import Derived.Deep.AppendLies
import Derived.Lib.SlSplitV
namespace Go.Proofs.YthhngkoopaolkaaGreatDoor
open Go.RowKit

/-- The cells of a line, of lines. -/
def lc (x : LN.Ln) : Array Value := #[.int .i64 (x.1 : Int), .int .i64 (x.2.1 : Int), .string ⟨x.2.2.toArray⟩]
def lv1 (x : LN.Ln) : List Value := [.int .i64 (x.1 : Int), .int .i64 (x.2.1 : Int), .string ⟨x.2.2.toArray⟩]
def lv (ls : List LN.Ln) : List Value := ls.flatMap lv1
theorem lv_app (a b : List LN.Ln) : lv (a ++ b) = lv a ++ lv b := by simp [lv]
theorem lv_at : ∀ {ls : List LN.Ln} {j : Nat} {x : LN.Ln}, ls[j]? = some x → (lv ls)[j * 3]? = some (.int .i64 (x.1 : Int)) ∧ (lv ls)[j * 3 + 1]? = some (.int .i64 (x.2.1 : Int)) ∧ (lv ls)[j * 3 + 2]? = some (.string ⟨x.2.2.toArray⟩)
  | [], _, _, h => by simp at h
  | x :: ls, 0, s, h => by
    have : x = s := by simpa using h
    subst this
    exact ⟨rfl, rfl, rfl⟩
  | x :: ls, j + 1, s, h => by
    have h' : ls[j]? = some s := by simpa using h
    have hh := lv_at h'
    have e1 : ∀ i, (lv (x :: ls))[(j + 1) * 3 + i]? = (lv ls)[j * 3 + i]? := by
      intro i
      have e0 : lv (x :: ls) = lv1 x ++ lv ls := rfl
      rw [e0, List.getElem?_append_right (by simp [lv1]; omega)]
      congr 1
      simp [lv1]; omega
    have e2 := e1 0
    simp only [Nat.add_zero] at e2
    rw [e2, e1, e1]
    exact hh
theorem lv_one {ls : List LN.Ln} : ∀ u ∈ lv ls, u.oneCell' = true := by
  intro u hu
  obtain ⟨s, _, h⟩ := List.mem_flatMap.1 hu
  simp [lv1] at h
  rcases h with rfl | rfl | rfl <;> rfl
/-- A line lies at b, from cell o on. -/
structure At3 (w : World) (b o : Nat) (x : LN.Ln) : Prop where
  c0 : w.cell? ⟨b, o, none⟩ = some (.int .i64 (x.1 : Int))
  c1 : w.cell? ⟨b, o + 1, none⟩ = some (.int .i64 (x.2.1 : Int))
  c2 : w.cell? ⟨b, o + 2, none⟩ = some (.string ⟨x.2.2.toArray⟩)
theorem At3.below {w w' : World} {b o : Nat} {x : LN.Ln} (h : At3 w b o x) (hb : Below w.heap.size w w') : At3 w' b o x :=
  ⟨(hb.cell (cell_lt h.c0)).trans h.c0, (hb.cell (cell_lt h.c1)).trans h.c1, (hb.cell (cell_lt h.c2)).trans h.c2⟩

/-- The slice value v reads, in w, as the lines ls. -/
def Rdn (w : World) (v : Value) (ls : List LN.Ln) : Prop :=
  ∃ ao cap, v = .slice ao ls.length cap ∧ ls.length ≤ cap ∧ cap ≤ maxLen ∧ (ao = none → cap = 0) ∧ ∀ j x, ls[j]? = some x → ∃ b off, ao = some ⟨b, off, none⟩ ∧ At3 w b (off + j * 3) x
theorem Rdn.below {w w' : World} {v : Value} {ls : List LN.Ln} (h : Rdn w v ls) (hb : Below w.heap.size w w') : Rdn w' v ls := by
  obtain ⟨ao, cap, hv, h1, h2, h3, h4⟩ := h
  refine ⟨ao, cap, hv, h1, h2, h3, fun j s hs => ?_⟩
  obtain ⟨b, off, hx, c⟩ := h4 j s hs
  exact ⟨b, off, hx, c.below hb⟩
theorem Rdn.nil (w : World) : Rdn w (.slice none 0 0) [] := ⟨none, 0, rfl, by simp, by simp [maxLen], fun _ => rfl, by simp⟩

/-- The slice value v is a row of the call's own, whose elements are the lines ls. -/
def Ownn (w : World) (base : Nat) (v : Value) (ls : List LN.Ln) : Prop := w.ownsRow base 100 3 v ls.length (lv ls)
theorem Ownn.nil (w : World) (base : Nat) : Ownn w base (.slice none 0 0) [] := World.ownsRow_nil w base _ 3
theorem Ownn.below {w w' : World} {base : Nat} {v : Value} {ls : List LN.Ln} (h : Ownn w base v ls) (hb : Below w.heap.size w w') : Ownn w' base v ls := by
  refine ⟨h.1, ?_⟩
  rcases h.2 with hn | ⟨g, cap, cur, hv, hbg, hg, rest⟩
  · exact .inl hn
  · exact .inr ⟨g, cap, cur, hv, hbg, (hb.block g (Array.getElem?_eq_some_iff.1 hg).1).trans hg, rest⟩
theorem Ownn.rd {w : World} {base : Nat} {v : Value} {ls : List LN.Ln} (h : Ownn w base v ls) : Rdn w v ls := by
  rcases h.2 with ⟨hv, hn⟩ | ⟨g, cap, cur, hv, hb, hg, hnc, hcm, hcs, ht⟩
  · obtain rfl : ls = [] := List.length_eq_zero_iff.1 hn
    rw [hv]; exact Rdn.nil w
  · refine ⟨some ⟨g, 0, none⟩, cap, hv, hnc, hcm, (by intro h; cases h), fun j s hs => ⟨g, 0, rfl, ?_⟩⟩
    obtain ⟨k0, k1, k2⟩ := lv_at hs
    have q0 := World.ownsRow.cells h (by rw [hv]; rfl) _ _ k0
    have q1 := World.ownsRow.cells h (by rw [hv]; rfl) _ _ k1
    have q2 := World.ownsRow.cells h (by rw [hv]; rfl) _ _ k2
    rw [Addr.add_lit] at q0 q1 q2
    simp only [Nat.zero_add] at q0 q1 q2 ⊢
    exact ⟨q0, q1, q2⟩
theorem Ownn.slice {w : World} {base : Nat} {v : Value} {ls : List LN.Ln} (h : Ownn w base v ls) : ∃ ao cap, v = .slice ao ls.length cap := by
  rcases h.2 with ⟨hv, hn⟩ | ⟨g, cap, cur, hv, _⟩
  · exact ⟨none, 0, by rw [hv, hn]⟩
  · exact ⟨_, cap, hv⟩
theorem Ownn.ownBlock {w : World} {base : Nat} {v : Value} {ls : List LN.Ln} (h : Ownn w base v ls) {g : Nat} (hg : v.ownBlock = some g) : (∃ cur, w.heap[g]? = some (.cells cur 100 (0, 0))) ∧ base ≤ g ∧ g < w.heap.size := by
  rcases h.2 with ⟨hv, _⟩ | ⟨g', cap, cur, hv, hb, hc, _⟩
  · rw [hv] at hg; cases hg
  · rw [hv] at hg
    obtain rfl : g' = g := Option.some.inj hg
    exact ⟨⟨cur, hc⟩, hb, (Array.getElem?_eq_some_iff.1 hc).1⟩
theorem Ownn.kb {w w' : World} {base : Nat} {v : Value} {ls : List LN.Ln} {p q : Option Nat} (h : Ownn w base v ls) (hk : Kb w w' p q) (h1 : v.ownBlock = none ∨ v.ownBlock ≠ p) (h2 : v.ownBlock = none ∨ v.ownBlock ≠ q) : Ownn w' base v ls := by
  refine ⟨h.1, ?_⟩
  rcases h.2 with hn | ⟨g, cap, cur, rfl, hb, hgg, rest⟩
  · exact .inl hn
  · refine .inr ⟨g, cap, cur, rfl, hb, ?_, rest⟩
    rw [hk.block g (Array.getElem?_eq_some_iff.1 hgg).1 (by simpa [Value.ownBlock] using h1) (by simpa [Value.ownBlock] using h2)]
    exact hgg
theorem Ownn.off {w : World} {base : Nat} {T : TypeId} {v : Value} {ls : List LN.Ln} {p : Nat} {cs : Array Value} (h : Ownn w base v ls) (hs : Str w p T cs) (hne : 100 ≠ T) : v.ownBlock = none ∨ v.ownBlock ≠ some p := by
  cases hg : v.ownBlock with
  | none => exact .inl rfl
  | some g =>
    right
    intro e
    obtain rfl := Option.some.inj e
    obtain ⟨⟨cur, hc⟩, _⟩ := h.ownBlock hg
    have h' : w.heap[g]? = some (.cells cs T (0, 0)) := hs
    rw [h'] at hc
    simp at hc
    exact hne hc.2.symm
theorem Ownn.base {w : World} {b b' : Nat} {v : Value} {ls : List LN.Ln} (h : Ownn w b v ls) (hb : b' ≤ b) : Ownn w b' v ls := by
  refine ⟨h.1, ?_⟩
  rcases h.2 with hn | ⟨g, cap, cur, hv, hbg, rest⟩
  · exact .inl hn
  · exact .inr ⟨g, cap, cur, hv, Nat.le_trans hb hbg, rest⟩
theorem Tryz.info_line : (Tryz.prog.info? 100).map (fun i => (i.zero, i.size, i.bytes)) = some (some (.agg #[.int .i64 0, .int .i64 0, .string ⟨#[]⟩]), 3, 32) := by kernel_rfl
theorem line_size : (Tryz.prog.info? 100).map (·.size) = some 3 := by kernel_rfl
theorem Str.at3 {x : World} {p : Nat} {T : TypeId} {l : LN.Ln} (h : Str x p T (lc l)) : At3 x p 0 l := ⟨h.cell 0, h.cell 1, h.cell 2⟩
theorem line_news {w : World} {g0 : Nat} {x : LN.Ln} (hc : At3 w g0 0 x) : ∀ j u, (lv [x])[j]? = some u → w.cell? ((⟨g0, 0, none⟩ : Addr).add j) = some u := by
  intro j y hy
  rw [Addr.add_lit, Nat.zero_add]
  match j, hy with
  | 0, hy =>
    have : Value.int .i64 (x.1 : Int) = y := by simpa [lv, lv1] using hy
    rw [← this]; exact hc.c0
  | 1, hy =>
    have : Value.int .i64 (x.2.1 : Int) = y := by simpa [lv, lv1] using hy
    rw [← this]; exact hc.c1
  | 2, hy =>
    have : Value.string ⟨x.2.2.toArray⟩ = y := by simpa [lv, lv1] using hy
    rw [← this]; exact hc.c2
  | j + 3, hy => simp [lv, lv1] at hy
/-- 'append(l, x)' of lines, l the call's own. -/
theorem wpList_append_line {w : World} {ops : Array Oper} {rest : List Oper} {o : Oper} {a : Act} {Q : Exit → Act → World → Prop} (hgd : o.guard = none) (s x : Operand)
    (ho : o.op = .call { callee := .builtin .append, args := #[s, x], argTypes := #[53, 53] })
    (base : Nat) {v : Value} {ls : List LN.Ln} {l : LN.Ln} {g0 c : Nat} (hs : a.eval s = v) (hown : Ownn w base v ls) (hx : a.eval x = .slice (some ⟨g0, 0, none⟩) 1 c) (hc : At3 w g0 0 l)
    (hlen : ls.length ≤ 20000) (hbase : base ≤ w.heap.size)
    (h : ∀ g cap w', Ownn w' base (.slice (some ⟨g, 0, none⟩) (ls.length + 1) cap) (ls ++ [l]) → w.grownBy w' v.ownBlock → wpList Tryz.prog ops Q rest (a.put o.dst (.slice (some ⟨g, 0, none⟩) (ls.length + 1) cap)) w') : wpList Tryz.prog ops Q (o :: rest) a w := by
  obtain ⟨i, hi, hz0, hz1, hz2⟩ := infoparts Tryz.info_line
  refine wpList_append_lies _ hgd s x _ ho base _ i _ 3 32 Tryz.underlying53 hi hz0 hz1 hz2 rfl (by decide) v ls.length (lv ls) hs hown ⟨g0, 0, none⟩ 1 c (lv [l]) hx rfl (line_news hc) lv_one (by decide) (by unfold maxLen; omega) (by omega) hbase _ rfl ?_
  intro g cap' w' ho' hg _ _
  refine h g cap' w' ?_ hg
  show w'.ownsRow base _ 3 _ (ls ++ [l]).length (lv (ls ++ [l]))
  rw [lv_app, List.length_append]; exact ho'
theorem splitV_cap : ∀ (k : Nat) (a : Addr) (cap : Nat) (l : List UInt8), l.length ≤ cap → ∀ v ∈ Lib.splitV [10] 0 k a cap l, ∃ a' len cp, v = .slice (some a') len cp ∧ cp ≤ cap
  | 0, a, cap, l, _, v, hv => by
    simp [Lib.splitV] at hv
    exact ⟨a, l.length, cap, hv, Nat.le_refl _⟩
  | k + 1, a, cap, l, hl, v, hv => by
    unfold Lib.splitV at hv
    by_cases hm : (Lib.index l [10] == -1) = true
    · rw [if_pos hm] at hv
      simp at hv
      exact ⟨a, l.length, cap, hv, Nat.le_refl _⟩
    · rw [if_neg hm] at hv
      have hge := Lib.index_ge l [10]
      have hne : Lib.index l [10] ≠ -1 := fun e => hm (beq_iff_eq.2 e)
      have hroom := Lib.index_room l [10] (by omega)
      simp only [List.length_cons, List.length_nil] at hroom
      rcases List.mem_cons.1 hv with rfl | hv
      · exact ⟨a, _, _, rfl, by omega⟩
      · obtain ⟨a', len, cp, h1, h2⟩ := splitV_cap k _ _ _ (by rw [List.length_drop]; simp; omega) v hv
        exact ⟨a', len, cp, h1, by omega⟩
def zs (bs : List UInt8) : List Int := bs.map fun b => (b.toNat : Int)
theorem zs_bytes (bs : List UInt8) : Lib.bytesOf (zs bs) = bs := by
  unfold Lib.bytesOf zs
  rw [List.map_map]
  conv => rhs; rw [← List.map_id bs]
  apply List.map_congr_left
  intro b _
  simp
theorem zs_get {bs : List UInt8} {i : Nat} (h : i < bs.length) : (zs bs).getD i 0 = (bs[i].toNat : Int) := by
  simp [zs, List.getD_eq_getElem?_getD, h]
/-- bytes.Split at byte 10: the rows. -/
theorem split_any (v : Value) (bs : List UInt8) (g : Nat) (w : World) (hr : Rdv w v (bv bs)) (hl : bs.length ≤ 16384) (hg : w.cell? ⟨g, 0, none⟩ = some (.int .u8 10)) (hm : MaxIs w) :
    Calls Tryz.prog 43 #[v, .slice (some ⟨g, 0, none⟩) 1 1] w fun e w' => ∃ x vs, e = .returned x ∧ Own w' w.heap.size 22 x vs ∧ RdAll w vs (LN.rows bs) ∧ Below w.heap.size w w' := by
  obtain ⟨ao, cap, rfl, h1, h2, h3, h4⟩ := hr
  rw [bv_len] at h1 ⊢
  cases ao with
  | none =>
    obtain rfl := h3 rfl
    obtain rfl : bs = [] := List.length_eq_zero_iff.1 (by omega)
    refine (Tryz.bytes_Split_nil (some ⟨g, 0, none⟩) 1 1 w (by decide) (by decide) (fun _ => ⟨g, 0, 10, rfl, hg⟩)).mono ?_
    rintro e w' ⟨rfl, rfl⟩
    refine ⟨_, [.slice none 0 0], rfl, Own.lit w [.slice none 0 0] (Nat.le_refl _) (by decide), ⟨rfl, ?_⟩, below_alloc _ _⟩
    intro j v bs h1 h2
    cases j with
    | zero =>
      have e1 : Value.slice none 0 0 = v := by simpa using h1
      have e2 : [] = bs := by simpa [LN.rows] using h2
      subst e1 e2
      exact Rdv.nil _
    | succ j => simp at h1
  | some a =>
    obtain ⟨m, hm⟩ := hm
    have hcells : ∀ i, i < bs.length → w.cell? (a.add i) = some (.int .u8 ((zs bs).getD i 0)) := by
      intro i hi
      obtain ⟨x, hx, hc⟩ := h4 i _ (bv_get hi)
      obtain rfl := Option.some.inj hx
      rw [hc, zs_get hi]
    have T := Tryz.bytes_Split a ⟨g, 0, none⟩ bs.length cap 1 1 (zs bs) [10] m w (by simp [zs]) rfl (by
        intro x hx
        obtain ⟨b, _, rfl⟩ := List.mem_map.1 hx
        have := b.toNat_lt
        omega) (by intro y hy; obtain rfl : y = 10 := by simpa using hy
                   decide) hcells (by
        intro i hi
        obtain rfl : i = 0 := by omega
        exact hg) h1 (by omega) (by decide) (by unfold maxLen at h2; omega) (by decide) hm
    rw [zs_bytes] at T
    have e10 : Lib.bytesOf [10] = [10] := rfl
    rw [e10] at T
    refine T.mono ?_
    rintro e w' ⟨rfl, q, rfl⟩
    generalize hP : Lib.splitV [10] 0 (Lib.count bs [10]) a cap bs = pieces
    have hlen : pieces.length = Lib.count bs [10] + 1 := by
      rw [← hP, Lib.splitV_length, LN.split_all, LN.rows_len, Lib.count_one]
    have hB : Below w.heap.size w ((w.alloc (.cells pieces.toArray 22)).drewN q) := below_tr (below_alloc _ _) (below_drewN _ _)
    refine ⟨_, pieces, rfl, ?_, ⟨?_, ?_⟩, hB⟩
    · have := (Own.lit (base := w.heap.size) (e := 22) w pieces (Nat.le_refl _) (by
        rw [hlen, Lib.count_one]
        have := List.count_le_length (a := (10 : UInt8)) (l := bs)
        unfold maxLen; omega)).below (below_drewN _ q)
      rwa [hlen] at this
    · rw [hlen, LN.rows_len, Lib.count_one]
    · intro j v row hv hrow
      obtain ⟨a', off, len, cp, rfl, hlc, hol, hrw, hadd⟩ := Lib.splitV_spec [10] 0 (by simp) (by simp) (Lib.count bs [10]) a cap bs h1 j v (by rw [hP]; exact hv)
      rw [LN.split_all, hrow] at hrw
      obtain rfl := Option.some.inj hrw
      obtain ⟨a2, len2, cp2, he, hcp⟩ := splitV_cap (Lib.count bs [10]) a cap bs h1 _ (by rw [hP]; exact List.mem_of_getElem? hv)
      have hcp' : cp ≤ cap := by cases he; exact hcp
      have hrl : (bv ((bs.drop off).take len)).length = len := by rw [bv_len]; simp; omega
      refine ⟨some a', cp, by rw [hrl], by rw [hrl]; exact hlc, by omega, (by intro h; cases h), fun i u hu => ⟨a', rfl, ?_⟩⟩
      have hi : i < len := by
        have := (List.getElem?_eq_some_iff.1 hu).1
        omega
      rw [hadd i hi, hcells (off + i) (by omega), zs_get (by omega), ← hu]
      rw [bv_get (by simp; omega)]
      simp
end Go.Proofs.YthhngkoopaolkaaGreatDoor
