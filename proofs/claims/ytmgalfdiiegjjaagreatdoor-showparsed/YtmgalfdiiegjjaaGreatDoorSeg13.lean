/- Several texts in one. -/
import Derived.Test.YtmgalfdiiegjjaaGreatDoorSeg12
import Derived.Test.YtmgalfdiiegjjaaGreatDoorSeg09
namespace Go.Proofs.YtmgalfdiiegjjaaGreatDoor
namespace SH
open LX (B Pc Lz)
open DC (Nd bl blk itm)

/-- A piece of a line: its text may be, its key may be. -/
structure Pg (x : Pc) : Prop where
  txt : x.1 = 3 → x.2.2.2.1.length ≤ 200 ∧ (x.2.2.2.2 = true ∨ plainb x.2.2.2.1 = true)
  key : x.1 = 2 → keyb x.2.2.2.1 = true
def AtE (ns : List Ni) (n : Nat) (l : List Nd) : Prop := ∀ i x, l[i]? = some x → ns[n + i]? = some (up x)
theorem AtE.left {ns : List Ni} {n : Nat} {a b : List Nd} (h : AtE ns n (a ++ b)) : AtE ns n a := fun i x hx => h i x (by
  rw [List.getElem?_append_left (List.getElem?_eq_some_iff.1 hx).1]; exact hx)
theorem AtE.right {ns : List Ni} {n : Nat} {a b : List Nd} (h : AtE ns n (a ++ b)) : AtE ns (n + a.length) b := fun i x hx => by
  have := h (a.length + i) x (by rw [List.getElem?_append_right (by omega), Nat.add_sub_cancel_left]; exact hx)
  rwa [← Nat.add_assoc] at this
theorem AtE.tail {ns : List Ni} {n : Nat} {x : Nd} {l : List Nd} (h : AtE ns n (x :: l)) : AtE ns (n + 1) l := fun i y hy => by
  have := h (i + 1) y (by simpa using hy)
  rwa [show n + (i + 1) = n + 1 + i by omega] at this
theorem fits_list {ln : Int} {ks : List B} {is : List Int} (h1 : ks = []) (h2 : is ≠ []) : fits ⟨2, ln, [], false, ks, is⟩ = true := by
  unfold fits
  simp only
  rw [if_neg (by decide), if_pos trivial]
  exact decide_eq_true ⟨h1, h2, trivial, trivial⟩
theorem fits_map {ln : Int} {ks : List B} {is : List Int} (h1 : ks.length = is.length) (h2 : is ≠ []) (h3 : ks.Nodup) (h4 : ∀ x ∈ ks, keyb x = true) : fits ⟨3, ln, [], false, ks, is⟩ = true := by
  unfold fits
  simp only
  rw [if_neg (by decide), if_neg (by decide), if_pos trivial, Bool.and_eq_true, List.all_eq_true]
  exact ⟨decide_eq_true ⟨h1, h2, trivial, trivial, h3⟩, h4⟩
theorem both_wk : ∀ f,
    (∀ d N l ms r, (∀ x ∈ l, Pg x) → blk f d N l = .ok (ms, r) → ∀ ns g, AtE ns N ms → g + d = 26 → wk ns g N d = some (N + ms.length)) ∧
    (∀ k c d N has l ks is ms r, (k = 1 ∨ k = 2) → N ≤ 2000 → (∀ x ∈ l, Pg x) → itm f k c d N has l = .ok (ks, is, ms, r) →
      (k = 1 → ks = []) ∧ (k = 2 → ks.length = is.length ∧ ks.Nodup ∧ (∀ x ∈ ks, x ∉ has) ∧ ∀ x ∈ ks, keyb x = true) ∧ (DC.comes k c l = true → is ≠ []) ∧
      ∀ ns g, AtE ns N ms → g + d = 26 → (is.map fun n : Nat => (n : Int)).foldlM (fun (m : Nat) (k : Int) => if k = (m : Int) then wk ns g m d else none) N = some (N + ms.length))
  | 0 => ⟨by intro d N l ms r _ h; simp [blk] at h, by intro k c d N has l ks is ms r _ _ _ h; simp [itm] at h⟩
  | f + 1 => by
    obtain ⟨hb, hi⟩ := both_wk f
    constructor
    · intro d N l ms r hp h ns g ha hg
      cases l with
      | nil => simp [blk] at h
      | cons p l =>
        rw [blk] at h
        split at h
        · cases h
        rename_i hk0
        split at h
        · cases h
        rename_i hd
        split at h
        · cases h
        rename_i hN
        obtain ⟨g, rfl⟩ : ∃ g', g = g' + 1 := ⟨g - 1, by omega⟩
        have hpp := hp p (by simp)
        split at h
        · rename_i h3
          simp only [DC.Out.ok.injEq, Prod.mk.injEq] at h
          obtain ⟨rfl, rfl⟩ := h
          have h0 := ha 0 _ rfl
          rw [Nat.add_zero] at h0
          obtain ⟨t1, t2⟩ := hpp.txt h3
          rw [wk, h0]
          simp only
          rw [if_pos]
          · rfl
          · refine ⟨by omega, ?_⟩
            unfold fits DC.leaf up
            simp only [if_pos, List.map_nil]
            rw [Bool.and_eq_true]
            refine ⟨decide_eq_true ⟨trivial, trivial, t1⟩, ?_⟩
            rw [Bool.or_eq_true]
            exact t2
        · rename_i h3
          obtain ⟨b, hb1, hb2⟩ := DC.bind_ok h
          obtain ⟨ks, is, ms', r'⟩ := b
          simp only [DC.Out.ok.injEq, Prod.mk.injEq] at hb2
          obtain ⟨rfl, rfl⟩ := hb2
          have hkk : p.1 = 1 ∨ p.1 = 2 := by
            rcases DC.nk_three hk0 with h | h | h
            · exact .inl h
            · exact .inr h
            · exact absurd h h3
          obtain ⟨k1, k2, k3, k4⟩ := hi _ _ _ _ _ _ _ _ _ _ hkk (by omega) hp hb1
          have h0 := ha 0 _ rfl
          rw [Nat.add_zero] at h0
          have hne := k3 (by simp [DC.comes])
          have hfo := k4 ns g ha.tail (by omega)
          rw [wk, h0]
          simp only
          rw [if_pos]
          · show List.foldlM _ (N + 1) (is.map fun n : Nat => (n : Int)) = _
            rw [hfo, List.length_cons]
            congr 1
            omega
          · refine ⟨by omega, ?_⟩
            rcases hkk with hk | hk
            · rw [show DC.nk p.1 = 2 by rw [hk]; rfl]
              exact fits_list (k1 hk) (by simpa using hne)
            · obtain ⟨j1, j2, _, j4⟩ := k2 hk
              rw [show DC.nk p.1 = 3 by rw [hk]; rfl]
              exact fits_map (by rw [List.length_map]; exact j1) (by simpa using hne) j2 j4
    · intro k c d N has l ks is ms r hk hN hp h
      cases l with
      | nil =>
        simp only [itm, DC.Out.ok.injEq, Prod.mk.injEq] at h
        obtain ⟨rfl, rfl, rfl, rfl⟩ := h
        exact ⟨fun _ => rfl, fun _ => ⟨rfl, List.nodup_nil, by simp, by simp⟩, by simp [DC.comes], fun ns g _ _ => rfl⟩
      | cons p l =>
        rw [itm] at h
        split at h
        · rename_i hc
          split at h
          · cases h
          rename_i htw
          split at h
          · cases h
          obtain ⟨b, hb1, hb2⟩ := DC.bind_ok h
          obtain ⟨e, r1⟩ := b
          obtain ⟨q, hq1, hq2⟩ := DC.plus_ok hb2
          obtain ⟨ks2, is2, ms2, r2⟩ := q
          simp only [Prod.mk.injEq] at hq2
          obtain ⟨rfl, rfl, rfl, rfl⟩ := hq2
          simp only at hq1
          obtain ⟨⟨⟨t, ht⟩, hm⟩, _, _⟩ := DC.blk_fine hb1
          have hp1 : ∀ x ∈ l, Pg x := fun x hx => hp x (by simp [hx])
          have hp2 : ∀ x ∈ r1, Pg x := fun x hx => hp1 x (by rw [ht]; simp [hx])
          obtain ⟨k1, k2, k3, k4⟩ := hi _ _ _ _ _ _ _ _ _ _ hk (by omega) hp2 hq1
          have hpk := hp p (by simp)
          have hck := (DC.comes_iff.1 hc).1
          refine ⟨fun hk1 => ?_, fun hk2 => ?_, fun _ => by simp, fun ns g ha hg => ?_⟩
          · rw [k1 hk1, if_neg (by rw [hk1]; decide)]; rfl
          · obtain ⟨j1, j2, j3, j4⟩ := k2 hk2
            rw [if_pos hk2] at j3
            rw [if_pos hk2]
            have hnew : p.2.2.2.1 ∉ has := fun hx => htw ⟨hk2, hx⟩
            refine ⟨by simp [j1], ?_, ?_, ?_⟩
            · rw [List.singleton_append, List.nodup_cons]
              exact ⟨fun hx => j3 _ hx (by simp), j2⟩
            · intro x hx
              rw [List.singleton_append, List.mem_cons] at hx
              rcases hx with rfl | hx
              · exact hnew
              · exact fun hh => j3 x hx (by simp [hh])
            · intro x hx
              rw [List.singleton_append, List.mem_cons] at hx
              rcases hx with rfl | hx
              · exact hpk.key (by rw [hck, hk2])
              · exact j4 x hx
          · rw [List.singleton_append, List.map_cons, List.foldlM_cons]
            simp only [if_pos]
            rw [hb _ _ _ _ _ hp1 hb1 ns g ha.left hg]
            show List.foldlM _ (N + e.length) (is2.map fun n : Nat => (n : Int)) = _
            rw [k4 ns g ha.right hg, List.length_append]
            congr 1
            omega
        · rename_i hc
          simp only [DC.Out.ok.injEq, Prod.mk.injEq] at h
          obtain ⟨rfl, rfl, rfl, rfl⟩ := h
          exact ⟨fun _ => rfl, fun _ => ⟨rfl, List.nodup_nil, by simp, by simp⟩, fun h => absurd h hc, fun ns g _ _ => rfl⟩
/-- What pieces are read as may be a document. -/
theorem doc_chk {l : List Pc} {ns : List Nd} (hp : ∀ x ∈ l, Pg x) (h : DC.doc l = .ok ns) : chk (ns.map up) := by
  unfold DC.doc at h
  split at h
  · cases h
  · obtain ⟨a, h1, h2⟩ := DC.bind_ok h
    obtain ⟨e, r⟩ := a
    obtain ⟨⟨_, hm⟩, h4, _⟩ := DC.blk_fine h1
    cases r with
    | nil =>
      simp only [DC.Out.ok.injEq] at h2
      subst h2
      have := (both_wk _).1 1 0 l e [] hp h1 (e.map up) 25 (fun i x hx => by rw [Nat.zero_add, List.getElem?_map, hx]; rfl) rfl
      rw [Nat.zero_add] at this hm
      unfold chk
      rw [List.length_map]
      exact ⟨h4, hm, this⟩
    | cons q r => cases h2
end SH
end Go.Proofs.YtmgalfdiiegjjaaGreatDoor

/- Lines and pieces of a parsed text are short: over lists. No program is named here. -/
namespace Go.Proofs.YtmgalfdiiegjjaaGreatDoor
namespace LX
theorem lng_len {x : B} {q : Bool} {k : Int} {t : B} {r : Bool} (h : lng x q = (k, t, r)) : t.length ≤ 200 := by
  unfold lng at h
  split at h
  · simp only [Prod.mk.injEq] at h; rw [← h.2.1]; simp
  · simp only [Prod.mk.injEq] at h; rw [← h.2.1]; omega
theorem txt_len (l : B) : (txt l).2.1.length ≤ 200 := by
  cases l with
  | nil => simp [txt]
  | cons c t =>
    have key : ∀ x q, (lng x q).2.1.length ≤ 200 := fun x q => lng_len (k := (lng x q).1) (t := (lng x q).2.1) (r := (lng x q).2.2) rfl
    rw [txt]
    split
    · split
      · simp
      · exact key _ _
    split
    · split
      · simp
      · exact key _ _
    split
    · simp
    · exact key _ _
def Short (ls : List Pc) : Prop := ∀ x ∈ ls, x.2.2.2.1.length ≤ 200
theorem Short.app {a b : List Pc} (h : Short a) (k : Short b) : Short (a ++ b) := fun x hx => (List.mem_append.1 hx).elim (h x) (k x)
theorem Short.one {x : Pc} (h : x.2.2.2.1.length ≤ 200) : Short [x] := fun y hy => by rw [List.mem_singleton.1 hy]; exact h
theorem Short.nil : Short [] := by intro x h; cases h
theorem fin_short {no col : Int} {acc : List Pc} {l : B} (h : Short acc) : Short (fin no col acc l).2 := by
  unfold fin
  split
  · exact h
  split
  · exact h.app (Short.one (txt_len l))
  · exact Short.nil
theorem mid_short {no col : Int} {acc : List Pc} {l : B} (h : Short acc) : Short (mid no col acc l).2 := by
  unfold mid
  split
  · exact fin_short h
  split
  · exact Short.nil
  · exact fin_short (h.app (Short.one (by simp only [List.length_take]; omega)))
theorem go_short {no col : Int} : ∀ {n : Nat} {acc : List Pc} {l : B}, Short acc → Short (go no col n acc l).2
  | 0, _, _, h => mid_short h
  | n + 1, acc, l, h => by
    rw [go]
    split
    · exact go_short (h.app (Short.one (by simp)))
    · exact mid_short h
theorem row_short (l : Lz) : Short (row l).2 := by
  unfold row
  split
  · exact Short.nil
  · exact go_short Short.nil
theorem all_short : ∀ ls : List Lz, Short (all ls).1.2
  | [] => Short.nil
  | l :: ls => by
    rw [all]
    split
    · simp only
      split
      · exact (row_short l).app (all_short ls)
      · exact Short.nil
    · exact Short.nil
end LX
namespace DC
def told (o : Out (List Nd)) : List Nd := match o with
  | .ok a => a
  | .bad _ _ => []
def wrong (o : Out (List Nd)) : Int × Int := match o with
  | .ok _ => (0, 0)
  | .bad k n => (k, n)
end DC
namespace DC
theorem rows_sum (l : LX.B) : ((LN.rows l).map List.length).sum ≤ l.length := by
  induction l with
  | nil => simp [LN.rows]
  | cons c l ih =>
    rw [LN.rows]
    split
    · simp only [List.map_cons, List.sum_cons, List.length_nil, List.length_cons]; omega
    · obtain ⟨h, t, e⟩ := LN.rows_ne l
      rw [e] at ih ⊢
      simp only [List.map_cons, List.sum_cons, List.length_cons] at ih ⊢
      omega
theorem lns_wt : ∀ (n : Nat) (rs : List LX.B), LX.wt ((LN.lns n rs).map zl) ≤ (rs.map List.length).sum
  | _, [] => Nat.le_refl 0
  | n, r :: rs => by
    have ih := lns_wt (n + 1) rs
    rw [LN.lns]
    split
    · simp only [List.map_cons, List.sum_cons]; omega
    · rw [List.map_cons, LX.wt_cons]
      simp only [List.map_cons, List.sum_cons]
      have h1 : (LN.said r).length ≤ r.length := by
        unfold LN.said
        cases hs : LN.strip (LN.tl r) with
        | none => simp
        | some s =>
          have h2 := (LN.strip_again hs).2.1
          have h3 := tl_le r
          simp only [Option.getD_some]
          omega
      show (LN.said r).length + _ ≤ _
      omega
theorem outL_wt (l : LX.B) : LX.wt ((LN.outL l).map zl) ≤ l.length := by
  unfold LN.outL
  split
  · exact Nat.le_trans (lns_wt _ _) (rows_sum l)
  · exact Nat.zero_le _
theorem outF_small {l : LX.B} (h : (LN.outF l).1 = 0) : l.length ≤ 16384 := by
  unfold LN.outF at h
  split at h
  · cases h
  · omega
theorem outL_text {l : LX.B} (h : (LN.outF l).1 = 0) : ∀ x ∈ (LN.outL l).map zl, x.2.2.length ≤ 17000 := by
  intro x hx
  obtain ⟨y, hy, rfl⟩ := List.mem_map.1 hx
  have h1 := outF_small h
  have := (outL_le hy h1).2
  show y.2.2.length ≤ 17000
  omega
end DC
end Go.Proofs.YtmgalfdiiegjjaaGreatDoor

/- The pieces of a text's lines: their texts and keys may be; so what a text is parsed as may be a document. No program is named here. -/
namespace Go.Proofs.YtmgalfdiiegjjaaGreatDoor
namespace SH
open LX (B Pc Lz)
open DC (Nd bl blk itm)

/-- What a line says: nothing is stripped off it. -/
structure Sd (c : B) : Prop where
  go : LN.go (.out true) c = some c.length
  lst : ∀ x, c[c.length - 1]? = some x → x ≠ 32
  bad : LN.bad c = false
theorem strip_sd {c : B} (hs : LN.strip c = some c) (hb : LN.bad c = false) : Sd c := by
  have hst := hs
  unfold LN.strip at hst
  obtain ⟨e, he, het⟩ := Option.map_eq_some_iff.1 hst
  unfold LN.fin at he
  rw [List.drop_zero] at he
  obtain ⟨e', he', rfl⟩ := Option.map_eq_some_iff.1 he
  rw [Nat.add_zero] at het
  obtain ⟨k, hk1, hk2, hk3, hk4⟩ := LN.tr_take (c.take e')
  rw [hk2] at het
  have hlen := congrArg List.length het
  simp only [List.length_take] at hlen hk1
  have hle := go_le he'
  have hes : c.length = e' := by omega
  refine ⟨by rw [he', hes], ?_, hb⟩
  intro d hd2 e32
  have hpos : 0 < c.length := by
    have := (List.getElem?_eq_some_iff.1 hd2).1
    omega
  have h5 := hk4 (by omega)
  rw [List.take_of_length_le (by omega), show k = c.length by omega] at h5
  exact h5 (by rw [hd2, e32])
theorem bad_suf {c l : B} (h : l <:+ c) (hb : LN.bad c = false) : LN.bad l = false := by
  obtain ⟨a, rfl⟩ := h
  rw [bad_app, Bool.or_eq_false_iff] at hb
  exact hb.2
theorem lst_suf {c l : B} (h : l <:+ c) (hc : ∀ x, c[c.length - 1]? = some x → x ≠ 32) : ∀ x, l[l.length - 1]? = some x → x ≠ 32 := by
  obtain ⟨a, rfl⟩ := h
  intro x hx
  have hne : l ≠ [] := by rintro rfl; simp at hx
  exact hc x (by rw [last_app hne]; exact hx)
theorem tl_suf (l : B) : LX.tl l <:+ l := List.dropWhile_suffix _
theorem tl_tl : ∀ l : B, LX.tl (LX.tl l) = LX.tl l
  | [] => rfl
  | c :: l => by
    by_cases h : c = 32
    · subst h
      rw [ltl_bl]; exact tl_tl l
    · rw [ltl_self h, ltl_self h]
theorem go_tl : ∀ {l : B}, LN.go (.out true) l = some l.length → LN.go (.out true) (LX.tl l) = some (LX.tl l).length
  | [], h => h
  | c :: l, h => by
    by_cases hc : c = 32
    · subst hc
      rw [ltl_bl]
      apply go_tl
      rw [LN.go, if_neg (by decide), if_neg (by decide), if_neg (by decide), show ((32 : UInt8) == 32) = true from rfl] at h
      obtain ⟨e, h1, h2⟩ := Option.map_eq_some_iff.1 h
      rw [h1]
      simp only [List.length_cons] at h2
      congr 1
      omega
    · rw [ltl_self hc]; exact h
theorem go_dash1 {l : B} (hd : LX.dash l = true) (h : LN.go (.out true) l = some l.length) : LN.go (.out true) (LX.tl (l.drop 1)) = some (LX.tl (l.drop 1)).length := by
  cases l with
  | nil => cases hd
  | cons c l =>
    cases l with
    | nil => rfl
    | cons d l =>
      have hd' : (c == 45 && d == 32) = true := hd
      simp only [Bool.and_eq_true, beq_iff_eq] at hd'
      obtain ⟨rfl, rfl⟩ := hd'
      rw [List.drop_succ_cons, List.drop_zero, ltl_bl]
      apply go_tl
      have := go_dashes 1 l
      rw [show dashes 1 ++ l = 45 :: 32 :: l from rfl, h] at this
      obtain ⟨e, h1, h2⟩ := Option.map_eq_some_iff.1 this.symm
      rw [h1]
      simp only [List.length_cons] at h2
      congr 1
      omega
/-- A key at the front. -/
theorem key_split {l : B} (hk : LX.key l ≠ 0) : ∃ k r, l = k ++ 58 :: r ∧ k.length = LX.key l ∧ l.take (LX.key l) = k ∧ l.drop (LX.key l + 1) = r ∧ k ≠ [] ∧ (∀ c ∈ k, LX.sgn c = true) ∧ (r = [] ∨ ∃ s, r = 32 :: s) := by
  unfold LX.key at hk ⊢
  split at hk
  · rename_i he
    rw [if_pos he]
    obtain ⟨n, hn⟩ : ∃ n, LX.run l = n := ⟨_, rfl⟩
    have hnl : n ≤ l.length := by rw [← hn]; exact LX.runp_le _ _
    rw [hn] at he hk ⊢
    have hsg : ∀ c ∈ l.take n, LX.sgn c = true := by
      intro c hc
      obtain ⟨i, hi, rfl⟩ := List.mem_iff_getElem.1 hc
      rw [List.length_take] at hi
      obtain ⟨c2, h1, h2⟩ := LX.runp_at (p := LX.sgn) (l := l) (k := i) (by have : LX.runp LX.sgn l = n := hn; omega)
      rw [List.getElem_take]
      rw [List.getElem?_eq_getElem (by omega)] at h1
      rw [Option.some.inj h1]; exact h2
    have hkl : (l.take n).length = n := by rw [List.length_take]; omega
    cases hdr : l.drop n with
    | nil => rw [hdr] at he; cases he
    | cons c r =>
      rw [hdr] at he
      have hl : l = l.take n ++ c :: r := by rw [← hdr, List.take_append_drop]
      have hdrop : l.drop (n + 1) = r := by
        have := congrArg (List.drop 1) hdr
        rw [List.drop_drop, List.drop_succ_cons, List.drop_zero] at this
        rw [← this, Nat.add_comm]
      cases r with
      | nil =>
        have hc : (c == 58) = true := he
        obtain rfl : c = 58 := by simpa using hc
        exact ⟨l.take n, [], hl, hkl, rfl, hdrop, fun e => by rw [e] at hkl; simp at hkl; omega, hsg, .inl rfl⟩
      | cons d s =>
        have hc : (c == 58 && d == 32) = true := he
        simp only [Bool.and_eq_true, beq_iff_eq] at hc
        obtain ⟨rfl, rfl⟩ := hc
        exact ⟨l.take n, 32 :: s, hl, hkl, rfl, hdrop, fun e => by rw [e] at hkl; simp at hkl; omega, hsg, .inr ⟨s, rfl⟩⟩
  · exact absurd rfl hk
theorem fin_good {c : B} (hc : Sd c) {no col : Int} {acc : List Pc} {l : B} (hs : l <:+ c) (hg : LN.go (.out true) l = some l.length) (ht : LX.tl l = l) (ha : ∀ x ∈ acc, Pg x) (h : (LX.fin no col acc l).1 = 0) : ∀ x ∈ (LX.fin no col acc l).2, Pg x := by
  unfold LX.fin at h ⊢
  split
  · exact ha
  rename_i hne
  rw [if_neg hne] at h
  split at h
  · rename_i hz
    rw [if_pos hz]
    intro x hx
    simp only [List.mem_append, List.mem_singleton] at hx
    rcases hx with hx | rfl
    · exact ha x hx
    · refine ⟨fun _ => ⟨LX.txt_len l, ?_⟩, fun h => by cases h⟩
      simp only
      cases hq : (LX.txt l).2.2 with
      | true => exact .inl rfl
      | false =>
        have htx : LX.txt l = (0, (LX.txt l).2.1, false) := Prod.ext hz (Prod.ext rfl hq)
        have hl := txt_plain htx
        rw [hl] at htx ⊢
        have hl200 := LX.txt_len l
        rw [hl] at hl200
        refine .inr ?_
        have hdk : LX.dash l = false ∧ LX.key l = 0 := by
          cases l with
          | nil => exact absurd rfl hne
          | cons d t =>
            rw [LX.txt.eq_def] at htx
            simp only at htx
            split at htx
            · split at htx
              · simp at htx
              · unfold LX.lng at htx; split at htx <;> simp at htx
            split at htx
            · split at htx
              · simp at htx
              · unfold LX.lng at htx; split at htx <;> simp at htx
            split at htx
            · simp at htx
            · rename_i ho
              simp only [Bool.or_eq_true, decide_eq_true_eq, not_or, Bool.not_eq_true] at ho
              exact ⟨ho.1.2, by omega⟩
        have hrow : LX.row (0, 0, l) = (0, [(3, 0, 0, l, false)]) := by
          unfold LX.row
          simp only
          rw [if_neg (by omega), ht, LX.go_mid hdk.1, LX.mid, if_pos hdk.2, LX.fin, if_neg hne, htx]
          simp
        have hst : LN.strip l = some l := by
          unfold LN.strip LN.fin
          rw [List.drop_zero, hg]
          simp only [Option.map_some, Nat.add_zero, List.take_length, Option.some.injEq]
          exact LN.tr_ne (lst_suf hs hc.lst)
        unfold plainb
        rw [bad_suf hs hc.bad, hst, hrow]
        simp [hne, hl200]
  · rename_i hz
    exact absurd h hz
theorem mid_good {c : B} (hc : Sd c) {no col : Int} {acc : List Pc} {l : B} (hs : l <:+ c) (hg : LN.go (.out true) l = some l.length) (ht : LX.tl l = l) (ha : ∀ x ∈ acc, Pg x) (h : (LX.mid no col acc l).1 = 0) : ∀ x ∈ (LX.mid no col acc l).2, Pg x := by
  unfold LX.mid at h ⊢
  split
  · rename_i hk
    rw [if_pos hk] at h
    exact fin_good hc hs hg ht ha h
  rename_i hk
  rw [if_neg hk] at h
  split
  · rename_i hk2
    rw [if_pos hk2] at h
    cases h
  rename_i hk2
  rw [if_neg hk2] at h
  obtain ⟨k, r, h1, h2, h3, h4, h5, h6, h7⟩ := key_split hk
  rw [h3, h4] at h ⊢
  have hsuf : r <:+ l := ⟨k ++ [58], by rw [h1]; simp⟩
  have hgr : LN.go (.out true) (LX.tl r) = some (LX.tl r).length := by
    have := go_sg k (58 :: r) true h6 h5
    rw [← h1, hg, LN.go, if_neg (by decide), if_neg (by decide), if_neg (by decide), show ((58 : UInt8) == 32) = false from rfl] at this
    rcases h7 with rfl | ⟨s, rfl⟩
    · rfl
    · rw [LN.go, if_neg (by decide), if_neg (by decide), if_neg (by decide), show ((32 : UInt8) == 32) = true from rfl, LN.map_add, LN.map_add] at this
      obtain ⟨e, h8, h9⟩ := Option.map_eq_some_iff.1 this.symm
      rw [ltl_bl]
      apply go_tl
      rw [h8]
      have hll := congrArg List.length h1
      simp only [List.length_append, List.length_cons] at hll
      congr 1
      omega
  refine fin_good hc ((tl_suf r).trans (hsuf.trans hs)) hgr (tl_tl r) ?_ h
  intro x hx
  rcases List.mem_append.1 hx with hx | hx
  · exact ha x hx
  · obtain rfl := List.mem_singleton.1 hx
    refine ⟨fun h => (by cases h), fun _ => ?_⟩
    show keyb k = true
    unfold keyb
    rw [Bool.and_eq_true, List.all_eq_true]
    exact ⟨decide_eq_true ⟨h5, by omega⟩, h6⟩
theorem go_good {c : B} (hc : Sd c) {no col : Int} : ∀ {n : Nat} {acc : List Pc} {l : B}, l <:+ c → LN.go (.out true) l = some l.length → LX.tl l = l → (∀ x ∈ acc, Pg x) → (LX.go no col n acc l).1 = 0 → ∀ x ∈ (LX.go no col n acc l).2, Pg x
  | 0, acc, l, hs, hg, ht, ha, h => mid_good hc hs hg ht ha h
  | n + 1, acc, l, hs, hg, ht, ha, h => by
    rw [LX.go] at h ⊢
    split
    · rename_i hd
      rw [if_pos hd] at h
      refine go_good hc ((tl_suf _).trans ((List.drop_suffix 1 l).trans hs)) (go_dash1 hd hg) (tl_tl _) ?_ h
      intro x hx
      rcases List.mem_append.1 hx with hx | hx
      · exact ha x hx
      · obtain rfl := List.mem_singleton.1 hx
        exact ⟨fun h => (by cases h), fun h => (by cases h)⟩
    · rename_i hd
      rw [if_neg hd] at h
      exact mid_good hc hs hg ht ha h
theorem row_good {x : Lz} (hc : Sd x.2.2) (h : (LX.row x).1 = 0) : ∀ y ∈ (LX.row x).2, Pg y := by
  unfold LX.row at h ⊢
  split
  · intro y hy; cases hy
  · rename_i hi
    rw [if_neg hi] at h
    exact go_good hc (tl_suf _) (go_tl hc.go) (tl_tl _) (by simp) h
theorem all_good : ∀ {ls : List Lz}, (∀ x ∈ ls, Sd x.2.2) → ∀ y ∈ (LX.all ls).1.2, Pg y
  | [], _ => by intro y hy; cases hy
  | l :: ls, h => by
    rw [LX.all]
    split
    · rename_i h0
      simp only
      split
      · intro y hy
        rcases List.mem_append.1 hy with hy | hy
        · exact row_good (h l (by simp)) h0 y hy
        · exact all_good (fun x hx => h x (by simp [hx])) y hy
      · intro y hy; cases hy
    · intro y hy; cases hy
theorem lns_good : ∀ (n : Nat) (rs : List B), LN.flt n rs = (0, 0) → ∀ x ∈ LN.lns n rs, Sd x.2.2
  | _, [], _ => by intro x hx; cases hx
  | n, r :: rs, h => by
    rw [LN.flt] at h
    split at h
    · rename_i hk
      unfold LN.kind at hk
      split at hk
      · cases hk
      rename_i hb
      split at hk
      · cases hk
      rename_i hst
      intro x hx
      rw [LN.lns] at hx
      split at hx
      · exact lns_good (n + 1) rs h x hx
      · rcases List.mem_cons.1 hx with rfl | hx
        · simp only
          cases hs : LN.strip (LN.tl r) with
          | none => exact absurd hs hst
          | some s =>
            have he : LN.said r = s := by unfold LN.said; rw [hs]; rfl
            rw [he]
            obtain ⟨a1, a2, a3⟩ := LN.strip_again hs
            refine strip_sd a1 ?_
            have hbr : LN.bad r = false := by simpa using hb
            have h1 : LN.bad (LN.tl r) = false := bad_suf (List.dropWhile_suffix _) hbr
            rw [← List.take_append_drop s.length (LN.tl r), bad_app, Bool.or_eq_false_iff, a3] at h1
            exact h1.1
        · exact lns_good (n + 1) rs h x hx
    · rename_i hk
      simp only [Prod.mk.injEq] at h
      exact absurd h.1 hk
/-- What a text is parsed as may be a document. -/
theorem parse_chk {l : B} {ns : List Nd} (h : DC.parse l = .ok ns) : chk (ns.map up) := by
  unfold DC.parse at h
  split at h
  · cases h
  split at h
  · cases h
  refine doc_chk (all_good ?_) h
  intro x hx
  obtain ⟨y, hy, rfl⟩ := List.mem_map.1 hx
  unfold LN.outL at hy
  split at hy
  · rename_i ho
    unfold LN.outF at ho
    split at ho
    · cases ho
    · exact lns_good 1 _ ho y hy
  · cases hy
end SH
end Go.Proofs.YtmgalfdiiegjjaaGreatDoor
