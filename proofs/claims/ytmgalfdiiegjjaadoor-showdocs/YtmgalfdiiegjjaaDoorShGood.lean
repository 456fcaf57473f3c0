/- The pieces of a text's lines: their texts and keys may be; so what a text is parsed as may be a document. No program is named here. -/
import Derived.Test.YtmgalfdiiegjjaaDoorSeg21
namespace Go.Proofs.YtmgalfdiiegjjaaDoor
namespace SH
open LX (B Pc Lz)
open DC (Nd bl blk itm)

/-- What a line says: nothing is stripped off it. -/
structure Sd (c : B) : Prop where
  go : LN.go (.out true) c = some c.length
  lst : ∀ x, c[c.length - 1]? = some x → x ≠ 32
  bad : LN.bad c = false
theorem strip_sd {c : B} (hs : LN.strip c = some c) (hb : LN.bad c = false) : Sd c := by
  have hst := hs
  unfold LN.strip at hst
  obtain ⟨e, he, het⟩ := Option.map_eq_some_iff.1 hst
  unfold LN.fin at he
  rw [List.drop_zero] at he
  obtain ⟨e', he', rfl⟩ := Option.map_eq_some_iff.1 he
  rw [Nat.add_zero] at het
  obtain ⟨k, hk1, hk2, hk3, hk4⟩ := LN.tr_take (c.take e')
  rw [hk2] at het
  have hlen := congrArg List.length het
  simp only [List.length_take] at hlen hk1
  have hle := go_le he'
  have hes : c.length = e' := by omega
  refine ⟨by rw [he', hes], ?_, hb⟩
  intro d hd2 e32
  have hpos : 0 < c.length := by
    have := (List.getElem?_eq_some_iff.1 hd2).1
    omega
  have h5 := hk4 (by omega)
  rw [List.take_of_length_le (by omega), show k = c.length by omega] at h5
  exact h5 (by rw [hd2, e32])
theorem bad_suf {c l : B} (h : l <:+ c) (hb : LN.bad c = false) : LN.bad l = false := by
  obtain ⟨a, rfl⟩ := h
  rw [bad_app, Bool.or_eq_false_iff] at hb
  exact hb.2
theorem lst_suf {c l : B} (h : l <:+ c) (hc : ∀ x, c[c.length - 1]? = some x → x ≠ 32) : ∀ x, l[l.length - 1]? = some x → x ≠ 32 := by
  obtain ⟨a, rfl⟩ := h
  intro x hx
  have hne : l ≠ [] := by rintro rfl; simp at hx
  exact hc x (by rw [last_app hne]; exact hx)
theorem tl_suf (l : B) : LX.tl l <:+ l := List.dropWhile_suffix _
theorem tl_tl : ∀ l : B, LX.tl (LX.tl l) = LX.tl l
  | [] => rfl
  | c :: l => by
    by_cases h : c = 32
    · subst h
      rw [ltl_bl]; exact tl_tl l
    · rw [ltl_self h, ltl_self h]
theorem go_tl : ∀ {l : B}, LN.go (.out true) l = some l.length → LN.go (.out true) (LX.tl l) = some (LX.tl l).length
  | [], h => h
  | c :: l, h => by
    by_cases hc : c = 32
    · subst hc
      rw [ltl_bl]
      apply go_tl
      rw [LN.go, if_neg (by decide), if_neg (by decide), if_neg (by decide), show ((32 : UInt8) == 32) = true from rfl] at h
      obtain ⟨e, h1, h2⟩ := Option.map_eq_some_iff.1 h
      rw [h1]
      simp only [List.length_cons] at h2
      congr 1
      omega
    · rw [ltl_self hc]; exact h
theorem go_dash1 {l : B} (hd : LX.dash l = true) (h : LN.go (.out true) l = some l.length) : LN.go (.out true) (LX.tl (l.drop 1)) = some (LX.tl (l.drop 1)).length := by
  cases l with
  | nil => cases hd
  | cons c l =>
    cases l with
    | nil => rfl
    | cons d l =>
      have hd' : (c == 45 && d == 32) = true := hd
      simp only [Bool.and_eq_true, beq_iff_eq] at hd'
      obtain ⟨rfl, rfl⟩ := hd'
      rw [List.drop_succ_cons, List.drop_zero, ltl_bl]
      apply go_tl
      have := go_dashes 1 l
      rw [show dashes 1 ++ l = 45 :: 32 :: l from rfl, h] at this
      obtain ⟨e, h1, h2⟩ := Option.map_eq_some_iff.1 this.symm
      rw [h1]
      simp only [List.length_cons] at h2
      congr 1
      omega
/-- A key at the front. -/
theorem key_split {l : B} (hk : LX.key l ≠ 0) : ∃ k r, l = k ++ 58 :: r ∧ k.length = LX.key l ∧ l.take (LX.key l) = k ∧ l.drop (LX.key l + 1) = r ∧ k ≠ [] ∧ (∀ c ∈ k, LX.sgn c = true) ∧ (r = [] ∨ ∃ s, r = 32 :: s) := by
  unfold LX.key at hk ⊢
  split at hk
  · rename_i he
    rw [if_pos he]
    obtain ⟨n, hn⟩ : ∃ n, LX.run l = n := ⟨_, rfl⟩
    have hnl : n ≤ l.length := by rw [← hn]; exact LX.runp_le _ _
    rw [hn] at he hk ⊢
    have hsg : ∀ c ∈ l.take n, LX.sgn c = true := by
      intro c hc
      obtain ⟨i, hi, rfl⟩ := List.mem_iff_getElem.1 hc
      rw [List.length_take] at hi
      obtain ⟨c2, h1, h2⟩ := LX.runp_at (p := LX.sgn) (l := l) (k := i) (by have : LX.runp LX.sgn l = n := hn; omega)
      rw [List.getElem_take]
      rw [List.getElem?_eq_getElem (by omega)] at h1
      rw [Option.some.inj h1]; exact h2
    have hkl : (l.take n).length = n := by rw [List.length_take]; omega
    cases hdr : l.drop n with
    | nil => rw [hdr] at he; cases he
    | cons c r =>
      rw [hdr] at he
      have hl : l = l.take n ++ c :: r := by rw [← hdr, List.take_append_drop]
      have hdrop : l.drop (n + 1) = r := by
        have := congrArg (List.drop 1) hdr
        rw [List.drop_drop, List.drop_succ_cons, List.drop_zero] at this
        rw [← this, Nat.add_comm]
      cases r with
      | nil =>
        have hc : (c == 58) = true := he
        obtain rfl : c = 58 := by simpa using hc
        exact ⟨l.take n, [], hl, hkl, rfl, hdrop, fun e => by rw [e] at hkl; simp at hkl; omega, hsg, .inl rfl⟩
      | cons d s =>
        have hc : (c == 58 && d == 32) = true := he
        simp only [Bool.and_eq_true, beq_iff_eq] at hc
        obtain ⟨rfl, rfl⟩ := hc
        exact ⟨l.take n, 32 :: s, hl, hkl, rfl, hdrop, fun e => by rw [e] at hkl; simp at hkl; omega, hsg, .inr ⟨s, rfl⟩⟩
  · exact absurd rfl hk
theorem fin_good {c : B} (hc : Sd c) {no col : Int} {acc : List Pc} {l : B} (hs : l <:+ c) (hg : LN.go (.out true) l = some l.length) (ht : LX.tl l = l) (ha : ∀ x ∈ acc, Pg x) (h : (LX.fin no col acc l).1 = 0) : ∀ x ∈ (LX.fin no col acc l).2, Pg x := by
  unfold LX.fin at h ⊢
  split
  · exact ha
  rename_i hne
  rw [if_neg hne] at h
  split at h
  · rename_i hz
    rw [if_pos hz]
    intro x hx
    simp only [List.mem_append, List.mem_singleton] at hx
    rcases hx with hx | rfl
    · exact ha x hx
    · refine ⟨fun _ => ⟨LX.txt_len l, ?_⟩, fun h => by cases h⟩
      simp only
      cases hq : (LX.txt l).2.2 with
      | true => exact .inl rfl
      | false =>
        have htx : LX.txt l = (0, (LX.txt l).2.1, false) := Prod.ext hz (Prod.ext rfl hq)
        have hl := txt_plain htx
        rw [hl] at htx ⊢
        have hl200 := LX.txt_len l
        rw [hl] at hl200
        refine .inr ?_
        have hdk : LX.dash l = false ∧ LX.key l = 0 := by
          cases l with
          | nil => exact absurd rfl hne
          | cons d t =>
            rw [LX.txt.eq_def] at htx
            simp only at htx
            split at htx
            · split at htx
              · simp at htx
              · unfold LX.lng at htx; split at htx <;> simp at htx
            split at htx
            · split at htx
              · simp at htx
              · unfold LX.lng at htx; split at htx <;> simp at htx
            split at htx
            · simp at htx
            · rename_i ho
              simp only [Bool.or_eq_true, decide_eq_true_eq, not_or, Bool.not_eq_true] at ho
              exact ⟨ho.1.2, by omega⟩
        have hrow : LX.row (0, 0, l) = (0, [(3, 0, 0, l, false)]) := by
          unfold LX.row
          simp only
          rw [if_neg (by omega), ht, LX.go_mid hdk.1, LX.mid, if_pos hdk.2, LX.fin, if_neg hne, htx]
          simp
        have hst : LN.strip l = some l := by
          unfold LN.strip LN.fin
          rw [List.drop_zero, hg]
          simp only [Option.map_some, Nat.add_zero, List.take_length, Option.some.injEq]
          exact LN.tr_ne (lst_suf hs hc.lst)
        unfold plainb
        rw [bad_suf hs hc.bad, hst, hrow]
        simp [hne, hl200]
  · rename_i hz
    exact absurd h hz
theorem mid_good {c : B} (hc : Sd c) {no col : Int} {acc : List Pc} {l : B} (hs : l <:+ c) (hg : LN.go (.out true) l = some l.length) (ht : LX.tl l = l) (ha : ∀ x ∈ acc, Pg x) (h : (LX.mid no col acc l).1 = 0) : ∀ x ∈ (LX.mid no col acc l).2, Pg x := by
  unfold LX.mid at h ⊢
  split
  · rename_i hk
    rw [if_pos hk] at h
    exact fin_good hc hs hg ht ha h
  rename_i hk
  rw [if_neg hk] at h
  split
  · rename_i hk2
    rw [if_pos hk2] at h
    cases h
  rename_i hk2
  rw [if_neg hk2] at h
  obtain ⟨k, r, h1, h2, h3, h4, h5, h6, h7⟩ := key_split hk
  rw [h3, h4] at h ⊢
  have hsuf : r <:+ l := ⟨k ++ [58], by rw [h1]; simp⟩
  have hgr : LN.go (.out true) (LX.tl r) = some (LX.tl r).length := by
    have := go_sg k (58 :: r) true h6 h5
    rw [← h1, hg, LN.go, if_neg (by decide), if_neg (by decide), if_neg (by decide), show ((58 : UInt8) == 32) = false from rfl] at this
    rcases h7 with rfl | ⟨s, rfl⟩
    · rfl
    · rw [LN.go, if_neg (by decide), if_neg (by decide), if_neg (by decide), show ((32 : UInt8) == 32) = true from rfl, LN.map_add, LN.map_add] at this
      obtain ⟨e, h8, h9⟩ := Option.map_eq_some_iff.1 this.symm
      rw [ltl_bl]
      apply go_tl
      rw [h8]
      have hll := congrArg List.length h1
      simp only [List.length_append, List.length_cons] at hll
      congr 1
      omega
  refine fin_good hc ((tl_suf r).trans (hsuf.trans hs)) hgr (tl_tl r) ?_ h
  intro x hx
  rcases List.mem_append.1 hx with hx | hx
  · exact ha x hx
  · obtain rfl := List.mem_singleton.1 hx
    refine ⟨fun h => (by cases h), fun _ => ?_⟩
    show keyb k = true
    unfold keyb
    rw [Bool.and_eq_true, List.all_eq_true]
    exact ⟨decide_eq_true ⟨h5, by omega⟩, h6⟩
theorem go_good {c : B} (hc : Sd c) {no col : Int} : ∀ {n : Nat} {acc : List Pc} {l : B}, l <:+ c → LN.go (.out true) l = some l.length → LX.tl l = l → (∀ x ∈ acc, Pg x) → (LX.go no col n acc l).1 = 0 → ∀ x ∈ (LX.go no col n acc l).2, Pg x
  | 0, acc, l, hs, hg, ht, ha, h => mid_good hc hs hg ht ha h
  | n + 1, acc, l, hs, hg, ht, ha, h => by
    rw [LX.go] at h ⊢
    split
    · rename_i hd
      rw [if_pos hd] at h
      refine go_good hc ((tl_suf _).trans ((List.drop_suffix 1 l).trans hs)) (go_dash1 hd hg) (tl_tl _) ?_ h
      intro x hx
      rcases List.mem_append.1 hx with hx | hx
      · exact ha x hx
      · obtain rfl := List.mem_singleton.1 hx
        exact ⟨fun h => (by cases h), fun h => (by cases h)⟩
    · rename_i hd
      rw [if_neg hd] at h
      exact mid_good hc hs hg ht ha h
theorem row_good {x : Lz} (hc : Sd x.2.2) (h : (LX.row x).1 = 0) : ∀ y ∈ (LX.row x).2, Pg y := by
  unfold LX.row at h ⊢
  split
  · intro y hy; cases hy
  · rename_i hi
    rw [if_neg hi] at h
    exact go_good hc (tl_suf _) (go_tl hc.go) (tl_tl _) (by simp) h
theorem all_good : ∀ {ls : List Lz}, (∀ x ∈ ls, Sd x.2.2) → ∀ y ∈ (LX.all ls).1.2, Pg y
  | [], _ => by intro y hy; cases hy
  | l :: ls, h => by
    rw [LX.all]
    split
    · rename_i h0
      simp only
      split
      · intro y hy
        rcases List.mem_append.1 hy with hy | hy
        · exact row_good (h l (by simp)) h0 y hy
        · exact all_good (fun x hx => h x (by simp [hx])) y hy
      · intro y hy; cases hy
    · intro y hy; cases hy
theorem lns_good : ∀ (n : Nat) (rs : List B), LN.flt n rs = (0, 0) → ∀ x ∈ LN.lns n rs, Sd x.2.2
  | _, [], _ => by intro x hx; cases hx
  | n, r :: rs, h => by
    rw [LN.flt] at h
    split at h
    · rename_i hk
      unfold LN.kind at hk
      split at hk
      · cases hk
      rename_i hb
      split at hk
      · cases hk
      rename_i hst
      intro x hx
      rw [LN.lns] at hx
      split at hx
      · exact lns_good (n + 1) rs h x hx
      · rcases List.mem_cons.1 hx with rfl | hx
        · simp only
          cases hs : LN.strip (LN.tl r) with
          | none => exact absurd hs hst
          | some s =>
            have he : LN.said r = s := by unfold LN.said; rw [hs]; rfl
            rw [he]
            obtain ⟨a1, a2, a3⟩ := LN.strip_again hs
            refine strip_sd a1 ?_
            have hbr : LN.bad r = false := by simpa using hb
            have h1 : LN.bad (LN.tl r) = false := bad_suf (List.dropWhile_suffix _) hbr
            rw [← List.take_append_drop s.length (LN.tl r), bad_app, Bool.or_eq_false_iff, a3] at h1
            exact h1.1
        · exact lns_good (n + 1) rs h x hx
    · rename_i hk
      simp only [Prod.mk.injEq] at h
      exact absurd h.1 hk
/-- What a text is parsed as may be a document. -/
theorem parse_chk {l : B} {ns : List Nd} (h : DC.parse l = .ok ns) : chk (ns.map up) := by
  unfold DC.parse at h
  split at h
  · cases h
  split at h
  · cases h
  refine doc_chk (all_good ?_) h
  intro x hx
  obtain ⟨y, hy, rfl⟩ := List.mem_map.1 hx
  unfold LN.outL at hy
  split at hy
  · rename_i ho
    unfold LN.outF at ho
    split at ho
    · cases ho
    · exact lns_good 1 _ ho y hy
  · cases hy
end SH
end Go.Proofs.YtmgalfdiiegjjaaDoor
