/- Walks of the document's own reader. -/
import Derived.Test.YtfpdcljeepjogaaAkD
namespace Go.Proofs.Ytfpdcljeepjogaa
open Go.RowKit

/-- The document's reader behind p: what is left, and whether something was wrong. -/
def RR (w : World) (p : Nat) (bs : List UInt8) (bad : Bool) : Prop := ∃ v, Str w p 72 #[v, .bool bad] ∧ Rdv w v (bv bs) ∧ Low p v bs
theorem RR.lt {w : World} {p : Nat} {bs : List UInt8} {bad : Bool} (h : RR w p bs bad) : p < w.heap.size := by
  obtain ⟨v, h1, _⟩ := h
  exact h1.lt
theorem RR.keep {w w' : World} {p : Nat} {bs : List UInt8} {bad : Bool} (h : RR w p bs bad) (hs : ∀ k, k ≤ p → w'.heap[k]? = w.heap[k]?) : RR w' p bs bad := by
  obtain ⟨v, h1, ⟨ao, cap, rfl, q1, q2, q3, q4⟩, h3⟩ := h
  refine ⟨_, (hs p (Nat.le_refl _)).trans h1, ⟨ao, cap, rfl, q1, q2, q3, fun j u hu => ?_⟩, h3⟩
  obtain ⟨x, hx, hc⟩ := q4 j u hu
  refine ⟨x, hx, ?_⟩
  have hne : bs ≠ [] := by
    rintro rfl
    simp [bv] at hu
  obtain ⟨y, n, c, hv, hlt⟩ := h3 hne
  obtain ⟨rfl, -, -⟩ := Value.slice.inj hv
  obtain rfl := Option.some.inj hx
  rw [← hc]
  exact World.cell?_of_block (hs _ (by rw [add_block]; omega))
theorem no_u82 {v : Value} {b : Bool} {xs : List Value} {w : World} (h : Rdv w v xs) (i : Nat) (z : Int) : (#[v, .bool b] : Array Value)[i]? ≠ some (Value.int .u8 z) := by
  obtain ⟨ao, cap, rfl, _⟩ := h
  match i with
  | 0 => simp
  | 1 => simp
  | i + 2 => simp
theorem RR.set {w : World} {p : Nat} {v v' : Value} {bad : Bool} {bs r : List UInt8} (h1 : Str w p 72 #[v, .bool bad]) (h2 : Rdv w v (bv bs)) (h3 : Rdv w v' (bv r)) (h4 : Low p v' r) : RR (w.setCell ⟨p, 0, none⟩ v') p r bad ∧ Kb w (w.setCell ⟨p, 0, none⟩ v') (some p) none := by
  have hk := Kb.set w p 0 v' none
  exact ⟨⟨v', by simpa using h1.set 0 v', h3.kb h1 (no_u82 h2) hk, h4⟩, hk⟩
theorem RR.off {w : World} {p : Nat} {bad : Bool} {bs : List UInt8} (h : RR w p bs bad) : RR (w.setCell ⟨p, 1, none⟩ (.bool true)) p bs true ∧ Kb w (w.setCell ⟨p, 1, none⟩ (.bool true)) (some p) none := by
  obtain ⟨v, h1, h2, h3⟩ := h
  have hk := Kb.set w p 1 (.bool true) none
  exact ⟨⟨v, by simpa using h1.set 1 (.bool true), h2.kb h1 (no_u82 h2) hk, h3⟩, hk⟩
/-- The reader's state: what is left; none: something was wrong. -/
def RS (w : World) (p : Nat) : Option (List UInt8) → Prop
  | some bs => RR w p bs false
  | none => ∃ bs, RR w p bs true
theorem RS.lt {w : World} {p : Nat} {s : Option (List UInt8)} (h : RS w p s) : p < w.heap.size := by
  cases s with
  | none => obtain ⟨bs, h⟩ := h; exact h.lt
  | some bs => exact RR.lt h
theorem RS.keep {w w' : World} {p : Nat} {s : Option (List UInt8)} (h : RS w p s) (hs : ∀ k, k ≤ p → w'.heap[k]? = w.heap[k]?) : RS w' p s := by
  cases s with
  | none => obtain ⟨bs, h⟩ := h; exact ⟨bs, h.keep hs⟩
  | some bs => exact RR.keep h hs
theorem RS.below {w w' : World} {p : Nat} {s : Option (List UInt8)} (h : RS w p s) (hb : Below w.heap.size w w') : RS w' p s := h.keep fun k hk => hb.block k (by have := h.lt; omega)
theorem RS.str {w : World} {p : Nat} {s : Option (List UInt8)} (h : RS w p s) : ∃ v, Str w p 72 #[v, .bool s.isNone] ∧ ∃ bs, Rdv w v (bv bs) := by
  cases s with
  | none => obtain ⟨bs, v, h1, h2, _⟩ := h; exact ⟨v, h1, bs, h2⟩
  | some bs => obtain ⟨v, h1, h2, _⟩ := h; exact ⟨v, h1, bs, h2⟩
def numS (most : Nat) (s : Option (List UInt8)) : Option (Nat × List UInt8) := s.bind (K.num most)
def textS (most : Nat) (s : Option (List UInt8)) : Option (List UInt8 × List UInt8) := s.bind (K.text most)
/-- What is told of what was read: it, or nothing. -/
def nv (o : Option (Nat × List UInt8)) : Nat := (o.map (·.1)).getD 0
def tvl (o : Option (List UInt8 × List UInt8)) : List UInt8 := (o.map (·.1)).getD []

set_option maxHeartbeats 1600000 in
theorem rrnum_good (p : Nat) (bs : List UInt8) (most : Nat) (hm : most ≤ 9223372036854775807) (v : Nat) (r : List UInt8) (h : K.num most bs = some (v, r)) (w : World) (hr : RR w p bs false) :
    Calls Try.prog 38 #[.pointer (some ⟨p, 0, none⟩), .int .i64 (most : Int)] w fun e w' => e = .returned (.int .i64 (v : Int)) ∧ RR w' p r false ∧ Kb w w' (some p) none := by
  obtain ⟨u, hs, hu, hlow⟩ := hr
  have HG := Lib.hid (fun x (hk : Below w.heap.size w x) => rget_any u bs x (hu.below hk))
  have HS := Lib.hid hs
  have HU := Lib.hid hu
  have HLOW := Lib.hid hlow
  unfold K.num at h
  split at h
  · rename_i hc
    obtain ⟨hv, hrr⟩ := Prod.mk.inj (Option.some.inj h)
    have hn : V.gn bs ≤ bs.length := by
      rcases V.only bs with ⟨h1, _⟩ | ⟨v', tail, hb, _, _, h1, h2, h3⟩
      · omega
      · rw [h2]
        have := congrArg List.length hb
        rw [List.length_append] at this
        have h4 : (V.put v').length = V.len v' := rfl
        omega
    obtain ⟨n, hnn⟩ : ∃ n, V.gn bs = n := ⟨_, rfl⟩
    rw [hc.1, hv, hnn] at HG
    rw [hnn] at hrr hn
    have hvm : decide (most < v) = false := by simp; omega
    have hvm2 : ¬ (most : Int) < (v : Int) := by omega
    have hv0 : v ≤ 9223372036854775807 := by omega
    have hc' : w.cell? ⟨p, 0, none⟩ = some u := hs.cell 0
    have hd' : w.cell? ⟨p, 1, none⟩ = some (.bool false) := hs.cell 1
    have hf' := hs.frozen 0
    obtain ⟨ao, cap, rfl, g1, g2, g3, g4⟩ := hu
    simp only [bv_len] at g1 g2 HS HU HG HLOW hc'
    have hRest := Rdv.rest HU.out hn
    unfold maxLen at g2
    clear g3 g4 hs h hc hv hnn hlow
    obtain ⟨L, hL⟩ : ∃ L, bs.length = L := ⟨_, rfl⟩
    rw [hL] at hn g1 HS HU HG HLOW hc' hRest
    clear hL
    by_cases hcap : cap = n
    · have HR := Lib.hid (hRest.2 hcap)
      clear hRest
      subst hcap
      rw [Nat.sub_eq_zero_of_le g1] at HR
      go_enter Try.func38, Try.ntmps38
      go_wp2_with (go_at_call 56; refine (HG.out _ (Below.refl _ _)).mono ?_; rintro e w1 ⟨rfl, rfl⟩)
      go_ret
      have hz := RR.set HS.out HU.out HR.out (by rw [hrr]; exact HLOW.out.same (drop_ne hrr))
      rw [hrr] at hz
      exact ⟨rfl, hz.1, hz.2⟩
    · have HR := Lib.hid (hRest.1 hcap)
      clear hRest
      go_enter Try.func38, Try.ntmps38
      go_wp2_with (go_at_call 56; refine (HG.out _ (Below.refl _ _)).mono ?_; rintro e w1 ⟨rfl, rfl⟩)
      go_ret
      have hz := RR.set HS.out HU.out HR.out (by rw [hrr]; exact HLOW.out.cut (drop_ne hrr))
      rw [hrr] at hz
      exact ⟨rfl, hz.1, hz.2⟩
  · cases h

set_option maxHeartbeats 1600000 in
theorem rrnum_bad (p : Nat) (bs : List UInt8) (bad : Bool) (most : Nat) (hm : most ≤ 9223372036854775807) (h : bad = true ∨ K.num most bs = none) (w : World) (hr : RR w p bs bad) :
    Calls Try.prog 38 #[.pointer (some ⟨p, 0, none⟩), .int .i64 (most : Int)] w fun e w' => e = .returned (.int .i64 0) ∧ RR w' p bs true ∧ Kb w w' (some p) none := by
  have HZ := Lib.hid hr.off
  obtain ⟨u, hs, hu, hlow⟩ := hr
  have HG := Lib.hid (fun x (hk : Below w.heap.size w x) => rget_any u bs x (hu.below hk))
  have hc' : w.cell? ⟨p, 0, none⟩ = some u := hs.cell 0
  have hd' : w.cell? ⟨p, 1, none⟩ = some (.bool bad) := hs.cell 1
  have hf' := hs.frozen 1
  obtain ⟨E, hE⟩ : ∃ E, V.ge bs = E := ⟨_, rfl⟩
  obtain ⟨G, hG⟩ : ∃ G, V.gv bs = G := ⟨_, rfl⟩
  obtain ⟨N, hN⟩ : ∃ N, V.gn bs = N := ⟨_, rfl⟩
  rw [hE, hG, hN] at HG
  obtain ⟨ao, cap, rfl, -⟩ := hu
  have hcase : bad = true ∨ (bad = false ∧ E = 2) ∨ (bad = false ∧ E = 3) ∨ (bad = false ∧ E = 0 ∧ (most < G)) := by
    cases bad
    · right
      rcases h with h | h
      · cases h
      · unfold K.num at h
        split at h
        · cases h
        · rename_i hc
          rw [hE, hG] at hc
          by_cases h0 : E = 0
          · exact .inr (.inr ⟨rfl, h0, by omega⟩)
          · rcases V.only bs with ⟨h1 | h1, _⟩ | ⟨_, _, _, _, _, _, _, h1⟩
            · exact .inl ⟨rfl, hE.symm.trans h1⟩
            · exact .inr (.inl ⟨rfl, hE.symm.trans h1⟩)
            · exact absurd (hE.symm.trans h1) h0
    · exact .inl rfl
  clear hE hG hN h hs hlow
  rcases hcase with rfl | ⟨rfl, rfl⟩ | ⟨rfl, rfl⟩ | ⟨rfl, rfl, h1⟩
  · go_enter Try.func38, Try.ntmps38
    go_wp2_with (go_at_call 56; refine (HG.out _ (Below.refl _ _)).mono ?_; rintro e w1 ⟨rfl, rfl⟩)
    go_ret
    exact ⟨rfl, HZ.out.1, HZ.out.2⟩
  · go_enter Try.func38, Try.ntmps38
    go_wp2_with (go_at_call 56; refine (HG.out _ (Below.refl _ _)).mono ?_; rintro e w1 ⟨rfl, rfl⟩)
    go_ret
    exact ⟨rfl, HZ.out.1, HZ.out.2⟩
  · go_enter Try.func38, Try.ntmps38
    go_wp2_with (go_at_call 56; refine (HG.out _ (Below.refl _ _)).mono ?_; rintro e w1 ⟨rfl, rfl⟩)
    go_ret
    exact ⟨rfl, HZ.out.1, HZ.out.2⟩
  · have h2 : (most : Int) < (G : Int) := by omega
    go_enter Try.func38, Try.ntmps38
    go_wp2_with (go_at_call 56; refine (HG.out _ (Below.refl _ _)).mono ?_; rintro e w1 ⟨rfl, rfl⟩)
    go_ret
    exact ⟨rfl, HZ.out.1, HZ.out.2⟩
theorem rrnum_any (p : Nat) (s : Option (List UInt8)) (most : Nat) (hm : most ≤ 9223372036854775807) (w : World) (hr : RS w p s) :
    Calls Try.prog 38 #[.pointer (some ⟨p, 0, none⟩), .int .i64 (most : Int)] w fun e w' => e = .returned (.int .i64 (nv (numS most s) : Int)) ∧ RS w' p ((numS most s).map (·.2)) ∧ Kb w w' (some p) none := by
  cases s with
  | none =>
    obtain ⟨bs, hr⟩ := hr
    refine (rrnum_bad p bs true most hm (.inl rfl) w hr).mono ?_
    rintro e w' ⟨rfl, h2, h3⟩
    exact ⟨rfl, ⟨bs, h2⟩, h3⟩
  | some bs =>
    cases hn : K.num most bs with
    | none =>
      refine (rrnum_bad p bs false most hm (.inr hn) w hr).mono ?_
      rintro e w' ⟨rfl, h2, h3⟩
      have e1 : numS most (some bs) = none := hn
      rw [e1]
      exact ⟨rfl, ⟨bs, h2⟩, h3⟩
    | some x =>
      obtain ⟨v, r⟩ := x
      refine (rrnum_good p bs most hm v r hn w hr).mono ?_
      rintro e w' ⟨rfl, h2, h3⟩
      have e1 : numS most (some bs) = some (v, r) := hn
      rw [e1]
      exact ⟨rfl, h2, h3⟩
end Go.Proofs.Ytfpdcljeepjogaa
