/- Walks of a wire.Reader's methods. -/
import Derived.Test.YtfpdcljeepjogaaAkP
import Derived.Test.YtfpdcljeepjogaaAkB
import Derived.Test.YtfpdcljeepjogaaVarW
namespace Go.Proofs.Ytfpdcljeepjogaa
open Go.RowKit

/-- What bytes v reads lie ahead of block p. -/
def Low (p : Nat) (v : Value) (bs : List UInt8) : Prop := bs ≠ [] → ∃ x n c, v = .slice (some x) n c ∧ x.block < p
theorem Low.cut {p : Nat} {ao : Option Addr} {L cap n m c : Nat} {bs r : List UInt8} (h : Low p (.slice ao L cap) bs) (hr : r ≠ [] → bs ≠ []) : Low p (.slice (ao.map (fun x => x.add n)) m c) r := by
  intro hne
  obtain ⟨x, n', c', hv, hlt⟩ := h (hr hne)
  obtain ⟨rfl, -, -⟩ := Value.slice.inj hv
  exact ⟨x.add n, m, c, rfl, by rw [add_block]; exact hlt⟩
theorem Low.same {p : Nat} {ao : Option Addr} {L cap m c : Nat} {bs r : List UInt8} (h : Low p (.slice ao L cap) bs) (hr : r ≠ [] → bs ≠ []) : Low p (.slice ao m c) r := by
  intro hne
  obtain ⟨x, n', c', hv, hlt⟩ := h (hr hne)
  obtain ⟨rfl, -, -⟩ := Value.slice.inj hv
  exact ⟨x, m, c, rfl, hlt⟩
theorem Low.void (p : Nat) (v : Value) : Low p v [] := fun h => absurd rfl h
theorem drop_ne {bs r : List UInt8} {n : Nat} (h : bs.drop n = r) (hr : r ≠ []) : bs ≠ [] := by
  rintro rfl
  rw [List.drop_nil] at h
  exact hr h.symm
/-- A reader behind p, before which the bytes bs lie. -/
def Rdr (w : World) (p : Nat) (bs : List UInt8) : Prop := ∃ v, Str w p 78 #[v] ∧ Rdv w v (bv bs) ∧ Low p v bs
theorem Rdr.lt {w : World} {p : Nat} {bs : List UInt8} (h : Rdr w p bs) : p < w.heap.size := by
  obtain ⟨v, h1, _⟩ := h
  exact h1.lt
theorem Rdr.keep {w w' : World} {p : Nat} {bs : List UInt8} (h : Rdr w p bs) (hs : ∀ k, k ≤ p → w'.heap[k]? = w.heap[k]?) : Rdr w' p bs := by
  obtain ⟨v, h1, ⟨ao, cap, rfl, q1, q2, q3, q4⟩, h3⟩ := h
  refine ⟨_, (hs p (Nat.le_refl _)).trans h1, ⟨ao, cap, rfl, q1, q2, q3, fun j u hu => ?_⟩, h3⟩
  obtain ⟨x, hx, hc⟩ := q4 j u hu
  refine ⟨x, hx, ?_⟩
  have hne : bs ≠ [] := by
    rintro rfl
    simp [bv] at hu
  obtain ⟨y, n, c, hv, hlt⟩ := h3 hne
  obtain ⟨rfl, -, -⟩ := Value.slice.inj hv
  obtain rfl := Option.some.inj hx
  rw [← hc]
  exact World.cell?_of_block (hs _ (by rw [add_block]; omega))
theorem Rdr.below {w w' : World} {p : Nat} {bs : List UInt8} (h : Rdr w p bs) (hb : Below w.heap.size w w') : Rdr w' p bs :=
  h.keep fun k hk => hb.block k (by have := h.lt; omega)
theorem no_u8 {v : Value} {xs : List Value} {w : World} (h : Rdv w v xs) (i : Nat) (z : Int) : (#[v] : Array Value)[i]? ≠ some (Value.int .u8 z) := by
  obtain ⟨ao, cap, rfl, _⟩ := h
  match i with
  | 0 => simp
  | i + 1 => simp
theorem Rdr.set {w : World} {p : Nat} {v v' : Value} {bs r : List UInt8} (h1 : Str w p 78 #[v]) (h2 : Rdv w v (bv bs)) (h3 : Rdv w v' (bv r)) (h4 : Low p v' r) : Rdr (w.setCell ⟨p, 0, none⟩ v') p r ∧ Kb w (w.setCell ⟨p, 0, none⟩ v') (some p) none := by
  have hk := Kb.set w p 0 v' none
  exact ⟨⟨v', by simpa using h1.set 0 v', h3.kb h1 (no_u8 h2) hk, h4⟩, hk⟩
theorem kb_drew (w : World) (p q : Option Nat) : Kb w w.drew p q := Kb.of_below (below_drew w) p q

theorem Rdr.kb {w w' : World} {p q : Nat} {T : TypeId} {cs : Array Value} {bs : List UInt8} (h : Rdr w p bs) (hs : Str w q T cs) (hcs : ∀ (i : Nat) (z : Int), cs[i]? ≠ some (Value.int .u8 z)) (hpq : p ≠ q) (hk : Kb w w' (some q) none) : Rdr w' p bs := by
  obtain ⟨v, h1, h2, h3⟩ := h
  exact ⟨v, h1.kb hk (by simpa using hpq) (by simp), h2.kb hs hcs hk, h3⟩
theorem newr_any (ao : Option Addr) (n cap : Nat) (w : World) : Calls Try.prog 46 #[.slice ao n cap] w fun e w' => e = .returned (.pointer (some ⟨w.heap.size, 0, none⟩)) ∧ w' = w.alloc (.cells #[.slice ao n cap] 78) := by
  go_enter Try.func46, Try.ntmps46
  go_wp2
  go_ret
  exact ⟨rfl, rfl⟩

/-- What a reader took, at a call's end. -/
def Took (p : Nat) (w : World) (x : Value) (r : List UInt8) (e : Ending) (w' : World) : Prop := e = .returned x ∧ Rdr w' p r ∧ Kb w w' (some p) none
/-- It gave up. -/
def Gave (p : Nat) (w : World) (e : Ending) (w' : World) : Prop := e = .panicked gaveUp ∧ Kb w w' (some p) none

set_option maxHeartbeats 800000 in
theorem number_some (p : Nat) (bs : List UInt8) (most : Nat) (hm : most ≤ 9223372036854775807) (v : Nat) (r : List UInt8) (h : K.num most bs = some (v, r)) (w : World) (hr : Rdr w p bs) :
    Calls Try.prog 49 #[.pointer (some ⟨p, 0, none⟩), .int .i64 (most : Int)] w (Took p w (.int .i64 (v : Int)) r) := by
  obtain ⟨u, hs, hu, hlow⟩ := hr
  have HG := Lib.hid (fun x (hk : Below w.heap.size w x) => vget_any u bs x (hu.below hk))
  have HS := Lib.hid hs
  have HU := Lib.hid hu
  have HLOW := Lib.hid hlow
  unfold K.num at h
  split at h
  · rename_i hc
    obtain ⟨hv, hrr⟩ := Prod.mk.inj (Option.some.inj h)
    have hn : V.gn bs ≤ bs.length := by
      rcases V.only bs with ⟨h1, _⟩ | ⟨v', tail, hb, _, _, h1, h2, h3⟩
      · omega
      · rw [h2]
        have := congrArg List.length hb
        rw [List.length_append] at this
        have h4 : (V.put v').length = V.len v' := rfl
        omega
    obtain ⟨n, hnn⟩ : ∃ n, V.gn bs = n := ⟨_, rfl⟩
    rw [hc.1, hv, hnn] at HG
    rw [hnn] at hrr hn
    have hvm : (v : Int) ≤ (most : Int) := by omega
    have hv0 : v ≤ 9223372036854775807 := by omega
    have hc' : w.cell? ⟨p, 0, none⟩ = some u := hs.cell 0
    have hf' := hs.frozen 0
    obtain ⟨ao, cap, rfl, g1, g2, g3, g4⟩ := hu
    simp only [bv_len] at g1 g2 HS HU HG hc'
    have hRest := Rdv.rest HU.out hn
    unfold maxLen at g2
    clear g3 g4 hs h hc hv hnn hlow
    obtain ⟨L, hL⟩ : ∃ L, bs.length = L := ⟨_, rfl⟩
    rw [hL] at hn g1 HS HU HG hc' hRest
    clear hL
    by_cases hcap : cap = n
    · have HR := Lib.hid (hRest.2 hcap)
      clear hRest
      subst hcap
      rw [Nat.sub_eq_zero_of_le g1] at HR
      go_enter Try.func49, Try.ntmps49
      go_wp2_with (first
        | (go_at_call 57; refine (HG.out _ (Below.refl _ _)).mono ?_; rintro e w1 ⟨rfl, rfl⟩)
        | (go_at_call 51; refine (must_true _ _).mono ?_; rintro e w1 ⟨rfl, rfl⟩))
      go_ret
      have hz := Rdr.set HS.out HU.out HR.out (by rw [hrr]; exact HLOW.out.same (drop_ne hrr))
      rw [hrr] at hz
      exact ⟨rfl, hz.1, hz.2⟩
    · have HR := Lib.hid (hRest.1 hcap)
      clear hRest
      go_enter Try.func49, Try.ntmps49
      go_wp2_with (first
        | (go_at_call 57; refine (HG.out _ (Below.refl _ _)).mono ?_; rintro e w1 ⟨rfl, rfl⟩)
        | (go_at_call 51; refine (must_true _ _).mono ?_; rintro e w1 ⟨rfl, rfl⟩))
      go_ret
      have hz := Rdr.set HS.out HU.out HR.out (by rw [hrr]; exact HLOW.out.cut (drop_ne hrr))
      rw [hrr] at hz
      exact ⟨rfl, hz.1, hz.2⟩
  · cases h

set_option maxHeartbeats 800000 in
theorem number_none (p : Nat) (bs : List UInt8) (most : Nat) (hm : most ≤ 9223372036854775807) (h : K.num most bs = none) (w : World) (hr : Rdr w p bs) :
    Calls Try.prog 49 #[.pointer (some ⟨p, 0, none⟩), .int .i64 (most : Int)] w (Gave p w) := by
  obtain ⟨u, hs, hu, hlow⟩ := hr
  have HG := Lib.hid (fun x (hk : Below w.heap.size w x) => vget_any u bs x (hu.below hk))
  unfold K.num at h
  split at h
  · cases h
  · rename_i hc
    have hc' : w.cell? ⟨p, 0, none⟩ = some u := hs.cell 0
    obtain ⟨E, hE⟩ : ∃ E, V.ge bs = E := ⟨_, rfl⟩
    obtain ⟨G, hG⟩ : ∃ G, V.gv bs = G := ⟨_, rfl⟩
    obtain ⟨N, hN⟩ : ∃ N, V.gn bs = N := ⟨_, rfl⟩
    rw [hE, hG] at hc
    rw [hE, hG, hN] at HG
    obtain ⟨ao, cap, rfl, g1, g2, g3, g4⟩ := hu
    clear hE hG hN g1 g2 g3 g4 h hs hlow
    by_cases h0 : E = 0
    · subst h0
      have h1 : decide (G ≤ most) = false := by simp; omega
      clear hc
      go_enter Try.func49, Try.ntmps49
      go_wp2_with (first
        | (go_at_call 57; refine (HG.out _ (Below.refl _ _)).mono ?_; rintro e w1 ⟨rfl, rfl⟩)
        | (go_at_call 51; refine (must_false _ _).mono ?_; rintro e w1 ⟨rfl, rfl⟩))
      exact ⟨rfl, rfl, Kb.refl _ _ _⟩
    · have h1 : ((E : Int) == 0) = false := by simp; omega
      clear hc
      go_enter Try.func49, Try.ntmps49
      go_wp2_with (first
        | (go_at_call 57; refine (HG.out _ (Below.refl _ _)).mono ?_; rintro e w1 ⟨rfl, rfl⟩)
        | (go_at_call 51; refine (must_false _ _).mono ?_; rintro e w1 ⟨rfl, rfl⟩))
      exact ⟨rfl, rfl, Kb.refl _ _ _⟩

set_option maxHeartbeats 800000 in
theorem text_some (p : Nat) (bs : List UInt8) (most : Nat) (hm : most ≤ 9223372036854775807) (s : List UInt8) (r : List UInt8) (h : K.text most bs = some (s, r)) (w : World) (hr : Rdr w p bs) :
    Calls Try.prog 50 #[.pointer (some ⟨p, 0, none⟩), .int .i64 (most : Int)] w (Took p w (.string ⟨s.toArray⟩) r) := by
  unfold K.text at h
  obtain ⟨⟨n, q⟩, h1, h2⟩ := Option.bind_eq_some_iff.1 h
  simp only at h2
  split at h2
  · rename_i hn
    obtain ⟨hs1, hr1⟩ := Prod.mk.inj (Option.some.inj h2)
    have HN := Lib.hid (number_some p bs most hm n q h1 w hr)
    clear h h2 hr h1
    go_enter Try.func50, Try.ntmps50
    go_wp2_with fail
    refine HN.out.mono ?_
    rintro e w1 ⟨rfl, ⟨u, hs, hu, hlow⟩, hk⟩
    have HK := Lib.hid hk
    have HS := Lib.hid hs
    have HU := Lib.hid hu
    have HLOW := Lib.hid hlow
    clear hlow
    have hc' : w1.cell? ⟨p, 0, none⟩ = some u := hs.cell 0
    have hf' := hs.frozen 0
    obtain ⟨ao, cap, rfl, g1, g2, g3, g4⟩ := hu
    simp only [bv_len] at g1 g2 HS HU hc'
    have hRest := Rdv.rest HU.out hn
    have hTake := run_string_rd (P := Try.prog) 25 5 9 Try.underlying25 Try.underlying5 Try.underlying9 (Rdv.take HU.out hn)
    rw [hs1] at hTake
    unfold maxLen at g2
    clear g3 g4 hs hk HN
    obtain ⟨L, hL⟩ : ∃ L, q.length = L := ⟨_, rfl⟩
    rw [hL] at hn g1 HS HU hc' hRest
    have gn : (n : Int) ≤ (L : Int) := by omega
    clear hL
    by_cases hcap : cap = n
    · have HR := Lib.hid (hRest.2 hcap)
      clear hRest
      subst hcap
      rw [Nat.sub_eq_zero_of_le g1] at HR
      go_wp2_with (go_at_call 51; refine (must_true _ _).mono ?_; rintro e w2 ⟨rfl, rfl⟩)
      go_ret
      have hz := Rdr.set HS.out HU.out HR.out (by rw [hr1]; exact HLOW.out.same (drop_ne hr1))
      rw [hr1] at hz
      exact ⟨rfl, hz.1, HK.out.trans hz.2⟩
    · have HR := Lib.hid (hRest.1 hcap)
      clear hRest
      go_wp2_with (go_at_call 51; refine (must_true _ _).mono ?_; rintro e w2 ⟨rfl, rfl⟩)
      go_ret
      have hz := Rdr.set HS.out HU.out HR.out (by rw [hr1]; exact HLOW.out.cut (drop_ne hr1))
      rw [hr1] at hz
      exact ⟨rfl, hz.1, HK.out.trans hz.2⟩
  · cases h2

set_option maxHeartbeats 800000 in
theorem text_none (p : Nat) (bs : List UInt8) (most : Nat) (hm : most ≤ 9223372036854775807) (h : K.text most bs = none) (w : World) (hr : Rdr w p bs) :
    Calls Try.prog 50 #[.pointer (some ⟨p, 0, none⟩), .int .i64 (most : Int)] w (Gave p w) := by
  unfold K.text at h
  cases hn : K.num most bs with
  | none =>
    have HN := Lib.hid (number_none p bs most hm hn w hr)
    clear h hr hn
    go_enter Try.func50, Try.ntmps50
    go_wp2_with fail
    refine HN.out.mono ?_
    rintro e w1 ⟨rfl, hk⟩
    exact ⟨rfl, rfl, hk⟩
  | some x =>
    obtain ⟨n, q⟩ := x
    rw [hn] at h
    simp only [Option.bind_some] at h
    split at h
    · cases h
    · rename_i hnq
      have HN := Lib.hid (number_some p bs most hm n q hn w hr)
      clear h hr hn
      go_enter Try.func50, Try.ntmps50
      go_wp2_with fail
      refine HN.out.mono ?_
      rintro e w1 ⟨rfl, ⟨u, hs, hu, hlow⟩, hk⟩
      have HK := Lib.hid hk
      have hc' : w1.cell? ⟨p, 0, none⟩ = some u := hs.cell 0
      obtain ⟨ao, cap, rfl, g1, g2, g3, g4⟩ := hu
      simp only [bv_len] at g1 g2 hc'
      have gn : decide ((n : Int) ≤ (q.length : Int)) = false := by simp; omega
      clear g3 g4 hs hk HN hlow
      go_wp2_with (go_at_call 51; refine (must_false _ _).mono ?_; rintro e w2 ⟨rfl, rfl⟩)
      exact ⟨rfl, rfl, HK.out⟩

set_option maxHeartbeats 800000 in
theorem end_any (p : Nat) (bs : List UInt8) (w : World) (hr : Rdr w p bs) :
    Calls Try.prog 47 #[.pointer (some ⟨p, 0, none⟩)] w fun e w' => (e = if bs = [] then .returned (.tuple #[]) else .panicked gaveUp) ∧ w' = w := by
  obtain ⟨u, hs, hu, hlow⟩ := hr
  have hc' : w.cell? ⟨p, 0, none⟩ = some u := hs.cell 0
  obtain ⟨ao, cap, rfl, g1, g2, g3, g4⟩ := hu
  simp only [bv_len] at g1 g2 hc'
  clear g3 g4 hs hlow
  cases bs with
  | nil =>
    go_enter Try.func47, Try.ntmps47
    go_wp2_with (go_at_call 51; refine (must_true _ _).mono ?_; rintro e w2 ⟨rfl, rfl⟩)
    go_end0
    exact ⟨rfl, rfl⟩
  | cons c r =>
    have h1 : (((c :: r).length : Int) == 0) = false := by simp; omega
    obtain ⟨L, hL⟩ : ∃ L, (c :: r).length = L := ⟨_, rfl⟩
    rw [hL] at hc' h1
    clear hL g1
    go_enter Try.func47, Try.ntmps47
    go_wp2_with (go_at_call 51; refine (must_false _ _).mono ?_; rintro e w2 ⟨rfl, rfl⟩)
    exact ⟨rfl, rfl, rfl⟩

set_option maxHeartbeats 800000 in
theorem firstk_none (p : Nat) (kd : UInt8) (kz : Int) (hkz : (kd.toNat : Int) = kz) (bs : List UInt8) (h : K.firstOf kd bs = none) (w : World) (hr : Rdr w p bs) :
    Calls Try.prog 48 #[.pointer (some ⟨p, 0, none⟩), .int .u8 kz] w (Gave p w) := by
  obtain ⟨u, hs, hu, hlow⟩ := hr
  have hc' : w.cell? ⟨p, 0, none⟩ = some u := hs.cell 0
  clear hlow
  cases bs with
  | nil =>
    obtain ⟨ao, cap, rfl, g1, g2, g3, g4⟩ := hu
    simp only [bv_len] at g1 g2 hc'
    clear g3 g4 hs
    go_enter Try.func48, Try.ntmps48
    go_wp2_with (go_at_call 51; refine (must_false _ _).mono ?_; rintro e w2 ⟨rfl, rfl⟩)
    exact ⟨rfl, rfl, Kb.refl _ _ _⟩
  | cons c r =>
    have hne : c ≠ kd := by
      intro hc
      simp [K.firstOf, hc] at h
    obtain ⟨b, off, cap, rfl, hb, hcells⟩ := hu.at (j := 0) (by simp)
    have h0 : w.cell? ⟨b, off, none⟩ = some (.int .u8 (c.toNat : Int)) := hcells 0 (by simp)
    have h1 : ((c.toNat : Int) == kz) = false := by
      have : c.toNat ≠ kd.toNat := fun e => hne (UInt8.toNat_inj.1 e)
      simp; omega
    obtain ⟨z, hz⟩ : ∃ z : Int, (c.toNat : Int) = z := ⟨_, rfl⟩
    obtain ⟨L, hL⟩ : ∃ L, (c :: r).length = L := ⟨_, rfl⟩
    have hL0 : 0 < (L : Int) := by rw [← hL]; simp only [List.length_cons]; omega
    rw [hz] at h0 h1
    rw [hL] at hc'
    clear hcells hu hs hz hL h hne hkz
    go_enter Try.func48, Try.ntmps48
    go_wp2_with (go_at_call 51; refine (must_false _ _).mono ?_; rintro e w2 ⟨rfl, rfl⟩)
    exact ⟨rfl, rfl, Kb.refl _ _ _⟩

set_option maxHeartbeats 800000 in
theorem firstk_some (p : Nat) (kd : UInt8) (kz : Int) (hkz : (kd.toNat : Int) = kz) (bs r : List UInt8) (h : K.firstOf kd bs = some r) (w : World) (hr : Rdr w p bs) :
    Calls Try.prog 48 #[.pointer (some ⟨p, 0, none⟩), .int .u8 kz] w (Took p w (.tuple #[]) r) := by
  obtain ⟨u, hs, hu, hlow⟩ := hr
  have hc' : w.cell? ⟨p, 0, none⟩ = some u := hs.cell 0
  have hf' := hs.frozen 0
  have HS := Lib.hid hs
  have HU := Lib.hid hu
  have HLOW := Lib.hid hlow
  clear hlow
  cases bs with
  | nil => cases h
  | cons c r' =>
    obtain ⟨rfl, rfl⟩ : c = kd ∧ r' = r := by
      unfold K.firstOf at h
      split at h
      · rename_i hh; cases hh
      · rename_i hh
        obtain ⟨rfl, rfl⟩ := List.cons.inj hh
        split at h
        · rename_i h1
          exact ⟨h1, Option.some.inj h⟩
        · cases h
    have hcap' := hu
    obtain ⟨b, off, cap, rfl, hb, hcells⟩ := hu.at (j := 0) (by simp)
    have h0 : w.cell? ⟨b, off, none⟩ = some (.int .u8 kz) := by rw [← hkz]; exact hcells 0 (by simp)
    have g1 : (c :: r').length ≤ cap ∧ cap ≤ maxLen := by
      obtain ⟨ao', cap', hv, q1, q2, _⟩ := hcap'
      have : cap = cap' := by simpa using (Value.slice.inj hv).2.2
      rw [bv_len] at q1
      omega
    have hRest := Rdv.rest HU.out (l := 1) (by simp)
    obtain ⟨L, hL⟩ : ∃ L, (c :: r').length = L := ⟨_, rfl⟩
    have hL0 : 0 < L := by rw [← hL]; simp
    have hL1 : 0 < (L : Int) := by omega
    rw [hL] at hc' g1 HS HU hRest
    obtain ⟨g1, g2⟩ := g1
    unfold maxLen at g2
    clear hcells hcap' hs hL h hkz
    by_cases hcap : cap = 1
    · have HR := Lib.hid (hRest.2 hcap)
      clear hRest
      subst hcap
      rw [Nat.sub_eq_zero_of_le g1] at HR
      go_enter Try.func48, Try.ntmps48
      go_wp2_with (go_at_call 51; refine (must_true _ _).mono ?_; rintro e w2 ⟨rfl, rfl⟩)
      go_end0
      have hz := Rdr.set HS.out HU.out HR.out (HLOW.out.same (fun _ => by simp))
      exact ⟨rfl, hz.1, hz.2⟩
    · have HR := Lib.hid (hRest.1 hcap)
      clear hRest
      go_enter Try.func48, Try.ntmps48
      go_wp2_with (go_at_call 51; refine (must_true _ _).mono ?_; rintro e w2 ⟨rfl, rfl⟩)
      go_end0
      have hz := Rdr.set HS.out HU.out HR.out (HLOW.out.cut (fun _ => by simp))
      exact ⟨rfl, hz.1, hz.2⟩
theorem first_none (p : Nat) (bs : List UInt8) (h : K.first bs = none) (w : World) (hr : Rdr w p bs) :
    Calls Try.prog 48 #[.pointer (some ⟨p, 0, none⟩), .int .u8 1] w (Gave p w) := firstk_none p 1 1 rfl bs h w hr
theorem first_some (p : Nat) (bs r : List UInt8) (h : K.first bs = some r) (w : World) (hr : Rdr w p bs) :
    Calls Try.prog 48 #[.pointer (some ⟨p, 0, none⟩), .int .u8 1] w (Took p w (.tuple #[]) r) := firstk_some p 1 1 rfl bs r h w hr
end Go.Proofs.Ytfpdcljeepjogaa
