/- The document's own reader: where it stands; walks of fail and under. -/
import Derived.Test.YthhngkoopaolkaaGreatDoorDcI
import Derived.BigQuiet
namespace Go.Proofs.YthhngkoopaolkaaGreatDoor
open Go.RowKit

/-- A reader at p: its pieces (they read in w0, where nothing turns), the next one's place, the nodes so far, the fault. -/
structure Rst (w0 w : World) (p : Nat) (lv : Value) (L : List LX.Pc) (t : Nat) (nv : Value) (ns : List DC.Nd) (fk fl : Int) (S : Nat → Prop) : Prop where
  bl : Below w0.heap.size w0 w
  hp : w0.heap.size ≤ p
  st : Str w p 108 #[lv, .int .i64 (t : Int), nv, .int .i64 fk, .int .i64 fl]
  rd : Rdp w0 lv L
  le : t ≤ L.length
  nd : Nds w w0.heap.size S nv ns
  sb : ∀ g, S g → g < w.heap.size
section
variable {w0 w w' : World} {p : Nat} {lv nv : Value} {L : List LX.Pc} {t : Nat} {ns : List DC.Nd} {fk fl : Int} {S : Nat → Prop}
theorem Rst.off (h : Rst w0 w p lv L t nv ns fk fl S) : nv.ownBlock = none ∨ nv.ownBlock ≠ some p := h.nd.off h.st (by decide)
theorem Rst.farp (h : Rst w0 w p lv L t nv ns fk fl S) {S' : Nat → Prop} : Far w S' (some p) := Far.str h.st (by decide) (by decide)
theorem Rst.size (h : Rst w0 w p lv L t nv ns fk fl S) : w0.heap.size ≤ w.heap.size := h.bl.size
theorem Rst.kb (h : Rst w0 w p lv L t nv ns fk fl S) {q r : Option Nat} (hk : Kb w w' q r) (hq : Far w S q) (hr : Far w S r) (q1 : some p ≠ q) (r1 : some p ≠ r) (q2 : nv.ownBlock = none ∨ nv.ownBlock ≠ q) (r2 : nv.ownBlock = none ∨ nv.ownBlock ≠ r) (q3 : ∀ g, q = some g → w0.heap.size ≤ g) (r3 : ∀ g, r = some g → w0.heap.size ≤ g) : Rst w0 w' p lv L t nv ns fk fl S :=
  ⟨h.bl.trans (hk.below h.size q3 r3), h.hp, h.st.kb hk q1 r1, h.rd, h.le, h.nd.kb hk hq hr q2 r2, fun g hg => Nat.lt_of_lt_of_le (h.sb g hg) hk.size⟩
theorem Rst.calm (h : Rst w0 w p lv L t nv ns fk fl S) (hb : Below w.heap.size w w') : Rst w0 w' p lv L t nv ns fk fl S :=
  h.kb (Kb.of_below hb none none) (Far.none _ _) (Far.none _ _) (by simp) (by simp) no_or no_or (by simp) (by simp)
theorem Rst.mono (h : Rst w0 w p lv L t nv ns fk fl S) {S' : Nat → Prop} (hs : ∀ g, S g → S' g) (hb : ∀ g, S' g → g < w.heap.size) : Rst w0 w p lv L t nv ns fk fl S' := ⟨h.bl, h.hp, h.st, h.rd, h.le, h.nd.mono hs, hb⟩
/-- The reader's own cells turn. -/
theorem Rst.turn (h : Rst w0 w p lv L t nv ns fk fl S) {t' : Nat} {gk gl : Int} (hk : Kb w w' (some p) none) (hs : Str w' p 108 #[lv, .int .i64 (t' : Int), nv, .int .i64 gk, .int .i64 gl]) (ht : t' ≤ L.length) : Rst w0 w' p lv L t' nv ns gk gl S :=
  ⟨h.bl.trans (hk.below h.size (fun g hg => by have := Option.some.inj hg; have := h.hp; omega) (by simp)), h.hp, hs, h.rd, ht, h.nd.kb hk h.farp (Far.none _ _) h.off no_or, fun g hg => Nat.lt_of_lt_of_le (h.sb g hg) hk.size⟩
theorem Rst.fail (h : Rst w0 w p lv L t nv ns fk fl S) (k n : Int) : Rst w0 ((w.setCell ⟨p, 3, none⟩ (.int .i64 k)).setCell ⟨p, 4, none⟩ (.int .i64 n)) p lv L t nv ns k n S ∧ Kb w ((w.setCell ⟨p, 3, none⟩ (.int .i64 k)).setCell ⟨p, 4, none⟩ (.int .i64 n)) (some p) nv.ownBlock :=
  ⟨h.turn ((Kb.set w p 3 _ none).trans (Kb.set _ p 4 _ none)) ((h.st.set 3 (.int .i64 k)).set 4 (.int .i64 n)) h.le, (Kb.set w p 3 _ _).trans (Kb.set _ p 4 _ _)⟩
theorem Rst.next (h : Rst w0 w p lv L t nv ns fk fl S) (ht : t + 1 ≤ L.length) : Rst w0 (w.setCell ⟨p, 1, none⟩ (.int .i64 ((t + 1 : Nat) : Int))) p lv L (t + 1) nv ns fk fl S ∧ Kb w (w.setCell ⟨p, 1, none⟩ (.int .i64 ((t + 1 : Nat) : Int))) (some p) nv.ownBlock :=
  ⟨h.turn (Kb.set w p 1 _ none) (h.st.set 1 (.int .i64 ((t + 1 : Nat) : Int))) ht, Kb.set w p 1 _ _⟩
theorem Rst.push {vs : List Nv} (h : Rst w0 w p lv L t nv (vs.map (·.1)) fk fl S) {nv' : Value} {a : Nv} (hn : ∀ a ∈ vs, Nk w w0.heap.size S a) (ho : Ownv w w0.heap.size nv vs) {w1 : World} (hg : w.grownBy w1 nv.ownBlock) (ho' : Ownv w1 w0.heap.size nv' (vs ++ [a])) (ha : Nk w1 w0.heap.size S a) :
    Str w1 p 108 #[lv, .int .i64 (t : Int), nv, .int .i64 fk, .int .i64 fl] ∧ Rst w0 (w1.setCell ⟨p, 2, none⟩ nv') p lv L t nv' (vs.map (·.1) ++ [a.1]) fk fl S ∧ Kb w (w1.setCell ⟨p, 2, none⟩ nv') (some p) nv.ownBlock := by
  have k1 := Kb.of_grown hg (some p)
  have s1 : Str w1 p 108 #[lv, .int .i64 (t : Int), nv, .int .i64 fk, .int .i64 fl] := h.st.kb (Kb.of_grown hg none) (by simp) (by
    rcases h.off with e | e
    · rw [e]; simp
    · exact fun e2 => e e2.symm)
  have kb := Kb.set w1 p 2 nv' none
  have b1 : Below w0.heap.size w0 w1 := h.bl.trans ((Kb.of_grown hg none).below h.size (by simp) (fun g hg => (h.nd.ge hg).1))
  have n1 := Nds.push hn ho hg ho' ha
  have f1 : Far w1 S (some p) := Far.str s1 (by decide) (by decide)
  exact ⟨s1, ⟨b1.trans (kb.below b1.size (fun g hg => by have := Option.some.inj hg; have := h.hp; omega) (by simp)), h.hp, s1.set 2 nv', h.rd, h.le, n1.kb kb f1 (Far.none _ _) (ho'.off s1 (.inl (by decide))) no_or, fun g hg => Nat.lt_of_lt_of_le (h.sb g hg) (Nat.le_trans k1.size kb.size)⟩, k1.trans (Kb.set w1 p 2 nv' _)⟩
end
theorem dropt_at {L : List LX.Pc} {t : Nat} (h : t < L.length) : ∃ x, L[t]? = some x ∧ L.drop t = x :: L.drop (t + 1) := ⟨L[t], List.getElem?_eq_getElem h, List.drop_eq_getElem_cons h⟩
/-- A piece that is handed in, read. -/
theorem Rst.at {w0 w : World} {p : Nat} {lv nv : Value} {L : List LX.Pc} {t : Nat} {ns : List DC.Nd} {fk fl : Int} {S : Nat → Prop} (h : Rst w0 w p lv L t nv ns fk fl S) {j : Nat} {x : LX.Pc} (hx : L[j]? = some x) : ∃ b off cap, lv = .slice (some ⟨b, off, none⟩) L.length cap ∧ At5 w b (off + j * 5) x := by
  obtain ⟨ao, cap, e, _, _, _, h4⟩ := h.rd
  obtain ⟨b, off, rfl, c⟩ := h4 j x hx
  exact ⟨b, off, cap, e, c.below h.bl⟩

set_option maxHeartbeats 1000000 in
theorem rfail_any {w0 w : World} {p : Nat} {lv nv : Value} {L : List LX.Pc} {t : Nat} {ns : List DC.Nd} {fl : Int} {S : Nat → Prop} (h : Rst w0 w p lv L t nv ns 0 fl S) (k n : Int) :
    Calls Tryz.prog 49 #[.pointer (some ⟨p, 0, none⟩), .int .i64 k, .int .i64 n] w fun e w' => e = .returned (.tuple #[]) ∧ Rst w0 w' p lv L t nv ns k n S ∧ Kb w w' (some p) nv.ownBlock := by
  have HF := Lib.hid (h.fail k n)
  have c3 : w.cell? ⟨p, 3, none⟩ = some (.int .i64 0) := h.st.cell 3
  have c4 : w.cell? ⟨p, 4, none⟩ = some (.int .i64 fl) := h.st.cell 4
  have f3 := h.st.frozen 3
  have f4 := h.st.frozen 4
  clear h
  go_enter Tryz.func49, Tryz.ntmps49
  go_wp2
  go_end0
  exact ⟨rfl, HF.out.1, HF.out.2⟩

/-- What the document's own block answers, at its end. -/
def RbE (w0 w : World) (p : Nat) (lv : Value) (L : List LX.Pc) (nv : Value) (ns : List DC.Nd) (S : Nat → Prop) (r : DC.BR) (e : Ending) (w' : World) : Prop :=
  ∃ (z t' : Nat) (nv' : Value) (ns' : List DC.Nd) (k l : Int), e = .returned (.int .i64 (z : Int)) ∧ Rst w0 w' p lv L t' nv' ns' k l (More S w w') ∧ Kb w w' (some p) nv.ownBlock ∧ Near w nv nv' ∧ match r with
  | .bad a b => k = a ∧ l = b ∧ (∃ ms, ns' = ns ++ ms) ∧ ns'.length ≤ 2000
  | .ok a => k = 0 ∧ l = 0 ∧ z = ns.length ∧ ns' = ns ++ a.1 ∧ L.drop t' = a.2
def RbC (f : Nat) : Prop := ∀ (w0 w : World) (p : Nat) (lv nv : Value) (L : List LX.Pc) (t : Nat) (ns : List DC.Nd) (S : Nat → Prop) (d : Nat), Rst w0 w p lv L t nv ns 0 0 S → t < L.length → L.length ≤ 1000000 → 2 * (L.drop t).length + 2 ≤ f → ns.length ≤ 2000 → d ≤ 25 →
  Calls Tryz.prog 48 #[.pointer (some ⟨p, 0, none⟩), .int .i64 (d : Int)] w (RbE w0 w p lv L nv ns S (DC.blk f d ns.length (L.drop t)))
theorem RbE.from {w0 w w1 w' : World} {p : Nat} {lv nv : Value} {L : List LX.Pc} {ns : List DC.Nd} {S : Nat → Prop} {r : DC.BR} {e : Ending} (hk : Kb w w1 (some p) nv.ownBlock) (h : RbE w0 w1 p lv L nv ns S r e w') : RbE w0 w p lv L nv ns S r e w' := by
  obtain ⟨z, t', nv', ns', k, l, he, hp, hkb, hn, hr⟩ := h
  refine ⟨z, t', nv', ns', k, l, he, hp.mono (fun g hg => hg.imp id fun hg => ⟨Nat.le_trans hk.size hg.1, hg.2⟩) (fun g hg => ?_), hk.trans hkb, ?_, hr⟩
  · rcases hg with hg | hg
    · exact hp.sb g (.inl hg)
    · exact hg.2
  · rcases hn with hn | hn
    · exact .inl hn
    · exact .inr fun g hg => Nat.le_trans hk.size (hn g hg)
theorem More.ofS {S : Nat → Prop} {w w' : World} (hs : ∀ g, S g → g < w.heap.size) (hz : w.heap.size ≤ w'.heap.size) : (∀ g, S g → More S w w' g) ∧ ∀ g, More S w w' g → g < w'.heap.size :=
  ⟨fun g hg => .inl hg, fun g hg => by
    rcases hg with h | h
    · exact Nat.lt_of_lt_of_le (hs g h) hz
    · exact h.2⟩

set_option maxHeartbeats 4000000 in
theorem runder_any {f : Nat} (hb : RbC f) {w0 w : World} {p : Nat} {lv nv : Value} {L : List LX.Pc} {t : Nat} {ns : List DC.Nd} {S : Nat → Prop} (h : Rst w0 w p lv L t nv ns 0 0 S) (x : LX.Pc) (d : Nat) (hd : d ≤ 24) (hL : L.length ≤ 1000000) (hf : 2 * (L.drop t).length + 2 ≤ f) (hN : ns.length ≤ 2000) :
    Calls Tryz.prog 87 #[.pointer (some ⟨p, 0, none⟩), .agg (pc x), .int .i64 (d : Int)] w (RbE w0 w p lv L nv ns S (DC.und f x.2.1 x.2.2.1 (d + 1) ns.length (L.drop t))) := by
  have BA := below_alloc w (.cells (pc x) 110)
  have HS := Lib.hid (h.calm BA)
  have HBA := Lib.hid (Kb.of_below BA (some p) nv.ownBlock)
  have HSB := Lib.hid h.sb
  have sx := Str.new w 110 (pc x)
  have x1 := sx.cell 1
  have x2 := sx.cell 2
  have c1 := HS.out.st.cell 1
  have c0 := HS.out.st.cell 0
  have HN := Lib.hid hN
  obtain ⟨al, cl, hal, _, _⟩ := h.rd.slice
  by_cases ht : t < L.length
  · obtain ⟨q, hq, hdr⟩ := dropt_at ht
    obtain ⟨b, off, cap, rfl, hq5⟩ := HS.out.at hq
    have q2 := hq5.c2
    obtain ⟨n, hn⟩ : ∃ n, L.length = n := ⟨_, rfl⟩
    have HLn := Lib.hid hn
    have HB := Lib.hid (fun (u : World) (k : Below _ _ u) => hb w0 u p _ nv L t ns S (d + 1) (HS.out.calm k) ht hL hf hN (by omega))
    have HU := Lib.hid (show DC.und f x.2.1 x.2.2.1 (d + 1) ns.length (L.drop t) = if q.2.2.1 ≤ x.2.2.1 then .bad 10 x.2.1 else DC.blk f (d + 1) ns.length (L.drop t) by
      unfold DC.und
      rw [hdr]
      by_cases hqx : q.2.2.1 ≤ x.2.2.1
      · rw [if_pos (by simpa [DC.low] using hqx), if_pos hqx]
      · rw [if_neg (by simpa [DC.low] using hqx), if_neg hqx])
    obtain ⟨A, hA⟩ : ∃ A, DC.und f x.2.1 x.2.2.1 (d + 1) ns.length (L.drop t) = A := ⟨_, rfl⟩
    rw [hA] at HU ⊢
    obtain ⟨xk, xn, xc, xt, xq⟩ := x
    obtain ⟨qk, qn, qc, qt, qq⟩ := q
    have htn : (t : Int) < (n : Int) := by omega
    have htb : decide ((n : Int) ≤ (t : Int)) = false := decide_eq_false (by omega)
    have htc : decide (n ≤ t) = false := decide_eq_false (by omega)
    have ht0 : (0 : Int) ≤ (t : Int) := by omega
    have hd1 : ((d + 1 : Nat) : Int) = (d : Int) + 1 := rfl
    unfold pc at HS HB HBA x1 x2 c0 c1 q2 ⊢
    simp only [List.getElem?_toArray, List.getElem?_cons_zero, List.getElem?_cons_succ] at HS HB HBA HU x1 x2 c0 c1 q2 ⊢
    rw [hn] at c0
    rw [hd1] at HB
    clear BA sx hq hdr hq5 hA hal hn h hf hN hb hd1
    by_cases hqx : qc ≤ xc
    · have HF := Lib.hid (fun (u : World) (k : Below _ _ u) => rfail_any (HS.out.calm k) 10 xn)
      have hqd : decide (qc ≤ xc) = true := decide_eq_true hqx
      rw [if_pos hqx] at HU
      clear HB
      go_enter Tryz.func87, Tryz.ntmps87
      go_wp2
      generalize w.alloc (.cells #[.int .i64 xk, .int .i64 xn, .int .i64 xc, .string ⟨xt.toArray⟩, .bool xq] 110) = W at *
      go_quiet (fail)
      go_wp2_with (go_at_call 49; refine (HF.out (W.drewN nq) (below_drewN _ _)).mono ?_; rintro e w2 ⟨rfl, hp, hk⟩)
      go_ret
      rw [HU.out]
      have hkk := (HBA.out.trans (Kb.of_below (below_drewN W nq) _ _)).trans hk
      obtain ⟨m1, m2⟩ := More.ofS HSB.out hkk.size
      exact ⟨0, t, nv, ns, 10, xn, rfl, hp.mono m1 m2, hkk, Near.refl _ _, rfl, rfl, ⟨[], (List.append_nil _).symm⟩, HN.out⟩
    · have hqd : decide (qc ≤ xc) = false := decide_eq_false hqx
      rw [if_neg hqx] at HU
      have HO := Lib.hid (fun (u : World) (e : Ending) (w' : World) (k : Kb w u (some p) nv.ownBlock) (he : RbE w0 u p (.slice (some ⟨b, off, none⟩) L.length cap) L nv ns S (DC.blk f (d + 1) ns.length (L.drop t)) e w') => RbE.from k he)
      rw [← HU.out] at HO HB
      go_enter Tryz.func87, Tryz.ntmps87
      go_wp2
      generalize w.alloc (.cells #[.int .i64 xk, .int .i64 xn, .int .i64 xc, .string ⟨xt.toArray⟩, .bool xq] 110) = W at *
      go_quiet (fail)
      go_wp2_with (go_at_call 48; refine (HB.out (W.drewN nq) (below_drewN _ _)).mono ?_; rintro e w2 he; replace he := HO.out _ _ _ (HBA.out.trans (Kb.of_below (below_drewN W nq) _ _)) he; obtain ⟨z, t', nv', ns', k, l, rfl, hp, hrest⟩ := he)
      go_ret
      exact ⟨z, t', nv', ns', k, l, rfl, hp, hrest⟩
  · have htl : t = L.length := by have := h.le; omega
    have HU : Hid (DC.und f x.2.1 x.2.2.1 (d + 1) ns.length (L.drop t) = .bad 10 x.2.1) := by
      show _ = _
      rw [htl, List.drop_length]; rfl
    rw [HU.out]
    subst hal
    obtain ⟨n, hn⟩ : ∃ n, L.length = n := ⟨_, rfl⟩
    rw [hn] at htl c0 HS
    have htb : decide ((n : Int) ≤ (t : Int)) = true := decide_eq_true (by omega)
    have htn : (n : Int) ≤ (t : Int) := by omega
    obtain ⟨xk, xn, xc, xt, xq⟩ := x
    have HF := Lib.hid (fun (u : World) (k : Below _ _ u) => rfail_any (HS.out.calm k) 10 xn)
    unfold pc at HS HF HBA x1 x2 c0 c1 ⊢
    simp only [List.getElem?_toArray, List.getElem?_cons_zero, List.getElem?_cons_succ] at HS HF HBA x1 x2 c0 c1 ⊢
    rw [hn]
    clear BA sx h hf hN hb ht
    subst htl
    go_enter Tryz.func87, Tryz.ntmps87
    go_wp2
    generalize w.alloc (.cells #[.int .i64 xk, .int .i64 xn, .int .i64 xc, .string ⟨xt.toArray⟩, .bool xq] 110) = W at *
    go_quiet (fail)
    go_wp2_with (go_at_call 49; refine (HF.out (W.drewN nq) (below_drewN _ _)).mono ?_; rintro e w2 ⟨rfl, hp, hk⟩)
    go_ret
    have hkk := (HBA.out.trans (Kb.of_below (below_drewN W nq) _ _)).trans hk
    obtain ⟨m1, m2⟩ := More.ofS HSB.out hkk.size
    exact ⟨0, _, nv, ns, 10, xn, rfl, hp.mono m1 m2, hkk, Near.refl _ _, rfl, rfl, ⟨[], (List.append_nil _).symm⟩, HN.out⟩
end Go.Proofs.YthhngkoopaolkaaGreatDoor
