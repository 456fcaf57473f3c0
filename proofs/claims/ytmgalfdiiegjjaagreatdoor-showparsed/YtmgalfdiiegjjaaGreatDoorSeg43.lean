/- Several texts in one. -/
import Derived.Test.YtmgalfdiiegjjaaGreatDoorDcI
import Derived.BigQuiet
namespace Go.Proofs.YtmgalfdiiegjjaaGreatDoor
open Go.RowKit

/-- A reader at p: its pieces (they read in w0, where nothing turns), the next one's place, the nodes so far, the fault. -/
structure Rst (w0 w : World) (p : Nat) (lv : Value) (L : List LX.Pc) (t : Nat) (nv : Value) (ns : List DC.Nd) (fk fl : Int) (S : Nat → Prop) : Prop where
  bl : Below w0.heap.size w0 w
  hp : w0.heap.size ≤ p
  st : Str w p 117 #[lv, .int .i64 (t : Int), nv, .int .i64 fk, .int .i64 fl]
  rd : Rdp w0 lv L
  le : t ≤ L.length
  nd : Nds w w0.heap.size S nv ns
  sb : ∀ g, S g → g < w.heap.size
section
variable {w0 w w' : World} {p : Nat} {lv nv : Value} {L : List LX.Pc} {t : Nat} {ns : List DC.Nd} {fk fl : Int} {S : Nat → Prop}
theorem Rst.off (h : Rst w0 w p lv L t nv ns fk fl S) : nv.ownBlock = none ∨ nv.ownBlock ≠ some p := h.nd.off h.st (by decide)
theorem Rst.farp (h : Rst w0 w p lv L t nv ns fk fl S) {S' : Nat → Prop} : Far w S' (some p) := Far.str h.st (by decide) (by decide)
theorem Rst.size (h : Rst w0 w p lv L t nv ns fk fl S) : w0.heap.size ≤ w.heap.size := h.bl.size
theorem Rst.kb (h : Rst w0 w p lv L t nv ns fk fl S) {q r : Option Nat} (hk : Kb w w' q r) (hq : Far w S q) (hr : Far w S r) (q1 : some p ≠ q) (r1 : some p ≠ r) (q2 : nv.ownBlock = none ∨ nv.ownBlock ≠ q) (r2 : nv.ownBlock = none ∨ nv.ownBlock ≠ r) (q3 : ∀ g, q = some g → w0.heap.size ≤ g) (r3 : ∀ g, r = some g → w0.heap.size ≤ g) : Rst w0 w' p lv L t nv ns fk fl S :=
  ⟨h.bl.trans (hk.below h.size q3 r3), h.hp, h.st.kb hk q1 r1, h.rd, h.le, h.nd.kb hk hq hr q2 r2, fun g hg => Nat.lt_of_lt_of_le (h.sb g hg) hk.size⟩
theorem Rst.calm (h : Rst w0 w p lv L t nv ns fk fl S) (hb : Below w.heap.size w w') : Rst w0 w' p lv L t nv ns fk fl S :=
  h.kb (Kb.of_below hb none none) (Far.none _ _) (Far.none _ _) (by simp) (by simp) no_or no_or (by simp) (by simp)
theorem Rst.mono (h : Rst w0 w p lv L t nv ns fk fl S) {S' : Nat → Prop} (hs : ∀ g, S g → S' g) (hb : ∀ g, S' g → g < w.heap.size) : Rst w0 w p lv L t nv ns fk fl S' := ⟨h.bl, h.hp, h.st, h.rd, h.le, h.nd.mono hs, hb⟩
/-- The reader's own cells turn. -/
theorem Rst.turn (h : Rst w0 w p lv L t nv ns fk fl S) {t' : Nat} {gk gl : Int} (hk : Kb w w' (some p) none) (hs : Str w' p 117 #[lv, .int .i64 (t' : Int), nv, .int .i64 gk, .int .i64 gl]) (ht : t' ≤ L.length) : Rst w0 w' p lv L t' nv ns gk gl S :=
  ⟨h.bl.trans (hk.below h.size (fun g hg => by have := Option.some.inj hg; have := h.hp; omega) (by simp)), h.hp, hs, h.rd, ht, h.nd.kb hk h.farp (Far.none _ _) h.off no_or, fun g hg => Nat.lt_of_lt_of_le (h.sb g hg) hk.size⟩
theorem Rst.fail (h : Rst w0 w p lv L t nv ns fk fl S) (k n : Int) : Rst w0 ((w.setCell ⟨p, 3, none⟩ (.int .i64 k)).setCell ⟨p, 4, none⟩ (.int .i64 n)) p lv L t nv ns k n S ∧ Kb w ((w.setCell ⟨p, 3, none⟩ (.int .i64 k)).setCell ⟨p, 4, none⟩ (.int .i64 n)) (some p) nv.ownBlock :=
  ⟨h.turn ((Kb.set w p 3 _ none).trans (Kb.set _ p 4 _ none)) ((h.st.set 3 (.int .i64 k)).set 4 (.int .i64 n)) h.le, (Kb.set w p 3 _ _).trans (Kb.set _ p 4 _ _)⟩
theorem Rst.next (h : Rst w0 w p lv L t nv ns fk fl S) (ht : t + 1 ≤ L.length) : Rst w0 (w.setCell ⟨p, 1, none⟩ (.int .i64 ((t + 1 : Nat) : Int))) p lv L (t + 1) nv ns fk fl S ∧ Kb w (w.setCell ⟨p, 1, none⟩ (.int .i64 ((t + 1 : Nat) : Int))) (some p) nv.ownBlock :=
  ⟨h.turn (Kb.set w p 1 _ none) (h.st.set 1 (.int .i64 ((t + 1 : Nat) : Int))) ht, Kb.set w p 1 _ _⟩
theorem Rst.push {vs : List Nv} (h : Rst w0 w p lv L t nv (vs.map (·.1)) fk fl S) {nv' : Value} {a : Nv} (hn : ∀ a ∈ vs, Nk w w0.heap.size S a) (ho : Ownv w w0.heap.size nv vs) {w1 : World} (hg : w.grownBy w1 nv.ownBlock) (ho' : Ownv w1 w0.heap.size nv' (vs ++ [a])) (ha : Nk w1 w0.heap.size S a) :
    Str w1 p 117 #[lv, .int .i64 (t : Int), nv, .int .i64 fk, .int .i64 fl] ∧ Rst w0 (w1.setCell ⟨p, 2, none⟩ nv') p lv L t nv' (vs.map (·.1) ++ [a.1]) fk fl S ∧ Kb w (w1.setCell ⟨p, 2, none⟩ nv') (some p) nv.ownBlock := by
  have k1 := Kb.of_grown hg (some p)
  have s1 : Str w1 p 117 #[lv, .int .i64 (t : Int), nv, .int .i64 fk, .int .i64 fl] := h.st.kb (Kb.of_grown hg none) (by simp) (by
    rcases h.off with e | e
    · rw [e]; simp
    · exact fun e2 => e e2.symm)
  have kb := Kb.set w1 p 2 nv' none
  have b1 : Below w0.heap.size w0 w1 := h.bl.trans ((Kb.of_grown hg none).below h.size (by simp) (fun g hg => (h.nd.ge hg).1))
  have n1 := Nds.push hn ho hg ho' ha
  have f1 : Far w1 S (some p) := Far.str s1 (by decide) (by decide)
  exact ⟨s1, ⟨b1.trans (kb.below b1.size (fun g hg => by have := Option.some.inj hg; have := h.hp; omega) (by simp)), h.hp, s1.set 2 nv', h.rd, h.le, n1.kb kb f1 (Far.none _ _) (ho'.off s1 (.inl (by decide))) no_or, fun g hg => Nat.lt_of_lt_of_le (h.sb g hg) (Nat.le_trans k1.size kb.size)⟩, k1.trans (Kb.set w1 p 2 nv' _)⟩
end
theorem dropt_at {L : List LX.Pc} {t : Nat} (h : t < L.length) : ∃ x, L[t]? = some x ∧ L.drop t = x :: L.drop (t + 1) := ⟨L[t], List.getElem?_eq_getElem h, List.drop_eq_getElem_cons h⟩
/-- A piece that is handed in, read. -/
theorem Rst.at {w0 w : World} {p : Nat} {lv nv : Value} {L : List LX.Pc} {t : Nat} {ns : List DC.Nd} {fk fl : Int} {S : Nat → Prop} (h : Rst w0 w p lv L t nv ns fk fl S) {j : Nat} {x : LX.Pc} (hx : L[j]? = some x) : ∃ b off cap, lv = .slice (some ⟨b, off, none⟩) L.length cap ∧ At5 w b (off + j * 5) x := by
  obtain ⟨ao, cap, e, _, _, _, h4⟩ := h.rd
  obtain ⟨b, off, rfl, c⟩ := h4 j x hx
  exact ⟨b, off, cap, e, c.below h.bl⟩

set_option maxHeartbeats 1000000 in
theorem rfail_any {w0 w : World} {p : Nat} {lv nv : Value} {L : List LX.Pc} {t : Nat} {ns : List DC.Nd} {fl : Int} {S : Nat → Prop} (h : Rst w0 w p lv L t nv ns 0 fl S) (k n : Int) :
    Calls Tryz.prog 67 #[.pointer (some ⟨p, 0, none⟩), .int .i64 k, .int .i64 n] w fun e w' => e = .returned (.tuple #[]) ∧ Rst w0 w' p lv L t nv ns k n S ∧ Kb w w' (some p) nv.ownBlock := by
  have HF := Lib.hid (h.fail k n)
  have c3 : w.cell? ⟨p, 3, none⟩ = some (.int .i64 0) := h.st.cell 3
  have c4 : w.cell? ⟨p, 4, none⟩ = some (.int .i64 fl) := h.st.cell 4
  have f3 := h.st.frozen 3
  have f4 := h.st.frozen 4
  clear h
  go_enter Tryz.func67, Tryz.ntmps67
  go_wp2
  go_end0
  exact ⟨rfl, HF.out.1, HF.out.2⟩

/-- What the document's own block answers, at its end. -/
def RbE (w0 w : World) (p : Nat) (lv : Value) (L : List LX.Pc) (nv : Value) (ns : List DC.Nd) (S : Nat → Prop) (r : DC.BR) (e : Ending) (w' : World) : Prop :=
  ∃ (z t' : Nat) (nv' : Value) (ns' : List DC.Nd) (k l : Int), e = .returned (.int .i64 (z : Int)) ∧ Rst w0 w' p lv L t' nv' ns' k l (More S w w') ∧ Kb w w' (some p) nv.ownBlock ∧ Near w nv nv' ∧ match r with
  | .bad a b => k = a ∧ l = b ∧ (∃ ms, ns' = ns ++ ms) ∧ ns'.length ≤ 2000
  | .ok a => k = 0 ∧ l = 0 ∧ z = ns.length ∧ ns' = ns ++ a.1 ∧ L.drop t' = a.2
def RbC (f : Nat) : Prop := ∀ (w0 w : World) (p : Nat) (lv nv : Value) (L : List LX.Pc) (t : Nat) (ns : List DC.Nd) (S : Nat → Prop) (d : Nat), Rst w0 w p lv L t nv ns 0 0 S → t < L.length → L.length ≤ 1000000 → 2 * (L.drop t).length + 2 ≤ f → ns.length ≤ 2000 → d ≤ 25 →
  Calls Tryz.prog 66 #[.pointer (some ⟨p, 0, none⟩), .int .i64 (d : Int)] w (RbE w0 w p lv L nv ns S (DC.blk f d ns.length (L.drop t)))
theorem RbE.from {w0 w w1 w' : World} {p : Nat} {lv nv : Value} {L : List LX.Pc} {ns : List DC.Nd} {S : Nat → Prop} {r : DC.BR} {e : Ending} (hk : Kb w w1 (some p) nv.ownBlock) (h : RbE w0 w1 p lv L nv ns S r e w') : RbE w0 w p lv L nv ns S r e w' := by
  obtain ⟨z, t', nv', ns', k, l, he, hp, hkb, hn, hr⟩ := h
  refine ⟨z, t', nv', ns', k, l, he, hp.mono (fun g hg => hg.imp id fun hg => ⟨Nat.le_trans hk.size hg.1, hg.2⟩) (fun g hg => ?_), hk.trans hkb, ?_, hr⟩
  · rcases hg with hg | hg
    · exact hp.sb g (.inl hg)
    · exact hg.2
  · rcases hn with hn | hn
    · exact .inl hn
    · exact .inr fun g hg => Nat.le_trans hk.size (hn g hg)
theorem More.ofS {S : Nat → Prop} {w w' : World} (hs : ∀ g, S g → g < w.heap.size) (hz : w.heap.size ≤ w'.heap.size) : (∀ g, S g → More S w w' g) ∧ ∀ g, More S w w' g → g < w'.heap.size :=
  ⟨fun g hg => .inl hg, fun g hg => by
    rcases hg with h | h
    · exact Nat.lt_of_lt_of_le (hs g h) hz
    · exact h.2⟩

set_option maxHeartbeats 4000000 in
theorem runder_any {f : Nat} (hb : RbC f) {w0 w : World} {p : Nat} {lv nv : Value} {L : List LX.Pc} {t : Nat} {ns : List DC.Nd} {S : Nat → Prop} (h : Rst w0 w p lv L t nv ns 0 0 S) (x : LX.Pc) (d : Nat) (hd : d ≤ 24) (hL : L.length ≤ 1000000) (hf : 2 * (L.drop t).length + 2 ≤ f) (hN : ns.length ≤ 2000) :
    Calls Tryz.prog 101 #[.pointer (some ⟨p, 0, none⟩), .agg (pc x), .int .i64 (d : Int)] w (RbE w0 w p lv L nv ns S (DC.und f x.2.1 x.2.2.1 (d + 1) ns.length (L.drop t))) := by
  have BA := below_alloc w (.cells (pc x) 119)
  have HS := Lib.hid (h.calm BA)
  have HBA := Lib.hid (Kb.of_below BA (some p) nv.ownBlock)
  have HSB := Lib.hid h.sb
  have sx := Str.new w 119 (pc x)
  have x1 := sx.cell 1
  have x2 := sx.cell 2
  have c1 := HS.out.st.cell 1
  have c0 := HS.out.st.cell 0
  have HN := Lib.hid hN
  obtain ⟨al, cl, hal, _, _⟩ := h.rd.slice
  by_cases ht : t < L.length
  · obtain ⟨q, hq, hdr⟩ := dropt_at ht
    obtain ⟨b, off, cap, rfl, hq5⟩ := HS.out.at hq
    have q2 := hq5.c2
    obtain ⟨n, hn⟩ : ∃ n, L.length = n := ⟨_, rfl⟩
    have HLn := Lib.hid hn
    have HB := Lib.hid (fun (u : World) (k : Below _ _ u) => hb w0 u p _ nv L t ns S (d + 1) (HS.out.calm k) ht hL hf hN (by omega))
    have HU := Lib.hid (show DC.und f x.2.1 x.2.2.1 (d + 1) ns.length (L.drop t) = if q.2.2.1 ≤ x.2.2.1 then .bad 10 x.2.1 else DC.blk f (d + 1) ns.length (L.drop t) by
      unfold DC.und
      rw [hdr]
      by_cases hqx : q.2.2.1 ≤ x.2.2.1
      · rw [if_pos (by simpa [DC.low] using hqx), if_pos hqx]
      · rw [if_neg (by simpa [DC.low] using hqx), if_neg hqx])
    obtain ⟨A, hA⟩ : ∃ A, DC.und f x.2.1 x.2.2.1 (d + 1) ns.length (L.drop t) = A := ⟨_, rfl⟩
    rw [hA] at HU ⊢
    obtain ⟨xk, xn, xc, xt, xq⟩ := x
    obtain ⟨qk, qn, qc, qt, qq⟩ := q
    have htn : (t : Int) < (n : Int) := by omega
    have htb : decide ((n : Int) ≤ (t : Int)) = false := decide_eq_false (by omega)
    have htc : decide (n ≤ t) = false := decide_eq_false (by omega)
    have ht0 : (0 : Int) ≤ (t : Int) := by omega
    have hd1 : ((d + 1 : Nat) : Int) = (d : Int) + 1 := rfl
    unfold pc at HS HB HBA x1 x2 c0 c1 q2 ⊢
    simp only [List.getElem?_toArray, List.getElem?_cons_zero, List.getElem?_cons_succ] at HS HB HBA HU x1 x2 c0 c1 q2 ⊢
    rw [hn] at c0
    rw [hd1] at HB
    clear BA sx hq hdr hq5 hA hal hn h hf hN hb hd1
    by_cases hqx : qc ≤ xc
    · have HF := Lib.hid (fun (u : World) (k : Below _ _ u) => rfail_any (HS.out.calm k) 10 xn)
      have hqd : decide (qc ≤ xc) = true := decide_eq_true hqx
      rw [if_pos hqx] at HU
      clear HB
      go_enter Tryz.func101, Tryz.ntmps101
      go_wp2
      generalize w.alloc (.cells #[.int .i64 xk, .int .i64 xn, .int .i64 xc, .string ⟨xt.toArray⟩, .bool xq] 119) = W at *
      go_quiet (fail)
      go_wp2_with (go_at_call 67; refine (HF.out (W.drewN nq) (below_drewN _ _)).mono ?_; rintro e w2 ⟨rfl, hp, hk⟩)
      go_ret
      rw [HU.out]
      have hkk := (HBA.out.trans (Kb.of_below (below_drewN W nq) _ _)).trans hk
      obtain ⟨m1, m2⟩ := More.ofS HSB.out hkk.size
      exact ⟨0, t, nv, ns, 10, xn, rfl, hp.mono m1 m2, hkk, Near.refl _ _, rfl, rfl, ⟨[], (List.append_nil _).symm⟩, HN.out⟩
    · have hqd : decide (qc ≤ xc) = false := decide_eq_false hqx
      rw [if_neg hqx] at HU
      have HO := Lib.hid (fun (u : World) (e : Ending) (w' : World) (k : Kb w u (some p) nv.ownBlock) (he : RbE w0 u p (.slice (some ⟨b, off, none⟩) L.length cap) L nv ns S (DC.blk f (d + 1) ns.length (L.drop t)) e w') => RbE.from k he)
      rw [← HU.out] at HO HB
      go_enter Tryz.func101, Tryz.ntmps101
      go_wp2
      generalize w.alloc (.cells #[.int .i64 xk, .int .i64 xn, .int .i64 xc, .string ⟨xt.toArray⟩, .bool xq] 119) = W at *
      go_quiet (fail)
      go_wp2_with (go_at_call 66; refine (HB.out (W.drewN nq) (below_drewN _ _)).mono ?_; rintro e w2 he; replace he := HO.out _ _ _ (HBA.out.trans (Kb.of_below (below_drewN W nq) _ _)) he; obtain ⟨z, t', nv', ns', k, l, rfl, hp, hrest⟩ := he)
      go_ret
      exact ⟨z, t', nv', ns', k, l, rfl, hp, hrest⟩
  · have htl : t = L.length := by have := h.le; omega
    have HU : Hid (DC.und f x.2.1 x.2.2.1 (d + 1) ns.length (L.drop t) = .bad 10 x.2.1) := by
      show _ = _
      rw [htl, List.drop_length]; rfl
    rw [HU.out]
    subst hal
    obtain ⟨n, hn⟩ : ∃ n, L.length = n := ⟨_, rfl⟩
    rw [hn] at htl c0 HS
    have htb : decide ((n : Int) ≤ (t : Int)) = true := decide_eq_true (by omega)
    have htn : (n : Int) ≤ (t : Int) := by omega
    obtain ⟨xk, xn, xc, xt, xq⟩ := x
    have HF := Lib.hid (fun (u : World) (k : Below _ _ u) => rfail_any (HS.out.calm k) 10 xn)
    unfold pc at HS HF HBA x1 x2 c0 c1 ⊢
    simp only [List.getElem?_toArray, List.getElem?_cons_zero, List.getElem?_cons_succ] at HS HF HBA x1 x2 c0 c1 ⊢
    rw [hn]
    clear BA sx h hf hN hb ht
    subst htl
    go_enter Tryz.func101, Tryz.ntmps101
    go_wp2
    generalize w.alloc (.cells #[.int .i64 xk, .int .i64 xn, .int .i64 xc, .string ⟨xt.toArray⟩, .bool xq] 119) = W at *
    go_quiet (fail)
    go_wp2_with (go_at_call 67; refine (HF.out (W.drewN nq) (below_drewN _ _)).mono ?_; rintro e w2 ⟨rfl, hp, hk⟩)
    go_ret
    have hkk := (HBA.out.trans (Kb.of_below (below_drewN W nq) _ _)).trans hk
    obtain ⟨m1, m2⟩ := More.ofS HSB.out hkk.size
    exact ⟨0, _, nv, ns, 10, xn, rfl, hp.mono m1 m2, hkk, Near.refl _ _, rfl, rfl, ⟨[], (List.append_nil _).symm⟩, HN.out⟩
end Go.Proofs.YtmgalfdiiegjjaaGreatDoor

/- Where the document's own block stands: its piece, its keys and kids so far in rows of their own. -/
namespace Go.Proofs.YtmgalfdiiegjjaaGreatDoor
open Go.RowKit

abbrev bareT (y : DC.Nd) : Nv := (y, .slice none 0 0, .slice none 0 0)
/-- The document's own block, called at w, now at wr: the piece at P = w.heap.size, the reader, the keys and kids so far. -/
structure TbS (w0 w wr : World) (p : Nat) (nv lv nv' kv v : Value) (x : LX.Pc) (L : List LX.Pc) (t : Nat) (ns : List DC.Nd) (fk fl : Int) (S Sk : Nat → Prop) (ks : List LX.B) (is : List Nat) : Prop where
  rs : Rst w0 wr p lv L t nv' ns fk fl Sk
  kb : Kb w wr (some p) nv.ownBlock
  nr : Near w nv nv'
  fi : Str wr w.heap.size 119 (pc x)
  keys : Own wr w.heap.size 9 kv (sv ks)
  kids : Own wr w.heap.size 3 v (nats is)
  sub : ∀ g, Sk g → More S w wr g
  ak : ∀ g, kv.ownBlock = some g → ¬ Sk g
  ai : ∀ g, v.ownBlock = some g → ¬ Sk g
  gz : w0.heap.size ≤ w.heap.size
section
variable {w0 w wr : World} {p : Nat} {nv lv nv' kv v : Value} {x : LX.Pc} {L : List LX.Pc} {t : Nat} {ns : List DC.Nd} {fk fl : Int} {S Sk : Nat → Prop} {ks : List LX.B} {is : List Nat}
theorem TbS.start (h : Rst w0 w p lv L t nv ns fk fl S) (x : LX.Pc) : TbS w0 w ((w.alloc (.cells (pc x) 119)).drew) p nv lv nv (.slice none 0 0) (.slice none 0 0) x L t ns fk fl S S [] [] := by
  have b := below_trans (below_alloc w (.cells (pc x) 119)) (below_drew _)
  exact ⟨h.calm b, Kb.of_below b _ _, Near.refl _ _, (Str.new w 119 (pc x)).below (below_drew _), Own.nil _ _ _, Own.nil _ _ _, fun g hg => .inl hg, (by intro g h; cases h), (by intro g h; cases h), h.bl.size⟩
theorem TbS.calm (h : TbS w0 w wr p nv lv nv' kv v x L t ns fk fl S Sk ks is) {w' : World} (hb : Below wr.heap.size wr w') : TbS w0 w w' p nv lv nv' kv v x L t ns fk fl S Sk ks is :=
  ⟨h.rs.calm hb, h.kb.trans (Kb.of_below hb _ _), h.nr, h.fi.below hb, h.keys.below hb, h.kids.below hb, fun g hg => (h.sub g hg).imp id fun hg => ⟨hg.1, Nat.lt_of_lt_of_le hg.2 hb.size⟩, h.ak, h.ai, h.gz⟩
/-- The reader's own block, or its row of nodes, has turned; rows beyond may have been made. -/
theorem TbS.fed (h : TbS w0 w wr p nv lv nv' kv v x L t ns fk fl S Sk ks is) {w2 : World} {nv2 : Value} {t2 : Nat} {ns2 : List DC.Nd} {gk gl : Int} {S2 : Nat → Prop} (hk : Kb wr w2 (some p) nv'.ownBlock) (hp : Rst w0 w2 p lv L t2 nv2 ns2 gk gl S2) (hn : Near wr nv' nv2) (hs : ∀ g, S2 g → More Sk wr w2 g) :
    TbS w0 w w2 p nv lv nv2 kv v x L t2 ns2 gk gl S S2 ks is := by
  have hpf : p ≠ w.heap.size := h.rs.st.apart_str h.fi (by decide)
  refine ⟨hp, h.kb.near h.nr hk, h.nr.trans hn h.kb.size, h.fi.kb hk (fun e => hpf (Option.some.inj e).symm) ?_, h.keys.kb hk (h.keys.ne_str h.rs.st (by decide)) (h.keys.ne_nds h.rs.nd (by decide)).1, h.kids.kb hk (h.kids.ne_str h.rs.st (by decide)) (h.kids.ne_nds h.rs.nd (by decide)).1, fun g hg => ?_, fun g hg h2 => ?_, fun g hg h2 => ?_, h.gz⟩
  · intro e
    rcases h.rs.nd.off h.fi (by decide) with h1 | h1
    · rw [h1] at e; cases e
    · exact h1 e.symm
  · rcases hs g hg with hg | hg
    · rcases h.sub g hg with h1 | h1
      · exact .inl h1
      · exact .inr ⟨h1.1, Nat.lt_of_lt_of_le h1.2 hk.size⟩
    · exact .inr ⟨Nat.le_trans h.kb.size hg.1, hg.2⟩
  · rcases hs g h2 with h1 | h1
    · exact h.ak g hg h1
    · have := (h.keys.lt hg).2; omega
  · rcases hs g h2 with h1 | h1
    · exact h.ai g hg h1
    · have := (h.kids.lt hg).2; omega
theorem TbS.own_turn (h : TbS w0 w wr p nv lv nv' kv v x L t ns fk fl S Sk ks is) {w' : World} {u : Value} {e : TypeId} {xs : List Value} (hx : Own wr w.heap.size e u xs) (he1 : e ≠ 117) (he2 : e ≠ 50) (he3 : e ≠ 119) (hs : ∀ g, u.ownBlock = some g → ¬ Sk g) (hg : wr.grownBy w' u.ownBlock) :
    Rst w0 w' p lv L t nv' ns fk fl Sk ∧ Kb w w' (some p) nv.ownBlock ∧ Str w' w.heap.size 119 (pc x) := by
  have hkb := Kb.of_grown hg none
  have np : some p ≠ u.ownBlock := fun e1 => by
    rcases hx.ne_str h.rs.st (fun e => he1 e.symm) with h1 | h1
    · rw [h1] at e1; cases e1
    · exact h1 e1.symm
  have nf : some w.heap.size ≠ u.ownBlock := fun e1 => by
    rcases hx.ne_str h.fi (fun e => he3 e.symm) with h1 | h1
    · rw [h1] at e1; cases e1
    · exact h1 e1.symm
  exact ⟨h.rs.kb hkb (Far.none _ _) (Far.not hs) (by simp) np no_or (hx.ne_nds h.rs.nd he2).2 (by simp) (fun g hg => Nat.le_trans h.gz (hx.lt hg).1), h.kb.trans_new (q' := u.ownBlock) (Kb.of_grown hg _) (fun g hg => .inr (hx.lt hg).1), h.fi.kb hkb (by simp) nf⟩
theorem TbS.key (h : TbS w0 w wr p nv lv nv' kv v x L t ns fk fl S Sk ks is) {w' : World} {kv' : Value} {ks' : List LX.B} (hg : wr.grownBy w' kv.ownBlock) (ho : Own w' w.heap.size 9 kv' (sv ks')) (hn : Near wr kv kv') : TbS w0 w w' p nv lv nv' kv' v x L t ns fk fl S Sk ks' is := by
  obtain ⟨h1, h2, h3⟩ := h.own_turn h.keys (by decide) (by decide) (by decide) h.ak hg
  refine ⟨h1, h2, h.nr, h3, ho, h.kids.kb (Kb.of_grown hg none) no_or (h.kids.apart h.keys (by decide)), fun g hg' => (h.sub g hg').imp id fun h3 => ⟨h3.1, Nat.lt_of_lt_of_le h3.2 hg.size⟩, fun g hg' => ?_, h.ai, h.gz⟩
  rcases hn with hn | hn
  · exact h.ak g (by rw [← hn]; exact hg')
  · intro hs; have := hn g hg'; have := h.rs.sb g hs; omega
theorem TbS.kid (h : TbS w0 w wr p nv lv nv' kv v x L t ns fk fl S Sk ks is) {w' : World} {v' : Value} {is' : List Nat} (hg : wr.grownBy w' v.ownBlock) (ho : Own w' w.heap.size 3 v' (nats is')) (hn : Near wr v v') : TbS w0 w w' p nv lv nv' kv v' x L t ns fk fl S Sk ks is' := by
  obtain ⟨h1, h2, h3⟩ := h.own_turn h.kids (by decide) (by decide) (by decide) h.ai hg
  refine ⟨h1, h2, h.nr, h3, h.keys.kb (Kb.of_grown hg none) no_or (h.keys.apart h.kids (by decide)), ho, fun g hg' => (h.sub g hg').imp id fun h3 => ⟨h3.1, Nat.lt_of_lt_of_le h3.2 hg.size⟩, h.ak, fun g hg' => ?_, h.gz⟩
  rcases hn with hn | hn
  · exact h.ai g (by rw [← hn]; exact hg')
  · intro hs; have := hn g hg'; have := h.rs.sb g hs; omega
/-- One node more. -/
theorem TbS.push (h : TbS w0 w wr p nv lv nv' kv v x L t ns fk fl S Sk ks is) {vs : List Nv} (hvs : vs.map (·.1) = ns) (ho : Ownv wr w0.heap.size nv' vs) (hn : ∀ a ∈ vs, Nk wr w0.heap.size Sk a) {w1 : World} {nv2 : Value} {a : Nv} (hg : wr.grownBy w1 nv'.ownBlock) (ho' : Ownv w1 w0.heap.size nv2 (vs ++ [a])) (ha : Nk w1 w0.heap.size Sk a) (hnr : Near wr nv' nv2) :
    Str w1 p 117 #[lv, .int .i64 (t : Int), nv', .int .i64 fk, .int .i64 fl] ∧ TbS w0 w (w1.setCell ⟨p, 2, none⟩ nv2) p nv lv nv2 kv v x L t (ns ++ [a.1]) fk fl S Sk ks is := by
  subst hvs
  obtain ⟨s1, s2, s3⟩ := h.rs.push hn ho hg ho' ha
  exact ⟨s1, h.fed s3 s2 hnr fun g hg => .inl hg⟩
theorem TbS.rst (h : TbS w0 w wr p nv lv nv' kv v x L t ns fk fl S Sk ks is) (hS : ∀ g, S g → g < w.heap.size) : Rst w0 wr p lv L t nv' ns fk fl (More S w wr) :=
  h.rs.mono h.sub fun g hg => by
    rcases hg with hg | hg
    · exact Nat.lt_of_lt_of_le (hS g hg) h.kb.size
    · exact hg.2
end
end Go.Proofs.YtmgalfdiiegjjaaGreatDoor
