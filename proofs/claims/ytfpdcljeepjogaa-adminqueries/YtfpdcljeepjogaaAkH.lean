/- Walks of wire.PutNumber, wire.PutText, ask.putDesc. -/
import Derived.Test.YtfpdcljeepjogaaAkB
import Derived.Test.YtfpdcljeepjogaaVarP
import Derived.Lib.AppendStr
namespace Go.Proofs.Ytfpdcljeepjogaa
open Go.RowKit

/-- From w to w' rows of bytes from block 'base' on may have turned, and no other block. -/
structure KT (base : Nat) (w w' : World) : Prop where
  os : w'.os = w.os
  tape : w'.tape = w.tape
  output : w'.output = w.output
  size : w.heap.size ≤ w'.heap.size
  block : ∀ k, k < w.heap.size → (k < base ∨ ∀ cs fr, w.heap[k]? ≠ some (.cells cs 5 fr)) → w'.heap[k]? = w.heap[k]?
theorem KT.refl (base : Nat) (w : World) : KT base w w := ⟨rfl, rfl, rfl, Nat.le_refl _, fun _ _ _ => rfl⟩
theorem KT.trans {base : Nat} {a b c : World} (h : KT base a b) (k : KT base b c) : KT base a c :=
  ⟨k.os.trans h.os, k.tape.trans h.tape, k.output.trans h.output, Nat.le_trans h.size k.size, fun i hi hc => by
    have e := h.block i hi hc
    rw [← e]
    refine k.block i (Nat.lt_of_lt_of_le hi h.size) ?_
    rw [e]; exact hc⟩
theorem KT.of_below {w w' : World} (base : Nat) (h : Below w.heap.size w w') : KT base w w' := ⟨h.os, h.tape, h.output, h.size, fun k hk _ => h.block k hk⟩
theorem KT.of_grown {w w' : World} {base : Nat} {v : Value} {xs : List Value} (ho : Own w base 5 v xs) (hg : w.grownBy w' v.ownBlock) : KT base w w' :=
  ⟨hg.os, hg.tape, hg.output, hg.size, fun k hk hc => hg.block k hk fun e => by
    obtain ⟨cur, hcur⟩ := ho.block e.symm
    have hlt := ho.lt e.symm
    rcases hc with hc | hc
    · omega
    · exact hc _ _ hcur⟩
theorem KT.below {w w' : World} {base : Nat} (h : KT base w w') (hb : base ≤ w.heap.size) : Below base w w' := ⟨h.os, h.tape, h.output, h.size, fun k hk => h.block k (by omega) (.inl hk)⟩
theorem Str.kt {w w' : World} {base p : Nat} {T : TypeId} {cs : Array Value} (h : Str w p T cs) (hk : KT base w w') (hT : T ≠ 5) : Str w' p T cs := by
  have h' : w.heap[p]? = some (.cells cs T (0, 0)) := h
  refine (hk.block p h.lt (.inr fun cs' fr e => ?_)).trans h
  rw [h'] at e
  simp at e
  exact hT e.2.1

/-- Bytes were put behind a row of the call's own. -/
def PutIs (base : Nat) (w : World) (bs : List UInt8) (e : Ending) (w' : World) : Prop := ∃ v', e = .returned v' ∧ Own w' base 5 v' (bv bs) ∧ KT base w w'
theorem strCells_bv (s : List UInt8) : Lib.strCells ⟨s.toArray⟩ = bv s := rfl

set_option maxHeartbeats 800000 in
theorem putn_any (vb : Value) (bs : List UInt8) (base : Nat) (n : Int) (h0 : 0 ≤ n) (h1 : n ≤ 9223372036854775807) (w : World) (ho : Own w base 5 vb (bv bs)) (hl : bs.length ≤ 1000000) (hb : base ≤ w.heap.size) :
    Calls Try.prog 34 #[vb, .int .i64 n] w (PutIs base w (bs ++ V.put n.toNat)) := by
  have HP := Lib.hid (vput_any (.slice none 0 0) [] n h0 (by omega) w (Rdv.nil w) (by simp))
  have HL := Lib.hid (V.len_le10 (v := n.toNat) (by omega))
  have HO := Lib.hid ho
  have HB := Lib.hid hb
  obtain ⟨ao, cap, rfl, -⟩ := ho.rd
  rw [bv_len] at HO ⊢
  have hn : n < 18446744073709551616 := by omega
  clear ho hb
  go_enter Try.func34, Try.ntmps34
  go_wp2_with fail
  refine HP.out.mono ?_
  rintro e w1 ⟨v1, rfl, ho1, b1⟩
  have O1 := Lib.hid ho1.rd
  have B1 := Lib.hid b1
  obtain ⟨a1, c1, rfl, -⟩ := ho1.rd
  rw [bv_len] at O1 ⊢
  clear ho1 b1 HP
  go_wp2_with (at_builtin; refine wpList_append_bytes rfl (.tmp 5) (.tmp 8) 25 rfl base 5 Try.underlying25 Try.info_u8 (by rfl) (HO.out.below B1.out) (by rfl) O1.out (by have := HL.out; unfold V.len at this; simp only [List.nil_append]; omega) (Nat.le_trans HB.out B1.out.size) ?_; intro v2 w2 ho2 hg2 _; have O2 := Lib.hid ho2; have G2 := Lib.hid (KT.of_grown (HO.out.below B1.out) hg2); clear ho2 hg2)
  go_ret
  exact ⟨_, rfl, by have := O2.out; rwa [List.nil_append] at this, (KT.of_below base B1.out).trans G2.out⟩

set_option maxHeartbeats 800000 in
theorem putt_any (vb : Value) (bs : List UInt8) (base : Nat) (s : List UInt8) (hs : s.length ≤ 1000000) (w : World) (ho : Own w base 5 vb (bv bs)) (hl : bs.length ≤ 1000000) (hb : base ≤ w.heap.size) :
    Calls Try.prog 42 #[vb, .string ⟨s.toArray⟩] w (PutIs base w (bs ++ K.tx s)) := by
  have HP := Lib.hid (putn_any vb bs base (s.length : Int) (by omega) (by omega) w ho hl hb)
  have HL := Lib.hid (V.len_le10 (v := s.length) (by omega))
  have HB := Lib.hid hb
  obtain ⟨ao, cap, rfl, -⟩ := ho.rd
  have hsz := str_size s
  rw [bv_len] at HP ⊢
  obtain ⟨i, hi, hz0, hz1, hz2⟩ := info_parts Try.info_u8
  clear ho hb
  go_enter Try.func42, Try.ntmps42
  go_wp2_with fail
  refine HP.out.mono ?_
  rintro e w1 ⟨v1, rfl, ho1, k1⟩
  have O1 := Lib.hid ho1
  have K1 := Lib.hid k1
  have e1 : ((s.length : Int)).toNat = s.length := by omega
  rw [e1] at O1
  obtain ⟨a1, c1, rfl, -⟩ := ho1.rd
  rw [bv_len, e1] at O1
  rw [bv_len, e1]
  obtain ⟨T, hT⟩ : ∃ T, bs ++ V.put s.length = T := ⟨_, rfl⟩
  have HT := Lib.hid hT
  have hTl : T.length ≤ 1000010 := by
    have := HL.out
    unfold V.len at this
    rw [← hT, List.length_append]
    omega
  rw [hT] at O1 ⊢
  clear ho1 k1 HP e1 hT
  go_wp2_with (at_builtin; refine Lib.wpList_append_own_string _ rfl (.tmp 8) (.tmp 9) 25 9 rfl base 5 i Try.underlying25 Try.underlying9 hi hz0 hz1 hz2 _ _ _ (by rfl) O1.out ⟨s.toArray⟩ (by rfl) (by rw [bv_len, str_size]; unfold maxLen; omega) (by rw [bv_len, str_size]; omega) (Nat.le_trans HB.out K1.out.size) ?_; intro v2 w2 ho2 hg2 _; have O2 := Lib.hid ho2; have G2 := Lib.hid (KT.of_grown O1.out hg2); clear ho2 hg2)
  go_ret
  refine ⟨_, rfl, ?_, K1.out.trans G2.out⟩
  have := O2.out
  rw [strCells_bv, str_size, ← bv_len s, ← List.length_append, ← bv_app, ← HT.out, List.append_assoc] at this
  exact this

/-- A number is put, in letters. -/
theorem putnE {T T' : List UInt8} {n : Int} (h0 : 0 ≤ n) (h1 : n ≤ 9223372036854775807) (hl : T.length ≤ 1000000) (hT : T ++ V.put n.toNat = T') (B : Nat) (x : World) (v : Value) (ho : Own x B 5 v (bv T)) (hb : B ≤ x.heap.size) :
    Calls Try.prog 34 #[v, .int .i64 n] x (PutIs B x T') := by
  subst hT
  exact putn_any v T B n h0 h1 x ho hl hb
theorem PutIs.slice {B : Nat} {w : World} {bs : List UInt8} {e : Ending} {w' : World} (h : PutIs B w bs e w') : ∃ ao n c, e = .returned (.slice ao n c) ∧ Own w' B 5 (.slice ao n c) (bv bs) ∧ KT B w w' := by
  obtain ⟨v, rfl, ho, hk⟩ := h
  obtain ⟨ao, cap, rfl, -⟩ := id ho.rd
  exact ⟨ao, _, cap, rfl, ho, hk⟩
/-- A text is put, in letters. -/
theorem puttE {T T' s : List UInt8} (hs : s.length ≤ 1000000) (hl : T.length ≤ 1000000) (hT : T ++ K.tx s = T') (B : Nat) (x : World) (v : Value) (ho : Own x B 5 v (bv T)) (hb : B ≤ x.heap.size) :
    Calls Try.prog 42 #[v, .string ⟨s.toArray⟩] x (PutIs B x T') := by
  subst hT
  exact putt_any v T B s hs x ho hl hb

end Go.Proofs.Ytfpdcljeepjogaa
