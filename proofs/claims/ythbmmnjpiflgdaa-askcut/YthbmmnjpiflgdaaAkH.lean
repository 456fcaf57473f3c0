/- Walks of wire.PutNumber, wire.PutText, ask.putDesc. -/
import Derived.Test.YthbmmnjpiflgdaaAkC
import Derived.Test.YthbmmnjpiflgdaaVarP
import Derived.Lib.AppendStr
namespace Go.Proofs.Ythbmmnjpiflgdaa
open Go.RowKit

/-- From w to w' rows of bytes from block 'base' on may have turned, and no other block. -/
structure KT (base : Nat) (w w' : World) : Prop where
  os : w'.os = w.os
  tape : w'.tape = w.tape
  output : w'.output = w.output
  size : w.heap.size ≤ w'.heap.size
  block : ∀ k, k < w.heap.size → (k < base ∨ ∀ cs fr, w.heap[k]? ≠ some (.cells cs 5 fr)) → w'.heap[k]? = w.heap[k]?
theorem KT.refl (base : Nat) (w : World) : KT base w w := ⟨rfl, rfl, rfl, Nat.le_refl _, fun _ _ _ => rfl⟩
theorem KT.trans {base : Nat} {a b c : World} (h : KT base a b) (k : KT base b c) : KT base a c :=
  ⟨k.os.trans h.os, k.tape.trans h.tape, k.output.trans h.output, Nat.le_trans h.size k.size, fun i hi hc => by
    have e := h.block i hi hc
    rw [← e]
    refine k.block i (Nat.lt_of_lt_of_le hi h.size) ?_
    rw [e]; exact hc⟩
theorem KT.of_below {w w' : World} (base : Nat) (h : Below w.heap.size w w') : KT base w w' := ⟨h.os, h.tape, h.output, h.size, fun k hk _ => h.block k hk⟩
theorem KT.of_grown {w w' : World} {base : Nat} {v : Value} {xs : List Value} (ho : Own w base 5 v xs) (hg : w.grownBy w' v.ownBlock) : KT base w w' :=
  ⟨hg.os, hg.tape, hg.output, hg.size, fun k hk hc => hg.block k hk fun e => by
    obtain ⟨cur, hcur⟩ := ho.block e.symm
    have hlt := ho.lt e.symm
    rcases hc with hc | hc
    · omega
    · exact hc _ _ hcur⟩
theorem KT.below {w w' : World} {base : Nat} (h : KT base w w') (hb : base ≤ w.heap.size) : Below base w w' := ⟨h.os, h.tape, h.output, h.size, fun k hk => h.block k (by omega) (.inl hk)⟩
theorem Str.kt {w w' : World} {base p : Nat} {T : TypeId} {cs : Array Value} (h : Str w p T cs) (hk : KT base w w') (hT : T ≠ 5) : Str w' p T cs := by
  have h' : w.heap[p]? = some (.cells cs T (0, 0)) := h
  refine (hk.block p h.lt (.inr fun cs' fr e => ?_)).trans h
  rw [h'] at e
  simp at e
  exact hT e.2.1

/-- Bytes were put behind a row of the call's own. -/
def PutIs (base : Nat) (w : World) (bs : List UInt8) (e : Ending) (w' : World) : Prop := ∃ v', e = .returned v' ∧ Own w' base 5 v' (bv bs) ∧ KT base w w'
theorem strCells_bv (s : List UInt8) : Lib.strCells ⟨s.toArray⟩ = bv s := rfl

set_option maxHeartbeats 800000 in
theorem putn_any (vb : Value) (bs : List UInt8) (base : Nat) (n : Int) (h0 : 0 ≤ n) (h1 : n ≤ 9223372036854775807) (w : World) (ho : Own w base 5 vb (bv bs)) (hl : bs.length ≤ 1000000) (hb : base ≤ w.heap.size) :
    Calls Try.prog 22 #[vb, .int .i64 n] w (PutIs base w (bs ++ V.put n.toNat)) := by
  have HP := Lib.hid (vput_any (.slice none 0 0) [] n h0 (by omega) w (Rdv.nil w) (by simp))
  have HL := Lib.hid (V.len_le10 (v := n.toNat) (by omega))
  have HO := Lib.hid ho
  have HB := Lib.hid hb
  obtain ⟨ao, cap, rfl, -⟩ := ho.rd
  rw [bv_len] at HO ⊢
  have hn : n < 18446744073709551616 := by omega
  clear ho hb
  go_enter Try.func22, Try.ntmps22
  go_wp2_with fail
  refine HP.out.mono ?_
  rintro e w1 ⟨v1, rfl, ho1, b1⟩
  have O1 := Lib.hid ho1.rd
  have B1 := Lib.hid b1
  obtain ⟨a1, c1, rfl, -⟩ := ho1.rd
  rw [bv_len] at O1 ⊢
  clear ho1 b1 HP
  go_wp2_with (at_builtin; refine wpList_append_bytes rfl (.tmp 5) (.tmp 8) 27 rfl base 5 Try.underlying27 Try.info_u8 (by rfl) (HO.out.below B1.out) (by rfl) O1.out (by have := HL.out; unfold V.len at this; simp only [List.nil_append]; omega) (Nat.le_trans HB.out B1.out.size) ?_; intro v2 w2 ho2 hg2 _; have O2 := Lib.hid ho2; have G2 := Lib.hid (KT.of_grown (HO.out.below B1.out) hg2); clear ho2 hg2)
  go_ret
  exact ⟨_, rfl, by have := O2.out; rwa [List.nil_append] at this, (KT.of_below base B1.out).trans G2.out⟩

set_option maxHeartbeats 800000 in
theorem putt_any (vb : Value) (bs : List UInt8) (base : Nat) (s : List UInt8) (hs : s.length ≤ 1000000) (w : World) (ho : Own w base 5 vb (bv bs)) (hl : bs.length ≤ 1000000) (hb : base ≤ w.heap.size) :
    Calls Try.prog 23 #[vb, .string ⟨s.toArray⟩] w (PutIs base w (bs ++ K.tx s)) := by
  have HP := Lib.hid (putn_any vb bs base (s.length : Int) (by omega) (by omega) w ho hl hb)
  have HL := Lib.hid (V.len_le10 (v := s.length) (by omega))
  have HB := Lib.hid hb
  obtain ⟨ao, cap, rfl, -⟩ := ho.rd
  have hsz := str_size s
  rw [bv_len] at HP ⊢
  obtain ⟨i, hi, hz0, hz1, hz2⟩ := info_parts Try.info_u8
  clear ho hb
  go_enter Try.func23, Try.ntmps23
  go_wp2_with fail
  refine HP.out.mono ?_
  rintro e w1 ⟨v1, rfl, ho1, k1⟩
  have O1 := Lib.hid ho1
  have K1 := Lib.hid k1
  have e1 : ((s.length : Int)).toNat = s.length := by omega
  rw [e1] at O1
  obtain ⟨a1, c1, rfl, -⟩ := ho1.rd
  rw [bv_len, e1] at O1
  rw [bv_len, e1]
  obtain ⟨T, hT⟩ : ∃ T, bs ++ V.put s.length = T := ⟨_, rfl⟩
  have HT := Lib.hid hT
  have hTl : T.length ≤ 1000010 := by
    have := HL.out
    unfold V.len at this
    rw [← hT, List.length_append]
    omega
  rw [hT] at O1 ⊢
  clear ho1 k1 HP e1 hT
  go_wp2_with (at_builtin; refine Lib.wpList_append_own_string _ rfl (.tmp 8) (.tmp 9) 27 9 rfl base 5 i Try.underlying27 Try.underlying9 hi hz0 hz1 hz2 _ _ _ (by rfl) O1.out ⟨s.toArray⟩ (by rfl) (by rw [bv_len, str_size]; unfold maxLen; omega) (by rw [bv_len, str_size]; omega) (Nat.le_trans HB.out K1.out.size) ?_; intro v2 w2 ho2 hg2 _; have O2 := Lib.hid ho2; have G2 := Lib.hid (KT.of_grown O1.out hg2); clear ho2 hg2)
  go_ret
  refine ⟨_, rfl, ?_, K1.out.trans G2.out⟩
  have := O2.out
  rw [strCells_bv, str_size, ← bv_len s, ← List.length_append, ← bv_app, ← HT.out, List.append_assoc] at this
  exact this

theorem okL_len {e : D.E} (h : K.okL e) : e.1.length ≤ 1000 ∧ e.2.length ≤ 1000 := by unfold K.okL at h; omega
theorem enEs_take_le {es : List D.E} (h : K.okD es) (k : Nat) : (K.enEs (es.take k)).length ≤ 1696 := by
  have h1 := K.enEs_le (es.take k) (fun e he => h.2 e (List.mem_of_mem_take he))
  have h2 := h.1
  rw [List.length_take] at h1
  omega
set_option maxHeartbeats 4000000 in
theorem putd_any (vb : Value) (bs : List UInt8) (base : Nat) (vd : Value) (es : List D.E) (w : World) (hr : Rde w vd es) (hd : K.okD es) (hnew : ∀ ao n c, vd = .slice (some ao) n c → es ≠ [] → ao.block < base) (ho : Own w base 5 vb (bv bs)) (hl : bs.length ≤ 100000) (hb : base ≤ w.heap.size) :
    Calls Try.prog 24 #[vb, .agg #[vd]] w (PutIs base w (bs ++ K.enD es)) := by
  have hd8 := hd.1
  obtain ⟨ao, cap, rfl, g1, g2, g3, g4⟩ := hr
  have B0 := below_alloc w (.cells #[.slice ao es.length cap] 42)
  have HS := Lib.hid (Str.new w 42 #[.slice ao es.length cap])
  have HBS := Lib.hid (Nat.le_trans hb B0.size)
  have HP := Lib.hid (putn_any vb bs base (es.length : Int) (by omega) (by omega) _ (ho.below B0) (by omega) HBS.out)
  have HB0 := Lib.hid (KT.of_below base B0)
  have H4 := Lib.hid g4
  have HD := Lib.hid hd
  have HNW := Lib.hid hnew
  have HB := Lib.hid hb
  obtain ⟨L, hL⟩ : ∃ L, es.length = L := ⟨_, rfl⟩
  have HL := Lib.hid hL
  rw [hL] at HS HP HB0 HNW hd8 HBS ⊢
  obtain ⟨ab, cb, rfl, -⟩ := ho.rd
  rw [bv_len] at HP ⊢
  have hlp := V.len_le10 (v := L) (by omega)
  clear B0 g1 g2 g3 g4 hd hnew ho hb hL
  go_enter Try.func24, Try.ntmps24
  go_wp2_with fail
  refine HP.out.mono ?_
  rintro e w1 ⟨v1, rfl, ho1, k1⟩
  have e1 : ((L : Int)).toNat = L := by omega
  rw [e1] at ho1
  have HO1 := Lib.hid ho1
  have HS1 := Lib.hid (HS.out.kt k1 (by decide))
  have HK1 := Lib.hid (HB0.out.trans k1)
  have c0 := HS1.out.cell 0
  simp only [List.getElem?_toArray, List.getElem?_cons_zero] at c0
  obtain ⟨a1, c1, rfl, -⟩ := ho1.rd
  clear ho1 k1 HP e1
  go_wp2
  go_loopw [0, 15] (fun b i wr => ∃ (k : Nat), i = .int .i64 (k : Int) ∧ k ≤ L ∧ Hid (KT base w wr) ∧ Hid (Own wr base 5 b (bv (bs ++ (V.put L ++ K.enEs (es.take k)))))) (fun _ i _ => L - (intOf i).toNat)
  case atStart => exact ⟨0, rfl, Nat.zero_le _, HK1.out, by show Own _ _ _ _ _; simpa [K.enEs] using HO1.out⟩
  case round =>
    obtain ⟨k, rfl, hk, HW, HO⟩ := hrel
    have hlen : Hid ((bs ++ (V.put L ++ K.enEs (es.take k))).length ≤ 110000) := by
      have h1 := enEs_take_le HD.out k
      unfold V.len at hlp
      show _ ≤ _
      simp only [List.length_append]
      omega
    obtain ⟨T, hT⟩ : ∃ T, bs ++ (V.put L ++ K.enEs (es.take k)) = T := ⟨_, rfl⟩
    have HT := Lib.hid hT
    rw [hT] at HO hlen
    obtain ⟨ab', cb', rfl, -⟩ := HO.out.rd
    rw [bv_len T] at HO ⊢
    clear hT
    by_cases hlt : k < L
    · obtain ⟨e, he⟩ : ∃ e, es[k]? = some e := ⟨es[k]'(by have := HL.out; omega), List.getElem?_eq_getElem _⟩
      obtain ⟨b, off, rfl, q1, q2⟩ := H4.out k e he
      have hbb : b < base := HNW.out ⟨b, off, none⟩ _ _ rfl (by intro h; rw [h] at he; simp at he)
      have hbel := HW.out.below HB.out
      have d1 := (hbel.cell (by show b < base; exact hbb)).trans q1
      have d2 := (hbel.cell (by show b < base; exact hbb)).trans q2
      have hokl := okL_len (HD.out.2 e (List.mem_of_getElem? he))
      unfold tv at d1 d2
      have HE := Lib.hid he
      have B2 := below_alloc wr (.cells #[.string ⟨e.1.toArray⟩, .string ⟨e.2.toArray⟩] 44)
      have HS2 := Lib.hid (Str.new wr 44 #[.string ⟨e.1.toArray⟩, .string ⟨e.2.toArray⟩])
      have HBW := Lib.hid (Nat.le_trans HB.out HW.out.size)
      have HBW2 := Lib.hid (Nat.le_trans HBW.out B2.size)
      have HW2 := Lib.hid (HW.out.trans (KT.of_below base B2))
      have HP1 := Lib.hid (putt_any _ T base e.1 (by omega) _ (HO.out.below B2) (by have := hlen.out; omega) HBW2.out)
      have g0 : (k : Int) < (L : Int) := by omega
      have ht1 := K.tx_le (s := e.1) (n := 1000) (by omega) (by omega)
      clear q1 q2 he hbel B2
      go_wp2_with fail
      refine HP1.out.mono ?_
      rintro x w2 ⟨v2, rfl, ho2, k2⟩
      have HS3 := Lib.hid (HS2.out.kt k2 (by decide))
      have HW3 := Lib.hid (HW2.out.trans k2)
      have s1 := HS3.out.cell 1
      simp only [List.getElem?_toArray, List.getElem?_cons_zero, List.getElem?_cons_succ] at s1
      have HP2 := Lib.hid (putt_any v2 (T ++ K.tx e.1) base e.2 (by omega) w2 ho2 (by have := hlen.out; rw [List.length_append]; omega) (Nat.le_trans HBW2.out k2.size))
      obtain ⟨a2, c2, rfl, -⟩ := ho2.rd
      clear ho2 k2 HP1 HS2 HW2
      go_wp2_with fail
      refine HP2.out.mono ?_
      rintro x w3 ⟨v3, rfl, ho3, k3⟩
      have HW4 := Lib.hid (HW3.out.trans k3)
      have HO4 := Lib.hid ho3
      clear ho3 k3 HP2
      go_wp2
      go_roundw
      case rel =>
        refine ⟨k + 1, by go_num, by omega, HW4.out, ?_⟩
        show Own _ _ _ _ _
        have := HO4.out
        rw [← HT.out] at this
        rw [K.enEs_take HE.out]
        simpa [List.append_assoc] using this
      case measure => simp [intOf]; omega
    · have g0 : ¬ (k : Int) < (L : Int) := by omega
      go_wp2
      go_ret
      refine ⟨_, rfl, ?_, HW.out⟩
      have e2 : bs ++ K.enD es = T := by
        rw [← HT.out, List.take_of_length_le (by have := HL.out; omega)]
        unfold K.enD
        rw [HL.out]
      rw [e2]
      exact HO.out
end Go.Proofs.Ythbmmnjpiflgdaa
