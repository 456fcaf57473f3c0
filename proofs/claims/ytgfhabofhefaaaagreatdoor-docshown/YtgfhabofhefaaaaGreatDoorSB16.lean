/- A part of the proof. -/
import Derived.Test.YtgfhabofhefaaaaGreatDoorSB13
import Derived.Test.YtgfhabofhefaaaaGreatDoorSB15
import Derived.Deep.CutBlock
import Derived.Deep.DeepCutAuto
namespace Go.Proofs.YtgfhabofhefaaaaGreatDoor
open Go.RowKit
structure RR (w wr : World) (l : LX.Lz) (v : Value) (acc : List LX.Pc) : Prop where
  bl : Below w.heap.size w wr
  big : w.heap.size + 2 ≤ wr.heap.size
  a : Str wr w.heap.size 105 #[.int .i64 l.1, .int .i64 l.2.1, .string ⟨l.2.2.toArray⟩]
  c : Str wr (w.heap.size + 1) 39 #[.int .i64 0, .int .i64 0]
  own : Ownp wr (w.heap.size + 2) v acc
theorem RR.calm {w wr w' : World} {l : LX.Lz} {v : Value} {acc : List LX.Pc} (h : RR w wr l v acc) (hb : Below wr.heap.size wr w') : RR w w' l v acc :=
  ⟨h.bl.trans (hb.mono h.bl.size), Nat.le_trans h.big hb.size, h.a.below hb, h.c.below hb, h.own.below hb⟩
theorem RR.grown {w wr w' : World} {l : LX.Lz} {v v' : Value} {acc acc' : List LX.Pc} (h : RR w wr l v acc) (hg : wr.grownBy w' v.ownBlock) (ho : Ownp w' (w.heap.size + 2) v' acc') : RR w w' l v' acc' := by
  have far : ∀ k, k < w.heap.size + 2 → w'.heap[k]? = wr.heap[k]? := fun k hk => hg.block k (Nat.lt_of_lt_of_le hk h.big) (by
    intro e
    have := (h.own.ownBlock e.symm).2.1
    omega)
  have hb : Below (w.heap.size + 2) wr w' := ⟨hg.os, hg.tape, hg.output, hg.size, far⟩
  exact ⟨h.bl.trans (hb.mono (by omega)), Nat.le_trans h.big hg.size, (far _ (by omega)).trans h.a, (far _ (by omega)).trans h.c, ho⟩
theorem RR.start (w : World) (no ind : Int) (tx : List UInt8) : RR w ((w.alloc (.cells #[.int .i64 no, .int .i64 ind, .string ⟨tx.toArray⟩] 105)).alloc (.cells #[.int .i64 0, .int .i64 0] 39)) (no, ind, tx) (.slice none 0 0) [] := by
  have B1 := below_alloc w (.cells #[.int .i64 no, .int .i64 ind, .string ⟨tx.toArray⟩] 105)
  have s1 := Str.new w 105 #[.int .i64 no, .int .i64 ind, .string ⟨tx.toArray⟩]
  have z1 := bx_size w (.cells #[.int .i64 no, .int .i64 ind, .string ⟨tx.toArray⟩] 105)
  generalize w.alloc (.cells #[.int .i64 no, .int .i64 ind, .string ⟨tx.toArray⟩] 105) = w1 at *
  have B2 := below_alloc w1 (.cells #[.int .i64 0, .int .i64 0] 39)
  have s2 := Str.new w1 39 #[.int .i64 0, .int .i64 0]
  have z2 := bx_size w1 (.cells #[.int .i64 0, .int .i64 0] 39)
  rw [z1] at s2
  exact ⟨below_trans B1 B2, by omega, s1.below B2, s2, Ownp.nil _ _⟩
theorem RR.fault {w wr : World} {l : LX.Lz} {v : Value} {acc : List LX.Pc} (h : RR w wr l v acc) (f g : Value) :
    Str ((wr.setCell ⟨w.heap.size + 1, 0, none⟩ f).setCell ⟨w.heap.size + 1, 1, none⟩ g) (w.heap.size + 1) 39 #[f, g] ∧ Below w.heap.size w ((wr.setCell ⟨w.heap.size + 1, 0, none⟩ f).setCell ⟨w.heap.size + 1, 1, none⟩ g) ∧ Ownp ((wr.setCell ⟨w.heap.size + 1, 0, none⟩ f).setCell ⟨w.heap.size + 1, 1, none⟩ g) w.heap.size v acc := by
  have kb := (Kb.set wr (w.heap.size + 1) 0 f none).trans (Kb.set _ (w.heap.size + 1) 1 g none)
  exact ⟨h.c.two' f g, h.bl.trans (kb.below h.bl.size (fun g hg => by have := Option.some.inj hg; omega) (fun g hg => by cases hg)), (h.own.base (by omega)).kb kb (h.own.off h.c (by decide)) no_or⟩
theorem rowe_no {w w' : World} {l : LX.Lz} {k : Int} {R : LX.R} (hR : R = LX.row l) (h : R = (k, [])) (hk : k ≠ 0) (hb : Below w.heap.size w w') : RowE w l (.returned (.tuple #[.slice none 0 0, .agg #[.int .i64 k, .int .i64 l.1]])) w' := by
  have e := hR.symm.trans h
  refine ⟨hb, .slice none 0 0, ?_, ?_⟩
  · rw [e, if_neg hk]
  · rw [e]; exact Ownp.nil _ _
theorem rowe_yes {w w' : World} {l : LX.Lz} {R : LX.R} {acc : List LX.Pc} {v : Value} (hR : R = LX.row l) (h : R = (0, acc)) (ho : Ownp w' w.heap.size v acc) (hb : Below w.heap.size w w') : RowE w l (.returned (.tuple #[v, .agg #[.int .i64 0, .int .i64 0]])) w' := by
  have e := hR.symm.trans h
  refine ⟨hb, v, ?_, ?_⟩
  · rw [e, if_pos rfl]
  · rw [e]; exact ho
theorem piece_lit (w : World) (k no c : Int) (t : List UInt8) (q : Bool) : At5 (w.alloc (.cells #[.int .i64 k, .int .i64 no, .int .i64 c, .string ⟨t.toArray⟩, .bool q] 117)) w.heap.size 0 (k, no, c, t, q) := (Str.new w 117 #[.int .i64 k, .int .i64 no, .int .i64 c, .string ⟨t.toArray⟩, .bool q]).at5
theorem lcut_mid {l : List UInt8} (a k : Nat) : (⟨l.toArray⟩ : ByteArray).extract a (a + k) = ⟨((l.drop a).take k).toArray⟩ := by
  rw [ByteArray.extract_mk]
  simp [List.take_drop]
theorem slice_mid (l : List UInt8) (a k n : Nat) (hn : l.length = n) (h : a + k ≤ n) (T : List UInt8) (hT : (l.drop a).take k = T) (x : World) : (Instr.slice 9 (.string ⟨l.toArray⟩) (some (.int .i64 (a : Int))) (some (.int .i64 ((a : Int) + (k : Int)))) none).run Tryz.prog x = .ok (.string ⟨T.toArray⟩) x := by
  rw [run_slice_string x 9 ⟨l.toArray⟩ .i64 .i64 (a : Int) ((a : Int) + (k : Int)) Tryz.underlying9 (by omega) (by omega) (by rw [str_size]; omega)]
  rw [← hT, ← lcut_mid]
  rfl
theorem col_at {ind : Int} {n a : Nat} (h : a ≤ n) (l : List UInt8) (hl : l.length = n) : ind + (n : Int) - ((l.drop a).length : Int) = ind + (a : Int) := by
  rw [List.length_drop, hl]
  omega
theorem okp_no {c : UInt8} {t : List UInt8} (h : okPlain (c :: t) = false) : LX.odd c = true ∨ (LX.odd c = false ∧ LX.dash (c :: t) = true) ∨ (LX.odd c = false ∧ LX.dash (c :: t) = false ∧ 0 < LX.key (c :: t)) := by
  have e : (!(LX.odd c || LX.dash (c :: t) || decide (0 < LX.key (c :: t)))) = false := h
  cases ho : LX.odd c with
  | true => exact .inl rfl
  | false =>
    cases hd : LX.dash (c :: t) with
    | true => exact .inr (.inl ⟨rfl, rfl⟩)
    | false =>
      rw [ho, hd] at e
      exact .inr (.inr ⟨rfl, rfl, by simpa using e⟩)
theorem okp_yes {c : UInt8} {t : List UInt8} (h : okPlain (c :: t) = true) : LX.odd c = false ∧ LX.dash (c :: t) = false ∧ LX.key (c :: t) = 0 := by
  have e : (!(LX.odd c || LX.dash (c :: t) || decide (0 < LX.key (c :: t)))) = true := h
  simp only [Bool.not_eq_true', Bool.or_eq_false_iff, decide_eq_false_iff_not, Nat.not_lt, Nat.le_zero] at e
  exact ⟨e.1.1, e.1.2, e.2⟩
theorem fin_fault {no col k : Int} {acc : List LX.Pc} {D : List UInt8} {R : LX.R} (h : R = LX.fin no col acc D) (hne : D ≠ []) (ht : LX.txt D = (k, [], false)) (hk : k ≠ 0) : R = (k, []) := by
  rw [h, LX.fin, if_neg hne, if_neg (by rw [ht]; exact hk), ht]
theorem fin_text {no col : Int} {acc : List LX.Pc} {D x : List UInt8} {q : Bool} {R : LX.R} (h : R = LX.fin no col acc D) (hne : D ≠ []) (ht : LX.txt D = (0, x, q)) : R = (0, acc ++ [(3, no, col - D.length, x, q)]) := by
  rw [h, LX.fin, if_neg hne, if_pos (by rw [ht]), ht]
theorem rblanks_at (l : List UInt8) (a : Nat) (z : Int) (hz : z = (a : Int)) (w : World) (hl : l.length ≤ 100000) (ha : a ≤ l.length) :
    Calls Tryz.prog 91 #[.string ⟨l.toArray⟩, .int .i64 z] w fun e w' => e = .returned (.int .i64 (LX.bn (l.drop a) : Int)) ∧ w' = w := by
  subst hz
  exact rblanks_any l a w hl ha
theorem bn_le (l : List UInt8) : LX.bn l ≤ l.length := LX.runp_le _ l
structure RQ (w wr : World) (l : LX.Lz) (v : Value) (acc : List LX.Pc) (P : Nat) (col : Int) (x : List UInt8) (q : Bool) : Prop where
  rr : RR w wr l v acc
  pc : Str wr P 117 #[.int .i64 3, .int .i64 l.1, .int .i64 col, .string ⟨x.toArray⟩, .bool q]
  ge : w.heap.size + 2 ≤ P
  off : v.ownBlock = none ∨ v.ownBlock ≠ some P
theorem RQ.calm {w wr w' : World} {l : LX.Lz} {v : Value} {acc : List LX.Pc} {P : Nat} {col : Int} {x : List UInt8} {q : Bool} (h : RQ w wr l v acc P col x q) (hb : Below wr.heap.size wr w') : RQ w w' l v acc P col x q :=
  ⟨h.rr.calm hb, h.pc.below hb, h.ge, h.off⟩
theorem RQ.set {w wr : World} {l : LX.Lz} {v : Value} {acc : List LX.Pc} {P : Nat} {col : Int} {x : List UInt8} {q : Bool} (h : RQ w wr l v acc P col x q) (y : List UInt8) (r : Bool) : RQ w ((wr.setCell ⟨P, 3, none⟩ (.string ⟨y.toArray⟩)).setCell ⟨P, 4, none⟩ (.bool r)) l v acc P col y r := by
  have kb := (Kb.set wr P 3 (.string ⟨y.toArray⟩) none).trans (Kb.set _ P 4 (.bool r) none)
  have hge := h.ge
  have s1 : Str (wr.setCell ⟨P, 3, none⟩ (.string ⟨y.toArray⟩)) P 117 #[.int .i64 3, .int .i64 l.1, .int .i64 col, .string ⟨y.toArray⟩, .bool q] := by simpa using h.pc.set 3 (.string ⟨y.toArray⟩)
  refine ⟨⟨h.rr.bl.trans (kb.below h.rr.bl.size (fun g hg => by have := Option.some.inj hg; omega) (fun g hg => by cases hg)), Nat.le_trans h.rr.big kb.size, h.rr.a.kb kb (by simp; omega) (by simp), h.rr.c.kb kb (by simp; omega) (by simp), h.rr.own.kb kb h.off no_or⟩, by simpa using s1.set 4 (.bool r), h.ge, h.off⟩
theorem RR.piece {w wr : World} {l : LX.Lz} {v : Value} {acc : List LX.Pc} (h : RR w wr l v acc) (col : Int) (x : List UInt8) : RQ w (wr.alloc (.cells #[.int .i64 3, .int .i64 l.1, .int .i64 col, .string ⟨x.toArray⟩, .bool false] 117)).drew l v acc wr.heap.size col x false := by
  have BB := below_trans (below_alloc wr (.cells #[.int .i64 3, .int .i64 l.1, .int .i64 col, .string ⟨x.toArray⟩, .bool false] 117)) (below_drew _)
  refine ⟨h.calm BB, (Str.new wr _ _).below (below_drew _), h.big, ?_⟩
  cases hg : v.ownBlock with
  | none => exact .inl rfl
  | some g =>
    right
    intro e
    have := (h.own.ownBlock hg).2.2
    have := Option.some.inj e
    omega
set_option maxRecDepth 10000 in
set_option maxHeartbeats 64000000 in
theorem rrow_any (l : LX.Lz) (w : World) (hl : l.2.2.length ≤ 17000) :
    Calls Tryz.prog 61 #[.agg #[.int .i64 l.1, .int .i64 l.2.1, .string ⟨l.2.2.toArray⟩]] w (RowE w l) := by
  obtain ⟨no, ind, tx⟩ := l
  simp only at hl ⊢
  have HS0 := Lib.hid (RR.start w no ind tx)
  obtain ⟨R, HF⟩ : ∃ R, Hid (R = LX.row (no, ind, tx)) := ⟨_, Lib.hid rfl⟩
  have hsz := str_size tx
  obtain ⟨n, hn⟩ : ∃ n, tx.length = n := ⟨_, rfl⟩
  have HN := Lib.hid hn
  rw [hn] at hsz hl
  clear hn
  by_cases hin : ind < 0 ∨ 16384 < ind
  · have E := Lib.hid (show R = (6, []) by rw [HF.out, LX.row, if_pos hin])
    rcases hin with hin | hin
    · go_enter Tryz.func61, Tryz.ntmps61
      go_wp2
      generalize (w.alloc (.cells #[.int .i64 no, .int .i64 ind, .string ⟨tx.toArray⟩] 105)).alloc (.cells #[.int .i64 0, .int .i64 0] 39) = wr at *
      have cN : wr.cell? ⟨w.heap.size, 0, none⟩ = some (.int .i64 no) := HS0.out.a.cell 0
      have f0 : wr.cell? ⟨w.heap.size + 1, 0, none⟩ = some (.int .i64 0) := HS0.out.c.cell 0
      have f1 : wr.cell? ⟨w.heap.size + 1, 1, none⟩ = some (.int .i64 0) := HS0.out.c.cell 1
      have ff0 : wr.frozen? ⟨w.heap.size + 1, 0, none⟩ = false := HS0.out.c.frozen 0
      have ff1 : wr.frozen? ⟨w.heap.size + 1, 1, none⟩ = false := HS0.out.c.frozen 1
      have HQ := Lib.hid (HS0.out.fault (.int .i64 6) (.int .i64 no))
      go_region
      go_wp2
      try rw [Exit.noGoto_ret]
      (try simp only [Exit.inBlock, Exit.then])
      refine bodyPost_ret (ret_bc rfl rfl rfl (HQ.out.1.below (below_drew _)) Tryz.underlying39 rfl fault_size) rfl ?_
      exact rowe_no HF.out E.out (by decide) (HQ.out.2.1.drew)
    · have g0 : ¬ ind < 0 := by omega
      go_enter Tryz.func61, Tryz.ntmps61
      go_wp2
      generalize (w.alloc (.cells #[.int .i64 no, .int .i64 ind, .string ⟨tx.toArray⟩] 105)).alloc (.cells #[.int .i64 0, .int .i64 0] 39) = wr at *
      have cN : wr.cell? ⟨w.heap.size, 0, none⟩ = some (.int .i64 no) := HS0.out.a.cell 0
      have f0 : wr.cell? ⟨w.heap.size + 1, 0, none⟩ = some (.int .i64 0) := HS0.out.c.cell 0
      have f1 : wr.cell? ⟨w.heap.size + 1, 1, none⟩ = some (.int .i64 0) := HS0.out.c.cell 1
      have ff0 : wr.frozen? ⟨w.heap.size + 1, 0, none⟩ = false := HS0.out.c.frozen 0
      have ff1 : wr.frozen? ⟨w.heap.size + 1, 1, none⟩ = false := HS0.out.c.frozen 1
      have HQ := Lib.hid (HS0.out.fault (.int .i64 6) (.int .i64 no))
      go_region
      go_wp2
      try rw [Exit.noGoto_ret]
      (try simp only [Exit.inBlock, Exit.then])
      refine bodyPost_ret (ret_bc rfl rfl rfl (HQ.out.1.below (below_drew _)) Tryz.underlying39 rfl fault_size) rfl ?_
      exact rowe_no HF.out E.out (by decide) (HQ.out.2.1.drew)
  have g0 : ¬ ind < 0 := by omega
  have g1 : ¬ 16384 < ind := by omega
  have g2 : 0 ≤ ind := by omega
  have g3 : ind ≤ 16384 := by omega
  have HB := Lib.hid (fun (a : Nat) (z : Int) (hz : z = (a : Int)) (x : World) (h : a ≤ n) => rblanks_at tx a z hz x (by have := HN.out; omega) (by have := HN.out; omega))
  have HG := Lib.hid (show R = LX.go no (ind + n) (LX.tl tx).length [] (LX.tl tx) by rw [HF.out, LX.row, if_neg (by simp only; omega), HN.out])
  obtain ⟨k0, hk0⟩ : ∃ k, LX.bn (tx.drop 0) = k := ⟨_, rfl⟩
  have hk0n : k0 ≤ n := by have := bn_le (tx.drop 0); rw [List.length_drop] at this; have := HN.out; omega
  have HTL0 : Hid (LX.tl tx = tx.drop k0) := by show _ = _; rw [LX.tl_drop, ← hk0]; rfl
  have HK0 := Lib.hid (HB.out 0 0 rfl)
  rw [hk0] at HK0
  clear hk0 hin
  go_enter Tryz.func61, Tryz.ntmps61
  go_wp2_with (go_at_call 91; refine (HK0.out _ (Nat.zero_le _)).mono ?_; rintro e w2 ⟨rfl, hw2⟩; replace hw2 := hw2.symm; subst hw2)
  generalize (w.alloc (.cells #[.int .i64 no, .int .i64 ind, .string ⟨tx.toArray⟩] 105)).alloc (.cells #[.int .i64 0, .int .i64 0] 39) = w0 at *
  go_loopg [4, 6] (n - k0) (fun g s4 s6 wx => ∃ (a : Nat) (acc : List LX.Pc) (v : Value), a ≤ n ∧ s6 = .int .i64 (a : Int) ∧ v = s4 ∧ Hid (RR w wx (no, ind, tx) v acc) ∧ Hid (acc.length ≤ a) ∧ Hid (n - a ≤ g ∧ R = LX.go no (ind + n) g acc (tx.drop a)))
  case atStart =>
    refine ⟨k0, [], _, hk0n, rfl, rfl, HS0, Nat.zero_le _, Nat.le_refl _, ?_⟩
    rw [HG.out, HTL0.out, List.length_drop, HN.out]
  case round =>
    clear HS0 HG HTL0 HK0 hk0n
    obtain ⟨a, acc, v, han, rfl, rfl, HW, HAL, HE⟩ := hrel
    have c0 : wr.cell? ⟨w.heap.size, 0, none⟩ = some (.int .i64 no) := HW.out.a.cell 0
    have c1 : wr.cell? ⟨w.heap.size, 1, none⟩ = some (.int .i64 ind) := HW.out.a.cell 1
    have x1 := lcut_back HN.out a
    have hani : (a : Int) ≤ (n : Int) := by omega
    obtain ⟨D, hD⟩ : ∃ D, tx.drop a = D := ⟨_, rfl⟩
    have HDD := Lib.hid hD
    have hDl : D.length ≤ 17000 := by rw [← hD, List.length_drop]; have := HN.out; omega
    have HDLN : Hid (D.length = n - a) := by show _ = _; rw [← hD, List.length_drop, HN.out]
    rw [hD] at x1 HE
    clear hD
    have HDA := Lib.hid (fun x => rdashed_any D x (by omega))
    have hc1 : ind + (a : Int) ≤ 100000 := by omega
    have hc2 : 0 ≤ ind + (a : Int) := by omega
    cases hd : LX.dash D with
    | true =>
      have hpos := LX.dash_len hd
      obtain ⟨g, rfl⟩ : ∃ g, gk = g + 1 := ⟨gk - 1, by have := HE.out.1; have := HDLN.out; omega⟩
      have E := Lib.hid (HE.out.2.trans (LX.go_dash hd))
      rw [hd] at HDA
      have ha1 : a + 1 ≤ n := by have := HDLN.out; omega
      obtain ⟨k, hk⟩ : ∃ k, LX.bn (tx.drop (a + 1)) = k := ⟨_, rfl⟩
      have HKB := Lib.hid (HB.out (a + 1) ((a : Int) + 1) (by omega))
      rw [hk] at HKB
      have hkn : a + 1 + k ≤ n := by have := bn_le (tx.drop (a + 1)); rw [List.length_drop] at this; have := HN.out; omega
      have HKK := Lib.hid hk
      have HEE := Lib.hid HE.out.1
      clear hd hk HE
      go_wp2_with (first
        | (go_at_call 92; refine (HDA.out _).mono ?_; rintro e w2 ⟨rfl, hw2⟩; replace hw2 := hw2.symm; subst hw2)
        | (go_at_call 91; refine (HKB.out _ ha1).mono ?_; rintro e w2 ⟨rfl, hw2⟩; replace hw2 := hw2.symm; subst hw2)
        | (at_builtin; refine wpList_append_piece (l := (1, no, ind + (a : Int), [], false)) rfl (.tmp 30) (.tmp 38) rfl (w.heap.size + 2) (by rfl) (HW.out.calm (below_alloc _ _)).own (by rfl) (piece_lit wr 1 no (ind + (a : Int)) [] false) (by have := HAL.out; omega) (HW.out.calm (below_alloc _ _)).big ?_; intro g3 cap3 w3 ho3 hg3; have HW3 := Lib.hid ((HW.out.calm (below_alloc _ _)).grown hg3 ho3); clear ho3 hg3))
      go_roundg g
      case rel =>
        refine ⟨a + 1 + k, _, _, hkn, by first | (simp; done) | (simp; omega), rfl, HW3, ?_, ?_, ?_⟩
        · show _ ≤ _
          have := HAL.out
          rw [List.length_append]; simp only [List.length_cons, List.length_nil]; omega
        · have := HEE.out; omega
        · rw [E.out, ← HDD.out, col_at han tx HN.out, List.drop_drop, LX.tl_drop, HKK.out, List.drop_drop]
      case measure => omega
    | false =>
      have HMID := Lib.hid (HE.out.2.trans (LX.go_mid hd))
      rw [hd] at HDA
      clear hd HE
      have HKY := Lib.hid (fun x => rkeyed_any D x (by omega))
      have hkl := LX.key_lt (l := D)
      obtain ⟨K, hK⟩ : ∃ K, LX.key D = K := ⟨_, rfl⟩
      have HKE := Lib.hid hK
      rw [hK] at HKY hkl
      have hKn : K ≤ 17000 := by
        rcases Nat.eq_zero_or_pos K with h | h
        · omega
        · have := hkl h; omega
      clear hK
      go_upto_if 52 with (first
        | (go_at_call 92; refine (HDA.out _).mono ?_; rintro e w2 ⟨rfl, hw2⟩; replace hw2 := hw2.symm; subst hw2)
        | (go_at_call 93; refine (HKY.out _).mono ?_; rintro e w2 ⟨rfl, hw2⟩; replace hw2 := hw2.symm; subst hw2))
      go_cut [4, 6] (fun s4 s6 wx => ∃ (a : Nat) (acc : List LX.Pc) (v : Value), a ≤ n ∧ s6 = .int .i64 (a : Int) ∧ v = s4 ∧ Hid (RR w wx (no, ind, tx) v acc) ∧ Hid (acc.length ≤ 20000) ∧ Hid (R = LX.fin no (ind + n) acc (tx.drop a)))
      case first =>
        by_cases hK0 : K = 0
        · subst hK0
          have HFIN := Lib.hid (HMID.out.trans (by rw [LX.mid, if_pos HKE.out]))
          go_wp2
          go_meet
          case rel => exact ⟨a, acc, v, han, rfl, rfl, HW, (by have := HAL.out; show _ ≤ _; omega), (by show _ = _; rw [HDD.out]; exact HFIN.out)⟩
        · have gK : (0 : Int) < (K : Int) := by omega
          by_cases hK64 : 64 < K
          · have E := Lib.hid (show R = (5, []) by rw [HMID.out, LX.mid, if_neg (by rw [HKE.out]; exact hK0), if_pos (by rw [HKE.out]; exact hK64)])
            have g64 : (64 : Int) < (K : Int) := by omega
            have cN : wr.cell? ⟨w.heap.size, 0, none⟩ = some (.int .i64 no) := HW.out.a.cell 0
            have f0 : wr.cell? ⟨w.heap.size + 1, 0, none⟩ = some (.int .i64 0) := HW.out.c.cell 0
            have f1 : wr.cell? ⟨w.heap.size + 1, 1, none⟩ = some (.int .i64 0) := HW.out.c.cell 1
            have ff0 : wr.frozen? ⟨w.heap.size + 1, 0, none⟩ = false := HW.out.c.frozen 0
            have ff1 : wr.frozen? ⟨w.heap.size + 1, 1, none⟩ = false := HW.out.c.frozen 1
            have HQ := Lib.hid (HW.out.fault (.int .i64 5) (.int .i64 no))
            go_wp2
            go_region
            go_wp2
            try rw [Exit.noGoto_ret]
            (try simp only [Exit.inBlock, Exit.then])
            refine bodyPost_ret (ret_bc rfl rfl rfl (HQ.out.1.below (below_drew _)) Tryz.underlying39 rfl fault_size) rfl ?_
            exact rowe_no HF.out E.out (by decide) (HQ.out.2.1.drew)
          · have g64 : ¬ (64 : Int) < (K : Int) := by omega
            have hKL := hkl (by omega)
            have haK : a + K + 1 ≤ n := by have := HDLN.out; omega
            obtain ⟨T, hT⟩ : ∃ T, D.take K = T := ⟨_, rfl⟩
            have HT := Lib.hid hT
            have haKi : (a : Int) + (K : Int) ≤ (n : Int) := by omega
            have hsl := slice_mid tx a K n HN.out (by omega) T (by rw [HDD.out]; exact hT)
            have wr1 : IntKind.i64.wrap ((a : Int) + (K : Int)) = (a : Int) + (K : Int) := lwrap_small (by omega) (by omega)
            have wr2 : IntKind.i64.wrap (ind + (a : Int)) = ind + (a : Int) := lwrap_small (by omega) (by omega)
            obtain ⟨k, hk⟩ : ∃ k, LX.bn (tx.drop (a + K + 1)) = k := ⟨_, rfl⟩
            have HKB := Lib.hid (HB.out (a + K + 1) ((a : Int) + (K : Int) + 1) (by omega))
            rw [hk] at HKB
            have hkn : a + K + 1 + k ≤ n := by have := bn_le (tx.drop (a + K + 1)); rw [List.length_drop] at this; have := HN.out; omega
            have HFIN := Lib.hid (show R = LX.fin no (ind + n) (acc ++ [(2, no, ind + (a : Int), T, false)]) (tx.drop (a + K + 1 + k)) by
              rw [HMID.out, LX.mid, if_neg (by rw [HKE.out]; exact hK0), if_neg (by rw [HKE.out]; exact hK64), HKE.out, hT, ← HDD.out, col_at han tx HN.out, List.drop_drop, show a + (K + 1) = a + K + 1 from rfl, LX.tl_drop, hk, List.drop_drop])
            clear hT hk hkl
            go_wp2
            go_region_law (refine step_append_piece (l := (2, no, ind + (a : Int), T, false)) (by rfl) (.tmp 58) (.tmp 72) (by rfl) (w.heap.size + 2) (by rfl) (HW.out.calm (below_trans (below_alloc _ _) (below_drew _))).own (by rfl) ((Str.new wr 117 #[.int .i64 2, .int .i64 no, .int .i64 (ind + (a : Int)), .string ⟨T.toArray⟩, .bool false]).below (below_drew _)).at5 (by have := HAL.out; omega) (HW.out.calm (below_trans (below_alloc _ _) (below_drew _))).big ?_; intro g3 cap3 w3 ho3 hg3; have HW3 := Lib.hid ((HW.out.calm (below_trans (below_alloc _ _) (below_drew _))).grown hg3 ho3); clear ho3 hg3)
            all_goals
              go_wp2_with (go_at_call 91; refine (HKB.out _ haK).mono ?_; rintro e w2 ⟨rfl, hw2⟩; replace hw2 := hw2.symm; subst hw2)
              go_meet
              case rel =>
                refine ⟨a + K + 1 + k, _, _, hkn, by first | (simp; done) | (simp; omega), rfl, HW3, ?_, HFIN⟩
                show _ ≤ _
                have := HAL.out
                rw [List.length_append]; simp only [List.length_cons, List.length_nil]; omega
      case rest =>
        clear HMID HKE HKY hkl hKn HW HAL HDD HDLN x1 hDl HDA c0 c1 hani han hc1 hc2
        obtain ⟨a, acc, v, han, rfl, rfl, HW, HAL, HFIN⟩ := hcut
        have f0 : wc.cell? ⟨w.heap.size + 1, 0, none⟩ = some (.int .i64 0) := HW.out.c.cell 0
        have f1 : wc.cell? ⟨w.heap.size + 1, 1, none⟩ = some (.int .i64 0) := HW.out.c.cell 1
        have ff0 : wc.frozen? ⟨w.heap.size + 1, 0, none⟩ = false := HW.out.c.frozen 0
        have ff1 : wc.frozen? ⟨w.heap.size + 1, 1, none⟩ = false := HW.out.c.frozen 1
        have hani : (a : Int) ≤ (n : Int) := by omega
        by_cases hend : n ≤ a
        · have gend : (n : Int) ≤ (a : Int) := by omega
          have E := Lib.hid (show R = (0, acc) by rw [HFIN.out, List.drop_eq_nil_of_le (by have := HN.out; omega), LX.fin, if_pos rfl])
          have HQ := Lib.hid (HW.out.fault (.int .i64 0) (.int .i64 0))
          go_wp2
          try rw [Exit.noGoto_ret]
          (try simp only [Exit.inBlock, Exit.then])
          refine bodyPost_ret (ret_bc rfl rfl rfl HQ.out.1 Tryz.underlying39 rfl fault_size) rfl ?_
          exact rowe_yes HF.out E.out HQ.out.2.2 HQ.out.2.1
        have gend : ¬ (n : Int) ≤ (a : Int) := by omega
        have hlt : (a : Int) < (n : Int) := by omega
        have x1 := lcut_back HN.out a
        have hc1 : ind + (a : Int) ≤ 100000 := by omega
        have hc2 : 0 ≤ ind + (a : Int) := by omega
        have wr2 : IntKind.i64.wrap (ind + (a : Int)) = ind + (a : Int) := lwrap_small (by omega) (by omega)
        have c0 : wc.cell? ⟨w.heap.size, 0, none⟩ = some (.int .i64 no) := HW.out.a.cell 0
        have c1 : wc.cell? ⟨w.heap.size, 1, none⟩ = some (.int .i64 ind) := HW.out.a.cell 1
        obtain ⟨c, hc⟩ : ∃ c, tx[a]? = some c := ⟨tx[a]'(by have := HN.out; omega), List.getElem?_eq_getElem _⟩
        have hil : a < (⟨tx.toArray⟩ : ByteArray).size := by omega
        have hub := c.toNat_lt
        obtain ⟨z, hz⟩ : ∃ z : Int, (c.toNat : Int) = z := ⟨_, rfl⟩
        have hiz := at_z hc hz hil
        have hz0 : 0 ≤ z := by omega
        have hz1 : z < 256 := by omega
        have HZ := Lib.hid hz
        obtain ⟨t, ht⟩ : ∃ t, tx.drop (a + 1) = t := ⟨_, rfl⟩
        have HDD : Hid (tx.drop a = c :: t) := by show _ = _; rw [drop_at hc, ht]
        have HTL : Hid (t.length ≤ 17000) := by show _ ≤ _; rw [← ht, List.length_drop]; have := HN.out; omega
        rw [HDD.out] at x1 HFIN
        have hne : c :: t ≠ [] := by simp
        have HP := Lib.hid (HW.out.piece (ind + (a : Int)) (c :: t))
        have BZ := below_alloc wc (.cells #[.int .i64 0, .int .i64 0, .int .i64 0, .string ⟨#[]⟩, .bool false] 117)
        have z0 : (wc.alloc (.cells #[.int .i64 0, .int .i64 0, .int .i64 0, .string ⟨#[]⟩, .bool false] 117)).cell? ⟨w.heap.size, 0, none⟩ = some (.int .i64 no) := (HW.out.a.below BZ).cell 0
        have z1 : (wc.alloc (.cells #[.int .i64 0, .int .i64 0, .int .i64 0, .string ⟨#[]⟩, .bool false] 117)).cell? ⟨w.heap.size, 1, none⟩ = some (.int .i64 ind) := (HW.out.a.below BZ).cell 1
        clear hz hub hc ht BZ
        go_upto_region 19 with fail
        go_region
        generalize (wc.alloc (.cells #[.int .i64 3, .int .i64 no, .int .i64 (ind + (a : Int)), .string ⟨(c :: t).toArray⟩, .bool false] 117)).drew = w1 at *
        have HQ1 := HP
        clear HP z0 z1 f0 f1 ff0 ff1 c0 c1 HW
        obtain ⟨P, hP⟩ : ∃ P, wc.heap.size = P := ⟨_, rfl⟩
        rw [hP] at HQ1
        by_cases h39 : c = 39
        · subst h39
          obtain rfl : z = 39 := HZ.out.symm
          have HM := Lib.hid (fun y => rmeant_one t y (by have := HTL.out; omega))
          go_wp2_with fail
          refine (HM.out _).mono ?_
          rintro e w3 ⟨⟨x, b, rfl, hx⟩, b3⟩
          have HQ3 := Lib.hid (HQ1.out.calm b3)
          clear b3 HM HQ1
          rcases hx with ⟨hF, rfl⟩ | ⟨hF, rfl⟩
          · have EL := Lib.hid (show LX.txt (39 :: t) = LX.lng x true by rw [txt_1, hF])
            have n3 : w3.cell? ⟨P, 3, none⟩ = some (.string ⟨(39 :: t).toArray⟩) := HQ3.out.pc.cell 3
            have n3f := HQ3.out.pc.frozen 3
            have s4 : Str (w3.setCell ⟨P, 3, none⟩ (.string ⟨x.toArray⟩)) P 117 _ := HQ3.out.pc.set 3 (.string ⟨x.toArray⟩)
            have n4 : (w3.setCell ⟨P, 3, none⟩ (.string ⟨x.toArray⟩)).cell? ⟨P, 4, none⟩ = some (.bool false) := s4.cell 4
            have n4f := s4.frozen 4
            have HQ4 := Lib.hid (HQ3.out.set x true)
            clear hF s4
            go_upto_region 27 with fail
            generalize (w3.setCell ⟨P, 3, none⟩ (.string ⟨x.toArray⟩)).setCell ⟨P, 4, none⟩ (.bool true) = w4 at *
            clear n3 n3f n4 n4f HQ3
            have xsz := str_size x
            obtain ⟨m, hm⟩ : ∃ m, x.length = m := ⟨_, rfl⟩
            have HX := Lib.hid hm
            rw [hm] at xsz
            clear hm
            have m3 : w4.cell? ⟨P, 3, none⟩ = some (.string ⟨x.toArray⟩) := HQ4.out.pc.cell 3
            by_cases h200 : 200 < m
            · have g200 : (200 : Int) < (m : Int) := by omega
              have E := Lib.hid (fin_fault HFIN.out hne (EL.out.trans (lng_no (by rw [HX.out]; omega))) (by decide))
              have HW4 := Lib.hid HQ4.out.rr
              have cN : w4.cell? ⟨w.heap.size, 0, none⟩ = some (.int .i64 no) := HW4.out.a.cell 0
              have f0 : w4.cell? ⟨w.heap.size + 1, 0, none⟩ = some (.int .i64 0) := HW4.out.c.cell 0
              have f1 : w4.cell? ⟨w.heap.size + 1, 1, none⟩ = some (.int .i64 0) := HW4.out.c.cell 1
              have ff0 : w4.frozen? ⟨w.heap.size + 1, 0, none⟩ = false := HW4.out.c.frozen 0
              have ff1 : w4.frozen? ⟨w.heap.size + 1, 1, none⟩ = false := HW4.out.c.frozen 1
              have HQ := Lib.hid (HW4.out.fault (.int .i64 4) (.int .i64 no))
              go_wp2
              go_region
              go_wp2
              try rw [Exit.noGoto_ret]
              (try simp only [Exit.inBlock, Exit.then])
              refine bodyPost_ret (ret_bc rfl rfl rfl (HQ.out.1.below (below_drew _)) Tryz.underlying39 rfl fault_size) rfl ?_
              exact rowe_no HF.out E.out (by decide) (HQ.out.2.1.drew)
            · have g200 : ¬ (200 : Int) < (m : Int) := by omega
              have E := Lib.hid (fin_text HFIN.out hne (EL.out.trans (lng_yes (by rw [HX.out]; omega))))
              have HW4 := Lib.hid HQ4.out.rr
              have HCOL := Lib.hid (col_at (ind := ind) han tx HN.out)
              have m0 : w4.cell? ⟨P, 0, none⟩ = some (.int .i64 3) := HQ4.out.pc.cell 0
              have m1 : w4.cell? ⟨P, 1, none⟩ = some (.int .i64 no) := HQ4.out.pc.cell 1
              have m2 : w4.cell? ⟨P, 2, none⟩ = some (.int .i64 (ind + (a : Int))) := HQ4.out.pc.cell 2
              have m4 : w4.cell? ⟨P, 4, none⟩ = some (.bool true) := HQ4.out.pc.cell 4
              clear HQ4
              go_wp2_with (at_builtin; refine wpList_append_piece (l := (3, no, ind + (a : Int), x, true)) rfl (.tmp 151) (.tmp 153) rfl (w.heap.size + 2) (by rfl) (HW4.out.calm (below_alloc _ _)).own (by rfl) (piece_lit w4 3 no (ind + (a : Int)) x true) (by have := HAL.out; omega) (HW4.out.calm (below_alloc _ _)).big ?_; intro g3 cap3 w3 ho3 hg3; have HW3 := Lib.hid ((HW4.out.calm (below_alloc _ _)).grown hg3 ho3); have f0 : w3.cell? ⟨w.heap.size + 1, 0, none⟩ = some (.int .i64 0) := HW3.out.c.cell 0; have f1 : w3.cell? ⟨w.heap.size + 1, 1, none⟩ = some (.int .i64 0) := HW3.out.c.cell 1; have ff0 : w3.frozen? ⟨w.heap.size + 1, 0, none⟩ = false := HW3.out.c.frozen 0; have ff1 : w3.frozen? ⟨w.heap.size + 1, 1, none⟩ = false := HW3.out.c.frozen 1; have HZ3 := Lib.hid (HW3.out.fault (.int .i64 0) (.int .i64 0)); clear ho3 hg3)
              try rw [Exit.noGoto_ret]
              (try simp only [Exit.inBlock, Exit.then])
              refine bodyPost_ret (ret_bc rfl rfl rfl HZ3.out.1 Tryz.underlying39 rfl fault_size) rfl ?_
              exact rowe_yes HF.out (E.out.trans (by rw [← HDD.out, HCOL.out])) HZ3.out.2.2 HZ3.out.2.1
          · have E := Lib.hid (fin_fault HFIN.out hne (show LX.txt (39 :: t) = (3, [], false) by rw [txt_1, hF]) (by decide))
            have HW4 := Lib.hid HQ3.out.rr
            clear hF
            have cN : w3.cell? ⟨w.heap.size, 0, none⟩ = some (.int .i64 no) := HW4.out.a.cell 0
            have f0 : w3.cell? ⟨w.heap.size + 1, 0, none⟩ = some (.int .i64 0) := HW4.out.c.cell 0
            have f1 : w3.cell? ⟨w.heap.size + 1, 1, none⟩ = some (.int .i64 0) := HW4.out.c.cell 1
            have ff0 : w3.frozen? ⟨w.heap.size + 1, 0, none⟩ = false := HW4.out.c.frozen 0
            have ff1 : w3.frozen? ⟨w.heap.size + 1, 1, none⟩ = false := HW4.out.c.frozen 1
            have HQ := Lib.hid (HW4.out.fault (.int .i64 3) (.int .i64 no))
            go_wp2
            go_region
            go_wp2
            try rw [Exit.noGoto_ret]
            (try simp only [Exit.inBlock, Exit.then])
            refine bodyPost_ret (ret_bc rfl rfl rfl (HQ.out.1.below (below_drew _)) Tryz.underlying39 rfl fault_size) rfl ?_
            exact rowe_no HF.out E.out (by decide) (HQ.out.2.1.drew)
        by_cases h34 : c = 34
        · subst h34
          obtain rfl : z = 34 := HZ.out.symm
          have HM := Lib.hid (fun y => rmeant_two t y (by have := HTL.out; omega))
          go_wp2_with fail
          refine (HM.out _).mono ?_
          rintro e w3 ⟨⟨x, b, rfl, hx⟩, b3⟩
          have HQ3 := Lib.hid (HQ1.out.calm b3)
          clear b3 HM HQ1
          rcases hx with ⟨hF, rfl⟩ | ⟨hF, rfl⟩
          · have EL := Lib.hid (show LX.txt (34 :: t) = LX.lng x true by rw [txt_2, hF])
            have n3 : w3.cell? ⟨P, 3, none⟩ = some (.string ⟨(34 :: t).toArray⟩) := HQ3.out.pc.cell 3
            have n3f := HQ3.out.pc.frozen 3
            have s4 : Str (w3.setCell ⟨P, 3, none⟩ (.string ⟨x.toArray⟩)) P 117 _ := HQ3.out.pc.set 3 (.string ⟨x.toArray⟩)
            have n4 : (w3.setCell ⟨P, 3, none⟩ (.string ⟨x.toArray⟩)).cell? ⟨P, 4, none⟩ = some (.bool false) := s4.cell 4
            have n4f := s4.frozen 4
            have HQ4 := Lib.hid (HQ3.out.set x true)
            clear hF s4
            go_upto_region 27 with fail
            generalize (w3.setCell ⟨P, 3, none⟩ (.string ⟨x.toArray⟩)).setCell ⟨P, 4, none⟩ (.bool true) = w4 at *
            clear n3 n3f n4 n4f HQ3
            have xsz := str_size x
            obtain ⟨m, hm⟩ : ∃ m, x.length = m := ⟨_, rfl⟩
            have HX := Lib.hid hm
            rw [hm] at xsz
            clear hm
            have m3 : w4.cell? ⟨P, 3, none⟩ = some (.string ⟨x.toArray⟩) := HQ4.out.pc.cell 3
            by_cases h200 : 200 < m
            · have g200 : (200 : Int) < (m : Int) := by omega
              have E := Lib.hid (fin_fault HFIN.out hne (EL.out.trans (lng_no (by rw [HX.out]; omega))) (by decide))
              have HW4 := Lib.hid HQ4.out.rr
              have cN : w4.cell? ⟨w.heap.size, 0, none⟩ = some (.int .i64 no) := HW4.out.a.cell 0
              have f0 : w4.cell? ⟨w.heap.size + 1, 0, none⟩ = some (.int .i64 0) := HW4.out.c.cell 0
              have f1 : w4.cell? ⟨w.heap.size + 1, 1, none⟩ = some (.int .i64 0) := HW4.out.c.cell 1
              have ff0 : w4.frozen? ⟨w.heap.size + 1, 0, none⟩ = false := HW4.out.c.frozen 0
              have ff1 : w4.frozen? ⟨w.heap.size + 1, 1, none⟩ = false := HW4.out.c.frozen 1
              have HQ := Lib.hid (HW4.out.fault (.int .i64 4) (.int .i64 no))
              go_wp2
              go_region
              go_wp2
              try rw [Exit.noGoto_ret]
              (try simp only [Exit.inBlock, Exit.then])
              refine bodyPost_ret (ret_bc rfl rfl rfl (HQ.out.1.below (below_drew _)) Tryz.underlying39 rfl fault_size) rfl ?_
              exact rowe_no HF.out E.out (by decide) (HQ.out.2.1.drew)
            · have g200 : ¬ (200 : Int) < (m : Int) := by omega
              have E := Lib.hid (fin_text HFIN.out hne (EL.out.trans (lng_yes (by rw [HX.out]; omega))))
              have HW4 := Lib.hid HQ4.out.rr
              have HCOL := Lib.hid (col_at (ind := ind) han tx HN.out)
              have m0 : w4.cell? ⟨P, 0, none⟩ = some (.int .i64 3) := HQ4.out.pc.cell 0
              have m1 : w4.cell? ⟨P, 1, none⟩ = some (.int .i64 no) := HQ4.out.pc.cell 1
              have m2 : w4.cell? ⟨P, 2, none⟩ = some (.int .i64 (ind + (a : Int))) := HQ4.out.pc.cell 2
              have m4 : w4.cell? ⟨P, 4, none⟩ = some (.bool true) := HQ4.out.pc.cell 4
              clear HQ4
              go_wp2_with (at_builtin; refine wpList_append_piece (l := (3, no, ind + (a : Int), x, true)) rfl (.tmp 151) (.tmp 153) rfl (w.heap.size + 2) (by rfl) (HW4.out.calm (below_alloc _ _)).own (by rfl) (piece_lit w4 3 no (ind + (a : Int)) x true) (by have := HAL.out; omega) (HW4.out.calm (below_alloc _ _)).big ?_; intro g3 cap3 w3 ho3 hg3; have HW3 := Lib.hid ((HW4.out.calm (below_alloc _ _)).grown hg3 ho3); have f0 : w3.cell? ⟨w.heap.size + 1, 0, none⟩ = some (.int .i64 0) := HW3.out.c.cell 0; have f1 : w3.cell? ⟨w.heap.size + 1, 1, none⟩ = some (.int .i64 0) := HW3.out.c.cell 1; have ff0 : w3.frozen? ⟨w.heap.size + 1, 0, none⟩ = false := HW3.out.c.frozen 0; have ff1 : w3.frozen? ⟨w.heap.size + 1, 1, none⟩ = false := HW3.out.c.frozen 1; have HZ3 := Lib.hid (HW3.out.fault (.int .i64 0) (.int .i64 0)); clear ho3 hg3)
              try rw [Exit.noGoto_ret]
              (try simp only [Exit.inBlock, Exit.then])
              refine bodyPost_ret (ret_bc rfl rfl rfl HZ3.out.1 Tryz.underlying39 rfl fault_size) rfl ?_
              exact rowe_yes HF.out (E.out.trans (by rw [← HDD.out, HCOL.out])) HZ3.out.2.2 HZ3.out.2.1
          · have E := Lib.hid (fin_fault HFIN.out hne (show LX.txt (34 :: t) = (3, [], false) by rw [txt_2, hF]) (by decide))
            have HW4 := Lib.hid HQ3.out.rr
            clear hF
            have cN : w3.cell? ⟨w.heap.size, 0, none⟩ = some (.int .i64 no) := HW4.out.a.cell 0
            have f0 : w3.cell? ⟨w.heap.size + 1, 0, none⟩ = some (.int .i64 0) := HW4.out.c.cell 0
            have f1 : w3.cell? ⟨w.heap.size + 1, 1, none⟩ = some (.int .i64 0) := HW4.out.c.cell 1
            have ff0 : w3.frozen? ⟨w.heap.size + 1, 0, none⟩ = false := HW4.out.c.frozen 0
            have ff1 : w3.frozen? ⟨w.heap.size + 1, 1, none⟩ = false := HW4.out.c.frozen 1
            have HQ := Lib.hid (HW4.out.fault (.int .i64 3) (.int .i64 no))
            go_wp2
            go_region
            go_wp2
            try rw [Exit.noGoto_ret]
            (try simp only [Exit.inBlock, Exit.then])
            refine bodyPost_ret (ret_bc rfl rfl rfl (HQ.out.1.below (below_drew _)) Tryz.underlying39 rfl fault_size) rfl ?_
            exact rowe_no HF.out E.out (by decide) (HQ.out.2.1.drew)
        have q39 : (z == 39) = false := zne HZ.out 39 (by decide) h39
        have q39' : ¬ z = 39 := beq_eq_false_iff_ne.1 q39
        have q34 : (z == 34) = false := zne HZ.out 34 (by decide) h34
        have q34' : ¬ z = 34 := beq_eq_false_iff_ne.1 q34
        have HOD := Lib.hid (fun x => rodd_any c z HZ.out x)
        have HDA := Lib.hid (fun x => rdashed_any (c :: t) x (by have := HTL.out; simp; omega))
        have HKY := Lib.hid (fun x => rkeyed_any (c :: t) x (by have := HTL.out; simp; omega))
        cases hq : okPlain (c :: t) with
        | false =>
          have E := Lib.hid (fin_fault HFIN.out hne (show LX.txt (c :: t) = (4, [], false) by rw [txt_3 h39 h34, hq]; rfl) (by decide))
          have HW4 := Lib.hid HQ1.out.rr
          have hno := okp_no hq
          obtain ⟨K2, hK2⟩ : ∃ K2, LX.key (c :: t) = K2 := ⟨_, rfl⟩
          rw [hK2] at HKY hno
          have hk0 : 0 ≤ (K2 : Int) := by omega
          clear hq hK2 HQ1
          rcases hno with ho | ⟨ho, hd⟩ | ⟨ho, hd, hk⟩
          · rw [ho] at HOD
            go_upto_region 26 with (first  | (go_at_call 95; refine (HOD.out _).mono ?_; rintro e w2 ⟨rfl, hw2⟩; replace hw2 := hw2.symm; subst hw2)  | (go_at_call 92; refine (HDA.out _).mono ?_; rintro e w2 ⟨rfl, hw2⟩; replace hw2 := hw2.symm; subst hw2)  | (go_at_call 93; refine (HKY.out _).mono ?_; rintro e w2 ⟨rfl, hw2⟩; replace hw2 := hw2.symm; subst hw2))
            have cN : w1.cell? ⟨w.heap.size, 0, none⟩ = some (.int .i64 no) := HW4.out.a.cell 0
            have f0 : w1.cell? ⟨w.heap.size + 1, 0, none⟩ = some (.int .i64 0) := HW4.out.c.cell 0
            have f1 : w1.cell? ⟨w.heap.size + 1, 1, none⟩ = some (.int .i64 0) := HW4.out.c.cell 1
            have ff0 : w1.frozen? ⟨w.heap.size + 1, 0, none⟩ = false := HW4.out.c.frozen 0
            have ff1 : w1.frozen? ⟨w.heap.size + 1, 1, none⟩ = false := HW4.out.c.frozen 1
            have HQ := Lib.hid (HW4.out.fault (.int .i64 4) (.int .i64 no))
            go_region
            go_wp2
            try rw [Exit.noGoto_ret]
            (try simp only [Exit.inBlock, Exit.then])
            refine bodyPost_ret (ret_bc rfl rfl rfl (HQ.out.1.below (below_drew _)) Tryz.underlying39 rfl fault_size) rfl ?_
            exact rowe_no HF.out E.out (by decide) (HQ.out.2.1.drew)
          · rw [ho] at HOD
            rw [hd] at HDA
            go_upto_region 26 with (first  | (go_at_call 95; refine (HOD.out _).mono ?_; rintro e w2 ⟨rfl, hw2⟩; replace hw2 := hw2.symm; subst hw2)  | (go_at_call 92; refine (HDA.out _).mono ?_; rintro e w2 ⟨rfl, hw2⟩; replace hw2 := hw2.symm; subst hw2)  | (go_at_call 93; refine (HKY.out _).mono ?_; rintro e w2 ⟨rfl, hw2⟩; replace hw2 := hw2.symm; subst hw2))
            have cN : w1.cell? ⟨w.heap.size, 0, none⟩ = some (.int .i64 no) := HW4.out.a.cell 0
            have f0 : w1.cell? ⟨w.heap.size + 1, 0, none⟩ = some (.int .i64 0) := HW4.out.c.cell 0
            have f1 : w1.cell? ⟨w.heap.size + 1, 1, none⟩ = some (.int .i64 0) := HW4.out.c.cell 1
            have ff0 : w1.frozen? ⟨w.heap.size + 1, 0, none⟩ = false := HW4.out.c.frozen 0
            have ff1 : w1.frozen? ⟨w.heap.size + 1, 1, none⟩ = false := HW4.out.c.frozen 1
            have HQ := Lib.hid (HW4.out.fault (.int .i64 4) (.int .i64 no))
            go_region
            go_wp2
            try rw [Exit.noGoto_ret]
            (try simp only [Exit.inBlock, Exit.then])
            refine bodyPost_ret (ret_bc rfl rfl rfl (HQ.out.1.below (below_drew _)) Tryz.underlying39 rfl fault_size) rfl ?_
            exact rowe_no HF.out E.out (by decide) (HQ.out.2.1.drew)
          · rw [ho] at HOD
            rw [hd] at HDA
            have gk2 : (0 : Int) < (K2 : Int) := by omega
            go_upto_region 26 with (first  | (go_at_call 95; refine (HOD.out _).mono ?_; rintro e w2 ⟨rfl, hw2⟩; replace hw2 := hw2.symm; subst hw2)  | (go_at_call 92; refine (HDA.out _).mono ?_; rintro e w2 ⟨rfl, hw2⟩; replace hw2 := hw2.symm; subst hw2)  | (go_at_call 93; refine (HKY.out _).mono ?_; rintro e w2 ⟨rfl, hw2⟩; replace hw2 := hw2.symm; subst hw2))
            have cN : w1.cell? ⟨w.heap.size, 0, none⟩ = some (.int .i64 no) := HW4.out.a.cell 0
            have f0 : w1.cell? ⟨w.heap.size + 1, 0, none⟩ = some (.int .i64 0) := HW4.out.c.cell 0
            have f1 : w1.cell? ⟨w.heap.size + 1, 1, none⟩ = some (.int .i64 0) := HW4.out.c.cell 1
            have ff0 : w1.frozen? ⟨w.heap.size + 1, 0, none⟩ = false := HW4.out.c.frozen 0
            have ff1 : w1.frozen? ⟨w.heap.size + 1, 1, none⟩ = false := HW4.out.c.frozen 1
            have HQ := Lib.hid (HW4.out.fault (.int .i64 4) (.int .i64 no))
            go_region
            go_wp2
            try rw [Exit.noGoto_ret]
            (try simp only [Exit.inBlock, Exit.then])
            refine bodyPost_ret (ret_bc rfl rfl rfl (HQ.out.1.below (below_drew _)) Tryz.underlying39 rfl fault_size) rfl ?_
            exact rowe_no HF.out E.out (by decide) (HQ.out.2.1.drew)
        | true =>
          have EL := Lib.hid (show LX.txt (c :: t) = LX.lng (c :: t) false by rw [txt_3 h39 h34, hq]; rfl)
          obtain ⟨ho, hd, hk⟩ := okp_yes hq
          rw [ho] at HOD
          rw [hd] at HDA
          rw [hk] at HKY
          clear hq ho hd hk
          go_upto_region 27 with (first  | (go_at_call 95; refine (HOD.out _).mono ?_; rintro e w2 ⟨rfl, hw2⟩; replace hw2 := hw2.symm; subst hw2)  | (go_at_call 92; refine (HDA.out _).mono ?_; rintro e w2 ⟨rfl, hw2⟩; replace hw2 := hw2.symm; subst hw2)  | (go_at_call 93; refine (HKY.out _).mono ?_; rintro e w2 ⟨rfl, hw2⟩; replace hw2 := hw2.symm; subst hw2))
          have HQ4 := HQ1
          generalize hxx : c :: t = x at *
          clear HQ1 hxx HOD HDA HKY
          obtain ⟨w4, hw4⟩ : ∃ w4, w1 = w4 := ⟨_, rfl⟩
          subst hw4
          have xsz := str_size x
          obtain ⟨m, hm⟩ : ∃ m, x.length = m := ⟨_, rfl⟩
          have HX := Lib.hid hm
          rw [hm] at xsz
          clear hm
          have m3 : w1.cell? ⟨P, 3, none⟩ = some (.string ⟨x.toArray⟩) := HQ4.out.pc.cell 3
          by_cases h200 : 200 < m
          · have g200 : (200 : Int) < (m : Int) := by omega
            have E := Lib.hid (fin_fault HFIN.out hne (EL.out.trans (lng_no (by rw [HX.out]; omega))) (by decide))
            have HW4 := Lib.hid HQ4.out.rr
            have cN : w1.cell? ⟨w.heap.size, 0, none⟩ = some (.int .i64 no) := HW4.out.a.cell 0
            have f0 : w1.cell? ⟨w.heap.size + 1, 0, none⟩ = some (.int .i64 0) := HW4.out.c.cell 0
            have f1 : w1.cell? ⟨w.heap.size + 1, 1, none⟩ = some (.int .i64 0) := HW4.out.c.cell 1
            have ff0 : w1.frozen? ⟨w.heap.size + 1, 0, none⟩ = false := HW4.out.c.frozen 0
            have ff1 : w1.frozen? ⟨w.heap.size + 1, 1, none⟩ = false := HW4.out.c.frozen 1
            have HQ := Lib.hid (HW4.out.fault (.int .i64 4) (.int .i64 no))
            go_wp2
            go_region
            go_wp2
            try rw [Exit.noGoto_ret]
            (try simp only [Exit.inBlock, Exit.then])
            refine bodyPost_ret (ret_bc rfl rfl rfl (HQ.out.1.below (below_drew _)) Tryz.underlying39 rfl fault_size) rfl ?_
            exact rowe_no HF.out E.out (by decide) (HQ.out.2.1.drew)
          · have g200 : ¬ (200 : Int) < (m : Int) := by omega
            have E := Lib.hid (fin_text HFIN.out hne (EL.out.trans (lng_yes (by rw [HX.out]; omega))))
            have HW4 := Lib.hid HQ4.out.rr
            have HCOL := Lib.hid (col_at (ind := ind) han tx HN.out)
            have m0 : w1.cell? ⟨P, 0, none⟩ = some (.int .i64 3) := HQ4.out.pc.cell 0
            have m1 : w1.cell? ⟨P, 1, none⟩ = some (.int .i64 no) := HQ4.out.pc.cell 1
            have m2 : w1.cell? ⟨P, 2, none⟩ = some (.int .i64 (ind + (a : Int))) := HQ4.out.pc.cell 2
            have m4 : w1.cell? ⟨P, 4, none⟩ = some (.bool false) := HQ4.out.pc.cell 4
            clear HQ4
            go_wp2_with (at_builtin; refine wpList_append_piece (l := (3, no, ind + (a : Int), x, false)) rfl (.tmp 151) (.tmp 153) rfl (w.heap.size + 2) (by rfl) (HW4.out.calm (below_alloc _ _)).own (by rfl) (piece_lit w1 3 no (ind + (a : Int)) x false) (by have := HAL.out; omega) (HW4.out.calm (below_alloc _ _)).big ?_; intro g3 cap3 w3 ho3 hg3; have HW3 := Lib.hid ((HW4.out.calm (below_alloc _ _)).grown hg3 ho3); have f0 : w3.cell? ⟨w.heap.size + 1, 0, none⟩ = some (.int .i64 0) := HW3.out.c.cell 0; have f1 : w3.cell? ⟨w.heap.size + 1, 1, none⟩ = some (.int .i64 0) := HW3.out.c.cell 1; have ff0 : w3.frozen? ⟨w.heap.size + 1, 0, none⟩ = false := HW3.out.c.frozen 0; have ff1 : w3.frozen? ⟨w.heap.size + 1, 1, none⟩ = false := HW3.out.c.frozen 1; have HZ3 := Lib.hid (HW3.out.fault (.int .i64 0) (.int .i64 0)); clear ho3 hg3)
            try rw [Exit.noGoto_ret]
            (try simp only [Exit.inBlock, Exit.then])
            refine bodyPost_ret (ret_bc rfl rfl rfl HZ3.out.1 Tryz.underlying39 rfl fault_size) rfl ?_
            exact rowe_yes HF.out (E.out.trans (by rw [← HDD.out, HCOL.out])) HZ3.out.2.2 HZ3.out.2.1
end Go.Proofs.YtgfhabofhefaaaaGreatDoor
