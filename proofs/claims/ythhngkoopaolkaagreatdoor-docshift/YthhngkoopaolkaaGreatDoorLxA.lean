/- Walks of All and of the document's own. -/
import Derived.Test.YthhngkoopaolkaaGreatDoorLxU
import Derived.Test.YthhngkoopaolkaaGreatDoorLxD
import Derived.Test.YthhngkoopaolkaaGreatDoorLxRise
namespace Go.Proofs.YthhngkoopaolkaaGreatDoor
open Go.RowKit

/-- What All answers, at its end. -/
def AllE (w : World) (ls : List LX.Lz) (e : Ending) (w' : World) : Prop :=
  Below w.heap.size w w' ∧ ∃ v, e = .returned (.tuple #[v, .agg #[.int .i64 (LX.all ls).1.1, .int .i64 (LX.all ls).2]]) ∧ Ownp w' w.heap.size v (LX.all ls).1.2
/-- Where it stands. -/
structure AW (w wr : World) (v : Value) (acc : List LX.Pc) : Prop where
  bl : Below w.heap.size w wr
  big : w.heap.size + 1 ≤ wr.heap.size
  c : Str wr w.heap.size 28 #[.int .i64 0, .int .i64 0]
  own : Ownp wr (w.heap.size + 1) v acc
theorem AW.calm {w wr w' : World} {v : Value} {acc : List LX.Pc} (h : AW w wr v acc) (hb : Below wr.heap.size wr w') : AW w w' v acc :=
  ⟨h.bl.trans (hb.mono h.bl.size), Nat.le_trans h.big hb.size, h.c.below hb, h.own.below hb⟩
theorem AW.grown {w wr w' : World} {v v' : Value} {acc acc' : List LX.Pc} (h : AW w wr v acc) (hg : wr.grownBy w' v.ownBlock) (ho : Ownp w' (w.heap.size + 1) v' acc') : AW w w' v' acc' := by
  have far : ∀ k, k < w.heap.size + 1 → w'.heap[k]? = wr.heap[k]? := fun k hk => hg.block k (Nat.lt_of_lt_of_le hk h.big) (by
    intro e
    have := (h.own.ownBlock e.symm).2.1
    omega)
  have hb : Below (w.heap.size + 1) wr w' := ⟨hg.os, hg.tape, hg.output, hg.size, far⟩
  exact ⟨h.bl.trans (hb.mono (by omega)), Nat.le_trans h.big hg.size, (far _ (by omega)).trans h.c, ho⟩
theorem AW.start (w : World) : AW w (w.alloc (.cells #[.int .i64 0, .int .i64 0] 28)) (.slice none 0 0) [] :=
  ⟨below_alloc _ _, by rw [bx_size]; exact Nat.le_refl _, Str.new w 28 #[.int .i64 0, .int .i64 0], Ownp.nil _ _⟩
/-- The fault has been laid. -/
theorem AW.fault {w wr : World} {v : Value} {acc : List LX.Pc} (h : AW w wr v acc) (f g : Value) :
    Str ((wr.setCell ⟨w.heap.size, 0, none⟩ f).setCell ⟨w.heap.size, 1, none⟩ g) w.heap.size 28 #[f, g] ∧ Below w.heap.size w ((wr.setCell ⟨w.heap.size, 0, none⟩ f).setCell ⟨w.heap.size, 1, none⟩ g) ∧ Ownp ((wr.setCell ⟨w.heap.size, 0, none⟩ f).setCell ⟨w.heap.size, 1, none⟩ g) w.heap.size v acc := by
  have kb := (Kb.set wr w.heap.size 0 f none).trans (Kb.set _ w.heap.size 1 g none)
  exact ⟨h.c.two' f g, h.bl.trans (kb.below h.bl.size (fun g hg => by have := Option.some.inj hg; omega) (fun g hg => by cases hg)), (h.own.base (by omega)).kb kb (h.own.off h.c (by decide)) no_or⟩
theorem alle_no {w w' : World} {ls : List LX.Lz} {k n : Int} {A : LX.R × Int} (hA : A = LX.all ls) (h : A = ((k, []), n)) (hb : Below w.heap.size w w') : AllE w ls (.returned (.tuple #[.slice none 0 0, .agg #[.int .i64 k, .int .i64 n]])) w' := by
  have e := hA.symm.trans h
  refine ⟨hb, .slice none 0 0, ?_, ?_⟩
  · rw [e]
  · rw [e]; exact Ownp.nil _ _
theorem alle_yes {w w' : World} {ls : List LX.Lz} {A : LX.R × Int} {acc : List LX.Pc} {v : Value} (hA : A = LX.all ls) (h : A = ((0, acc), 0)) (ho : Ownp w' w.heap.size v acc) (hb : Below w.heap.size w w') : AllE w ls (.returned (.tuple #[v, .agg #[.int .i64 0, .int .i64 0]])) w' := by
  have e := hA.symm.trans h
  refine ⟨hb, v, ?_, ?_⟩
  · rw [e]
  · rw [e]; exact ho
/-- What Row answers, with its row told apart. -/
theorem rowe_ok {w : World} {x : LX.Lz} {P : List LX.Pc} {e : Ending} {w' : World} (hk : LX.row x = (0, P)) (h : RowE w x e w') : ∃ v, e = .returned (.tuple #[v, .agg #[.int .i64 0, .int .i64 0]]) ∧ Ownp w' w.heap.size v P ∧ Below w.heap.size w w' := by
  obtain ⟨hb, v, he, ho⟩ := h
  rw [hk] at he ho
  exact ⟨v, he, ho, hb⟩
theorem rowe_bad {w : World} {x : LX.Lz} {k : Int} {P : List LX.Pc} {e : Ending} {w' : World} (hk : LX.row x = (k, P)) (h0 : k ≠ 0) (h : RowE w x e w') : ∃ v, e = .returned (.tuple #[v, .agg #[.int .i64 k, .int .i64 x.1]]) ∧ Ownp w' w.heap.size v P ∧ Below w.heap.size w w' := by
  obtain ⟨hb, v, he, ho⟩ := h
  rw [hk] at he ho
  rw [if_neg h0] at he
  exact ⟨v, he, ho, hb⟩
theorem drop_z {l : List LX.Lz} {i : Nat} {c : LX.Lz} (h : l[i]? = some c) : l.drop i = c :: l.drop (i + 1) := by
  obtain ⟨hi, rfl⟩ := List.getElem?_eq_some_iff.1 h
  exact List.drop_eq_getElem_cons hi

set_option maxRecDepth 10000 in
set_option maxHeartbeats 16000000 in
theorem lall_any (v0 : Value) (ls : List LX.Lz) (w : World) (hr : Rdz w v0 ls) (hls : ∀ x ∈ ls, x.2.2.length ≤ 17000) (hwt : LX.wt ls ≤ 900000) (hm : MaxIs w) :
    Calls Tryz.prog 19 #[v0] w (AllE w ls) := by
  obtain ⟨ao, cap, rfl, h1, h2, h3, h4⟩ := hr
  have HS0 := Lib.hid (AW.start w)
  obtain ⟨A, HF⟩ : ∃ A, Hid (A = LX.all ls) := ⟨_, Lib.hid rfl⟩
  obtain ⟨n, hn⟩ : ∃ n, ls.length = n := ⟨_, rfl⟩
  have HN := Lib.hid hn
  have H4 := Lib.hid h4
  have HLS := Lib.hid hls
  have HWT := Lib.hid hwt
  have HM := Lib.hid hm
  rw [hn] at h1 ⊢
  unfold maxLen at h2
  have hnn : n ≤ 9223372036854775807 := by omega
  clear h1 h2 h3 h4 hls hwt hn hm
  go_enter Tryz.func19, Tryz.ntmps19
  go_wp2
  generalize w.alloc (.cells #[.int .i64 0, .int .i64 0] 28) = w0 at *
  go_loopg [4, 11] n (fun g s4 s6 wx => ∃ (i : Nat) (acc : List LX.Pc) (v : Value), i + g = n ∧ s6 = .int .i64 (i : Int) ∧ v = s4 ∧ Hid (AW w wx v acc) ∧ Hid (acc.length + LX.wt (ls.drop i) ≤ 900000) ∧ Hid (A = LX.plus acc (LX.all (ls.drop i))))
  case atStart =>
    refine ⟨0, [], _, by omega, rfl, rfl, HS0, ?_, ?_⟩
    · show _ ≤ _; have := HWT.out; simpa using this
    · show _ = _; rw [HF.out, List.drop_zero, LX.plus_nil]
  case round =>
    clear HS0 HWT
    obtain ⟨i, acc, v, hi, rfl, rfl, HW, HAL, HE⟩ := hrel
    have f0 : wr.cell? ⟨w.heap.size, 0, none⟩ = some (.int .i64 0) := HW.out.c.cell 0
    have f1 : wr.cell? ⟨w.heap.size, 1, none⟩ = some (.int .i64 0) := HW.out.c.cell 1
    have ff0 : wr.frozen? ⟨w.heap.size, 0, none⟩ = false := HW.out.c.frozen 0
    have ff1 : wr.frozen? ⟨w.heap.size, 1, none⟩ = false := HW.out.c.frozen 1
    cases gk with
    | zero =>
      obtain rfl : i = n := by omega
      have E := Lib.hid (show A = ((0, acc), 0) by rw [HE.out, List.drop_eq_nil_of_le (by have := HN.out; omega), LX.plus_end])
      have HQ := Lib.hid (HW.out.fault (.int .i64 0) (.int .i64 0))
      go_wp2
      try rw [Exit.noGoto_ret]
      (try simp only [Exit.inBlock, Exit.then])
      refine bodyPost_ret (ret_bc rfl rfl rfl HQ.out.1 Tryz.underlying28 rfl fault_size) rfl ?_
      exact alle_yes HF.out E.out HQ.out.2.2 HQ.out.2.1
    | succ g =>
      have hin : (i : Int) < (n : Int) := by omega
      obtain ⟨x, hx⟩ : ∃ x, ls[i]? = some x := ⟨ls[i]'(by have := HN.out; omega), List.getElem?_eq_getElem _⟩
      have hlx := HLS.out x (List.mem_of_getElem? hx)
      have HD := Lib.hid (drop_z hx)
      obtain ⟨b, off, rfl, c⟩ := H4.out i x hx
      obtain ⟨d0, d1, d2⟩ := c.below HW.out.bl
      obtain ⟨no, ind, tx⟩ := x
      simp only at hlx d0 d1 d2
      obtain ⟨k, P, hkP⟩ : ∃ k P, LX.row (no, ind, tx) = (k, P) := ⟨_, _, rfl⟩
      have HPL : Hid (P.length ≤ tx.length) := by show _ ≤ _; have := LX.row_len (no, ind, tx); rw [hkP] at this; exact this
      have BX := below_alloc wr (.cells #[.int .i64 no, .int .i64 ind, .string ⟨tx.toArray⟩] 100)
      have HWB := Lib.hid (HW.out.calm BX)
      have HR := Lib.hid (lexRow_any (no, ind, tx) (wr.alloc (.cells #[.int .i64 no, .int .i64 ind, .string ⟨tx.toArray⟩] 100)) hlx ((HM.out.below HW.out.bl).below BX))
      clear hx c BX HW
      by_cases hk0 : k = 0
      · subst hk0
        have E := Lib.hid (show A = LX.plus (acc ++ P) (LX.all (ls.drop (i + 1))) by rw [HE.out, HD.out, LX.all_ok hkP, LX.plus_plus])
        have HOK := Lib.hid (fun (e : Ending) (w' : World) (h : RowE (wr.alloc (.cells #[.int .i64 no, .int .i64 ind, .string ⟨tx.toArray⟩] 100)) (no, ind, tx) e w') => rowe_ok hkP h)
        clear hkP
        go_wp2_with fail
        refine HR.out.mono ?_
        rintro e w2 he
        obtain ⟨v1, rfl, ho, hb⟩ := HOK.out _ _ he
        have B3 := below_alloc w2 (.cells #[.int .i64 0, .int .i64 0] 28)
        have HW3 := Lib.hid ((HWB.out.calm hb).calm B3)
        have HP3 := Lib.hid (ho.below B3).rd
        clear he ho hb B3 HR HOK HWB
        go_wp2_with (at_builtin; refine wpList_append_pieces rfl (.tmp 24) (.tmp 25) rfl (w.heap.size + 1) (by rfl) HW3.out.own (by rfl) HP3.out (by have := HAL.out; have := HPL.out; rw [HD.out, LX.wt_cons] at *; simp only at *; omega) HW3.out.big ?_; intro v4 w4 ho4 hg4; have HW4 := Lib.hid (HW3.out.grown hg4 ho4); clear ho4 hg4)
        go_roundg g
        case rel =>
          refine ⟨i + 1, acc ++ P, _, by omega, by first | rfl | (simp; done), rfl, HW4, ?_, E⟩
          show _ ≤ _
          have h1 := HAL.out
          have h2 := HPL.out
          rw [HD.out, LX.wt_cons] at h1
          rw [List.length_append]
          simp only at h1
          omega
        case measure => omega
      · have E := Lib.hid (show A = ((k, []), no) by rw [HE.out, HD.out, LX.all_no hkP hk0, LX.plus_no hk0])
        have HOK := Lib.hid (fun (e : Ending) (w' : World) (h : RowE (wr.alloc (.cells #[.int .i64 no, .int .i64 ind, .string ⟨tx.toArray⟩] 100)) (no, ind, tx) e w') => rowe_bad hkP hk0 h)
        clear hkP
        go_wp2_with fail
        refine HR.out.mono ?_
        rintro e w2 he
        obtain ⟨v1, rfl, ho, hb⟩ := HOK.out _ _ he
        simp only
        have B3 := below_alloc w2 (.cells #[.int .i64 k, .int .i64 no] 28)
        have HW3 := Lib.hid ((HWB.out.calm hb).calm B3)
        have a0 : (w2.alloc (.cells #[.int .i64 k, .int .i64 no] 28)).cell? ⟨w.heap.size, 0, none⟩ = some (.int .i64 0) := HW3.out.c.cell 0
        have a1 : (w2.alloc (.cells #[.int .i64 k, .int .i64 no] 28)).cell? ⟨w.heap.size, 1, none⟩ = some (.int .i64 0) := HW3.out.c.cell 1
        have aa0 : (w2.alloc (.cells #[.int .i64 k, .int .i64 no] 28)).frozen? ⟨w.heap.size, 0, none⟩ = false := HW3.out.c.frozen 0
        have aa1 : (w2.alloc (.cells #[.int .i64 k, .int .i64 no] 28)).frozen? ⟨w.heap.size, 1, none⟩ = false := HW3.out.c.frozen 1
        have HQ := Lib.hid (HW3.out.fault (.int .i64 k) (.int .i64 no))
        clear he ho hb B3 HR HOK HWB HW3
        go_wp2
        go_region
        go_wp2
        try rw [Exit.noGoto_ret]
        (try simp only [Exit.inBlock, Exit.then])
        refine bodyPost_ret (ret_bc rfl rfl rfl (HQ.out.1.below (below_drew _)) Tryz.underlying28 rfl fault_size) rfl ?_
        exact alle_no HF.out E.out (HQ.out.2.1.drew)
set_option maxRecDepth 10000 in
set_option maxHeartbeats 16000000 in
theorem rall_any (v0 : Value) (ls : List LX.Lz) (w : World) (hr : Rdz w v0 ls) (hls : ∀ x ∈ ls, x.2.2.length ≤ 17000) (hwt : LX.wt ls ≤ 900000) :
    Calls Tryz.prog 21 #[v0] w (AllE w ls) := by
  obtain ⟨ao, cap, rfl, h1, h2, h3, h4⟩ := hr
  have HS0 := Lib.hid (AW.start w)
  obtain ⟨A, HF⟩ : ∃ A, Hid (A = LX.all ls) := ⟨_, Lib.hid rfl⟩
  obtain ⟨n, hn⟩ : ∃ n, ls.length = n := ⟨_, rfl⟩
  have HN := Lib.hid hn
  have H4 := Lib.hid h4
  have HLS := Lib.hid hls
  have HWT := Lib.hid hwt

  rw [hn] at h1 ⊢
  unfold maxLen at h2
  have hnn : n ≤ 9223372036854775807 := by omega
  clear h1 h2 h3 h4 hls hwt hn
  go_enter Tryz.func21, Tryz.ntmps21
  go_wp2
  generalize w.alloc (.cells #[.int .i64 0, .int .i64 0] 28) = w0 at *
  go_loopg [4, 5] n (fun g s4 s6 wx => ∃ (i : Nat) (acc : List LX.Pc) (v : Value), i + g = n ∧ s6 = .int .i64 (i : Int) ∧ v = s4 ∧ Hid (AW w wx v acc) ∧ Hid (acc.length + LX.wt (ls.drop i) ≤ 900000) ∧ Hid (A = LX.plus acc (LX.all (ls.drop i))))
  case atStart =>
    refine ⟨0, [], _, by omega, rfl, rfl, HS0, ?_, ?_⟩
    · show _ ≤ _; have := HWT.out; simpa using this
    · show _ = _; rw [HF.out, List.drop_zero, LX.plus_nil]
  case round =>
    clear HS0 HWT
    obtain ⟨i, acc, v, hi, rfl, rfl, HW, HAL, HE⟩ := hrel
    have f0 : wr.cell? ⟨w.heap.size, 0, none⟩ = some (.int .i64 0) := HW.out.c.cell 0
    have f1 : wr.cell? ⟨w.heap.size, 1, none⟩ = some (.int .i64 0) := HW.out.c.cell 1
    have ff0 : wr.frozen? ⟨w.heap.size, 0, none⟩ = false := HW.out.c.frozen 0
    have ff1 : wr.frozen? ⟨w.heap.size, 1, none⟩ = false := HW.out.c.frozen 1
    cases gk with
    | zero =>
      obtain rfl : i = n := by omega
      have E := Lib.hid (show A = ((0, acc), 0) by rw [HE.out, List.drop_eq_nil_of_le (by have := HN.out; omega), LX.plus_end])
      have HQ := Lib.hid (HW.out.fault (.int .i64 0) (.int .i64 0))
      go_wp2
      try rw [Exit.noGoto_ret]
      (try simp only [Exit.inBlock, Exit.then])
      refine bodyPost_ret (ret_bc rfl rfl rfl HQ.out.1 Tryz.underlying28 rfl fault_size) rfl ?_
      exact alle_yes HF.out E.out HQ.out.2.2 HQ.out.2.1
    | succ g =>
      have hin : (i : Int) < (n : Int) := by omega
      obtain ⟨x, hx⟩ : ∃ x, ls[i]? = some x := ⟨ls[i]'(by have := HN.out; omega), List.getElem?_eq_getElem _⟩
      have hlx := HLS.out x (List.mem_of_getElem? hx)
      have HD := Lib.hid (drop_z hx)
      obtain ⟨b, off, rfl, c⟩ := H4.out i x hx
      obtain ⟨d0, d1, d2⟩ := c.below HW.out.bl
      obtain ⟨no, ind, tx⟩ := x
      simp only at hlx d0 d1 d2
      obtain ⟨k, P, hkP⟩ : ∃ k P, LX.row (no, ind, tx) = (k, P) := ⟨_, _, rfl⟩
      have HPL : Hid (P.length ≤ tx.length) := by show _ ≤ _; have := LX.row_len (no, ind, tx); rw [hkP] at this; exact this
      have HWB := HW
      have HR := Lib.hid (rrow_any (no, ind, tx) wr hlx)
      clear hx c HW
      by_cases hk0 : k = 0
      · subst hk0
        have E := Lib.hid (show A = LX.plus (acc ++ P) (LX.all (ls.drop (i + 1))) by rw [HE.out, HD.out, LX.all_ok hkP, LX.plus_plus])
        have HOK := Lib.hid (fun (e : Ending) (w' : World) (h : RowE wr (no, ind, tx) e w') => rowe_ok hkP h)
        clear hkP
        go_wp2_with fail
        refine HR.out.mono ?_
        rintro e w2 he
        obtain ⟨v1, rfl, ho, hb⟩ := HOK.out _ _ he
        have B3 := below_alloc w2 (.cells #[.int .i64 0, .int .i64 0] 28)
        have HW3 := Lib.hid ((HWB.out.calm hb).calm B3)
        have HP3 := Lib.hid (ho.below B3).rd
        clear he ho hb B3 HR HOK HWB
        go_wp2_with (at_builtin; refine wpList_append_pieces rfl (.tmp 26) (.tmp 27) rfl (w.heap.size + 1) (by rfl) HW3.out.own (by rfl) HP3.out (by have := HAL.out; have := HPL.out; rw [HD.out, LX.wt_cons] at *; simp only at *; omega) HW3.out.big ?_; intro v4 w4 ho4 hg4; have HW4 := Lib.hid (HW3.out.grown hg4 ho4); clear ho4 hg4)
        go_roundg g
        case rel =>
          refine ⟨i + 1, acc ++ P, _, by omega, by first | rfl | (simp; done), rfl, HW4, ?_, E⟩
          show _ ≤ _
          have h1 := HAL.out
          have h2 := HPL.out
          rw [HD.out, LX.wt_cons] at h1
          rw [List.length_append]
          simp only at h1
          omega
        case measure => omega
      · have E := Lib.hid (show A = ((k, []), no) by rw [HE.out, HD.out, LX.all_no hkP hk0, LX.plus_no hk0])
        have HOK := Lib.hid (fun (e : Ending) (w' : World) (h : RowE wr (no, ind, tx) e w') => rowe_bad hkP hk0 h)
        clear hkP
        go_wp2_with fail
        refine HR.out.mono ?_
        rintro e w2 he
        obtain ⟨v1, rfl, ho, hb⟩ := HOK.out _ _ he
        simp only
        have B3 := below_alloc w2 (.cells #[.int .i64 k, .int .i64 no] 28)
        have HW3 := Lib.hid ((HWB.out.calm hb).calm B3)
        have a0 : (w2.alloc (.cells #[.int .i64 k, .int .i64 no] 28)).cell? ⟨w.heap.size, 0, none⟩ = some (.int .i64 0) := HW3.out.c.cell 0
        have a1 : (w2.alloc (.cells #[.int .i64 k, .int .i64 no] 28)).cell? ⟨w.heap.size, 1, none⟩ = some (.int .i64 0) := HW3.out.c.cell 1
        have aa0 : (w2.alloc (.cells #[.int .i64 k, .int .i64 no] 28)).frozen? ⟨w.heap.size, 0, none⟩ = false := HW3.out.c.frozen 0
        have aa1 : (w2.alloc (.cells #[.int .i64 k, .int .i64 no] 28)).frozen? ⟨w.heap.size, 1, none⟩ = false := HW3.out.c.frozen 1
        have HQ := Lib.hid (HW3.out.fault (.int .i64 k) (.int .i64 no))
        clear he ho hb B3 HR HOK HWB HW3
        go_wp2
        go_region
        go_wp2
        try rw [Exit.noGoto_ret]
        (try simp only [Exit.inBlock, Exit.then])
        refine bodyPost_ret (ret_bc rfl rfl rfl (HQ.out.1.below (below_drew _)) Tryz.underlying28 rfl fault_size) rfl ?_
        exact alle_no HF.out E.out (HQ.out.2.1.drew)
end Go.Proofs.YthhngkoopaolkaaGreatDoor
