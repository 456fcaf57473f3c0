/- Walks of the document's own DecodeQuery, DecodeReport, DecodeOops. -/
import Derived.Test.YtfpdcljeepjogaaAdG
namespace Go.Proofs.Ytfpdcljeepjogaa
open Go.RowKit

/-- Where the document's own Decode stands. -/
structure TA (T : TypeId) (z : Array Value) (w wr : World) (s : Option (List UInt8)) : Prop where
  below : Below w.heap.size w wr
  big : w.heap.size + 2 ≤ wr.heap.size
  res : Str wr w.heap.size T z
  rd : RS wr (w.heap.size + 1) s
theorem TA.later {T : TypeId} {z : Array Value} {w wr w1 : World} {s s' : Option (List UInt8)} (h : TA T z w wr s) (hk : Kb wr w1 (some (w.heap.size + 1)) none) (hr : RS w1 (w.heap.size + 1) s') : TA T z w w1 s' := by
  have hbig := h.big
  exact ⟨h.below.trans (hk.below (by omega) (fun g hg => by have := Option.some.inj hg; omega) (fun g hg => by cases hg)), Nat.le_trans hbig hk.size, h.res.kb hk (by simp) (by simp), hr⟩
theorem ta_start (T : TypeId) (z : Array Value) {w w1 : World} {s : Option (List UInt8)} (h2 : RS w1 (w.alloc (.cells z T)).heap.size s) (h3 : Below (w.alloc (.cells z T)).heap.size (w.alloc (.cells z T)) w1) (h4 : w1.heap.size = (w.alloc (.cells z T)).heap.size + 1) : TA T z w w1 s := by
  have B := below_alloc w (.cells z T)
  refine ⟨below_trans B h3, by rw [h4, box_size]; omega, (Str.new w T z).below h3, ?_⟩
  rwa [box_size] at h2
theorem TA.done {T : TypeId} {z : Array Value} {w wr w' : World} {s : Option (List UInt8)} (h : TA T z w wr s) (kb : Kb wr w' (some w.heap.size) none) : Below w.heap.size w w' := by
  have hbig := h.big
  exact h.below.trans (kb.below (by omega) (fun g hg => by have := Option.some.inj hg; omega) (fun g hg => by cases hg))
/-- What the document's reader tells. -/
def NumA (p : Nat) (x : World) (v : Nat) (s' : Option (List UInt8)) (e : Ending) (w' : World) : Prop := e = .returned (.int .i64 (v : Int)) ∧ RS w' p s' ∧ Kb x w' (some p) none
def TextA (p : Nat) (x : World) (v : List UInt8) (s' : Option (List UInt8)) (e : Ending) (w' : World) : Prop := e = .returned (.string ⟨v.toArray⟩) ∧ RS w' p s' ∧ Kb x w' (some p) none
theorem done_some {s : Option (List UInt8)} (h : doneS s = true) : s = some [] := of_decide_eq_true h

theorem twinN_of {kd : UInt8} {most : Nat} {bs : List UInt8} {o0 : Option (List UInt8)} {o1 o2 : Option (Nat × List UInt8)} {o3 : Option (List UInt8 × List UInt8)} (h0 : K.firstOf kd bs = o0) (h1 : numS 2147483647 o0 = o1) (h2 : numS 6 (o1.map (·.2)) = o2) (h3 : textS most (o2.map (·.2)) = o3) :
    AD.decN kd most bs = if (doneS (o3.map (·.2)) && (AD.inn (nv o1 : Int) 0 2147483647 && AD.inn (nv o2 : Int) 1 6)) = true then some ((nv o1 : Int), (nv o2 : Int), tvl o3) else none := by
  unfold AD.decN
  cases o0 with
  | none => subst h1 h2 h3; rw [AD.parN_bad0 h0]; rfl
  | some b0 =>
  cases o1 with
  | none => subst h2 h3; rw [AD.parN_bad1 h0 h1]; rfl
  | some x1 =>
  obtain ⟨a, b1⟩ := x1
  cases o2 with
  | none => subst h3; rw [AD.parN_bad2 h0 h1 h2]; rfl
  | some x2 =>
  obtain ⟨b, b2⟩ := x2
  cases o3 with
  | none => rw [AD.parN_bad3 h0 h1 h2 h3]; rfl
  | some x3 =>
  obtain ⟨s, b3⟩ := x3
  have hl : s.length ≤ most := (K.text_some h3).2.1
  rw [AD.parN_go h0 h1 h2 h3]
  have e1 : nv (some (a, b1)) = a := rfl
  have e2 : nv (some (b, b2)) = b := rfl
  have e3 : tvl (some (s, b3)) = s := rfl
  have e4 : (some (s, b3) : Option (List UInt8 × List UInt8)).map (·.2) = some b3 := rfl
  rw [e1, e2, e3, e4]
  have e5 : AD.okN most ((a : Int), (b : Int), s) = (AD.inn (a : Int) 0 2147483647 && AD.inn (b : Int) 1 6) := by
    unfold AD.okN
    simp [hl]
  rw [e5]
  generalize (AD.inn (a : Int) 0 2147483647 && AD.inn (b : Int) 1 6) = q
  cases q
  · simp [AD.whole_none]
  · by_cases hb : b3 = []
    · subst hb; rfl
    · rw [if_pos rfl, AD.whole_more _ hb, if_neg]
      simp [doneS, hb]
theorem twinO_of {bs : List UInt8} {o0 : Option (List UInt8)} {o1 o2 o3 o4 : Option (Nat × List UInt8)} (h0 : K.firstOf 5 bs = o0) (h1 : numS 2147483647 o0 = o1) (h2 : numS 8 (o1.map (·.2)) = o2) (h3 : numS 17 (o2.map (·.2)) = o3) (h4 : numS 4294967295 (o3.map (·.2)) = o4) :
    AD.decO bs = if (doneS (o4.map (·.2)) && decide (1 ≤ nv o2)) = true then some ((nv o1 : Int), (nv o2 : Int), (nv o3 : Int), (nv o4 : Int)) else none := by
  unfold AD.decO
  cases o0 with
  | none => subst h1 h2 h3 h4; rw [AD.parO_bad0 h0]; rfl
  | some b0 =>
  cases o1 with
  | none => subst h2 h3 h4; rw [AD.parO_bad1 h0 h1]; rfl
  | some x1 =>
  obtain ⟨a, b1⟩ := x1
  cases o2 with
  | none => subst h3 h4; rw [AD.parO_bad2 h0 h1 h2]; rfl
  | some x2 =>
  obtain ⟨b, b2⟩ := x2
  cases o3 with
  | none => subst h4; rw [AD.parO_bad3 h0 h1 h2 h3]; rfl
  | some x3 =>
  obtain ⟨c, b3⟩ := x3
  cases o4 with
  | none => rw [AD.parO_bad4 h0 h1 h2 h3 h4]; rfl
  | some x4 =>
  obtain ⟨d, b4⟩ := x4
  have l1 : a ≤ 2147483647 := (K.num_some h1).2.1
  have l2 : b ≤ 8 := (K.num_some h2).2.1
  have l3 : c ≤ 17 := (K.num_some h3).2.1
  have l4 : d ≤ 4294967295 := (K.num_some h4).2.1
  rw [AD.parO_go h0 h1 h2 h3 h4]
  have e1 : nv (some (a, b1)) = a := rfl
  have e2 : nv (some (b, b2)) = b := rfl
  have e3 : nv (some (c, b3)) = c := rfl
  have e4 : nv (some (d, b4)) = d := rfl
  have e5 : (some (d, b4) : Option (Nat × List UInt8)).map (·.2) = some b4 := rfl
  rw [e1, e2, e3, e4, e5]
  have e6 : AD.okO ((a : Int), (b : Int), (c : Int), (d : Int)) = decide (1 ≤ b) := by
    rw [Bool.eq_iff_iff, AD.okO_iff, decide_eq_true_eq]
    simp only
    omega
  rw [e6]
  generalize decide (1 ≤ b) = q
  cases q
  · simp [AD.whole_none]
  · by_cases hb : b4 = []
    · subst hb; rfl
    · rw [if_pos rfl, AD.whole_more _ hb, if_neg]
      simp [doneS, hb]

theorem letters_query (bs : List UInt8) : ∃ (s0 s1 s2 s3 : Option (List UInt8)) (id kind : Nat) (s : List UInt8), K.firstOf 3 bs = s0 ∧
    (AD.decN 3 16384 bs = if (doneS s3 && (AD.inn (id : Int) 0 2147483647 && AD.inn (kind : Int) 1 6)) = true then some ((id : Int), (kind : Int), s) else none) ∧
    (∀ p x, RS x p s0 → Calls Try.prog 38 #[.pointer (some ⟨p, 0, none⟩), .int .i64 2147483647] x (NumA p x id s1)) ∧
    (∀ p x, RS x p s1 → Calls Try.prog 38 #[.pointer (some ⟨p, 0, none⟩), .int .i64 6] x (NumA p x kind s2)) ∧
    (∀ p x, RS x p s2 → Calls Try.prog 39 #[.pointer (some ⟨p, 0, none⟩), .int .i64 16384] x (TextA p x s s3)) :=
  ⟨_, _, _, _, _, _, _, rfl, twinN_of rfl rfl rfl rfl, fun p x hx => rrnumE (by decide) rfl rfl rfl x hx, fun p x hx => rrnumE (by decide) rfl rfl rfl x hx, fun p x hx => rrtextE (by decide) rfl rfl rfl x hx⟩
theorem letters_report (bs : List UInt8) : ∃ (s0 s1 s2 s3 : Option (List UInt8)) (id kind : Nat) (s : List UInt8), K.firstOf 4 bs = s0 ∧
    (AD.decN 4 60000 bs = if (doneS s3 && (AD.inn (id : Int) 0 2147483647 && AD.inn (kind : Int) 1 6)) = true then some ((id : Int), (kind : Int), s) else none) ∧
    (∀ p x, RS x p s0 → Calls Try.prog 38 #[.pointer (some ⟨p, 0, none⟩), .int .i64 2147483647] x (NumA p x id s1)) ∧
    (∀ p x, RS x p s1 → Calls Try.prog 38 #[.pointer (some ⟨p, 0, none⟩), .int .i64 6] x (NumA p x kind s2)) ∧
    (∀ p x, RS x p s2 → Calls Try.prog 39 #[.pointer (some ⟨p, 0, none⟩), .int .i64 60000] x (TextA p x s s3)) :=
  ⟨_, _, _, _, _, _, _, rfl, twinN_of rfl rfl rfl rfl, fun p x hx => rrnumE (by decide) rfl rfl rfl x hx, fun p x hx => rrnumE (by decide) rfl rfl rfl x hx, fun p x hx => rrtextE (by decide) rfl rfl rfl x hx⟩
theorem letters_oops (bs : List UInt8) : ∃ (s0 s1 s2 s3 s4 : Option (List UInt8)) (a b c d : Nat), K.firstOf 5 bs = s0 ∧
    (AD.decO bs = if (doneS s4 && decide (1 ≤ b)) = true then some ((a : Int), (b : Int), (c : Int), (d : Int)) else none) ∧
    (∀ p x, RS x p s0 → Calls Try.prog 38 #[.pointer (some ⟨p, 0, none⟩), .int .i64 2147483647] x (NumA p x a s1)) ∧
    (∀ p x, RS x p s1 → Calls Try.prog 38 #[.pointer (some ⟨p, 0, none⟩), .int .i64 8] x (NumA p x b s2)) ∧
    (∀ p x, RS x p s2 → Calls Try.prog 38 #[.pointer (some ⟨p, 0, none⟩), .int .i64 17] x (NumA p x c s3)) ∧
    (∀ p x, RS x p s3 → Calls Try.prog 38 #[.pointer (some ⟨p, 0, none⟩), .int .i64 4294967295] x (NumA p x d s4)) :=
  ⟨_, _, _, _, _, _, _, _, _, rfl, twinO_of rfl rfl rfl rfl rfl, fun p x hx => rrnumE (by decide) rfl rfl rfl x hx, fun p x hx => rrnumE (by decide) rfl rfl rfl x hx, fun p x hx => rrnumE (by decide) rfl rfl rfl x hx, fun p x hx => rrnumE (by decide) rfl rfl rfl x hx⟩

set_option maxHeartbeats 8000000 in
theorem rdecode_query (v : Value) (bs : List UInt8) (w : World) (hr : Rdv w v (bv bs)) :
    Calls Try.prog 19 #[v] w (DecA w (cellsN (ansN (AD.decN 3 16384 bs))) (codeA (AD.decN 3 16384 bs))) := by
  have HBG := Lib.hid (begink_any 3 3 rfl v bs _ (hr.below (below_alloc w (.cells #[.int .i64 0, .int .i64 0, .string ⟨#[]⟩] 23))))
  obtain ⟨ao, cap, rfl, -⟩ := hr
  obtain ⟨s0, s1, s2, s3, id, kind, s, h0, hdec, h1, h2, h3⟩ := letters_query bs
  rw [h0] at HBG
  generalize AD.decN 3 16384 bs = o at *
  have HD := Lib.hid hdec
  have H1 := Lib.hid h1
  have H2 := Lib.hid h2
  have H3 := Lib.hid h3
  have HAS := Lib.hid (fun x => asked_any (id : Int) (kind : Int) x)
  generalize (AD.inn (id : Int) 0 2147483647 && AD.inn (kind : Int) 1 6) = q at *
  clear h0 h1 h2 h3 hdec
  go_enter Try.func19, Try.ntmps19
  go_wp2_with fail
  refine HBG.out.mono ?_
  rintro e w1 ⟨rfl, hb2, hb3, hb4⟩
  have HA0 := Lib.hid (ta_start 23 #[.int .i64 0, .int .i64 0, .string ⟨#[]⟩] hb2 hb3 hb4)
  rw [box_size]
  clear hb2 hb3 hb4 HBG
  go_wp2_with fail
  refine (H1.out _ _ HA0.out.rd).mono ?_
  rintro e w2 ⟨rfl, hr2, hk2⟩
  have HA2 := Lib.hid (HA0.out.later hk2 hr2)
  clear hr2 hk2 HA0 H1
  go_wp2_with fail
  refine (H2.out _ _ HA2.out.rd).mono ?_
  rintro e w3 ⟨rfl, hr3, hk3⟩
  have HA3 := Lib.hid (HA2.out.later hk3 hr3)
  clear hr3 hk3 HA2 H2
  go_wp2_with fail
  refine (H3.out _ _ HA3.out.rd).mono ?_
  rintro e w4 ⟨rfl, hr4, hk4⟩
  have HA4 := Lib.hid (HA3.out.later hk4 hr4)
  clear hr4 hk4 HA3 H3
  have HDN := Lib.hid (done_any (w.heap.size + 1) s3 w4 HA4.out.rd)
  generalize doneS s3 = dn at *
  obtain ⟨c0, c1, c2⟩ := HA4.out.res.cells3
  obtain ⟨f0, f1, f2, -⟩ := HA4.out.res.frozen4
  cases dn
  · have HZ := Lib.hid (HA4.out.res.three (.int .i64 0) (.int .i64 0) (.string ⟨#[]⟩))
    go_wp2_with (go_at_call 40; refine HDN.out.mono ?_; rintro e w6 ⟨rfl, hw6⟩; subst hw6)
    (try simp only [Exit.inBlock, Exit.then])
    refine bodyPost_ret (ret_cellA rfl rfl rfl HZ.out Try.underlying23 rfl query_size) rfl ?_
    exact ⟨by rw [HD.out, if_neg (by simp)]; rfl, HA4.out.done (Kb.three w6 w.heap.size (.int .i64 0) (.int .i64 0) (.string ⟨#[]⟩) none)⟩
  · cases q
    · have HZ := Lib.hid (HA4.out.res.three (.int .i64 0) (.int .i64 0) (.string ⟨#[]⟩))
      go_wp2_with (first
        | (go_at_call 40; refine HDN.out.mono ?_; rintro e w6 ⟨rfl, hw6⟩; subst hw6)
        | (go_at_call 25; refine (HAS.out _).mono ?_; rintro e w7 ⟨rfl, hw7⟩; subst hw7))
      (try simp only [Exit.inBlock, Exit.then])
      refine bodyPost_ret (ret_cellA rfl rfl rfl HZ.out Try.underlying23 rfl query_size) rfl ?_
      exact ⟨by rw [HD.out, if_neg (by simp)]; rfl, HA4.out.done (Kb.three _ w.heap.size (.int .i64 0) (.int .i64 0) (.string ⟨#[]⟩) none)⟩
    · have HZ := Lib.hid (HA4.out.res.three (.int .i64 (id : Int)) (.int .i64 (kind : Int)) (.string ⟨s.toArray⟩))
      go_wp2_with (first
        | (go_at_call 40; refine HDN.out.mono ?_; rintro e w6 ⟨rfl, hw6⟩; subst hw6)
        | (go_at_call 25; refine (HAS.out _).mono ?_; rintro e w7 ⟨rfl, hw7⟩; subst hw7))
      (try simp only [Exit.inBlock, Exit.then])
      refine bodyPost_ret (ret_cellA rfl rfl rfl HZ.out Try.underlying23 rfl query_size) rfl ?_
      exact ⟨by rw [HD.out, if_pos (by simp)]; rfl, HA4.out.done (Kb.three _ w.heap.size (.int .i64 (id : Int)) (.int .i64 (kind : Int)) (.string ⟨s.toArray⟩) none)⟩
set_option maxHeartbeats 8000000 in
theorem rdecode_report (v : Value) (bs : List UInt8) (w : World) (hr : Rdv w v (bv bs)) :
    Calls Try.prog 20 #[v] w (DecA w (cellsN (ansN (AD.decN 4 60000 bs))) (codeA (AD.decN 4 60000 bs))) := by
  have HBG := Lib.hid (begink_any 4 4 rfl v bs _ (hr.below (below_alloc w (.cells #[.int .i64 0, .int .i64 0, .string ⟨#[]⟩] 33))))
  obtain ⟨ao, cap, rfl, -⟩ := hr
  obtain ⟨s0, s1, s2, s3, id, kind, s, h0, hdec, h1, h2, h3⟩ := letters_report bs
  rw [h0] at HBG
  generalize AD.decN 4 60000 bs = o at *
  have HD := Lib.hid hdec
  have H1 := Lib.hid h1
  have H2 := Lib.hid h2
  have H3 := Lib.hid h3
  have HAS := Lib.hid (fun x => asked_any (id : Int) (kind : Int) x)
  generalize (AD.inn (id : Int) 0 2147483647 && AD.inn (kind : Int) 1 6) = q at *
  clear h0 h1 h2 h3 hdec
  go_enter Try.func20, Try.ntmps20
  go_wp2_with fail
  refine HBG.out.mono ?_
  rintro e w1 ⟨rfl, hb2, hb3, hb4⟩
  have HA0 := Lib.hid (ta_start 33 #[.int .i64 0, .int .i64 0, .string ⟨#[]⟩] hb2 hb3 hb4)
  rw [box_size]
  clear hb2 hb3 hb4 HBG
  go_wp2_with fail
  refine (H1.out _ _ HA0.out.rd).mono ?_
  rintro e w2 ⟨rfl, hr2, hk2⟩
  have HA2 := Lib.hid (HA0.out.later hk2 hr2)
  clear hr2 hk2 HA0 H1
  go_wp2_with fail
  refine (H2.out _ _ HA2.out.rd).mono ?_
  rintro e w3 ⟨rfl, hr3, hk3⟩
  have HA3 := Lib.hid (HA2.out.later hk3 hr3)
  clear hr3 hk3 HA2 H2
  go_wp2_with fail
  refine (H3.out _ _ HA3.out.rd).mono ?_
  rintro e w4 ⟨rfl, hr4, hk4⟩
  have HA4 := Lib.hid (HA3.out.later hk4 hr4)
  clear hr4 hk4 HA3 H3
  have HDN := Lib.hid (done_any (w.heap.size + 1) s3 w4 HA4.out.rd)
  generalize doneS s3 = dn at *
  obtain ⟨c0, c1, c2⟩ := HA4.out.res.cells3
  obtain ⟨f0, f1, f2, -⟩ := HA4.out.res.frozen4
  cases dn
  · have HZ := Lib.hid (HA4.out.res.three (.int .i64 0) (.int .i64 0) (.string ⟨#[]⟩))
    go_wp2_with (go_at_call 40; refine HDN.out.mono ?_; rintro e w6 ⟨rfl, hw6⟩; subst hw6)
    (try simp only [Exit.inBlock, Exit.then])
    refine bodyPost_ret (ret_cellA rfl rfl rfl HZ.out Try.underlying33 rfl report_size) rfl ?_
    exact ⟨by rw [HD.out, if_neg (by simp)]; rfl, HA4.out.done (Kb.three w6 w.heap.size (.int .i64 0) (.int .i64 0) (.string ⟨#[]⟩) none)⟩
  · cases q
    · have HZ := Lib.hid (HA4.out.res.three (.int .i64 0) (.int .i64 0) (.string ⟨#[]⟩))
      go_wp2_with (first
        | (go_at_call 40; refine HDN.out.mono ?_; rintro e w6 ⟨rfl, hw6⟩; subst hw6)
        | (go_at_call 25; refine (HAS.out _).mono ?_; rintro e w7 ⟨rfl, hw7⟩; subst hw7))
      (try simp only [Exit.inBlock, Exit.then])
      refine bodyPost_ret (ret_cellA rfl rfl rfl HZ.out Try.underlying33 rfl report_size) rfl ?_
      exact ⟨by rw [HD.out, if_neg (by simp)]; rfl, HA4.out.done (Kb.three _ w.heap.size (.int .i64 0) (.int .i64 0) (.string ⟨#[]⟩) none)⟩
    · have HZ := Lib.hid (HA4.out.res.three (.int .i64 (id : Int)) (.int .i64 (kind : Int)) (.string ⟨s.toArray⟩))
      go_wp2_with (first
        | (go_at_call 40; refine HDN.out.mono ?_; rintro e w6 ⟨rfl, hw6⟩; subst hw6)
        | (go_at_call 25; refine (HAS.out _).mono ?_; rintro e w7 ⟨rfl, hw7⟩; subst hw7))
      (try simp only [Exit.inBlock, Exit.then])
      refine bodyPost_ret (ret_cellA rfl rfl rfl HZ.out Try.underlying33 rfl report_size) rfl ?_
      exact ⟨by rw [HD.out, if_pos (by simp)]; rfl, HA4.out.done (Kb.three _ w.heap.size (.int .i64 (id : Int)) (.int .i64 (kind : Int)) (.string ⟨s.toArray⟩) none)⟩

set_option maxHeartbeats 8000000 in
theorem rdecode_oops (v : Value) (bs : List UInt8) (w : World) (hr : Rdv w v (bv bs)) :
    Calls Try.prog 21 #[v] w (DecA w (cellsO (ansO (AD.decO bs))) (codeA (AD.decO bs))) := by
  have HBG := Lib.hid (begink_any 5 5 rfl v bs _ (hr.below (below_alloc w (.cells #[.int .i64 0, .int .i64 0, .int .i64 0, .int .i64 0] 39))))
  obtain ⟨ao, cap, rfl, -⟩ := hr
  obtain ⟨s0, s1, s2, s3, s4, a, b, c, d, h0, hdec, h1, h2, h3, h4⟩ := letters_oops bs
  rw [h0] at HBG
  generalize AD.decO bs = o at *
  have HD := Lib.hid hdec
  have H1 := Lib.hid h1
  have H2 := Lib.hid h2
  have H3 := Lib.hid h3
  have H4 := Lib.hid h4
  clear h0 h1 h2 h3 h4 hdec
  go_enter Try.func21, Try.ntmps21
  go_wp2_with fail
  refine HBG.out.mono ?_
  rintro e w1 ⟨rfl, hb2, hb3, hb4⟩
  have HA0 := Lib.hid (ta_start 39 #[.int .i64 0, .int .i64 0, .int .i64 0, .int .i64 0] hb2 hb3 hb4)
  rw [box_size]
  clear hb2 hb3 hb4 HBG
  go_wp2_with fail
  refine (H1.out _ _ HA0.out.rd).mono ?_
  rintro e w2 ⟨rfl, hr2, hk2⟩
  have HA2 := Lib.hid (HA0.out.later hk2 hr2)
  clear hr2 hk2 HA0 H1
  go_wp2_with fail
  refine (H2.out _ _ HA2.out.rd).mono ?_
  rintro e w3 ⟨rfl, hr3, hk3⟩
  have HA3 := Lib.hid (HA2.out.later hk3 hr3)
  clear hr3 hk3 HA2 H2
  go_wp2_with fail
  refine (H3.out _ _ HA3.out.rd).mono ?_
  rintro e w4 ⟨rfl, hr4, hk4⟩
  have HA4 := Lib.hid (HA3.out.later hk4 hr4)
  clear hr4 hk4 HA3 H3
  go_wp2_with fail
  refine (H4.out _ _ HA4.out.rd).mono ?_
  rintro e w5 ⟨rfl, hr5, hk5⟩
  have HA5 := Lib.hid (HA4.out.later hk5 hr5)
  clear hr5 hk5 HA4 H4
  have HDN := Lib.hid (done_any (w.heap.size + 1) s4 w5 HA5.out.rd)
  generalize doneS s4 = dn at *
  obtain ⟨c0, c1, c2, c3⟩ := HA5.out.res.cells4
  obtain ⟨f0, f1, f2, f3⟩ := HA5.out.res.frozen4
  cases dn
  · have HZ := Lib.hid (HA5.out.res.four (.int .i64 0) (.int .i64 0) (.int .i64 0) (.int .i64 0))
    go_wp2_with (go_at_call 40; refine HDN.out.mono ?_; rintro e w6 ⟨rfl, hw6⟩; subst hw6)
    (try simp only [Exit.inBlock, Exit.then])
    refine bodyPost_ret (ret_cellA rfl rfl rfl HZ.out Try.underlying39 rfl oops_size) rfl ?_
    exact ⟨by rw [HD.out, if_neg (by simp)]; rfl, HA5.out.done (Kb.four _ w.heap.size (.int .i64 0) (.int .i64 0) (.int .i64 0) (.int .i64 0) none)⟩
  · by_cases hq : 1 ≤ b
    · have e1 : decide (1 ≤ b) = true := by simpa using hq
      have g0 : ¬ (b : Int) < 1 := by omega
      rw [e1] at HD
      clear e1 hq
      have HZ := Lib.hid (HA5.out.res.four (.int .i64 (a : Int)) (.int .i64 (b : Int)) (.int .i64 (c : Int)) (.int .i64 (d : Int)))
      go_wp2_with (go_at_call 40; refine HDN.out.mono ?_; rintro e w6 ⟨rfl, hw6⟩; subst hw6)
      (try simp only [Exit.inBlock, Exit.then])
      refine bodyPost_ret (ret_cellA rfl rfl rfl HZ.out Try.underlying39 rfl oops_size) rfl ?_
      exact ⟨by rw [HD.out, if_pos (by simp)]; rfl, HA5.out.done (Kb.four _ w.heap.size (.int .i64 (a : Int)) (.int .i64 (b : Int)) (.int .i64 (c : Int)) (.int .i64 (d : Int)) none)⟩
    · have e1 : decide (1 ≤ b) = false := by simpa using hq
      have g0 : (b : Int) < 1 := by omega
      rw [e1] at HD
      clear e1 hq
      have HZ := Lib.hid (HA5.out.res.four (.int .i64 0) (.int .i64 0) (.int .i64 0) (.int .i64 0))
      go_wp2_with (go_at_call 40; refine HDN.out.mono ?_; rintro e w6 ⟨rfl, hw6⟩; subst hw6)
      (try simp only [Exit.inBlock, Exit.then])
      refine bodyPost_ret (ret_cellA rfl rfl rfl HZ.out Try.underlying39 rfl oops_size) rfl ?_
      exact ⟨by rw [HD.out, if_neg (by simp)]; rfl, HA5.out.done (Kb.four _ w.heap.size (.int .i64 0) (.int .i64 0) (.int .i64 0) (.int .i64 0) none)⟩
end Go.Proofs.Ytfpdcljeepjogaa
