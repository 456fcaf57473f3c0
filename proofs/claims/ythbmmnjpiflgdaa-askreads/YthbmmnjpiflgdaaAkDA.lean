/- The walk of the document's own DecodeAsk. -/
import Derived.Test.YthbmmnjpiflgdaaAkZ
namespace Go.Proofs.Ythbmmnjpiflgdaa
open Go.RowKit

theorem ret_cellA {P : Program} {fn : Func} {p u : Tmp} {ty : TypeId} (h : fn.results = #[.cell p ty, .tmp u]) {tmps : Array Value} {w : World} {g : Nat} {T : TypeId} {cs : Array Value} {d : TypeDesc} {b : Value} (hp : tmps.getD p undef = .pointer (some ⟨g, 0, none⟩)) (hb : tmps.getD u undef = b) (hs : Str w g T cs)
    (hu : P.underlying ty = some d) (hd : (match d with | .struct _ | .array _ _ => true | _ => false) = true) (hi : (P.info? ty).map (·.size) = some cs.size) :
    (results fn tmps).run P w = .ok (.tuple #[.agg cs, b]) w := by
  rw [results_cell_tmp h, hp, hb]
  have hs' : w.heap[g]? = some (.cells cs T (0, 0)) := hs
  simp [asAddr, run_loadVar_row w g T ty cs (0, 0) d hs' hu hd hi]
theorem OA.start {w w1 : World} {s : Option (List UInt8)} (hb : Begun (w.alloc (.cells noAsk 24)) s (.returned (.pointer (some ⟨w.heap.size + 1, 0, none⟩))) w1) : OA w (w1.alloc (.cells noAsk 24)) (.int .i64 0) (.string ⟨#[]⟩) (.int .i64 0) (.slice none 0 0) [] s := by
  obtain ⟨_, h2, h3, h4⟩ := hb
  rw [box_size] at h2 h4
  have B0 := below_alloc w (.cells noAsk 24)
  have B2 := below_alloc w1 (.cells noAsk 24)
  refine ⟨below_trans (below_trans B0 h3) B2, by rw [box_size]; omega, ((Str.new w _ _).below h3).below B2, h2.below B2, ?_, Ownd.nil _ _⟩
  have := Str.new w1 24 noAsk
  rwa [h4] at this

theorem rrnumE {p : Nat} {s : Option (List UInt8)} {most : Nat} {o : Option (Nat × List UInt8)} {v : Nat} {s' : Option (List UInt8)} (hm : most ≤ 9223372036854775807) (h : numS most s = o) (hv : nv o = v) (hs : o.map (·.2) = s') (x : World) (hx : RS x p s) :
    Calls Try.prog 41 #[.pointer (some ⟨p, 0, none⟩), .int .i64 (most : Int)] x fun e w' => e = .returned (.int .i64 (v : Int)) ∧ RS w' p s' ∧ Kb x w' (some p) none := by
  subst h hv hs
  exact rrnum_any p s most hm x hx
theorem rrtextE {p : Nat} {s : Option (List UInt8)} {most : Nat} {o : Option (List UInt8 × List UInt8)} {v : List UInt8} {s' : Option (List UInt8)} (hm : most ≤ 9223372036854775807) (h : textS most s = o) (hv : tvl o = v) (hs : o.map (·.2) = s') (x : World) (hx : RS x p s) :
    Calls Try.prog 42 #[.pointer (some ⟨p, 0, none⟩), .int .i64 (most : Int)] x fun e w' => e = .returned (.string ⟨v.toArray⟩) ∧ RS w' p s' ∧ Kb x w' (some p) none := by
  subst h hv hs
  exact rrtext_any p s most hm x hx
theorem bad_cell {w : World} {p : Nat} {s : Option (List UInt8)} (h : RS w p s) : w.cell? ⟨p, 1, none⟩ = some (.bool s.isNone) := by
  obtain ⟨v, hs, _⟩ := h.str
  exact hs.cell 1
/-- What the bytes begin with, in letters. -/
theorem begin_letters (bs : List UInt8) : ∃ (s0 s1 s2 s3 s4 : Option (List UInt8)) (id n hs : Nat) (dom : List UInt8), K.first bs = s0 ∧ n ≤ 16 ∧ OI bs (id : Int) dom (hs : Int) n [] 0 s4 ∧
    (∀ p x, RS x p s0 → Calls Try.prog 41 #[.pointer (some ⟨p, 0, none⟩), .int .i64 2147483647] x fun e w' => e = .returned (.int .i64 (id : Int)) ∧ RS w' p s1 ∧ Kb x w' (some p) none) ∧
    (∀ p x, RS x p s1 → Calls Try.prog 42 #[.pointer (some ⟨p, 0, none⟩), .int .i64 64] x fun e w' => e = .returned (.string ⟨dom.toArray⟩) ∧ RS w' p s2 ∧ Kb x w' (some p) none) ∧
    (∀ p x, RS x p s2 → Calls Try.prog 41 #[.pointer (some ⟨p, 0, none⟩), .int .i64 4294967295] x fun e w' => e = .returned (.int .i64 (hs : Int)) ∧ RS w' p s3 ∧ Kb x w' (some p) none) ∧
    (∀ p x, RS x p s3 → Calls Try.prog 41 #[.pointer (some ⟨p, 0, none⟩), .int .i64 16] x fun e w' => e = .returned (.int .i64 (n : Int)) ∧ RS w' p s4 ∧ Kb x w' (some p) none) := by
  refine ⟨_, _, _, _, _, _, _, _, _, rfl, nv_le (o := numS 16 _) rfl, OI.start bs rfl rfl rfl rfl rfl, fun p x hx => rrnumE (by decide) rfl rfl rfl x hx, fun p x hx => rrtextE (by decide) rfl rfl rfl x hx, fun p x hx => rrnumE (by decide) rfl rfl rfl x hx, fun p x hx => rrnumE (by decide) rfl rfl rfl x hx⟩
/-- A descriptor's number of entries, in letters. -/
theorem desc_letters (rest : List UInt8) : ∃ (s : Option (List UInt8)) (m : Nat), m ≤ 8 ∧ II rest m [] 0 s ∧
    (∀ p x, RS x p (some rest) → Calls Try.prog 41 #[.pointer (some ⟨p, 0, none⟩), .int .i64 8] x fun e w' => e = .returned (.int .i64 (m : Int)) ∧ RS w' p s ∧ Kb x w' (some p) none) :=
  ⟨_, _, nv_le (o := numS 8 _) rfl, II.start rest rfl, fun p x hx => rrnumE (by decide) rfl rfl rfl x hx⟩
/-- An entry, in letters. -/
theorem entry_letters {rest r : List UInt8} {m j : Nat} {es : List D.E} (h : II rest m es j (some r)) (hj : j < m) : ∃ (s1 s2 : Option (List UInt8)) (key val : List UInt8), II rest m (es ++ [(key, val)]) (j + 1) s2 ∧
    (∀ p x, RS x p (some r) → Calls Try.prog 42 #[.pointer (some ⟨p, 0, none⟩), .int .i64 64] x fun e w' => e = .returned (.string ⟨key.toArray⟩) ∧ RS w' p s1 ∧ Kb x w' (some p) none) ∧
    (∀ p x, RS x p s1 → Calls Try.prog 42 #[.pointer (some ⟨p, 0, none⟩), .int .i64 128] x fun e w' => e = .returned (.string ⟨val.toArray⟩) ∧ RS w' p s2 ∧ Kb x w' (some p) none) :=
  ⟨_, _, _, _, h.more hj rfl rfl, fun p x hx => rrtextE (by decide) rfl rfl rfl x hx, fun p x hx => rrtextE (by decide) rfl rfl rfl x hx⟩

/-- The result, laid: nothing. -/
theorem none_laid {w wr : World} {x0 x1 x2 vs : Value} {ds : List (List D.E)} {s : Option (List UInt8)} (h : OA w wr x0 x1 x2 vs ds s) : Str (four wr w.heap.size (.int .i64 0) (.string ⟨#[]⟩) (.int .i64 0) (.slice none 0 0)) w.heap.size 24 noAsk ∧ Below w.heap.size w (four wr w.heap.size (.int .i64 0) (.string ⟨#[]⟩) (.int .i64 0) (.slice none 0 0)) := by
  have hbig := h.big
  have kb := Kb.four wr w.heap.size (.int .i64 0) (.string ⟨#[]⟩) (.int .i64 0) (.slice none 0 0) none
  exact ⟨h.res.four _ _ _ _, h.below.trans (kb.below (by omega) (fun g hg => by have := Option.some.inj hg; omega) (fun g hg => by cases hg))⟩
theorem some_laid {w wr : World} {x0 x1 x2 vs : Value} {ds : List (List D.E)} {s : Option (List UInt8)} (h : OA w wr x0 x1 x2 vs ds s) : Str (four wr w.heap.size x0 x1 x2 vs) w.heap.size 24 #[x0, x1, x2, vs] ∧ Below w.heap.size w (four wr w.heap.size x0 x1 x2 vs) ∧ Rdd (four wr w.heap.size x0 x1 x2 vs) vs ds := by
  have hbig := h.big
  have kb := Kb.four wr w.heap.size x0 x1 x2 vs none
  exact ⟨h.res.four _ _ _ _, h.below.trans (kb.below (by omega) (fun g hg => by have := Option.some.inj hg; omega) (fun g hg => by cases hg)), (h.own.kb h.res (by decide) (by decide) kb).rd⟩

set_option maxHeartbeats 16000000 in
theorem rdecode_any (v : Value) (bs : List UInt8) (w : World) (hr : Rdv w v (bv bs)) :
    Calls Try.prog 21 #[v] w (Dec w (K.dec bs)) := by
  have HBG := Lib.hid (begin_any v bs _ (hr.below (below_alloc w (.cells noAsk 24))))
  unfold noAsk at HBG
  obtain ⟨ao, cap, rfl, -⟩ := hr
  obtain ⟨s0, s1, s2, s3, s4, id, n, hs, dom, h0, hn16, hoi, h1, h2, h3, h4⟩ := begin_letters bs
  rw [h0] at HBG
  have HOI := Lib.hid hoi
  have H1 := Lib.hid h1
  have H2 := Lib.hid h2
  have H3 := Lib.hid h3
  have H4 := Lib.hid h4
  clear h0 h1 h2 h3 h4 hoi
  go_enter Try.func21, Try.ntmps21
  go_wp2_with fail
  refine HBG.out.mono ?_
  rintro e w1 ⟨rfl, hb2, hb3, hb4⟩
  rw [box_size]
  have HA0 : Hid (OA w (w1.alloc (.cells noAsk 24)) (.int .i64 0) (.string ⟨#[]⟩) (.int .i64 0) (.slice none 0 0) [] s0) := by
    refine Lib.hid (OA.start ⟨by rw [box_size], hb2, hb3, hb4⟩)
  have hsz : w1.heap.size = w.heap.size + 2 := by rw [hb4, box_size]
  unfold noAsk at HA0
  have HSZ := Lib.hid hsz
  clear hb2 hb3 hb4 HBG hsz
  go_wp2_with fail
  rw [HSZ.out]
  refine (H1.out _ _ HA0.out.rd).mono ?_
  rintro e w2 ⟨rfl, hr2, hk2⟩
  have HA2 := Lib.hid (HA0.out.later hk2 hr2)
  clear hr2 hk2 HA0 HSZ H1
  have HA3 := Lib.hid (HA2.out.set0 (.int .i64 (id : Int)))
  have c0 := HA2.out.a.cell 0
  have f0 := HA2.out.a.frozen 0
  simp only [List.getElem?_toArray, List.getElem?_cons_zero] at c0
  go_wp2_with fail
  refine (H2.out _ _ HA3.out.rd).mono ?_
  rintro e w3 ⟨rfl, hr3, hk3⟩
  have HA4 := Lib.hid (HA3.out.later hk3 hr3)
  clear hr3 hk3 HA2 HA3 H2 c0 f0
  have HA5 := Lib.hid (HA4.out.set1 (.string ⟨dom.toArray⟩))
  have c0 := HA4.out.a.cell 1
  have f0 := HA4.out.a.frozen 1
  simp only [List.getElem?_toArray, List.getElem?_cons_zero, List.getElem?_cons_succ] at c0
  go_wp2_with fail
  refine (H3.out _ _ HA5.out.rd).mono ?_
  rintro e w4 ⟨rfl, hr4, hk4⟩
  have HA6 := Lib.hid (HA5.out.later hk4 hr4)
  clear hr4 hk4 HA4 HA5 H3 c0 f0
  have HA7 := Lib.hid (HA6.out.set2 (.int .i64 (hs : Int)))
  have c0 := HA6.out.a.cell 2
  have f0 := HA6.out.a.frozen 2
  simp only [List.getElem?_toArray, List.getElem?_cons_zero, List.getElem?_cons_succ] at c0
  go_wp2_with fail
  refine (H4.out _ _ HA7.out.rd).mono ?_
  rintro e w5 ⟨rfl, hr5, hk5⟩
  have HA8 := Lib.hid (HA7.out.later hk5 hr5)
  clear hr5 hk5 HA6 HA7 H4 c0 f0
  go_wp2
  go_loopw [7] (fun i wr => ∃ (k : Nat), i = .int .i64 (k : Int) ∧ k ≤ n ∧ Hid (∃ vs ds s, OA w wr (.int .i64 (id : Int)) (.string ⟨dom.toArray⟩) (.int .i64 (hs : Int)) vs ds s ∧ ds.length = k ∧ OI bs (id : Int) dom (hs : Int) n ds k s)) (fun i _ => n - (intOf i).toNat)
  case atStart => exact ⟨0, rfl, Nat.zero_le _, _, _, _, HA8.out, rfl, HOI.out⟩
  case round =>
    obtain ⟨k, rfl, hk, HK⟩ := hrel
    obtain ⟨vs, ds, s, hoa, hlen, hoi⟩ := HK.out
    have HR := Lib.hid hoa
    have HLN := Lib.hid hlen
    have HI := Lib.hid hoi
    have hbad := bad_cell hoa.rd
    obtain ⟨av, cv, rfl⟩ := hoa.own.slice
    clear hoa HK hlen hoi HA8 HOI
    cases s with
    | none =>
      have E := Lib.hid (dec_of_par (HI.out.2 rfl))
      have HDN := Lib.hid (done_any (w.heap.size + 1) none wr HR.out.rd)
      rw [show doneS none = false from rfl] at HDN
      have HN := Lib.hid (none_laid HR.out)
      have c0 := HR.out.res.cell 0
      have c1 := HR.out.res.cell 1
      have c2 := HR.out.res.cell 2
      have c3 := HR.out.res.cell 3
      have f0 := HR.out.res.frozen 0
      have f1 := HR.out.res.frozen 1
      have f2 := HR.out.res.frozen 2
      have f3 := HR.out.res.frozen 3
      unfold noAsk at c0 c1 c2 c3
      simp only [List.getElem?_toArray, List.getElem?_cons_zero, List.getElem?_cons_succ, Option.isNone_none] at c0 c1 c2 c3 hbad
      have gk : (k : Int) < (n : Int) ∨ ¬ (k : Int) < (n : Int) := by omega
      rcases gk with g0 | g0
      all_goals
        go_wp2_with (go_at_call 43; refine HDN.out.mono ?_; rintro e w6 ⟨rfl, hw6⟩; subst hw6)
        (try simp only [Exit.inBlock, Exit.then])
        refine bodyPost_ret (ret_cellA rfl rfl rfl HN.out.1 Try.underlying24 rfl ask_size) rfl ?_
        exact ⟨HN.out.2, .inr ⟨E.out, rfl⟩⟩
    | some rest =>
      simp only [Option.isNone_some] at hbad
      by_cases hlt : k < n
      · have g0 : (k : Int) < (n : Int) := by omega
        obtain ⟨s', m, hm8, hii, hnum⟩ := desc_letters rest
        have HII0 := Lib.hid hii
        have HIA0 : Hid (IA wr (wr.alloc (.cells #[.slice none 0 0] 42)) (w.heap.size + 1) (.slice none 0 0) [] (some rest)) := by
          have hbig := HR.out.big
          have B := below_alloc wr (.cells #[.slice none 0 0] 42)
          exact Lib.hid ⟨Kb.of_below B _ _, by omega, by rw [box_size]; omega, Str.new _ _ _, Owne.nil _ _ _, HR.out.rd.below B⟩
        have HNUM := Lib.hid (hnum (w.heap.size + 1) _ HIA0.out.rd)
        clear hii hnum
        go_wp2_with fail
        refine HNUM.out.mono ?_
        rintro e w6 ⟨rfl, hr6, hk6⟩
        have HIA1 := Lib.hid (HIA0.out.later hk6 hr6)
        clear hr6 hk6 HNUM HIA0 hbad
        go_wp2
        obtain ⟨wo, rfl⟩ : ∃ wo, wo = wr := ⟨wr, rfl⟩
        go_loopw [10] (fun i x => ∃ (j : Nat), i = .int .i64 (j : Int) ∧ j ≤ m ∧ Hid (∃ ve es s, IA wo x (w.heap.size + 1) ve es s ∧ es.length = j ∧ II rest m es j s)) (fun i _ => m - (intOf i).toNat)
        case atStart => exact ⟨0, rfl, Nat.zero_le _, _, _, _, HIA1.out, rfl, HII0.out⟩
        case round =>
          obtain ⟨j, rfl, hj, HJ⟩ := hrel
          obtain ⟨ve, es, s2, hia, hel, hii⟩ := HJ.out
          have HIA := Lib.hid hia
          have HEL := Lib.hid hel
          have HII := Lib.hid hii
          have hbad := bad_cell hia.rd
          obtain ⟨ae, ce, rfl⟩ := own_slice hia.own
          clear hia HJ hel hii HIA1 HII0
          by_cases hgo : (∃ r, s2 = some r) ∧ j < m
          · obtain ⟨⟨r, rfl⟩, hjm⟩ := hgo
            simp only [Option.isNone_some] at hbad
            have gj : (j : Int) < (m : Int) := by omega
            obtain ⟨t1, t2, key, val, hmore, hk, hv⟩ := entry_letters HII.out hjm
            have HM := Lib.hid hmore
            have HKEY := Lib.hid (hk (w.heap.size + 1) wr HIA.out.rd)
            have HVAL := Lib.hid hv
            clear hmore hk hv
            go_wp2_with fail
            refine HKEY.out.mono ?_
            rintro e w7 ⟨rfl, hr7, hk7⟩
            have HIA7 := Lib.hid (HIA.out.later hk7 hr7)
            clear hr7 hk7 HKEY hbad
            go_wp2_with fail
            refine (HVAL.out _ _ HIA7.out.rd).mono ?_
            rintro e w8 ⟨rfl, hr8, hk8⟩
            have HIA8 := Lib.hid (HIA7.out.later hk8 hr8)
            have c0 := HIA8.out.d.cell 0
            simp only [List.getElem?_toArray, List.getElem?_cons_zero] at c0
            have HIA9 := Lib.hid (HIA8.out.calm (below_alloc w8 (.cells #[.string ⟨key.toArray⟩, .string ⟨val.toArray⟩] 44)))
            have HC9 := Lib.hid (two_cells w8 44 (.string ⟨key.toArray⟩) (.string ⟨val.toArray⟩))
            have HLE : Hid (es.length ≤ 100) := by have := HEL.out; show _ ≤ _; omega
            clear hr8 hk8 HVAL HIA7
            go_wp2_with (at_builtin; refine wpList_append_entry2 rfl (.tmp 57) (.tmp 61) 40 rfl (wo.heap.size + 1) 44 _ Try.underlying40 Try.info_entry rfl (by rfl) HIA9.out.own (by rfl) HC9.out HLE.out HIA9.out.big ?_; intro g4 cap4 w4 ho4 hg4; obtain ⟨s4, hd4⟩ := HIA9.out.grown hg4 ho4; have HD4 := Lib.hid hd4; have k0 := s4.cell 0; have j0 := s4.frozen 0; simp only [List.getElem?_toArray, List.getElem?_cons_zero] at k0; clear ho4 hg4 s4 hd4)
            go_roundw
            case rel => exact ⟨j + 1, by go_num, by omega, _, _, _, HD4.out, by rw [List.length_append, HEL.out]; rfl, HM.out⟩
            case measure => simp [intOf]; omega
          · have HOI2 : Hid (OI bs (id : Int) dom (hs : Int) n (ds ++ [es]) (k + 1) s2) := by
              cases s2 with
              | none => exact Lib.hid (HI.out.bad hlt (HII.out.2 rfl) _)
              | some r => exact Lib.hid (HI.out.more hlt (HII.out.over (by
                  rcases Nat.lt_or_ge j m with h | h
                  · exact absurd ⟨⟨r, rfl⟩, h⟩ hgo
                  · exact h)))
            have hcase : ((j : Int) < (m : Int) ∧ s2.isNone = true) ∨ ¬ (j : Int) < (m : Int) := by
              rcases Nat.lt_or_ge j m with h | h
              · left
                cases s2 with
                | none => exact ⟨by omega, rfl⟩
                | some r => exact absurd ⟨⟨r, rfl⟩, h⟩ hgo
              · right; omega
            have HX := Lib.hid (HR.out.later HIA.out.kb HIA.out.rd)
            have c0 := HIA.out.d.cell 0
            have c3 := HX.out.a.cell 3
            simp only [List.getElem?_toArray, List.getElem?_cons_zero, List.getElem?_cons_succ] at c0 c3
            have HX2 := Lib.hid (HX.out.calm (below_alloc wr (.cells #[.slice ae es.length ce] 42)))
            have HU2 := Lib.hid ((HIA.out.own.base (by have := HR.out.big; omega : w.heap.size + 3 ≤ wo.heap.size + 1)).below (below_alloc wr (.cells #[.slice ae es.length ce] 42)))
            have HC2 := Lib.hid (box_cell wr 42 (.slice ae es.length ce))
            have HLE : Hid (ds.length ≤ 100) := by have := HLN.out; show _ ≤ _; omega
            generalize hsb : s2.isNone = sb at hcase hbad
            clear hgo HII hsb
            rcases hcase with ⟨gj, rfl⟩ | gj
            all_goals
              go_wp2_with (at_builtin; refine wpList_append_desc rfl (.tmp 65) (.tmp 67) 22 rfl (w.heap.size + 3) _ Try.underlying22 Try.info_desc rfl (by rfl) HX2.out.own (by rfl) HC2.out HU2.out HLE.out HX2.out.big ?_; intro g4 cap4 w4 ho4 hg4; obtain ⟨s4, hd4⟩ := HX2.out.grown hg4 ho4; have HD4 := Lib.hid hd4; have k0 := s4.cell 3; have j0 := s4.frozen 3; simp only [List.getElem?_toArray, List.getElem?_cons_zero, List.getElem?_cons_succ] at k0; clear ho4 hg4 s4 hd4)
              go_roundw
              case rel => exact ⟨k + 1, by go_num, by omega, _, _, _, HD4.out, by rw [List.length_append, HLN.out]; rfl, HOI2.out⟩
              case measure => simp [intOf]; omega
      · have g0 : ¬ (k : Int) < (n : Int) := by omega
        have HPAR := Lib.hid (HI.out.over (by omega))
        have HDN := Lib.hid (done_any (w.heap.size + 1) (some rest) wr HR.out.rd)
        have c0 := HR.out.res.cell 0
        have c1 := HR.out.res.cell 1
        have c2 := HR.out.res.cell 2
        have c3 := HR.out.res.cell 3
        have f0 := HR.out.res.frozen 0
        have f1 := HR.out.res.frozen 1
        have f2 := HR.out.res.frozen 2
        have f3 := HR.out.res.frozen 3
        unfold noAsk at c0 c1 c2 c3
        simp only [List.getElem?_toArray, List.getElem?_cons_zero, List.getElem?_cons_succ] at c0 c1 c2 c3
        by_cases hrest : rest = []
        · have d0 := HR.out.a.cell 0
          have d1 := HR.out.a.cell 1
          have d2 := HR.out.a.cell 2
          have d3 := HR.out.a.cell 3
          simp only [List.getElem?_toArray, List.getElem?_cons_zero, List.getElem?_cons_succ] at d0 d1 d2 d3
          have HCK := Lib.hid (rcheckAsk_any ((id : Int), dom, (hs : Int), ds) (.slice av ds.length cv) wr HR.out.own.rd (par_fits HPAR.out))
          simp only at HCK
          have e1 : doneS (some rest) = true := by simp [doneS, hrest]
          rw [e1] at HDN
          cases hck : K.chk ((id : Int), dom, (hs : Int), ds)
          · have E := Lib.hid ((dec_of_par2 HPAR.out).trans (if_neg (by rw [hck]; simp)))
            rw [hck] at HCK
            clear hck e1 c0 c1 c2 c3 f0 f1 f2 f3
            go_wp2_with (first
              | (go_at_call 43; refine HDN.out.mono ?_; rintro e w6 ⟨rfl, hw6⟩; subst hw6)
              | (go_at_call 14; refine HCK.out.mono ?_; rintro e w7 ⟨rfl, b7⟩; have HR7 := Lib.hid (HR.out.calm b7); have c0 := HR7.out.res.cell 0; have c1 := HR7.out.res.cell 1; have c2 := HR7.out.res.cell 2; have c3 := HR7.out.res.cell 3; have f0 := HR7.out.res.frozen 0; have f1 := HR7.out.res.frozen 1; have f2 := HR7.out.res.frozen 2; have f3 := HR7.out.res.frozen 3; unfold noAsk at c0 c1 c2 c3; simp only [List.getElem?_toArray, List.getElem?_cons_zero, List.getElem?_cons_succ] at c0 c1 c2 c3; clear b7))
            (try simp only [Exit.inBlock, Exit.then])
            have hn := none_laid HR7.out
            refine bodyPost_ret (ret_cellA rfl rfl rfl hn.1 Try.underlying24 rfl ask_size) rfl ?_
            exact ⟨hn.2, .inr ⟨E.out, rfl⟩⟩
          · have E := Lib.hid ((dec_of_par2 HPAR.out).trans (if_pos ⟨hrest, hck⟩))
            rw [hck] at HCK
            clear hck e1 c0 c1 c2 c3 f0 f1 f2 f3
            go_wp2_with (first
              | (go_at_call 43; refine HDN.out.mono ?_; rintro e w6 ⟨rfl, hw6⟩; subst hw6)
              | (go_at_call 14; refine HCK.out.mono ?_; rintro e w7 ⟨rfl, b7⟩; have HR7 := Lib.hid (HR.out.calm b7); clear d0 d1 d2 d3; have d0 := HR7.out.a.cell 0; have d1 := HR7.out.a.cell 1; have d2 := HR7.out.a.cell 2; have d3 := HR7.out.a.cell 3; have c0 := HR7.out.res.cell 0; have c1 := HR7.out.res.cell 1; have c2 := HR7.out.res.cell 2; have c3 := HR7.out.res.cell 3; have f0 := HR7.out.res.frozen 0; have f1 := HR7.out.res.frozen 1; have f2 := HR7.out.res.frozen 2; have f3 := HR7.out.res.frozen 3; unfold noAsk at c0 c1 c2 c3; simp only [List.getElem?_toArray, List.getElem?_cons_zero, List.getElem?_cons_succ] at c0 c1 c2 c3 d0 d1 d2 d3; clear b7))
            (try simp only [Exit.inBlock, Exit.then])
            have hn := some_laid HR7.out
            refine bodyPost_ret (ret_cellA rfl rfl rfl hn.1 Try.underlying24 rfl ask_size) rfl ?_
            exact ⟨hn.2.1, .inl ⟨((id : Int), dom, (hs : Int), ds), _, E.out, rfl, hn.2.2⟩⟩
        · have E := Lib.hid ((dec_of_par2 HPAR.out).trans (if_neg (by simp [hrest])))
          have e1 : doneS (some rest) = false := by simp [doneS, hrest]
          rw [e1] at HDN
          have HN := Lib.hid (none_laid HR.out)
          clear e1
          go_wp2_with (go_at_call 43; refine HDN.out.mono ?_; rintro e w6 ⟨rfl, hw6⟩; subst hw6)
          (try simp only [Exit.inBlock, Exit.then])
          refine bodyPost_ret (ret_cellA rfl rfl rfl HN.out.1 Try.underlying24 rfl ask_size) rfl ?_
          exact ⟨HN.out.2, .inr ⟨E.out, rfl⟩⟩
end Go.Proofs.Ythbmmnjpiflgdaa
