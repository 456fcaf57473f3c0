/- The walk of the document's own ReadDesc. -/
import Derived.Test.YtepnjhhpnabpnaaDoorDsW
namespace Go.Proofs.YtepnjhhpnabpnaaDoor
open Go.RowKit

/-- The first cut of a round. -/
theorem cut1 {s left : List UInt8} {es : List D.E} (hj : D.J s es left true) (hl : left.length ≤ 5000) :
    ∃ part left' more', (∀ w, Calls Tryd.prog 25 #[.string ⟨left.toArray⟩, .int .u8 44] w fun e w' => e = .returned (.tuple #[.string ⟨part.toArray⟩, .string ⟨left'.toArray⟩, .bool more']) ∧ Below w.heap.size w w') ∧
      part.length ≤ 5000 ∧ left'.length ≤ 5000 ∧ (more' = true → left'.length < left.length) ∧ (∀ e, D.Rd part e → D.J s (es ++ [e]) left' more') ∧ ((∀ e, ¬ D.Rd part e) → ∀ es', ¬ D.Is s es') := by
  rcases D.cut_at 44 left with hn | ⟨a, b, rfl, hn⟩
  · exact ⟨left, [], false, fun w => rcut_none left 44 44 rfl hn (by omega) w, hl, by simp, by simp, fun e he => hj.last hn he, fun h es' => hj.last_bad hn h es'⟩
  · have h1 : (a ++ 44 :: b).length = a.length + 1 + b.length := by simp; omega
    exact ⟨a, b, true, fun w => rcut_some a b 44 44 rfl hn (by omega) w, by omega, by omega, fun _ => by omega, fun e he => hj.more hn he, fun h es' => hj.more_bad hn h es'⟩
/-- The second one. -/
theorem cut2 (p : List UInt8) (hl : p.length ≤ 5000) :
    ∃ k v ok, (∀ w, Calls Tryd.prog 25 #[.string ⟨p.toArray⟩, .int .u8 61] w fun e w' => e = .returned (.tuple #[.string ⟨k.toArray⟩, .string ⟨v.toArray⟩, .bool ok]) ∧ Below w.heap.size w w') ∧
      k.length ≤ 5000 ∧ v.length ≤ 5000 ∧ (ok = true → uneB k = true → uneB v = true → D.Rd p (uneS k, uneS v)) ∧ (ok = false ∨ uneB k = false ∨ uneB v = false → ∀ e, ¬ D.Rd p e) := by
  rcases D.cut_at 61 p with hn | ⟨a, b, rfl, hn⟩
  · exact ⟨p, [], false, fun w => rcut_none p 61 61 rfl hn (by omega) w, hl, by simp, by simp, fun _ => D.no_rd hn⟩
  · have h1 : (a ++ 61 :: b).length = a.length + 1 + b.length := by simp; omega
    refine ⟨a, b, true, fun w => rcut_some a b 61 61 rfl hn (by omega) w, by omega, by omega, fun _ ha hb => ?_, fun h => ?_⟩
    · cases h1 : D.une a with
      | none => rw [(une_none h1).2] at ha; cases ha
      | some x =>
        cases h2 : D.une b with
        | none => rw [(une_none h2).2] at hb; cases hb
        | some y => rw [(une_some h1).1, (une_some h2).1]; exact ⟨a, b, rfl, hn, h1, h2⟩
    · rcases h with h | h | h
      · cases h
      · cases h1 : D.une a with
        | none => exact D.no_rd1 hn h1
        | some x => rw [(une_some h1).2] at h; cases h
      · cases h1 : D.une b with
        | none => exact D.no_rd2 hn h1
        | some x => rw [(une_some h1).2] at h; cases h
theorem uneS_len (l : List UInt8) : (uneS l).length ≤ l.length := by
  cases h : D.une l with
  | none => rw [(une_none h).1]; simp
  | some d => rw [(une_some h).1]; exact D.une_len l d h

/-- Where ReadDesc stands. -/
structure RT (w wr : World) (vs : Value) (es : List D.E) : Prop where
  below : Below w.heap.size w wr
  big : w.heap.size + 2 ≤ wr.heap.size
  res : Str wr w.heap.size 24 #[.slice none 0 0]
  d : Str wr (w.heap.size + 1) 24 #[vs]
  own : Owne wr (w.heap.size + 2) 38 vs es
theorem RT.later {w wr w1 : World} {vs : Value} {es : List D.E} (h : RT w wr vs es) (hb : Below wr.heap.size wr w1) : RT w w1 vs es :=
  ⟨below_trans h.below hb, Nat.le_trans h.big hb.size, h.res.below hb, h.d.below hb, h.own.below hb⟩
theorem RT.more {w wr w1 : World} {vs v' : Value} {es es' : List D.E} (h : RT w wr vs es) (hb : Below (w.heap.size + 2) wr w1) (ho : Owne w1 (w.heap.size + 2) 38 v' es') : RT w (w1.setCell ⟨w.heap.size + 1, 0, none⟩ v') v' es' := by
  have hres : Str w1 w.heap.size 24 #[.slice none 0 0] := (hb.block _ (by omega)).trans h.res
  have hd : Str w1 (w.heap.size + 1) 24 #[vs] := (hb.block _ (by omega)).trans h.d
  have kb := Kb.set w1 (w.heap.size + 1) 0 v' none
  have hsz : w.heap.size ≤ w1.heap.size := by have := h.below.size; have := hb.size; omega
  refine ⟨(h.below.trans (hb.mono (by omega))).trans (kb.below hsz (fun g hg => by have := Option.some.inj hg; omega) (fun g hg => by cases hg)), ?_, hres.kb kb (by simp) (by simp), ?_, ?_⟩
  · have := h.big; have := hb.size; have := kb.size; omega
  · have := hd.set 0 v'
    simpa using this
  · refine ⟨ho.1, ?_⟩
    rcases ho.2 with hn | ⟨g, cap, cur, hv, hbg, hg, rest⟩
    · exact .inl hn
    · refine .inr ⟨g, cap, cur, hv, hbg, ?_, rest⟩
      rw [kb.block g (Array.getElem?_eq_some_iff.1 hg).1 (by intro e; have := Option.some.inj e; omega) (by simp)]
      exact hg
def mOf : Value → Value → Nat
  | .string b, .bool true => b.size + 1
  | _, _ => 0

set_option maxHeartbeats 8000000 in
theorem rread_any (s : List UInt8) (hl : s.length ≤ 5000) (w : World) :
    Calls Tryd.prog 17 #[.string ⟨s.toArray⟩] w (ReadD s w) := by
  have WB := below_trans (below_alloc w (.cells #[.slice none 0 0] 24)) (below_alloc _ (.cells #[.slice none 0 0] 24))
  have HRT : Hid (RT w ((w.alloc (.cells #[.slice none 0 0] 24)).alloc (.cells #[.slice none 0 0] 24)) (.slice none 0 0) []) := by
    refine Lib.hid ⟨WB, by rw [box_size, box_size]; omega, (Str.new w _ _).below (below_alloc _ _), ?_, Owne.nil _ _ _⟩
    have := Str.new (w.alloc (.cells #[.slice none 0 0] 24)) 24 #[.slice none 0 0]
    rwa [box_size] at this
  have HLS := Lib.hid hl
  clear WB hl
  go_enter Tryd.func17, Tryd.ntmps17
  go_wp2
  go_loopw [5, 6] (fun l m wr => ∃ (left : List UInt8) (more : Bool), l = .string ⟨left.toArray⟩ ∧ m = .bool more ∧ left.length ≤ 5000 ∧ Hid (∃ vs es, RT w wr vs es ∧ es.length ≤ 8 ∧ D.J s es left more ∧ ∀ e ∈ es, e.1.length ≤ 5000 ∧ e.2.length ≤ 5000)) (fun l m _ => mOf l m)
  case atStart => exact ⟨s, true, rfl, rfl, HLS.out, _, _, HRT.out, by simp, D.J.start s, by simp⟩
  case round =>
    obtain ⟨left, more, rfl, rfl, hleft, HK⟩ := hrel
    obtain ⟨vs, es, hre, hlen, hj, hlt⟩ := HK.out
    obtain ⟨ao, cp, rfl⟩ := own_slice hre.own
    have HR := Lib.hid hre
    have HLT := Lib.hid hlt
    clear hre HK hlt
    cases more
    · have HJ := Lib.hid hj
      clear hj
      have d0 := HR.out.d.cell 0
      simp only [List.getElem?_toArray, List.getElem?_cons_zero] at d0
      have HLI : Hid (Light es) := Lib.hid ⟨by omega, HLT.out⟩
      have HTX := Lib.hid (rtext_any _ es wr HR.out.own.rd HLI.out.fits)
      obtain ⟨T, hT⟩ : ∃ T, D.txt es = T := ⟨_, rfl⟩
      have HT := Lib.hid hT
      rw [hT] at HTX
      clear hT
      by_cases hts : T = s
      · have hb2 : (T == s) = true := by simpa using hts
        by_cases hs0 : s = []
        · have hse : s.isEmpty = true := by rw [hs0]; rfl
          have E := Lib.hid (fun es' (h : D.Is s es') => D.is_ne h hs0)
          clear hts hs0
          go_wp2_with (go_at_call 14; refine HTX.out.mono ?_; rintro e w3 ⟨rfl, b3⟩; have HR3 := Lib.hid (HR.out.later b3); have c0 := HR3.out.res.cell 0; have f0 := HR3.out.res.frozen 0; have e0 := HR3.out.d.cell 0; simp only [List.getElem?_toArray, List.getElem?_cons_zero] at c0 e0; clear b3)
          (try simp only [Exit.inBlock, Exit.then])
          refine bodyPost_ret (ret_cell rfl rfl rfl (HR3.out.res.one _) Tryd.underlying24 rfl desc_size) rfl ?_
          exact ⟨below_set HR3.out.below _ _, .inr ⟨rfl, E.out⟩⟩
        · have hse : s.isEmpty = false := by rw [List.isEmpty_eq_false_iff]; exact hs0
          have E := Lib.hid (D.read_good hs0 (HT.out.trans hts))
          clear hts hs0
          go_wp2_with (go_at_call 14; refine HTX.out.mono ?_; rintro e w3 ⟨rfl, b3⟩; have HR3 := Lib.hid (HR.out.later b3); have c0 := HR3.out.res.cell 0; have f0 := HR3.out.res.frozen 0; have e0 := HR3.out.d.cell 0; simp only [List.getElem?_toArray, List.getElem?_cons_zero] at c0 e0; clear b3)
          (try simp only [Exit.inBlock, Exit.then])
          refine bodyPost_ret (ret_cell rfl rfl rfl (HR3.out.res.one _) Tryd.underlying24 rfl desc_size) rfl ?_
          exact ⟨below_set HR3.out.below _ _, .inl ⟨_, es, rfl, rde_apart HR3.out.res HR3.out.own.rd _, HLI.out, E.out⟩⟩
      · have hb2 : (T == s) = false := by simpa using hts
        have E := Lib.hid (fun es' => HJ.out.done (by rw [HT.out]; exact hts) es')
        clear hts
        go_wp2_with (go_at_call 14; refine HTX.out.mono ?_; rintro e w3 ⟨rfl, b3⟩; have HR3 := Lib.hid (HR.out.later b3); have c0 := HR3.out.res.cell 0; have f0 := HR3.out.res.frozen 0; have e0 := HR3.out.d.cell 0; simp only [List.getElem?_toArray, List.getElem?_cons_zero] at c0 e0; clear b3)
        (try simp only [Exit.inBlock, Exit.then])
        refine bodyPost_ret (ret_cell rfl rfl rfl (HR3.out.res.one _) Tryd.underlying24 rfl desc_size) rfl ?_
        exact ⟨below_set HR3.out.below _ _, .inr ⟨rfl, E.out⟩⟩
    · obtain ⟨part, left', more', hcut, hp3, hl3, hdec, hyes, hno⟩ := cut1 hj hleft
      obtain ⟨k, v, ok, hcut2, hk3, hv3, hy2, hn2⟩ := cut2 part hp3
      have HC1 := Lib.hid hcut
      have HC2 := Lib.hid hcut2
      have HPK := Lib.hid (fun w => plain_any k hk3 w)
      have HPV := Lib.hid (fun w => plain_any v hv3 w)
      have HDC : Hid (mOf (.string ⟨left'.toArray⟩) (.bool more') < mOf (.string ⟨left.toArray⟩) (.bool true)) := by
        show _ < _
        cases more'
        · simp [mOf]
        · have := hdec rfl
          simp only [mOf, str_size]
          omega
      have hul := uneS_len k
      have huv := uneS_len v
      obtain ⟨K, hK⟩ : ∃ K, K = uneS k := ⟨_, rfl⟩
      obtain ⟨V, hV⟩ : ∃ V, V = uneS v := ⟨_, rfl⟩
      obtain ⟨b1, hb1⟩ : ∃ b, b = uneB k := ⟨_, rfl⟩
      obtain ⟨b2, hb2⟩ : ∃ b, b = uneB v := ⟨_, rfl⟩
      rw [← hK, ← hb1] at HPK
      rw [← hV, ← hb2] at HPV
      rw [← hK, ← hV, ← hb1, ← hb2] at hy2
      rw [← hb1, ← hb2] at hn2
      rw [← hK] at hul
      rw [← hV] at huv
      have HKV : Hid (K.length ≤ 5000 ∧ V.length ≤ 5000) := Lib.hid ⟨by omega, by omega⟩
      have HGO := Lib.hid (fun (h1 : ok = true) (h2 : b1 = true) (h3 : b2 = true) => hyes _ (hy2 h1 h2 h3))
      have HBAD := Lib.hid (fun (h : ok = false ∨ b1 = false ∨ b2 = false) => hno (hn2 h))
      obtain ⟨PT, hPT⟩ : ∃ x, (⟨part.toArray⟩ : ByteArray) = x := ⟨_, rfl⟩
      obtain ⟨KT, hKT⟩ : ∃ x, (⟨k.toArray⟩ : ByteArray) = x := ⟨_, rfl⟩
      obtain ⟨VT, hVT⟩ : ∃ x, (⟨v.toArray⟩ : ByteArray) = x := ⟨_, rfl⟩
      rw [hPT] at HC1 HC2
      rw [hKT] at HC2 HPK
      rw [hVT] at HC2 HPV
      clear hK hV hb1 hb2 hul huv hcut hcut2 hp3 hdec hyes hno hk3 hv3 hy2 hn2 hj hPT hKT hVT
      go_wp2_with fail
      refine (HC1.out _).mono ?_
      rintro e w2 ⟨rfl, q2⟩
      have HR2 := Lib.hid (HR.out.later q2)
      clear q2
      go_wp2_with fail
      refine (HC2.out _).mono ?_
      rintro e w3 ⟨rfl, q3⟩
      have HR3 := Lib.hid (HR2.out.later q3)
      clear q3
      go_wp2_with fail
      refine (HPK.out _).mono ?_
      rintro e w4 ⟨rfl, q4⟩
      have HR4 := Lib.hid (HR3.out.later q4)
      clear q4
      go_wp2_with fail
      refine (HPV.out _).mono ?_
      rintro e w5 ⟨rfl, q5⟩
      have HR5 := Lib.hid (HR4.out.later q5)
      clear q5 HR HR2 HR3 HR4 HC1 HC2 HPK HPV
      by_cases hgood : ok = true ∧ b1 = true ∧ b2 = true
      · obtain ⟨rfl, rfl, rfl⟩ := hgood
        have HJ2 := Lib.hid (HGO.out rfl rfl rfl)
        clear HGO HBAD
        have d0 := HR5.out.d.cell 0
        simp only [List.getElem?_toArray, List.getElem?_cons_zero] at d0
        have HLE : Hid (es.length ≤ 100) := by show _ ≤ _; omega
        have HR6 := Lib.hid (HR5.out.later (below_alloc w5 (.cells #[.string ⟨K.toArray⟩, .string ⟨V.toArray⟩] 38)))
        have HC6 := Lib.hid (two_cells w5 38 (.string ⟨K.toArray⟩) (.string ⟨V.toArray⟩))
        by_cases h8 : es.length + 1 ≤ 8
        · have g8 : ¬ (8 : Int) < (es.length : Int) + 1 := by omega
          go_wp2_with (at_builtin; refine wpList_append_entry rfl (.tmp 51) (.tmp 55) 22 rfl (w.heap.size + 2) 38 _ Tryd.underlying22 Tryd.info_entry rfl (by rfl) HR6.out.own (by rfl) HC6.out HLE.out HR6.out.big ?_; intro v7 w7 ho7 hb7; obtain ⟨ao7, cp7, rfl⟩ := own_slice ho7; rw [List.length_append, List.length_cons, List.length_nil, Nat.zero_add] at ho7; have HR7 := Lib.hid (HR6.out.more hb7 ho7); have k0 := (str_keep HR6.out.d hb7 (by omega)).cell 0; have j0 := (str_keep HR6.out.d hb7 (by omega)).frozen 0; have c7 := HR7.out.res.cell 0; have f7 := HR7.out.res.frozen 0; have d7 := HR7.out.d.cell 0; simp only [List.getElem?_toArray, List.getElem?_cons_zero] at k0 c7 d7; clear ho7 hb7)
          go_roundw
          case rel => exact ⟨left', more', rfl, rfl, hl3, _, _, HR7.out, by rw [List.length_append]; exact h8, HJ2.out, fun e he => by
            rcases List.mem_append.1 he with h | h
            · exact HLT.out e h
            · have : e = (K, V) := by simpa using h
              rw [this]; exact HKV.out⟩
          case measure => exact HDC.out
        · have g8 : (8 : Int) < (es.length : Int) + 1 := by omega
          have E := Lib.hid (fun es' => HJ2.out.many (by rw [List.length_append]; simp; omega) es')
          go_wp2_with (at_builtin; refine wpList_append_entry rfl (.tmp 51) (.tmp 55) 22 rfl (w.heap.size + 2) 38 _ Tryd.underlying22 Tryd.info_entry rfl (by rfl) HR6.out.own (by rfl) HC6.out HLE.out HR6.out.big ?_; intro v7 w7 ho7 hb7; obtain ⟨ao7, cp7, rfl⟩ := own_slice ho7; rw [List.length_append, List.length_cons, List.length_nil, Nat.zero_add] at ho7; have HR7 := Lib.hid (HR6.out.more hb7 ho7); have k0 := (str_keep HR6.out.d hb7 (by omega)).cell 0; have j0 := (str_keep HR6.out.d hb7 (by omega)).frozen 0; have c7 := HR7.out.res.cell 0; have f7 := HR7.out.res.frozen 0; have d7 := HR7.out.d.cell 0; simp only [List.getElem?_toArray, List.getElem?_cons_zero] at k0 c7 d7; clear ho7 hb7)
          (try simp only [Exit.inBlock, Exit.then])
          refine bodyPost_ret (ret_cell rfl rfl rfl (HR7.out.res.one _) Tryd.underlying24 rfl desc_size) rfl ?_
          exact ⟨below_set HR7.out.below _ _, .inr ⟨rfl, E.out⟩⟩
      · have hcase : ok = false ∨ (ok = true ∧ b1 = false) ∨ (ok = true ∧ b1 = true ∧ b2 = false) := by
          cases ok <;> cases b1 <;> cases b2 <;> simp_all
        have E := Lib.hid (HBAD.out (by rcases hcase with h | ⟨_, h⟩ | ⟨_, _, h⟩ <;> simp [h]))
        clear HGO HBAD hgood
        have c0 := HR5.out.res.cell 0
        have f0 := HR5.out.res.frozen 0
        simp only [List.getElem?_toArray, List.getElem?_cons_zero] at c0
        rcases hcase with rfl | ⟨rfl, rfl⟩ | ⟨rfl, rfl, rfl⟩
        all_goals
          go_wp2
          (try simp only [Exit.inBlock, Exit.then])
          refine bodyPost_ret (ret_cell rfl rfl rfl (HR5.out.res.one _) Tryd.underlying24 rfl desc_size) rfl ?_
          exact ⟨below_set HR5.out.below _ _, .inr ⟨rfl, E.out⟩⟩
end Go.Proofs.YtepnjhhpnabpnaaDoor
