/- A part of the proof. -/
import Derived.Test.YtgfhabofhefaaaaGreatDoorSB29
namespace Go.Proofs.YtgfhabofhefaaaaGreatDoor
open Go.RowKit
theorem take_any {α : Type} {p : α → Bool} {l : List α} {j : Nat} {x : α} (hx : l[j]? = some x) : (l.take (j + 1)).any p = ((l.take j).any p || p x) := by
  rw [List.take_add_one, hx, List.any_append]
  simp
theorem ints_app1 (l : List Int) (k : Int) : ints (l ++ [k]) = ints l ++ [.int .i64 k] := by simp [ints]
def MbE (w0 w : World) (t pc : Nat) (lv : Value) (zs : List Int) (dv bv : Value) (vs : List Bv) (dom up : Int) (d : Nat) (e : Ending) (w' : World) : Prop :=
  ∃ (ov : Value) (nums : List Int) (bv' : Value) (more : List Bv), e = .returned ov ∧ Own w' w.heap.size 3 ov (ints nums) ∧ Ms w0 w' t pc lv zs dv bv' (vs ++ more) ∧ Near w bv bv' ∧ Km w w' t pc bv.ownBlock ∧ (vs ++ more).length ≤ 40 ∧ (∀ a ∈ more, BrM a.1 ∧ ∀ g, a.2.ownBlock = some g → w.heap.size ≤ g) ∧ KfM d dom up vs.length (more.map (·.1)) nums
def MbC (f : Nat) : Prop := ∀ (w0 w : World) (t pc : Nat) (lv : Value) (zs : List Int) (dv bv : Value) (vs : List Bv) (dom up : Int) (d : Nat), Ms w0 w t pc lv zs dv bv vs → f + d = 5 → 1 ≤ d → d ≤ 4 → vs.length ≤ 40 →
  Calls Tryz.prog 27 #[.pointer (some ⟨t, 0, none⟩), .pointer (some ⟨pc, 0, none⟩), .int .i64 dom, .int .i64 up, .int .i64 (d : Int)] w (MbE w0 w t pc lv zs dv bv vs dom up d)
set_option maxRecDepth 10000 in
set_option maxHeartbeats 64000000 in
theorem mbranches_all : ∀ f, MbC f := by
  intro f
  induction f with
  | zero =>
    intro w0 w t pc lv zs dv bv vs dom up d _ hf _ h4 _
    omega
  | succ f ih =>
    intro w0 w t pc lv zs dv bv vs dom up d h hf hd1 hd4 hv40
    have HIH := Lib.hid ih
    have HF := Lib.hid hf
    have HD := Lib.hid (And.intro hd1 hd4)
    have HST := Lib.hid (Ml.start h)
    have H40 := Lib.hid hv40
    have HN0 := Lib.hid (mnext_lit h.tp 3 3 rfl (by decide) (by decide))
    have hdi : (d : Int) ≤ 4 := by omega
    clear h ih hf hd1 hd4 hv40
    go_enter Tryz.func27, Tryz.ntmps27
    go_upto_region 3 with (go_at_call 25; refine HN0.out.mono ?_; rintro e w1 ⟨⟨r, hr, rfl⟩, ht, hk⟩; have HM1 := Lib.hid (HST.out.next ht hk); have hri : (r : Int) < 3 := (by omega); clear ht hk)
    obtain ⟨M, hM⟩ : ∃ M : Nat, 1 + (r : Int) = (M : Int) := ⟨1 + r, by omega⟩
    have HMM : Hid (M ≤ 3) := by show _ ≤ _; omega
    rw [hM]
    clear hM hri hr HN0 HST
    go_wp2
    go_loopg [11, 13] M (fun g s11 s13 wx => ∃ (i : Nat) (bvx ov : Value) (more : List Bv) (nums : List Int) (seen : List CF.Br), i + g = M ∧ ov = s11 ∧ s13 = .int .i64 (i : Int) ∧ Hid (Ml w0 w wx t pc lv zs dv bv bvx ov vs more nums) ∧ Hid ((vs ++ more).length ≤ 40 ∧ nums.length ≤ i) ∧ Hid (LpM d dom up vs.length (more.map (·.1)) nums seen) ∧ Hid (SeenM (vs ++ more) nums seen))
    case atStart => exact ⟨0, bv, _, [], [], [], by omega, rfl, rfl, HM1, Lib.hid ⟨by rw [List.append_nil]; exact H40.out, Nat.le_refl _⟩, Lib.hid (LpM.start _ _ _ _), Lib.hid (SeenM.start _)⟩
    case round =>
      clear HM1
      obtain ⟨i, bvx, ov, more, nums, seen, hi, rfl, rfl, HM, HLN, HLP, HSN⟩ := hrel
      have HX : Hid (MbE w0 w t pc lv zs dv bv vs dom up d (.returned ov) wr) := ⟨ov, nums, bvx, more, rfl, HM.out.ow, HM.out.ms, HM.out.nr, HM.out.km, HLN.out.1, HM.out.nw, HLP.out.fin (by have := HD.out; omega)⟩
      obtain ⟨bo, bc, rfl, hbm⟩ := HM.out.ms.ob.slice
      obtain ⟨oo, oc, rfl⟩ := HM.out.ow.slice
      obtain ⟨L, hL⟩ : ∃ L, (vs ++ more).length = L := ⟨_, rfl⟩
      obtain ⟨NN, hNN⟩ : ∃ N, nums.length = N := ⟨_, rfl⟩
      rw [ints_len, hNN] at HM HX ⊢
      rw [hL, hNN] at HLN
      rw [hL] at HM
      have HLL := Lib.hid hL
      have HNN := Lib.hid hNN
      have p1 : wr.cell? ⟨pc, 1, none⟩ = some (.slice bo L bc) := HM.out.ms.cf.cell 1
      clear hbm hL hNN
      cases gk with
      | zero =>
        obtain rfl : i = M := by omega
        go_wp2
        go_ret
        exact HX.out
      | succ g =>
        have hiM : (i : Int) < (M : Int) := by omega
        have hMi : (M : Int) ≤ 3 := by have := HMM.out; omega
        by_cases h40 : L < 40
        · have h40i : (L : Int) < 40 := by omega
          have H4 := Lib.hid h40
          clear HX
          go_upto_region 6 with fail
          go_cut [14] (fun s14 wx => ∃ (b : Nat) (key : LX.B) (any : Bool), s14 = .pointer (some ⟨b, 0, none⟩) ∧ Hid (D.nm key = true ∧ key.length ≤ 8) ∧ Hid (Mb w0 w wx t pc lv zs dv bv (.slice bo L bc) (.slice oo NN oc) vs more nums b #[.string ⟨key.toArray⟩, .string ⟨#[]⟩, .bool any, .int .i64 dom, .int .i64 up, .bool false, .string ⟨#[]⟩, .int .i64 0, .int .i64 0, .float .f64 0, .bool false, .bool false, .slice none 0 0]))
          case first =>
            exact mb_made HM _ _ _ _ _ _ _ _ _ _ _ _ _ _ _ _ _ _ _ _ _ _ _ _ _ _ _ _ _ _ _ _ _ _ _ _ _ _ _ _ _ _ _ _ _ _ _ _ _ _ _ _ _ _ _ _ _ _ _ _ _ _ _ _ _ _ _ _ _ _ _ _ _ _ _ _ _ _ _ _ _ _ _ _ _ _ _ _ _ _ _ _ _ _ _ _ _ _ _ _ _ _ _ _ _ _ _ _ _ _ _ _ _ _ _ _ _ _ _ _ _ _ _ _ _ _ _ _ _ _ _ _ _ _ _ _ _ _ _ _ _ _ _ _ _ (by assumption) (by assumption)
          case rest =>
            obtain ⟨b, key, any, rfl, HKN, HB⟩ := hcut
            clear HM p1 wr
            have q2 : wc.cell? ⟨b, 2, none⟩ = some (.bool any) := HB.out.br.cell 2
            go_upto_if 49 with fail
            go_cut [] (fun wx => ∃ val : LX.B, Hid ((any = true → val = []) ∧ val.length ≤ 8) ∧ Hid (Mb w0 w wx t pc lv zs dv bv (.slice bo L bc) (.slice oo NN oc) vs more nums b #[.string ⟨key.toArray⟩, .string ⟨val.toArray⟩, .bool any, .int .i64 dom, .int .i64 up, .bool false, .string ⟨#[]⟩, .int .i64 0, .int .i64 0, .float .f64 0, .bool false, .bool false, .slice none 0 0]))
            case first =>
              cases any with
              | true =>
                go_wp2_with fail
                go_meet
                exact ⟨[], Lib.hid ⟨fun _ => rfl, by simp⟩, HB⟩
              | false =>
                have HVA := Lib.hid (mvalues_any wc)
                go_wp2_with (first
                  | (go_at_call 49; refine (mof_any HB5.out.ml.ms.tp HO5.out (by decide) (by decide)).mono ?_; rintro e w6 ⟨⟨s, hs, rfl⟩, ht, hk⟩; have HB6 := Lib.hid (HB5.out.next ht hk); have HSS := Lib.hid hs; have c1 := HB6.out.br.cell 1; have f1 := HB6.out.br.frozen 1; simp only [List.getElem?_toArray, List.getElem?_cons_zero, List.getElem?_cons_succ] at c1; clear ht hk hs)
                  | (go_at_call 50; refine HVA.out.mono ?_; rintro e w5 ⟨kv, rfl, ho, hb⟩; have HB5 := Lib.hid (HB.out.calm hb); have HO5 := Lib.hid ho; clear ho hb))
                go_meet
                have hs7 := HB6.out.set 1 (.string ⟨s.toArray⟩)
                simp only [List.setIfInBounds_toArray, List.set_cons_zero, List.set_cons_succ] at hs7
                exact ⟨s, Lib.hid ⟨fun h => (by cases h), CF.value_ok s HSS.out⟩, Lib.hid hs7⟩
            case rest =>
              obtain ⟨val, HVL, HB0⟩ := hcut
              clear HB q2
              go_wp2
              go_loopg [15, 16] NN (fun g2 s15 s16 wx => ∃ (j : Nat), j + g2 = NN ∧ s15 = .bool ((seen.take j).any (CF.met (⟨key, val, any, dom, up, false, CF.ru0, []⟩ : CF.Br))) ∧ s16 = .int .i64 (j : Int) ∧ Hid (Mb w0 w wx t pc lv zs dv bv (.slice bo L bc) (.slice oo NN oc) vs more nums b #[.string ⟨key.toArray⟩, .string ⟨val.toArray⟩, .bool any, .int .i64 dom, .int .i64 up, .bool false, .string ⟨#[]⟩, .int .i64 0, .int .i64 0, .float .f64 0, .bool false, .bool false, .slice none 0 0]))
              case atStart => exact ⟨0, by omega, by simp, rfl, HB0⟩
              case round =>
                clear HB0 wc
                obtain ⟨j, hj, rfl, rfl, HB⟩ := hrel
                obtain ⟨mt, hmt⟩ : ∃ m, (seen.take j).any (CF.met (⟨key, val, any, dom, up, false, CF.ru0, []⟩ : CF.Br)) = m := ⟨_, rfl⟩
                have HMT := Lib.hid hmt
                rw [hmt]
                clear hmt
                cases gk with
                | succ g2 =>
                  have hNNi : (NN : Int) ≤ 3 := by have h1 := HLN.out.2; have h2 := HMM.out; omega
                  have hji : (j : Int) < (NN : Int) := by omega
                  have hj0 : (0 : Int) ≤ (j : Int) := by omega
                  obtain ⟨sx, hsx⟩ : ∃ x, seen[j]? = some x := ⟨seen[j]'(by have h2 := HSN.out.1; have h3 := HNN.out; omega), List.getElem?_eq_getElem _⟩
                  obtain ⟨n, ⟨x, xw⟩, hkn, hxn, hxs⟩ := HSN.out.2 j sx hsx
                  simp only at hxs
                  subst hxs
                  have hnL : n < L := by rw [← HLL.out]; exact (List.getElem?_eq_some_iff.1 hxn).1
                  have hnLi : (n : Int) < (L : Int) := by omega
                  have hn0 : (0 : Int) ≤ (n : Int) := by omega
                  obtain ⟨b3, o3, c3, e3, u3⟩ := HB.out.ml.ow.rd.atv (j := j) (u := .int .i64 (n : Int)) (by simp [ints, hkn])
                  simp only [Value.slice.injEq] at e3
                  obtain ⟨rfl, -, -⟩ := e3
                  obtain ⟨bq, cap3, hv3, -, -, ax, -⟩ := HB.out.ml.ms.ob.at hxn
                  simp only [Value.slice.injEq] at hv3
                  obtain ⟨rfl, -, -⟩ := hv3
                  obtain ⟨ja, jc, hxw⟩ := (HB.out.ml.ms.kd (x, xw) (List.mem_of_getElem? hxn)).slice
                  simp only at hxw ax
                  obtain ⟨XN, hXN⟩ : ∃ N, (ints x.kids).length = N := ⟨_, rfl⟩
                  rw [hXN] at hxw
                  rw [hxw] at ax
                  have HSX := Lib.hid hsx
                  obtain ⟨xk, xv, xa, xd, xu, xh, ⟨yn, yu, yl, yr, ys, yx⟩, xi⟩ := x
                  obtain ⟨x0, x1, x2, x3, x4, x5, x6, x7, x8, x9, x10, x11, x12⟩ := ax
                  simp only at x0 x1 x2 x3 x4 x5 x6 x7 x8 x9 x10 x11 x12
                  have p1 : wr.cell? ⟨pc, 1, none⟩ = some (.slice (some ⟨bq, 0, none⟩) L bc) := HB.out.ml.ms.cf.cell 1
                  clear hsx hkn hxn hnL hxw hXN
                  go_upto_region 13 with fail
                  go_cut [17] (fun s17 wx => ∃ a, s17 = .pointer (some ⟨a, 0, none⟩) ∧ Hid (Mb w0 w wx t pc lv zs dv bv (.slice (some ⟨bq, 0, none⟩) L bc) (.slice (some ⟨b3, o3, none⟩) NN oc) vs more nums b #[.string ⟨key.toArray⟩, .string ⟨val.toArray⟩, .bool any, .int .i64 dom, .int .i64 up, .bool false, .string ⟨#[]⟩, .int .i64 0, .int .i64 0, .float .f64 0, .bool false, .bool false, .slice none 0 0]) ∧ Hid (Str wx a 92 #[.string ⟨xk.toArray⟩, .string ⟨xv.toArray⟩, .bool xa, .int .i64 xd, .int .i64 xu, .bool xh, .string ⟨yn.toArray⟩, .int .i64 yu, .int .i64 yl, .float .f64 yr, .bool ys, .bool yx, .slice ja XN jc]))
                  case first =>
                    have A_x0 := fun o => ((below_alloc wr o).cell (cell_lt x0)).trans x0
                    have A_x1 := fun o => ((below_alloc wr o).cell (cell_lt x1)).trans x1
                    have A_x2 := fun o => ((below_alloc wr o).cell (cell_lt x2)).trans x2
                    have A_x3 := fun o => ((below_alloc wr o).cell (cell_lt x3)).trans x3
                    have A_x4 := fun o => ((below_alloc wr o).cell (cell_lt x4)).trans x4
                    have A_x5 := fun o => ((below_alloc wr o).cell (cell_lt x5)).trans x5
                    have A_x6 := fun o => ((below_alloc wr o).cell (cell_lt x6)).trans x6
                    have A_x7 := fun o => ((below_alloc wr o).cell (cell_lt x7)).trans x7
                    have A_x8 := fun o => ((below_alloc wr o).cell (cell_lt x8)).trans x8
                    have A_x9 := fun o => ((below_alloc wr o).cell (cell_lt x9)).trans x9
                    have A_x10 := fun o => ((below_alloc wr o).cell (cell_lt x10)).trans x10
                    have A_x11 := fun o => ((below_alloc wr o).cell (cell_lt x11)).trans x11
                    have A_x12 := fun o => ((below_alloc wr o).cell (cell_lt x12)).trans x12
                    have A_p1 := fun o => ((below_alloc wr o).cell (cell_lt p1)).trans p1
                    have A_u3 := fun o => ((below_alloc wr o).cell (cell_lt u3)).trans u3
                    have BX := below_trans (below_alloc wr (.cells #[.string ⟨xk.toArray⟩, .string ⟨xv.toArray⟩, .bool xa, .int .i64 xd, .int .i64 xu, .bool xh, .string ⟨yn.toArray⟩, .int .i64 yu, .int .i64 yl, .float .f64 yr, .bool ys, .bool yx, .slice ja XN jc] 92)) (below_drew _)
                    have HB5 := Lib.hid (HB.out.calm BX)
                    have HS5 := Lib.hid ((Str.new wr 92 #[.string ⟨xk.toArray⟩, .string ⟨xv.toArray⟩, .bool xa, .int .i64 xd, .int .i64 xu, .bool xh, .string ⟨yn.toArray⟩, .int .i64 yu, .int .i64 yl, .float .f64 yr, .bool ys, .bool yx, .slice ja XN jc]).below (below_drew _))
                    clear BX
                    go_region
                    go_wp2_with fail
                    go_meet
                    exact ⟨_, rfl, HB5, HS5⟩
                  case rest =>
                    obtain ⟨a, rfl, HB2, HXS⟩ := hcut
                    clear x0 x1 x2 x3 x4 x5 x6 x7 x8 x9 x10 x11 x12 p1 u3 HB
                    have y0 : wc.cell? ⟨a, 0, none⟩ = some (.string ⟨xk.toArray⟩) := HXS.out.cell 0
                    have y1 : wc.cell? ⟨a, 1, none⟩ = some (.string ⟨xv.toArray⟩) := HXS.out.cell 1
                    have y2 : wc.cell? ⟨a, 2, none⟩ = some (.bool xa) := HXS.out.cell 2
                    have q0 : wc.cell? ⟨b, 0, none⟩ = some (.string ⟨key.toArray⟩) := HB2.out.br.cell 0
                    have q1 : wc.cell? ⟨b, 1, none⟩ = some (.string ⟨val.toArray⟩) := HB2.out.br.cell 1
                    have q2 : wc.cell? ⟨b, 2, none⟩ = some (.bool any) := HB2.out.br.cell 2
                    cases mt with
                    | true =>
                      have HE : Hid ((seen.take (j + 1)).any (CF.met (⟨key, val, any, dom, up, false, CF.ru0, []⟩ : CF.Br)) = true) := by
                        show _ = _
                        rw [take_any HSX.out, HMT.out]
                        rfl
                      go_wp2
                      go_roundg g2
                      case rel => exact ⟨j + 1, by omega, by rw [HE.out], by first | rfl | (simp; done), HB2⟩
                      case measure => omega
                    | false =>
                      by_cases hk : xk = key
                      · subst hk
                        by_cases ha : xa = any
                        · subst ha
                          have hab : (xa == xa) = true := by simp
                          by_cases hv : xv = val
                          · subst hv
                            have HE : Hid ((seen.take (j + 1)).any (CF.met (⟨xk, xv, xa, dom, up, false, CF.ru0, []⟩ : CF.Br)) = true) := by
                              show _ = _
                              rw [take_any HSX.out, HMT.out]
                              simp [CF.met]
                            go_wp2
                            go_roundg g2
                            case rel => exact ⟨j + 1, by omega, by rw [HE.out], by first | rfl | (simp; done), HB2⟩
                            case measure => omega
                          · have hvb : (xv == val) = false := by simpa using hv
                            have HE : Hid ((seen.take (j + 1)).any (CF.met (⟨xk, val, xa, dom, up, false, CF.ru0, []⟩ : CF.Br)) = false) := by
                              show _ = _
                              rw [take_any HSX.out, HMT.out]
                              simp [CF.met, hv]
                            go_wp2
                            go_roundg g2
                            case rel => exact ⟨j + 1, by omega, by rw [HE.out], by first | rfl | (simp; done), HB2⟩
                            case measure => omega
                        · have hab : (xa == any) = false := by simpa using ha
                          have HE : Hid ((seen.take (j + 1)).any (CF.met (⟨xk, val, any, dom, up, false, CF.ru0, []⟩ : CF.Br)) = false) := by
                            show _ = _
                            rw [take_any HSX.out, HMT.out]
                            simp [CF.met, ha]
                          go_wp2
                          go_roundg g2
                          case rel => exact ⟨j + 1, by omega, by rw [HE.out], by first | rfl | (simp; done), HB2⟩
                          case measure => omega
                      · have hkb : (xk == key) = false := by simpa using hk
                        have HE : Hid ((seen.take (j + 1)).any (CF.met (⟨key, val, any, dom, up, false, CF.ru0, []⟩ : CF.Br)) = false) := by
                          show _ = _
                          rw [take_any HSX.out, HMT.out]
                          simp [CF.met, hk]
                        go_wp2
                        go_roundg g2
                        case rel => exact ⟨j + 1, by omega, by rw [HE.out], by first | rfl | (simp; done), HB2⟩
                        case measure => omega
                | zero =>
                  obtain rfl : NN = j := by omega
                  have HMF : Hid (seen.any (CF.met (⟨key, val, any, dom, up, false, CF.ru0, []⟩ : CF.Br)) = mt) := by
                    show _ = _
                    have h1 := HMT.out
                    rwa [List.take_of_length_le (by have h2 := HSN.out.1; have h3 := HNN.out; omega)] at h1
                  cases mt with
                  | true =>
                    go_wp2
                    go_roundg g
                    case rel => exact ⟨i + 1, _, _, more, nums, seen, by omega, rfl, by first | rfl | (simp; done), Lib.hid HB.out.ml, by rw [HLL.out, HNN.out]; exact Lib.hid ⟨HLN.out.1, by have := HLN.out.2; omega⟩, HLP, HSN⟩
                    case measure => omega
                  | false =>
                    have HN5 := Lib.hid (mnext_lit HB.out.ml.ms.tp 5 5 rfl (by decide) (by decide))
                    go_upto_if 95 with (go_at_call 25; refine HN5.out.mono ?_; rintro e w2 ⟨⟨r5, hr5, rfl⟩, ht, hk⟩; have HB2 := Lib.hid (HB.out.next ht hk); clear ht hk)
                    clear HB HN5
                    go_cut [] (fun wx => ∃ (has : Bool) (rn : LX.B) (ru rl : Int) (rr : Nat) (rs rx : Bool), Hid ((has = true ∧ CF.RuM (⟨rn, ru, rl, rr, rs, rx⟩ : CF.Ru)) ∨ (has = false ∧ (⟨rn, ru, rl, rr, rs, rx⟩ : CF.Ru) = CF.ru0)) ∧ Hid (Mb w0 w wx t pc lv zs dv bv (.slice bo L bc) (.slice oo NN oc) vs more nums b #[.string ⟨key.toArray⟩, .string ⟨val.toArray⟩, .bool any, .int .i64 dom, .int .i64 up, .bool has, .string ⟨rn.toArray⟩, .int .i64 ru, .int .i64 rl, .float .f64 rr, .bool rs, .bool rx, .slice none 0 0]))
                    case first =>
                      by_cases hr0 : r5 = 0
                      · subst hr0
                        go_wp2_with fail
                        go_meet
                        exact ⟨false, [], 0, 0, 0, false, false, Lib.hid (.inr ⟨rfl, rfl⟩), HB2⟩
                      · have hri : (0 : Int) < (r5 : Int) := by omega
                        have HRU := Lib.hid (mrule_any HB2.out.ml.ms.tp)
                        go_wp2_with (go_at_call 51; refine HRU.out.mono ?_; rintro e w6 ⟨⟨⟨rn, ru, rl, rr, rs, rx⟩, hru, rfl⟩, ht, hk⟩; have HB6 := Lib.hid (HB2.out.next ht hk); have HRM := Lib.hid hru; rw [show ruA (⟨rn, ru, rl, rr, rs, rx⟩ : CF.Ru) = #[.string ⟨rn.toArray⟩, .int .i64 ru, .int .i64 rl, .float .f64 rr, .bool rs, .bool rx] from rfl]; have d5 : w6.cell? ⟨b, 5, none⟩ = some (.bool false) := HB6.out.br.cell 5; have f5 := HB6.out.br.frozen 5; have d6 : w6.cell? ⟨b, 6, none⟩ = some (.string ⟨#[]⟩) := HB6.out.br.cell 6; have f6 := HB6.out.br.frozen 6; have d7 : w6.cell? ⟨b, 7, none⟩ = some (.int .i64 0) := HB6.out.br.cell 7; have f7 := HB6.out.br.frozen 7; have d8 : w6.cell? ⟨b, 8, none⟩ = some (.int .i64 0) := HB6.out.br.cell 8; have f8 := HB6.out.br.frozen 8; have d9 : w6.cell? ⟨b, 9, none⟩ = some (.float .f64 0) := HB6.out.br.cell 9; have f9 := HB6.out.br.frozen 9; have d10 : w6.cell? ⟨b, 10, none⟩ = some (.bool false) := HB6.out.br.cell 10; have f10 := HB6.out.br.frozen 10; have d11 : w6.cell? ⟨b, 11, none⟩ = some (.bool false) := HB6.out.br.cell 11; have f11 := HB6.out.br.frozen 11; clear ht hk hru)
                        go_meet
                        have hx := (((((((HB6.out.set 5 (.bool true)).set 6 (.string ⟨rn.toArray⟩)).set 7 (.int .i64 ru)).set 8 (.int .i64 rl)).set 9 (.float .f64 rr)).set 10 (.bool rs)).set 11 (.bool rx))
                        simp only [List.setIfInBounds_toArray, List.set_cons_zero, List.set_cons_succ] at hx
                        exact ⟨true, rn, ru, rl, rr, rs, rx, Lib.hid (.inl ⟨rfl, HRM.out⟩), Lib.hid hx⟩
                    case rest =>
                      obtain ⟨has, rn, ru, rl, rr, rs, rx, HRU, HB⟩ := hcut
                      clear HB2 w2 hr5
                      have p1 : wc.cell? ⟨pc, 1, none⟩ = some (.slice bo L bc) := HB.out.ml.ms.cf.cell 1
                      have HB8 := Lib.hid (HB.out.calm (below_alloc wc (.cells #[.int .i64 (L : Int)] 3)))
                      have HN3 : Hid (NN ≤ 3) := by show _ ≤ _; have h1 := HLN.out.2; have h2 := HMM.out; omega
                      go_upto_region 20 with (at_builtin; refine wpList_append_at rfl (.tmp 105) (.tmp 107) 22 rfl w.heap.size 3 (.int .i64 0) 8 Tryz.underlying22 Tryz.info_int rfl (by rfl) HB8.out.ml.ow (by rfl) (one_rd_at (.int .i64 (L : Int)) _ rfl) (by simp [Value.oneCell']) (by have h1 := HN3.out; rw [ints_len, HNN.out]; simp only [List.length_cons, List.length_nil]; unfold maxLen; omega) (by have h1 := HN3.out; rw [ints_len, HNN.out]; simp only [List.length_cons, List.length_nil]; omega) HB8.out.ml.km.size ?_; intro v4 w4 ho4 hg4 hn4; obtain ⟨ov2, oc2, hv4⟩ := Own.slice ho4; rw [List.length_append, ints_len, HNN.out] at hv4; simp only [List.length_cons, List.length_nil, Nat.zero_add] at hv4; subst hv4; have HB9 := Lib.hid (HB8.out.out (nums2 := nums ++ [(L : Int)]) hg4 (by rw [ints_app1]; exact ho4) hn4); clear ho4 hg4 hn4)
                      clear HB HB8 p1
                      have HX0 : Hid (BrM (⟨key, val, any, dom, up, has, ⟨rn, ru, rl, rr, rs, rx⟩, []⟩ : CF.Br)) := Lib.hid (brm_made HKN.out.2 HVL.out.2 HRU.out)
                      go_cut [] (fun wx => ∃ bo2 bc2, Hid (Ml w0 w wx t pc lv zs dv bv (.slice bo2 (L + 1) bc2) (.slice ov2 (NN + 1) oc2) vs (more ++ [((⟨key, val, any, dom, up, has, ⟨rn, ru, rl, rr, rs, rx⟩, []⟩ : CF.Br), .slice none 0 0)]) (nums ++ [(L : Int)])))
                      case first =>
                        have q0 : w4.cell? ⟨b, 0, none⟩ = some (.string ⟨key.toArray⟩) := HB9.out.br.cell 0
                        have q1 : w4.cell? ⟨b, 1, none⟩ = some (.string ⟨val.toArray⟩) := HB9.out.br.cell 1
                        have q2 : w4.cell? ⟨b, 2, none⟩ = some (.bool any) := HB9.out.br.cell 2
                        have q3 : w4.cell? ⟨b, 3, none⟩ = some (.int .i64 dom) := HB9.out.br.cell 3
                        have q4 : w4.cell? ⟨b, 4, none⟩ = some (.int .i64 up) := HB9.out.br.cell 4
                        have q5 : w4.cell? ⟨b, 5, none⟩ = some (.bool has) := HB9.out.br.cell 5
                        have q6 : w4.cell? ⟨b, 6, none⟩ = some (.string ⟨rn.toArray⟩) := HB9.out.br.cell 6
                        have q7 : w4.cell? ⟨b, 7, none⟩ = some (.int .i64 ru) := HB9.out.br.cell 7
                        have q8 : w4.cell? ⟨b, 8, none⟩ = some (.int .i64 rl) := HB9.out.br.cell 8
                        have q9 : w4.cell? ⟨b, 9, none⟩ = some (.float .f64 rr) := HB9.out.br.cell 9
                        have q10 : w4.cell? ⟨b, 10, none⟩ = some (.bool rs) := HB9.out.br.cell 10
                        have q11 : w4.cell? ⟨b, 11, none⟩ = some (.bool rx) := HB9.out.br.cell 11
                        have q12 : w4.cell? ⟨b, 12, none⟩ = some (.slice none 0 0) := HB9.out.br.cell 12
                        have p1 : w4.cell? ⟨pc, 1, none⟩ = some (.slice bo L bc) := HB9.out.ml.ms.cf.cell 1
                        have A_p1 := fun o => ((below_alloc w4 o).cell (cell_lt p1)).trans p1
                        have BX := below_trans (below_alloc w4 (.cells #[.string ⟨key.toArray⟩, .string ⟨val.toArray⟩, .bool any, .int .i64 dom, .int .i64 up, .bool has, .string ⟨rn.toArray⟩, .int .i64 ru, .int .i64 rl, .float .f64 rr, .bool rs, .bool rx, .slice none 0 0] 92)) (below_drew _)
                        have HS5 := Lib.hid ((Str.new w4 92 #[.string ⟨key.toArray⟩, .string ⟨val.toArray⟩, .bool any, .int .i64 dom, .int .i64 up, .bool has, .string ⟨rn.toArray⟩, .int .i64 ru, .int .i64 rl, .float .f64 rr, .bool rs, .bool rx, .slice none 0 0]).below (below_drew _))
                        have HM10 := Lib.hid (HB9.out.ml.calm BX)
                        have HOB := Lib.hid HM10.out.ms.ob
                        clear BX
                        go_region_law (refine step_append_branch (l := ((⟨key, val, any, dom, up, has, ⟨rn, ru, rl, rr, rs, rx⟩, []⟩ : CF.Br), .slice none 0 0)) (by rfl) (.tmp 113) (.tmp 115) (by rfl) w0.heap.size (by rfl) HOB.out (by rfl) HS5.out rfl (by have h1 := HLL.out; have h2 := H4.out; omega) HM10.out.ms.size ?_; intro g4 cap4 w5 ho4 hg4 hn4; obtain ⟨s5, m5⟩ := HM10.out.push hg4 ho4 hn4 rfl HX0.out; rw [HLL.out] at *; have HM5 := Lib.hid m5; have k1 := s5.cell 1; have j1 := s5.frozen 1; simp only [List.getElem?_toArray, List.getElem?_cons_zero, List.getElem?_cons_succ] at k1; clear ho4 hg4 hn4 s5 m5)
                        all_goals
                          go_wp2_with fail
                          go_meet
                          exact ⟨_, _, HM5⟩
                      case rest =>
                        obtain ⟨bo2, bc2, HM⟩ := hcut
                        clear HB9 HX0 w4
                        have HFT : Hid (∀ ks, CF.fits (⟨key, val, any, dom, up, has, ⟨rn, ru, rl, rr, rs, rx⟩, ks⟩ : CF.Br) dom up = true) := fun ks => fits_made HKN.out.1 HVL.out.2 HVL.out.1 HRU.out
                        have HLE : Hid (vs.length + more.length = L) := by show _ = _; rw [← List.length_append]; exact HLL.out
                        have HLP1 : Hid (LpM d dom up vs.length ((more ++ [((⟨key, val, any, dom, up, has, ⟨rn, ru, rl, rr, rs, rx⟩, []⟩ : CF.Br), (.slice none 0 0 : Value))]).map (·.1)) (nums ++ [(L : Int)]) (seen ++ [(⟨key, val, any, dom, up, has, ⟨rn, ru, rl, rr, rs, rx⟩, []⟩ : CF.Br)])) := by
                          have := HLP.out.more (more2 := []) (HFT.out []) HMF.out (by rw [List.length_map]; exact KfM.nil _ _ _ _) (by have := HD.out; omega)
                          rw [List.length_map, HLE.out] at this
                          show LpM _ _ _ _ _ _ _
                          rw [List.map_append]
                          exact this
                        have HSN1 : Hid (SeenM (vs ++ (more ++ [((⟨key, val, any, dom, up, has, ⟨rn, ru, rl, rr, rs, rx⟩, []⟩ : CF.Br), (.slice none 0 0 : Value))])) (nums ++ [(L : Int)]) (seen ++ [(⟨key, val, any, dom, up, has, ⟨rn, ru, rl, rr, rs, rx⟩, []⟩ : CF.Br)])) := by
                          have := HSN.out.more (x := ((⟨key, val, any, dom, up, has, ⟨rn, ru, rl, rr, rs, rx⟩, []⟩ : CF.Br), (.slice none 0 0 : Value))) (all2 := [])
                          rw [HLL.out] at this
                          show SeenM _ _ _
                          rw [← List.append_assoc]
                          exact this
                        have HLN1 : Hid ((vs ++ (more ++ [((⟨key, val, any, dom, up, has, ⟨rn, ru, rl, rr, rs, rx⟩, []⟩ : CF.Br), (.slice none 0 0 : Value))])).length ≤ 40 ∧ (nums ++ [(L : Int)]).length ≤ i + 1) := by
                          show _ ∧ _
                          have h1 := HLE.out; have h2 := H4.out; have h3 := HLN.out.2; have h4 := HNN.out
                          simp only [List.length_append, List.length_cons, List.length_nil]
                          omega
                        by_cases hd : d < 4
                        · have hd4 : (d : Int) < 4 := by omega
                          have HDD := Lib.hid hd
                          have HNX := Lib.hid (mnext_lit HM.out.ms.tp 3 3 rfl (by decide) (by decide))
                          go_upto_if 125 with (go_at_call 25; refine HNX.out.mono ?_; rintro e w2 ⟨⟨r7, hr7, rfl⟩, ht, hk⟩; have HM2 := Lib.hid (HM.out.next ht hk); clear ht hk)
                          clear HM HNX hr7
                          by_cases hr0 : r7 = 0
                          · subst hr0
                            have HIC := Lib.hid (HIH.out w0 w2 t pc lv zs dv (.slice bo2 (L + 1) bc2) (vs ++ (more ++ [((⟨key, val, any, dom, up, has, ⟨rn, ru, rl, rr, rs, rx⟩, []⟩ : CF.Br), (.slice none 0 0 : Value))])) dom (L : Int) (d + 1) HM2.out.ms (by have := HF.out; omega) (by omega) (by have := HDD.out; omega) HLN1.out.1)
                            rw [show ((d + 1 : Nat) : Int) = (d : Int) + 1 from rfl] at HIC
                            go_wp2_with (go_at_call 27; refine HIC.out.mono ?_; rintro e w3 ⟨kv, nums2, bv2, more2, rfl, ho, hms, hn, hk, hlen, hnw, hkf⟩; have hm3 := HM2.out.fed hms hn hk hnw; rw [List.append_assoc, List.singleton_append] at hm3; have hap : Ap kv (.slice ov2 (NN + 1) oc2) := (fun g9 h1 h2 => (by have h3 := (ho.lt h1).1; have h4 := (HM2.out.ow.lt h2).2; omega)); obtain ⟨g6, cap6, hbv, a13, fz, hm4⟩ := hm3.kids (ho.base HM2.out.km.size) hap; subst hbv; rw [HLE.out] at a13 hm4; obtain ⟨ka, kc, rfl⟩ := ho.slice; have HM4 := Lib.hid hm4; have p1 := hm3.ms.cf.cell 1; simp only [List.getElem?_toArray, List.getElem?_cons_zero, List.getElem?_cons_succ] at p1; have c12 := a13.c12; have f12 := fz (L * 13 + 12); have HKF := Lib.hid hkf; have HHL := Lib.hid hlen; obtain ⟨L2, hL2⟩ : ∃ L2, (vs ++ (more ++ ((⟨key, val, any, dom, up, has, ⟨rn, ru, rl, rr, rs, rx⟩, []⟩ : CF.Br), (.slice none 0 0 : Value)) :: more2)).length = L2 := ⟨_, rfl⟩; rw [hL2] at p1 HM4; have hLL2 : (L : Int) < (L2 : Int) := (by rw [← hL2]; have h1 := HLE.out; simp only [List.length_append, List.length_cons]; omega); have hL0 : (0 : Int) ≤ (L : Int) := (by omega); clear ho hms hn hk hlen hnw hkf hm3 hap a13 fz hm4 hL2)
                            go_roundg g
                            case rel =>
                              have HSNK : Hid (SeenM (vs ++ (more ++ ((⟨key, val, any, dom, up, has, ⟨rn, ru, rl, rr, rs, rx⟩, nums2⟩ : CF.Br), (.slice ka (ints nums2).length kc : Value)) :: more2)) (nums ++ [(L : Int)]) (seen ++ [(⟨key, val, any, dom, up, has, ⟨rn, ru, rl, rr, rs, rx⟩, nums2⟩ : CF.Br)])) := by
                                have := HSN.out.more (x := ((⟨key, val, any, dom, up, has, ⟨rn, ru, rl, rr, rs, rx⟩, nums2⟩ : CF.Br), (.slice ka (ints nums2).length kc : Value))) (all2 := more2)
                                rw [HLL.out] at this
                                show SeenM _ _ _
                                rw [← List.append_assoc]
                                exact this
                              have HLNK : Hid ((vs ++ (more ++ ((⟨key, val, any, dom, up, has, ⟨rn, ru, rl, rr, rs, rx⟩, nums2⟩ : CF.Br), (.slice ka (ints nums2).length kc : Value)) :: more2)).length ≤ 40 ∧ (nums ++ [(L : Int)]).length ≤ i + 1) := by
                                show _ ∧ _
                                have h1 := HHL.out; have h3 := HLN.out.2; have h4 := HNN.out
                                simp only [List.length_append, List.length_cons, List.length_nil] at h1 ⊢
                                omega
                              have HLPK : Hid (LpM d dom up vs.length ((more ++ ((⟨key, val, any, dom, up, has, ⟨rn, ru, rl, rr, rs, rx⟩, nums2⟩ : CF.Br), (.slice ka (ints nums2).length kc : Value)) :: more2).map (·.1)) (nums ++ [(L : Int)]) (seen ++ [(⟨key, val, any, dom, up, has, ⟨rn, ru, rl, rr, rs, rx⟩, nums2⟩ : CF.Br)])) := by
                                have hkf := HKF.out
                                rw [List.length_append, List.length_append, List.length_cons, List.length_nil, ← HLE.out, ← Nat.add_assoc] at hkf
                                have := HLP.out.more (b := (⟨key, val, any, dom, up, has, ⟨rn, ru, rl, rr, rs, rx⟩, nums2⟩ : CF.Br)) (more2 := more2.map (·.1)) (HFT.out nums2) HMF.out (by rw [List.length_map]; exact hkf) (by have := HD.out; omega)
                                rw [List.length_map, HLE.out] at this
                                show LpM _ _ _ _ _ _ _
                                rw [List.map_append]
                                exact this
                              exact ⟨i + 1, _, _, _, _, _, by omega, rfl, by first | rfl | (simp; done), HM4, HLNK, HLPK, HSNK⟩
                            case measure => omega
                          · have hrb : ((r7 : Int) == 0) = false := by simpa using hr0
                            have hrc : (r7 == 0) = false := by simpa using hr0
                            go_wp2
                            go_roundg g
                            case rel => exact ⟨i + 1, _, _, _, _, _, by omega, rfl, by first | rfl | (simp; done), HM2, HLN1, HLP1, HSN1⟩
                            case measure => omega
                        · have hd4 : ¬ (d : Int) < 4 := by omega
                          go_wp2
                          go_roundg g
                          case rel => exact ⟨i + 1, _, _, _, _, _, by omega, rfl, by first | rfl | (simp; done), HM, HLN1, HLP1, HSN1⟩
                          case measure => omega
        · have h40i : ¬ (L : Int) < 40 := by omega
          go_wp2
          go_ret
          exact HX.out
end Go.Proofs.YtgfhabofhefaaaaGreatDoor
