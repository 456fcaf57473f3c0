/- The walk of the document's own Same, at any two documents. -/
import Derived.Test.YtmgalfdiiegjjaaGreatDoorSeg31
import Derived.Deep.DeepCutAuto
import Derived.Deep.CutBlock
namespace Go.Proofs.YtmgalfdiiegjjaaGreatDoor
open Go.RowKit

/-- Two documents, boxed at P and P + 1. -/
structure Sb (w wx : World) (v v' : Value) : Prop where
  bl : Below w.heap.size w wx
  d0 : Str wx w.heap.size 26 #[v]
  d1 : Str wx (w.heap.size + 1) 26 #[v']
theorem Sb.calm {w wx w' : World} {v v' : Value} (h : Sb w wx v v') (hb : Below wx.heap.size wx w') : Sb w w' v v' := ⟨below_trans h.bl hb, h.d0.below hb, h.d1.below hb⟩
theorem Sb.start (w : World) (v v' : Value) : Sb w ((w.alloc (.cells #[v] 26)).alloc (.cells #[v'] 26)) v v' := by
  have b1 := below_alloc w (.cells #[v] 26)
  have b2 := below_alloc (w.alloc (.cells #[v] 26)) (.cells #[v'] 26)
  have s2 := Str.new (w.alloc (.cells #[v] 26)) 26 #[v']
  rw [bx_size] at s2
  exact ⟨below_trans b1 b2, (Str.new w 26 #[v]).below b2, s2⟩
structure Sn (w wx : World) (v v' : Value) (a b : Nat) (x y : Array Value) : Prop where
  sd : Sb w wx v v'
  na : Str wx a 50 x
  nb : Str wx b 50 y
theorem Sn.calm {w wx w' : World} {v v' : Value} {a b : Nat} {x y : Array Value} (h : Sn w wx v v' a b x y) (hb : Below wx.heap.size wx w') : Sn w w' v v' a b x y := ⟨h.sd.calm hb, h.na.below hb, h.nb.below hb⟩
theorem Sb.two {w wr : World} {v v' : Value} (h : Sb w wr v v') (x y : Array Value) : Sn w (((wr.alloc (.cells x 50)).alloc (.cells y 50)).drew) v v' wr.heap.size (wr.heap.size + 1) x y ∧ Sn w (((wr.alloc (.cells y 50)).alloc (.cells x 50)).drew) v v' (wr.heap.size + 1) wr.heap.size x y := by
  have key : ∀ a b : Array Value, Sb w (((wr.alloc (.cells a 50)).alloc (.cells b 50)).drew) v v' ∧ Str (((wr.alloc (.cells a 50)).alloc (.cells b 50)).drew) wr.heap.size 50 a ∧ Str (((wr.alloc (.cells a 50)).alloc (.cells b 50)).drew) (wr.heap.size + 1) 50 b := fun a b => by
    have b1 := below_alloc wr (.cells a 50)
    have b2 := below_alloc (wr.alloc (.cells a 50)) (.cells b 50)
    have s2 := (Str.new (wr.alloc (.cells a 50)) 50 b).below (below_drew _)
    rw [bx_size] at s2
    exact ⟨h.calm (below_trans (below_trans b1 b2) (below_drew _)), ((Str.new wr 50 a).below b2).below (below_drew _), s2⟩
  exact ⟨⟨(key x y).1, (key x y).2.1, (key x y).2.2⟩, ⟨(key y x).1, (key y x).2.2, (key y x).2.1⟩⟩
theorem ne_at {α : Type} {xs ys : List α} {j : Nat} {k l : α} (h1 : xs[j]? = some k) (h2 : ys[j]? = some l) (h : k ≠ l) : xs ≠ ys := by
  rintro rfl
  exact h (Option.some.inj (h1.symm.trans h2))
theorem sameb_no {xs ys : List SH.Ni} {k : Nat} {x y : SH.Ni} (hx : xs[k]? = some x) (hy : ys[k]? = some y) (h : SH.zi x ≠ SH.zi y) : SH.sameb xs ys = false := by
  refine decide_eq_false fun he => h ?_
  have h1 := congrArg (fun l => l[k]?) he
  simp only [List.getElem?_map, hx, hy, Option.map_some, Option.some.injEq] at h1
  exact h1
set_option maxRecDepth 10000 in
set_option maxHeartbeats 32000000 in
theorem shrsame_any (va vb : Value) (xs ys : List SH.Ni) (w : World) (h1 : Rdi w va xs) (h2 : Rdi w vb ys) :
    Calls Tryz.prog 12 #[.agg #[va], .agg #[vb]] w fun e w' => e = .returned (.bool (SH.sameb xs ys)) ∧ Below w.heap.size w w' := by
  obtain ⟨ao, cap, rfl, hla⟩ := h1.slice
  obtain ⟨bo, cap', rfl, hlb⟩ := h2.slice
  unfold maxLen at hla hlb
  obtain ⟨n, hL⟩ : ∃ L, xs.length = L := ⟨_, rfl⟩
  obtain ⟨m, hM⟩ : ∃ M, ys.length = M := ⟨_, rfl⟩
  have HNV := Lib.hid hL
  have HNU := Lib.hid hM
  rw [hL] at h1 hla
  rw [hM] at h2 hlb
  rw [hL, hM]
  have HA := Lib.hid h1
  have HB := Lib.hid h2
  obtain ⟨K, HK⟩ : ∃ K, Hid (K = SH.sameb xs ys) := ⟨_, Lib.hid rfl⟩
  rw [← HK.out]
  have hni : (n : Int) ≤ 9223372036854775807 := by omega
  have hmi : (m : Int) ≤ 9223372036854775807 := by omega
  have HS0 := Lib.hid (Sb.start w (.slice ao n cap) (.slice bo m cap'))
  have g0 := HS0.out.d0.cell 0
  have g1 := HS0.out.d1.cell 0
  simp only [List.getElem?_toArray, List.getElem?_cons_zero] at g0 g1
  clear h1 h2 hla hlb
  by_cases hne : n = m
  · subst hne
    clear hL hM hmi
    go_enter Tryz.func12, Tryz.ntmps12
    go_wp2
    generalize World.alloc (World.alloc _ _) _ = w2 at *
    clear g0 g1
    go_loopg [5] n (fun g s5 wx => ∃ (i : Nat), i + g = n ∧ s5 = .int .i64 (i : Int) ∧ Hid (Sb w wx (.slice ao n cap) (.slice bo n cap')) ∧ Hid ((xs.map SH.zi).take i = (ys.map SH.zi).take i))
    case atStart => exact ⟨0, by omega, rfl, HS0, Lib.hid (by simp)⟩
    case round =>
      clear HS0
      obtain ⟨i, hi, rfl, HS, HI⟩ := hrel
      have g0 : wr.cell? ⟨w.heap.size, 0, none⟩ = some (.slice ao n cap) := HS.out.d0.cell 0
      have g1 : wr.cell? ⟨w.heap.size + 1, 0, none⟩ = some (.slice bo n cap') := HS.out.d1.cell 0
      cases gk with
      | zero =>
        obtain rfl : i = n := by omega
        have E : K = true := by
          rw [HK.out]
          refine decide_eq_true ?_
          have h1 := HI.out; have h2 := HNV.out; have h3 := HNU.out
          rwa [List.take_of_length_le (by rw [List.length_map]; omega), List.take_of_length_le (by rw [List.length_map]; omega)] at h1
        subst E
        go_wp2
        go_ret
        exact ⟨rfl, HS.out.bl⟩
      | succ g =>
        have hin : (i : Int) < (n : Int) := by omega
        have hi0 : (0 : Int) ≤ (i : Int) := by omega
        obtain ⟨x, hx⟩ : ∃ x, xs[i]? = some x := ⟨xs[i]'(by have := HNV.out; omega), List.getElem?_eq_getElem _⟩
        obtain ⟨y, hy⟩ : ∃ y, ys[i]? = some y := ⟨ys[i]'(by have := HNU.out; omega), List.getElem?_eq_getElem _⟩
        obtain ⟨ba, oa, kaq, kcq, iaq, icq, rfl, ca, -, -⟩ := HA.out.at' HS.out.bl hx
        obtain ⟨bb, ob, kbq, kdq, jaq, jcq, rfl, cb, -, -⟩ := HB.out.at' HS.out.bl hy
        obtain ⟨bq, oq, ka, kc, ia, ic, eq, caq, r1, r2⟩ := HA.out.at' (Below.refl _ w) hx
        obtain ⟨br, or', kb, kd, ja, jc, er, cbq, r3, r4⟩ := HB.out.at' (Below.refl _ w) hy
        simp only [Option.some.injEq, Addr.mk.injEq, and_true] at eq er
        obtain ⟨rfl, rfl⟩ := eq
        obtain ⟨rfl, rfl⟩ := er
        have k1 := (caq.below HS.out.bl).c4.symm.trans ca.c4
        have k2 := (caq.below HS.out.bl).c5.symm.trans ca.c5
        have k3 := (cbq.below HS.out.bl).c4.symm.trans cb.c4
        have k4 := (cbq.below HS.out.bl).c5.symm.trans cb.c5
        simp only [Option.some.injEq, Value.slice.injEq] at k1 k2 k3 k4
        obtain ⟨rfl, -, rfl⟩ := k1
        obtain ⟨rfl, -, rfl⟩ := k2
        obtain ⟨rfl, -, rfl⟩ := k3
        obtain ⟨rfl, -, rfl⟩ := k4
        clear caq cbq
        have HX := Lib.hid hx
        have HY := Lib.hid hy
        obtain ⟨n1, h1⟩ : ∃ n, x.keys.length = n := ⟨_, rfl⟩
        obtain ⟨n2, h2⟩ : ∃ n, x.kids.length = n := ⟨_, rfl⟩
        obtain ⟨n3, h3⟩ : ∃ n, y.keys.length = n := ⟨_, rfl⟩
        obtain ⟨n4, h4⟩ : ∃ n, y.kids.length = n := ⟨_, rfl⟩
        have l1 := r1.len_le
        have l2 := r2.len_le
        rw [sv_len, h1] at l1
        rw [ints_len, h2] at l2
        unfold maxLen at l1 l2
        have l1i : (n1 : Int) ≤ 9223372036854775807 := by omega
        have l2i : (n2 : Int) ≤ 9223372036854775807 := by omega
        rw [h1] at ca r1
        rw [h2] at ca r2
        rw [h3] at cb r3
        rw [h4] at cb r4
        have HR1 := Lib.hid r1
        have HR2 := Lib.hid r2
        have HR3 := Lib.hid r3
        have HR4 := Lib.hid r4
        have HN1 := Lib.hid h1
        have HN2 := Lib.hid h2
        have HN3 := Lib.hid h3
        have HN4 := Lib.hid h4
        clear h1 h2 h3 h4 r1 r2 r3 r4 hx hy l1 l2
        obtain ⟨xk, xl, xt, xq, xks, xis⟩ := x
        obtain ⟨yk, yl, yt, yq, yks, yis⟩ := y
        simp only at ca cb HR1 HR2 HR3 HR4 HN1 HN2 HN3 HN4
        obtain ⟨a0, a1, a2, a3, a4, a5⟩ := ca
        obtain ⟨b0, b1, b2, b3, b4, b5⟩ := cb
        simp only at a0 a1 a2 a3 a4 a5 b0 b1 b2 b3 b4 b5
        go_upto_region 6 with fail
        go_cut [6, 7] (fun s6 s7 wx => ∃ (a b : Nat), s6 = .pointer (some ⟨a, 0, none⟩) ∧ s7 = .pointer (some ⟨b, 0, none⟩) ∧ Hid (Sn w wx (.slice (some ⟨ba, oa, none⟩) n cap) (.slice (some ⟨bb, ob, none⟩) n cap') a b #[.int .i64 xk, .int .i64 xl, .string ⟨xt.toArray⟩, .bool xq, .slice ka n1 kc, .slice ia n2 ic] #[.int .i64 yk, .int .i64 yl, .string ⟨yt.toArray⟩, .bool yq, .slice kb n3 kd, .slice ja n4 jc]))
        case first =>
          have A_a0 := fun o => ((below_alloc wr o).cell (cell_lt a0)).trans a0
          have B_a0 := fun o o' => ((below_trans (below_alloc wr o) (below_alloc _ o')).cell (cell_lt a0)).trans a0
          have A_a1 := fun o => ((below_alloc wr o).cell (cell_lt a1)).trans a1
          have B_a1 := fun o o' => ((below_trans (below_alloc wr o) (below_alloc _ o')).cell (cell_lt a1)).trans a1
          have A_a2 := fun o => ((below_alloc wr o).cell (cell_lt a2)).trans a2
          have B_a2 := fun o o' => ((below_trans (below_alloc wr o) (below_alloc _ o')).cell (cell_lt a2)).trans a2
          have A_a3 := fun o => ((below_alloc wr o).cell (cell_lt a3)).trans a3
          have B_a3 := fun o o' => ((below_trans (below_alloc wr o) (below_alloc _ o')).cell (cell_lt a3)).trans a3
          have A_a4 := fun o => ((below_alloc wr o).cell (cell_lt a4)).trans a4
          have B_a4 := fun o o' => ((below_trans (below_alloc wr o) (below_alloc _ o')).cell (cell_lt a4)).trans a4
          have A_a5 := fun o => ((below_alloc wr o).cell (cell_lt a5)).trans a5
          have B_a5 := fun o o' => ((below_trans (below_alloc wr o) (below_alloc _ o')).cell (cell_lt a5)).trans a5
          have A_b0 := fun o => ((below_alloc wr o).cell (cell_lt b0)).trans b0
          have B_b0 := fun o o' => ((below_trans (below_alloc wr o) (below_alloc _ o')).cell (cell_lt b0)).trans b0
          have A_b1 := fun o => ((below_alloc wr o).cell (cell_lt b1)).trans b1
          have B_b1 := fun o o' => ((below_trans (below_alloc wr o) (below_alloc _ o')).cell (cell_lt b1)).trans b1
          have A_b2 := fun o => ((below_alloc wr o).cell (cell_lt b2)).trans b2
          have B_b2 := fun o o' => ((below_trans (below_alloc wr o) (below_alloc _ o')).cell (cell_lt b2)).trans b2
          have A_b3 := fun o => ((below_alloc wr o).cell (cell_lt b3)).trans b3
          have B_b3 := fun o o' => ((below_trans (below_alloc wr o) (below_alloc _ o')).cell (cell_lt b3)).trans b3
          have A_b4 := fun o => ((below_alloc wr o).cell (cell_lt b4)).trans b4
          have B_b4 := fun o o' => ((below_trans (below_alloc wr o) (below_alloc _ o')).cell (cell_lt b4)).trans b4
          have A_b5 := fun o => ((below_alloc wr o).cell (cell_lt b5)).trans b5
          have B_b5 := fun o o' => ((below_trans (below_alloc wr o) (below_alloc _ o')).cell (cell_lt b5)).trans b5
          have A_g0 := fun o => ((below_alloc wr o).cell (cell_lt g0)).trans g0
          have B_g0 := fun o o' => ((below_trans (below_alloc wr o) (below_alloc _ o')).cell (cell_lt g0)).trans g0
          have A_g1 := fun o => ((below_alloc wr o).cell (cell_lt g1)).trans g1
          have B_g1 := fun o o' => ((below_trans (below_alloc wr o) (below_alloc _ o')).cell (cell_lt g1)).trans g1
          have HT := Lib.hid (HS.out.two #[.int .i64 xk, .int .i64 xl, .string ⟨xt.toArray⟩, .bool xq, .slice ka n1 kc, .slice ia n2 ic] #[.int .i64 yk, .int .i64 yl, .string ⟨yt.toArray⟩, .bool yq, .slice kb n3 kd, .slice ja n4 jc])
          go_region
          · go_wp2_with fail
            go_meet
            exact ⟨_, _, rfl, rfl, HT.out.1⟩
          · go_wp2_with fail
            go_meet
            exact ⟨_, _, rfl, rfl, HT.out.2⟩
        case rest =>
          obtain ⟨a, b, rfl, rfl, HN⟩ := hcut
          clear HS a0 a1 a2 a3 a4 a5 b0 b1 b2 b3 b4 b5 g0 g1
          have a0 : wc.cell? ⟨a, 0, none⟩ = some (.int .i64 xk) := HN.out.na.cell 0
          have a2 : wc.cell? ⟨a, 2, none⟩ = some (.string ⟨xt.toArray⟩) := HN.out.na.cell 2
          have a3 : wc.cell? ⟨a, 3, none⟩ = some (.bool xq) := HN.out.na.cell 3
          have a4 : wc.cell? ⟨a, 4, none⟩ = some (.slice ka n1 kc) := HN.out.na.cell 4
          have a5 : wc.cell? ⟨a, 5, none⟩ = some (.slice ia n2 ic) := HN.out.na.cell 5
          have b0 : wc.cell? ⟨b, 0, none⟩ = some (.int .i64 yk) := HN.out.nb.cell 0
          have b2 : wc.cell? ⟨b, 2, none⟩ = some (.string ⟨yt.toArray⟩) := HN.out.nb.cell 2
          have b3 : wc.cell? ⟨b, 3, none⟩ = some (.bool yq) := HN.out.nb.cell 3
          have b4 : wc.cell? ⟨b, 4, none⟩ = some (.slice kb n3 kd) := HN.out.nb.cell 4
          have b5 : wc.cell? ⟨b, 5, none⟩ = some (.slice ja n4 jc) := HN.out.nb.cell 5
          by_cases hk : xk = yk
          · subst hk
            by_cases ht : xt = yt
            · subst ht
              by_cases hq : xq = yq
              · subst hq
                by_cases hn1 : n1 = n3
                · subst hn1
                  by_cases hn2 : n2 = n4
                  · subst hn2
                    go_wp2
                    go_loopg [8] n1 (fun g s8 wx => ∃ (j : Nat), j + g = n1 ∧ s8 = .int .i64 (j : Int) ∧ Hid (Sn w wx (.slice (some ⟨ba, oa, none⟩) n cap) (.slice (some ⟨bb, ob, none⟩) n cap') a b #[.int .i64 xk, .int .i64 xl, .string ⟨xt.toArray⟩, .bool xq, .slice ka n1 kc, .slice ia n2 ic] #[.int .i64 xk, .int .i64 yl, .string ⟨xt.toArray⟩, .bool xq, .slice kb n1 kd, .slice ja n2 jc]) ∧ Hid (xks.take j = yks.take j))
                    case atStart => exact ⟨0, by omega, rfl, HN, Lib.hid (by simp)⟩
                    case round =>
                      clear HN a0 a2 a3 a4 a5 b0 b2 b3 b4 b5
                      obtain ⟨j, hj, rfl, HN, HT⟩ := hrel
                      have a4 : wr.cell? ⟨a, 4, none⟩ = some (.slice ka n1 kc) := HN.out.na.cell 4
                      have b4 : wr.cell? ⟨b, 4, none⟩ = some (.slice kb n1 kd) := HN.out.nb.cell 4
                      cases gk with
                      | succ g2 =>
                        have hjn : (j : Int) < (n1 : Int) := by omega
                        have hj0 : (0 : Int) ≤ (j : Int) := by omega
                        obtain ⟨k, hk⟩ : ∃ k, xks[j]? = some k := ⟨xks[j]'(by have := HN1.out; omega), List.getElem?_eq_getElem _⟩
                        obtain ⟨l, hl⟩ : ∃ l, yks[j]? = some l := ⟨yks[j]'(by have := HN3.out; omega), List.getElem?_eq_getElem _⟩
                        obtain ⟨p1, o1, c1, e1, f1⟩ := (HR1.out.below HN.out.sd.bl).atv (j := j) (u := .string ⟨k.toArray⟩) (by simp [sv, hk])
                        obtain ⟨p2, o2, c2, e2, f2⟩ := (HR3.out.below HN.out.sd.bl).atv (j := j) (u := .string ⟨l.toArray⟩) (by simp [sv, hl])
                        simp only [Value.slice.injEq] at e1 e2
                        obtain ⟨rfl, -, -⟩ := e1
                        obtain ⟨rfl, -, -⟩ := e2
                        have HKX := Lib.hid hk
                        have HLX := Lib.hid hl
                        clear hk hl
                        by_cases hkl : k = l
                        · subst hkl
                          have HT2 : Hid (xks.take (j + 1) = yks.take (j + 1)) := by
                            show _ = _
                            rw [List.take_add_one, List.take_add_one, HKX.out, HLX.out, HT.out]
                          go_wp2
                          go_quiet (fail)
                          go_wp2
                          go_roundg g2
                          case rel => exact ⟨j + 1, by omega, by first | rfl | (simp; done), Lib.hid (HN.out.calm (below_drewN _ _)), HT2⟩
                          case measure => omega
                        · have hkb : (k == l) = false := by simpa using hkl
                          have hkc : (k != l) = true := by simpa using hkl
                          have E : K = false := by
                            rw [HK.out]
                            exact sameb_no HX.out HY.out (fun h => ne_at HKX.out HLX.out hkl (zi_eq.1 h).2.2.2.1)
                          subst E
                          go_wp2
                          go_quiet (fail)
                          go_wp2
                          go_ret
                          exact ⟨rfl, below_trans HN.out.sd.bl (below_drewN _ _)⟩
                      | zero =>
                        obtain rfl : n1 = j := by omega
                        have HKE : Hid (xks = yks) := by
                          show _ = _
                          have h1 := HT.out
                          rwa [List.take_of_length_le (by have := HN1.out; omega), List.take_of_length_le (by have := HN3.out; omega)] at h1
                        go_wp2
                        go_loopg [9] n2 (fun g s9 wx => ∃ (j : Nat), j + g = n2 ∧ s9 = .int .i64 (j : Int) ∧ Hid (Sn w wx (.slice (some ⟨ba, oa, none⟩) n cap) (.slice (some ⟨bb, ob, none⟩) n cap') a b #[.int .i64 xk, .int .i64 xl, .string ⟨xt.toArray⟩, .bool xq, .slice ka n1 kc, .slice ia n2 ic] #[.int .i64 xk, .int .i64 yl, .string ⟨xt.toArray⟩, .bool xq, .slice kb n1 kd, .slice ja n2 jc]) ∧ Hid (xis.take j = yis.take j))
                        case atStart => exact ⟨0, by omega, rfl, HN, Lib.hid (by simp)⟩
                        case round =>
                          clear HN a4 b4
                          obtain ⟨j, hj, rfl, HN, HT⟩ := hrel
                          have a5 : wr.cell? ⟨a, 5, none⟩ = some (.slice ia n2 ic) := HN.out.na.cell 5
                          have b5 : wr.cell? ⟨b, 5, none⟩ = some (.slice ja n2 jc) := HN.out.nb.cell 5
                          cases gk with
                          | succ g3 =>
                            have hjn : (j : Int) < (n2 : Int) := by omega
                            have hj0 : (0 : Int) ≤ (j : Int) := by omega
                            obtain ⟨k, hk⟩ : ∃ k, xis[j]? = some k := ⟨xis[j]'(by have := HN2.out; omega), List.getElem?_eq_getElem _⟩
                            obtain ⟨l, hl⟩ : ∃ l, yis[j]? = some l := ⟨yis[j]'(by have := HN4.out; omega), List.getElem?_eq_getElem _⟩
                            obtain ⟨p1, o1, c1, e1, f1⟩ := (HR2.out.below HN.out.sd.bl).atv (j := j) (u := .int .i64 k) (by simp [ints, hk])
                            obtain ⟨p2, o2, c2, e2, f2⟩ := (HR4.out.below HN.out.sd.bl).atv (j := j) (u := .int .i64 l) (by simp [ints, hl])
                            simp only [Value.slice.injEq] at e1 e2
                            obtain ⟨rfl, -, -⟩ := e1
                            obtain ⟨rfl, -, -⟩ := e2
                            have HKX := Lib.hid hk
                            have HLX := Lib.hid hl
                            clear hk hl
                            by_cases hkl : k = l
                            · subst hkl
                              have HT2 : Hid (xis.take (j + 1) = yis.take (j + 1)) := by
                                show _ = _
                                rw [List.take_add_one, List.take_add_one, HKX.out, HLX.out, HT.out]
                              go_wp2
                              go_quiet (fail)
                              go_wp2
                              go_roundg g3
                              case rel => exact ⟨j + 1, by omega, by first | rfl | (simp; done), Lib.hid (HN.out.calm (below_drewN _ _)), HT2⟩
                              case measure => omega
                            · have hkb : (k == l) = false := by simpa using hkl
                              have hkc : (k != l) = true := by simpa using hkl
                              have E : K = false := by
                                rw [HK.out]
                                exact sameb_no HX.out HY.out (fun h => ne_at HKX.out HLX.out hkl (zi_eq.1 h).2.2.2.2)
                              subst E
                              go_wp2
                              go_quiet (fail)
                              go_wp2
                              go_ret
                              exact ⟨rfl, below_trans HN.out.sd.bl (below_drewN _ _)⟩
                          | zero =>
                            obtain rfl : n2 = j := by omega
                            have HIE : Hid (xis = yis) := by
                              show _ = _
                              have h1 := HT.out
                              rwa [List.take_of_length_le (by have := HN2.out; omega), List.take_of_length_le (by have := HN4.out; omega)] at h1
                            have HI2 : Hid ((xs.map SH.zi).take (i + 1) = (ys.map SH.zi).take (i + 1)) := by
                              show _ = _
                              rw [List.take_add_one, List.take_add_one, List.getElem?_map, List.getElem?_map, HX.out, HY.out, HI.out]
                              rw [Option.map_some, Option.map_some, show SH.zi ⟨xk, xl, xt, xq, xks, xis⟩ = SH.zi ⟨xk, yl, xt, xq, yks, yis⟩ from zi_eq.2 ⟨rfl, rfl, rfl, HKE.out, HIE.out⟩]
                            go_wp2
                            go_roundg g
                            case rel => exact ⟨i + 1, by omega, by first | rfl | (simp; done), Lib.hid HN.out.sd, HI2⟩
                            case measure => omega
                  · have hb : ((n2 : Int) == (n4 : Int)) = false := by simp; omega
                    have hb2 : (n2 == n4) = false := by simpa using hn2
                    have hb3 : ((n2 : Int) != (n4 : Int)) = true := by simp; omega
                    have E : K = false := by
                      rw [HK.out]
                      exact sameb_no HX.out HY.out (fun h => hn2 ((HN2.out.symm.trans (congrArg List.length (zi_eq.1 h).2.2.2.2)).trans HN4.out))
                    subst E
                    go_wp2
                    go_ret
                    exact ⟨rfl, HN.out.sd.bl⟩
                · have hb : ((n1 : Int) == (n3 : Int)) = false := by simp; omega
                  have hb2 : (n1 == n3) = false := by simpa using hn1
                  have hb3 : ((n1 : Int) != (n3 : Int)) = true := by simp; omega
                  have E : K = false := by
                    rw [HK.out]
                    exact sameb_no HX.out HY.out (fun h => hn1 ((HN1.out.symm.trans (congrArg List.length (zi_eq.1 h).2.2.2.1)).trans HN3.out))
                  subst E
                  go_wp2
                  go_ret
                  exact ⟨rfl, HN.out.sd.bl⟩
              · have hb : (xq == yq) = false := by simpa using hq
                have hb3 : (xq != yq) = true := by simpa using hq
                have E : K = false := by
                  rw [HK.out]
                  exact sameb_no HX.out HY.out (fun h => hq (zi_eq.1 h).2.2.1)
                subst E
                go_wp2
                go_ret
                exact ⟨rfl, HN.out.sd.bl⟩
            · have hb : (xt == yt) = false := by simpa using ht
              have hb3 : (xt != yt) = true := by simpa using ht
              have E : K = false := by
                rw [HK.out]
                exact sameb_no HX.out HY.out (fun h => ht (zi_eq.1 h).2.1)
              subst E
              go_wp2
              go_ret
              exact ⟨rfl, HN.out.sd.bl⟩
          · have hb : (xk == yk) = false := by simpa using hk
            have hb3 : (xk != yk) = true := by simpa using hk
            have E : K = false := by
              rw [HK.out]
              exact sameb_no HX.out HY.out (fun h => hk (zi_eq.1 h).1)
            subst E
            go_wp2
            go_ret
            exact ⟨rfl, HN.out.sd.bl⟩
  · have E : K = false := by
      rw [HK.out]
      refine decide_eq_false fun he => ?_
      have := congrArg List.length he
      rw [List.length_map, List.length_map] at this
      exact hne (by omega)
    have b0 : ((n : Int) == (m : Int)) = false := by simp; omega
    have b2 : (n == m) = false := by simpa using hne
    have b1 : ¬ (n : Int) = (m : Int) := by omega
    subst E
    clear hL hM hne
    go_enter Tryz.func12, Tryz.ntmps12
    go_wp2
    go_ret
    exact ⟨rfl, HS0.out.bl⟩
end Go.Proofs.YtmgalfdiiegjjaaGreatDoor
