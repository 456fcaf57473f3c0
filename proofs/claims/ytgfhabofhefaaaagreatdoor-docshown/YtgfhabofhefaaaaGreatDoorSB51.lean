/- A part of the proof. -/
import Derived.Test.YtgfhabofhefaaaaGreatDoorSB50
import Derived.Test.YtgfhabofhefaaaaGreatDoorSB36
import Derived.Test.YtgfhabofhefaaaaGreatDoorSB19
import Derived.BigQuiet
import Derived.Deep.LoopGhost
import Derived.Test.YtgfhabofhefaaaaGreatDoorSB03
import Derived.Deep.DeepCutAuto
import Derived.Deep.CutBlock
import Derived.Test.YtgfhabofhefaaaaGreatDoorSB48
import Derived.Test.YtgfhabofhefaaaaGreatDoorSB46
import Derived.Test.YtgfhabofhefaaaaGreatDoorSB37
namespace Go.Proofs.YtgfhabofhefaaaaGreatDoor
open Go.RowKit
theorem tsize_pos (t : SH.Tr) : 1 ≤ SH.sizeT t := by cases t <;> simp [SH.sizeT]
theorem sw_all : ∀ s, SwC s := by
  intro s
  induction s with
  | zero =>
    intro t ns n c w0 wa w vd v bs hs
    have := tsize_pos t
    omega
  | succ s ih =>
    intro t ns n c w0 wa w vd v bs hs hr ha h hln hl hc
    cases t with
    | text S q =>
      rw [SH.showT] at hl ⊢
      exact tshow_text ns n c w0 wa w vd v bs S q hr ha h hln (by omega)
    | list k =>
      rw [SH.showT] at hl ⊢
      rw [SH.sizeT] at hs hc
      exact tshow_list ih k (by omega) ns n c w0 wa w vd v bs hr ha h hln hl (by omega)
    | map k =>
      rw [SH.showT] at hl ⊢
      rw [SH.sizeT] at hs hc
      exact tshow_map ih k (by omega) ns n c w0 wa w vd v bs hr ha h hln hl (by omega)
def RxE (w : World) (code : Int) (T : List UInt8) (e : Ending) (w' : World) : Prop := ∃ v, e = .returned (.tuple #[v, .int .i64 code]) ∧ Rdv w' v (bv T) ∧ Below w.heap.size w w'
set_option maxRecDepth 10000 in
set_option maxHeartbeats 16000000 in
theorem shrtext_any (v : Value) (ns : List SH.Ni) (code : Int) (T : List UInt8) (w : World) (hr : Rdi w v ns) (hl : Lens ns) (ht : SH.Tx ns code T) :
    Calls Tryz.prog 8 #[.agg #[v]] w (RxE w code T) := by
  obtain ⟨ao, cap, rfl, hlm⟩ := hr.slice
  have B0 := below_alloc w (.cells #[.slice ao ns.length cap] 26)
  have HB0 := Lib.hid B0
  have HS0 := Lib.hid (Str.new w 26 #[.slice ao ns.length cap])
  have HC := Lib.hid (rcheck_any _ ns _ (hr.below B0) hl)
  have HR := Lib.hid hr
  have e0 := HS0.out.cell 0
  simp only [List.getElem?_toArray, List.getElem?_cons_zero] at e0
  rcases ht with ⟨hk, rfl, rfl⟩ | ⟨hk, t, ho, ht⟩
  · rw [hk] at HC
    clear hr hl hk hlm B0
    obtain ⟨L, hL⟩ : ∃ L, ns.length = L := ⟨_, rfl⟩
    rw [hL] at HC HS0 HB0 HR e0 ⊢
    clear hL
    go_enter Tryz.func8, Tryz.ntmps8
    go_wp2_with (go_at_call 24; refine HC.out.mono ?_; rintro e w2 ⟨rfl, b2⟩; have B2 := Lib.hid (below_trans HB0.out b2); clear b2)
    go_ret2
    exact ⟨_, rfl, Rdv.nil _, B2.out⟩
  · rw [hk] at HC
    have HO := Lib.hid ho
    have HT := Lib.hid ht
    clear hr hl hk hlm B0 ho ht
    have HBW := Lib.hid (fun (w1 : World) (h1 : Rdi w1 (.slice ao ns.length cap) ns) => sw_all (SH.sizeT t) t ns 0 0 w1 w1 w1 (.slice ao ns.length cap) (.slice none 0 0) [] (Nat.le_refl _) h1 HO.out.at ⟨Below.refl _ _, Ku.refl _, Own.nil _ _ _⟩ (fun x hx => ⟨by have := (HO.out.lens x hx).1; omega, fun k hk => by have := (HO.out.lens x hx).2.1 k hk; omega⟩) (by have := HO.out.len; simp only [List.length_nil]; omega) (by have := HO.out.size; omega))
    rw [List.nil_append] at HBW
    obtain ⟨L, hL⟩ : ∃ L, ns.length = L := ⟨_, rfl⟩
    rw [hL] at HC HS0 HB0 HR HBW e0 ⊢
    clear hL
    obtain ⟨R, hR⟩ : ∃ R, SH.showT t 0 = R := ⟨_, rfl⟩
    rw [hR] at HBW HT
    rw [show ((0 : Nat) : Int) = 0 from rfl] at HBW
    have hRl : R.length ≤ 40000000 := by rw [← hR]; exact HO.out.len
    clear hR
    go_enter Tryz.func8, Tryz.ntmps8
    go_upto_region 3 with (go_at_call 24; refine HC.out.mono ?_; rintro e w2 ⟨rfl, b2⟩)
    have B2 := Lib.hid (below_trans HB0.out b2)
    have HX := Lib.hid (HBW.out w2 (HR.out.below B2.out))
    have f0 : w2.cell? ⟨w.heap.size, 0, none⟩ = some (.slice ao L cap) := (HS0.out.below b2).cell 0
    clear b2 e0
    rcases HT.out with ⟨h6, rfl, rfl⟩ | ⟨h6, rfl, rfl⟩
    · obtain ⟨m, hm⟩ : ∃ m, R.length = m := ⟨_, rfl⟩
      rw [hm] at h6 hRl
      have h6i : (60000 : Int) < (m : Int) := by omega
      have HM := Lib.hid hm
      clear hm
      go_wp2_with (go_at_call 28; refine HX.out.mono ?_; rintro e w3 ⟨a3, n3, c3, rfl, s3⟩; obtain ⟨ao3, cp3, hv3, -⟩ := s3.own.rd; rw [bv_len, HM.out] at hv3; simp only [Value.slice.injEq] at hv3; obtain ⟨-, hn3, -⟩ := hv3; subst hn3; have S3 := Lib.hid s3; clear s3)
      go_ret2
      exact ⟨_, rfl, Rdv.nil _, below_trans B2.out S3.out.bl⟩
    · obtain ⟨m, hm⟩ : ∃ m, T.length = m := ⟨_, rfl⟩
      rw [hm] at h6 hRl
      have h6i : ¬ (60000 : Int) < (m : Int) := by omega
      have HM := Lib.hid hm
      clear hm
      go_wp2_with (go_at_call 28; refine HX.out.mono ?_; rintro e w3 ⟨a3, n3, c3, rfl, s3⟩; obtain ⟨ao3, cp3, hv3, -⟩ := s3.own.rd; rw [bv_len, HM.out] at hv3; simp only [Value.slice.injEq] at hv3; obtain ⟨-, hn3, -⟩ := hv3; subst hn3; have S3 := Lib.hid s3; clear s3)
      go_ret2
      exact ⟨_, rfl, S3.out.own.rd, below_trans B2.out S3.out.bl⟩
end Go.Proofs.YtgfhabofhefaaaaGreatDoor
namespace Go.Proofs.YtgfhabofhefaaaaGreatDoor
open Go.RowKit
end Go.Proofs.YtgfhabofhefaaaaGreatDoor
namespace Go.Proofs.YtgfhabofhefaaaaGreatDoor
open Go.RowKit
theorem zi_eq {x y : SH.Ni} : SH.zi x = SH.zi y ↔ x.kind = y.kind ∧ x.text = y.text ∧ x.quoted = y.quoted ∧ x.keys = y.keys ∧ x.kids = y.kids := by
  unfold SH.zi
  simp
end Go.Proofs.YtgfhabofhefaaaaGreatDoor
namespace Go.Proofs.YtgfhabofhefaaaaGreatDoor
open Go.RowKit
theorem Rdi.at' {w wx : World} {ao : Option Addr} {n cap : Nat} {ns : List SH.Ni} (h : Rdi w (.slice ao n cap) ns) (hb : Below w.heap.size w wx) {j : Nat} {x : SH.Ni} (hx : ns[j]? = some x) :
    ∃ b off ka kc ia ic, ao = some ⟨b, off, none⟩ ∧ At6i wx b (off + j * 6) (x, .slice ka x.keys.length kc, .slice ia x.kids.length ic) ∧ Rdv wx (.slice ka x.keys.length kc) (sv x.keys) ∧ Rdv wx (.slice ia x.kids.length ic) (ints x.kids) := by
  obtain ⟨b, off, cap2, ka, kc, ia, ic, hv, c6, k1, k2⟩ := (h.below hb).at hx
  simp only [Value.slice.injEq] at hv
  exact ⟨b, off, ka, kc, ia, ic, hv.1, c6, k1, k2⟩
end Go.Proofs.YtgfhabofhefaaaaGreatDoor
namespace Go.Proofs.YtgfhabofhefaaaaGreatDoor
open Go.RowKit
structure Sb (w wx : World) (v v' : Value) : Prop where
  bl : Below w.heap.size w wx
  d0 : Str wx w.heap.size 26 #[v]
  d1 : Str wx (w.heap.size + 1) 26 #[v']
theorem Sb.calm {w wx w' : World} {v v' : Value} (h : Sb w wx v v') (hb : Below wx.heap.size wx w') : Sb w w' v v' := ⟨below_trans h.bl hb, h.d0.below hb, h.d1.below hb⟩
theorem Sb.start (w : World) (v v' : Value) : Sb w ((w.alloc (.cells #[v] 26)).alloc (.cells #[v'] 26)) v v' := by
  have b1 := below_alloc w (.cells #[v] 26)
  have b2 := below_alloc (w.alloc (.cells #[v] 26)) (.cells #[v'] 26)
  have s2 := Str.new (w.alloc (.cells #[v] 26)) 26 #[v']
  rw [bx_size] at s2
  exact ⟨below_trans b1 b2, (Str.new w 26 #[v]).below b2, s2⟩
structure Sn (w wx : World) (v v' : Value) (a b : Nat) (x y : Array Value) : Prop where
  sd : Sb w wx v v'
  na : Str wx a 48 x
  nb : Str wx b 48 y
theorem Sn.calm {w wx w' : World} {v v' : Value} {a b : Nat} {x y : Array Value} (h : Sn w wx v v' a b x y) (hb : Below wx.heap.size wx w') : Sn w w' v v' a b x y := ⟨h.sd.calm hb, h.na.below hb, h.nb.below hb⟩
theorem Sb.two {w wr : World} {v v' : Value} (h : Sb w wr v v') (x y : Array Value) : Sn w (((wr.alloc (.cells x 48)).alloc (.cells y 48)).drew) v v' wr.heap.size (wr.heap.size + 1) x y ∧ Sn w (((wr.alloc (.cells y 48)).alloc (.cells x 48)).drew) v v' (wr.heap.size + 1) wr.heap.size x y := by
  have key : ∀ a b : Array Value, Sb w (((wr.alloc (.cells a 48)).alloc (.cells b 48)).drew) v v' ∧ Str (((wr.alloc (.cells a 48)).alloc (.cells b 48)).drew) wr.heap.size 48 a ∧ Str (((wr.alloc (.cells a 48)).alloc (.cells b 48)).drew) (wr.heap.size + 1) 48 b := fun a b => by
    have b1 := below_alloc wr (.cells a 48)
    have b2 := below_alloc (wr.alloc (.cells a 48)) (.cells b 48)
    have s2 := (Str.new (wr.alloc (.cells a 48)) 48 b).below (below_drew _)
    rw [bx_size] at s2
    exact ⟨h.calm (below_trans (below_trans b1 b2) (below_drew _)), ((Str.new wr 48 a).below b2).below (below_drew _), s2⟩
  exact ⟨⟨(key x y).1, (key x y).2.1, (key x y).2.2⟩, ⟨(key y x).1, (key y x).2.2, (key y x).2.1⟩⟩
theorem ne_at {α : Type} {xs ys : List α} {j : Nat} {k l : α} (h1 : xs[j]? = some k) (h2 : ys[j]? = some l) (h : k ≠ l) : xs ≠ ys := by
  rintro rfl
  exact h (Option.some.inj (h1.symm.trans h2))
theorem sameb_no {xs ys : List SH.Ni} {k : Nat} {x y : SH.Ni} (hx : xs[k]? = some x) (hy : ys[k]? = some y) (h : SH.zi x ≠ SH.zi y) : SH.sameb xs ys = false := by
  refine decide_eq_false fun he => h ?_
  have h1 := congrArg (fun l => l[k]?) he
  simp only [List.getElem?_map, hx, hy, Option.map_some, Option.some.injEq] at h1
  exact h1
set_option maxRecDepth 10000 in
set_option maxHeartbeats 32000000 in
theorem shrsame_any (va vb : Value) (xs ys : List SH.Ni) (w : World) (h1 : Rdi w va xs) (h2 : Rdi w vb ys) :
    Calls Tryz.prog 10 #[.agg #[va], .agg #[vb]] w fun e w' => e = .returned (.bool (SH.sameb xs ys)) ∧ Below w.heap.size w w' := by
  obtain ⟨ao, cap, rfl, hla⟩ := h1.slice
  obtain ⟨bo, cap', rfl, hlb⟩ := h2.slice
  unfold maxLen at hla hlb
  obtain ⟨n, hL⟩ : ∃ L, xs.length = L := ⟨_, rfl⟩
  obtain ⟨m, hM⟩ : ∃ M, ys.length = M := ⟨_, rfl⟩
  have HNV := Lib.hid hL
  have HNU := Lib.hid hM
  rw [hL] at h1 hla
  rw [hM] at h2 hlb
  rw [hL, hM]
  have HA := Lib.hid h1
  have HB := Lib.hid h2
  obtain ⟨K, HK⟩ : ∃ K, Hid (K = SH.sameb xs ys) := ⟨_, Lib.hid rfl⟩
  rw [← HK.out]
  have hni : (n : Int) ≤ 9223372036854775807 := by omega
  have hmi : (m : Int) ≤ 9223372036854775807 := by omega
  have HS0 := Lib.hid (Sb.start w (.slice ao n cap) (.slice bo m cap'))
  have g0 := HS0.out.d0.cell 0
  have g1 := HS0.out.d1.cell 0
  simp only [List.getElem?_toArray, List.getElem?_cons_zero] at g0 g1
  clear h1 h2 hla hlb
  by_cases hne : n = m
  · subst hne
    clear hL hM hmi
    go_enter Tryz.func10, Tryz.ntmps10
    go_wp2
    generalize World.alloc (World.alloc _ _) _ = w2 at *
    clear g0 g1
    go_loopg [5] n (fun g s5 wx => ∃ (i : Nat), i + g = n ∧ s5 = .int .i64 (i : Int) ∧ Hid (Sb w wx (.slice ao n cap) (.slice bo n cap')) ∧ Hid ((xs.map SH.zi).take i = (ys.map SH.zi).take i))
    case atStart => exact ⟨0, by omega, rfl, HS0, Lib.hid (by simp)⟩
    case round =>
      clear HS0
      obtain ⟨i, hi, rfl, HS, HI⟩ := hrel
      have g0 : wr.cell? ⟨w.heap.size, 0, none⟩ = some (.slice ao n cap) := HS.out.d0.cell 0
      have g1 : wr.cell? ⟨w.heap.size + 1, 0, none⟩ = some (.slice bo n cap') := HS.out.d1.cell 0
      cases gk with
      | zero =>
        obtain rfl : i = n := by omega
        have E : K = true := by
          rw [HK.out]
          refine decide_eq_true ?_
          have h1 := HI.out; have h2 := HNV.out; have h3 := HNU.out
          rwa [List.take_of_length_le (by rw [List.length_map]; omega), List.take_of_length_le (by rw [List.length_map]; omega)] at h1
        subst E
        go_wp2
        go_ret
        exact ⟨rfl, HS.out.bl⟩
      | succ g =>
        have hin : (i : Int) < (n : Int) := by omega
        have hi0 : (0 : Int) ≤ (i : Int) := by omega
        obtain ⟨x, hx⟩ : ∃ x, xs[i]? = some x := ⟨xs[i]'(by have := HNV.out; omega), List.getElem?_eq_getElem _⟩
        obtain ⟨y, hy⟩ : ∃ y, ys[i]? = some y := ⟨ys[i]'(by have := HNU.out; omega), List.getElem?_eq_getElem _⟩
        obtain ⟨ba, oa, kaq, kcq, iaq, icq, rfl, ca, -, -⟩ := HA.out.at' HS.out.bl hx
        obtain ⟨bb, ob, kbq, kdq, jaq, jcq, rfl, cb, -, -⟩ := HB.out.at' HS.out.bl hy
        obtain ⟨bq, oq, ka, kc, ia, ic, eq, caq, r1, r2⟩ := HA.out.at' (Below.refl _ w) hx
        obtain ⟨br, or', kb, kd, ja, jc, er, cbq, r3, r4⟩ := HB.out.at' (Below.refl _ w) hy
        simp only [Option.some.injEq, Addr.mk.injEq, and_true] at eq er
        obtain ⟨rfl, rfl⟩ := eq
        obtain ⟨rfl, rfl⟩ := er
        have k1 := (caq.below HS.out.bl).c4.symm.trans ca.c4
        have k2 := (caq.below HS.out.bl).c5.symm.trans ca.c5
        have k3 := (cbq.below HS.out.bl).c4.symm.trans cb.c4
        have k4 := (cbq.below HS.out.bl).c5.symm.trans cb.c5
        simp only [Option.some.injEq, Value.slice.injEq] at k1 k2 k3 k4
        obtain ⟨rfl, -, rfl⟩ := k1
        obtain ⟨rfl, -, rfl⟩ := k2
        obtain ⟨rfl, -, rfl⟩ := k3
        obtain ⟨rfl, -, rfl⟩ := k4
        clear caq cbq
        have HX := Lib.hid hx
        have HY := Lib.hid hy
        obtain ⟨n1, h1⟩ : ∃ n, x.keys.length = n := ⟨_, rfl⟩
        obtain ⟨n2, h2⟩ : ∃ n, x.kids.length = n := ⟨_, rfl⟩
        obtain ⟨n3, h3⟩ : ∃ n, y.keys.length = n := ⟨_, rfl⟩
        obtain ⟨n4, h4⟩ : ∃ n, y.kids.length = n := ⟨_, rfl⟩
        have l1 := r1.len_le
        have l2 := r2.len_le
        rw [sv_len, h1] at l1
        rw [ints_len, h2] at l2
        unfold maxLen at l1 l2
        have l1i : (n1 : Int) ≤ 9223372036854775807 := by omega
        have l2i : (n2 : Int) ≤ 9223372036854775807 := by omega
        rw [h1] at ca r1
        rw [h2] at ca r2
        rw [h3] at cb r3
        rw [h4] at cb r4
        have HR1 := Lib.hid r1
        have HR2 := Lib.hid r2
        have HR3 := Lib.hid r3
        have HR4 := Lib.hid r4
        have HN1 := Lib.hid h1
        have HN2 := Lib.hid h2
        have HN3 := Lib.hid h3
        have HN4 := Lib.hid h4
        clear h1 h2 h3 h4 r1 r2 r3 r4 hx hy l1 l2
        obtain ⟨xk, xl, xt, xq, xks, xis⟩ := x
        obtain ⟨yk, yl, yt, yq, yks, yis⟩ := y
        simp only at ca cb HR1 HR2 HR3 HR4 HN1 HN2 HN3 HN4
        obtain ⟨a0, a1, a2, a3, a4, a5⟩ := ca
        obtain ⟨b0, b1, b2, b3, b4, b5⟩ := cb
        simp only at a0 a1 a2 a3 a4 a5 b0 b1 b2 b3 b4 b5
        go_upto_region 6 with fail
        go_cut [6, 7] (fun s6 s7 wx => ∃ (a b : Nat), s6 = .pointer (some ⟨a, 0, none⟩) ∧ s7 = .pointer (some ⟨b, 0, none⟩) ∧ Hid (Sn w wx (.slice (some ⟨ba, oa, none⟩) n cap) (.slice (some ⟨bb, ob, none⟩) n cap') a b #[.int .i64 xk, .int .i64 xl, .string ⟨xt.toArray⟩, .bool xq, .slice ka n1 kc, .slice ia n2 ic] #[.int .i64 yk, .int .i64 yl, .string ⟨yt.toArray⟩, .bool yq, .slice kb n3 kd, .slice ja n4 jc]))
        case first =>
          have A_a0 := fun o => ((below_alloc wr o).cell (cell_lt a0)).trans a0
          have B_a0 := fun o o' => ((below_trans (below_alloc wr o) (below_alloc _ o')).cell (cell_lt a0)).trans a0
          have A_a1 := fun o => ((below_alloc wr o).cell (cell_lt a1)).trans a1
          have B_a1 := fun o o' => ((below_trans (below_alloc wr o) (below_alloc _ o')).cell (cell_lt a1)).trans a1
          have A_a2 := fun o => ((below_alloc wr o).cell (cell_lt a2)).trans a2
          have B_a2 := fun o o' => ((below_trans (below_alloc wr o) (below_alloc _ o')).cell (cell_lt a2)).trans a2
          have A_a3 := fun o => ((below_alloc wr o).cell (cell_lt a3)).trans a3
          have B_a3 := fun o o' => ((below_trans (below_alloc wr o) (below_alloc _ o')).cell (cell_lt a3)).trans a3
          have A_a4 := fun o => ((below_alloc wr o).cell (cell_lt a4)).trans a4
          have B_a4 := fun o o' => ((below_trans (below_alloc wr o) (below_alloc _ o')).cell (cell_lt a4)).trans a4
          have A_a5 := fun o => ((below_alloc wr o).cell (cell_lt a5)).trans a5
          have B_a5 := fun o o' => ((below_trans (below_alloc wr o) (below_alloc _ o')).cell (cell_lt a5)).trans a5
          have A_b0 := fun o => ((below_alloc wr o).cell (cell_lt b0)).trans b0
          have B_b0 := fun o o' => ((below_trans (below_alloc wr o) (below_alloc _ o')).cell (cell_lt b0)).trans b0
          have A_b1 := fun o => ((below_alloc wr o).cell (cell_lt b1)).trans b1
          have B_b1 := fun o o' => ((below_trans (below_alloc wr o) (below_alloc _ o')).cell (cell_lt b1)).trans b1
          have A_b2 := fun o => ((below_alloc wr o).cell (cell_lt b2)).trans b2
          have B_b2 := fun o o' => ((below_trans (below_alloc wr o) (below_alloc _ o')).cell (cell_lt b2)).trans b2
          have A_b3 := fun o => ((below_alloc wr o).cell (cell_lt b3)).trans b3
          have B_b3 := fun o o' => ((below_trans (below_alloc wr o) (below_alloc _ o')).cell (cell_lt b3)).trans b3
          have A_b4 := fun o => ((below_alloc wr o).cell (cell_lt b4)).trans b4
          have B_b4 := fun o o' => ((below_trans (below_alloc wr o) (below_alloc _ o')).cell (cell_lt b4)).trans b4
          have A_b5 := fun o => ((below_alloc wr o).cell (cell_lt b5)).trans b5
          have B_b5 := fun o o' => ((below_trans (below_alloc wr o) (below_alloc _ o')).cell (cell_lt b5)).trans b5
          have A_g0 := fun o => ((below_alloc wr o).cell (cell_lt g0)).trans g0
          have B_g0 := fun o o' => ((below_trans (below_alloc wr o) (below_alloc _ o')).cell (cell_lt g0)).trans g0
          have A_g1 := fun o => ((below_alloc wr o).cell (cell_lt g1)).trans g1
          have B_g1 := fun o o' => ((below_trans (below_alloc wr o) (below_alloc _ o')).cell (cell_lt g1)).trans g1
          have HT := Lib.hid (HS.out.two #[.int .i64 xk, .int .i64 xl, .string ⟨xt.toArray⟩, .bool xq, .slice ka n1 kc, .slice ia n2 ic] #[.int .i64 yk, .int .i64 yl, .string ⟨yt.toArray⟩, .bool yq, .slice kb n3 kd, .slice ja n4 jc])
          go_region
          · go_wp2_with fail
            go_meet
            exact ⟨_, _, rfl, rfl, HT.out.1⟩
          · go_wp2_with fail
            go_meet
            exact ⟨_, _, rfl, rfl, HT.out.2⟩
        case rest =>
          obtain ⟨a, b, rfl, rfl, HN⟩ := hcut
          clear HS a0 a1 a2 a3 a4 a5 b0 b1 b2 b3 b4 b5 g0 g1
          have a0 : wc.cell? ⟨a, 0, none⟩ = some (.int .i64 xk) := HN.out.na.cell 0
          have a2 : wc.cell? ⟨a, 2, none⟩ = some (.string ⟨xt.toArray⟩) := HN.out.na.cell 2
          have a3 : wc.cell? ⟨a, 3, none⟩ = some (.bool xq) := HN.out.na.cell 3
          have a4 : wc.cell? ⟨a, 4, none⟩ = some (.slice ka n1 kc) := HN.out.na.cell 4
          have a5 : wc.cell? ⟨a, 5, none⟩ = some (.slice ia n2 ic) := HN.out.na.cell 5
          have b0 : wc.cell? ⟨b, 0, none⟩ = some (.int .i64 yk) := HN.out.nb.cell 0
          have b2 : wc.cell? ⟨b, 2, none⟩ = some (.string ⟨yt.toArray⟩) := HN.out.nb.cell 2
          have b3 : wc.cell? ⟨b, 3, none⟩ = some (.bool yq) := HN.out.nb.cell 3
          have b4 : wc.cell? ⟨b, 4, none⟩ = some (.slice kb n3 kd) := HN.out.nb.cell 4
          have b5 : wc.cell? ⟨b, 5, none⟩ = some (.slice ja n4 jc) := HN.out.nb.cell 5
          by_cases hk : xk = yk
          · subst hk
            by_cases ht : xt = yt
            · subst ht
              by_cases hq : xq = yq
              · subst hq
                by_cases hn1 : n1 = n3
                · subst hn1
                  by_cases hn2 : n2 = n4
                  · subst hn2
                    go_wp2
                    go_loopg [8] n1 (fun g s8 wx => ∃ (j : Nat), j + g = n1 ∧ s8 = .int .i64 (j : Int) ∧ Hid (Sn w wx (.slice (some ⟨ba, oa, none⟩) n cap) (.slice (some ⟨bb, ob, none⟩) n cap') a b #[.int .i64 xk, .int .i64 xl, .string ⟨xt.toArray⟩, .bool xq, .slice ka n1 kc, .slice ia n2 ic] #[.int .i64 xk, .int .i64 yl, .string ⟨xt.toArray⟩, .bool xq, .slice kb n1 kd, .slice ja n2 jc]) ∧ Hid (xks.take j = yks.take j))
                    case atStart => exact ⟨0, by omega, rfl, HN, Lib.hid (by simp)⟩
                    case round =>
                      clear HN a0 a2 a3 a4 a5 b0 b2 b3 b4 b5
                      obtain ⟨j, hj, rfl, HN, HT⟩ := hrel
                      have a4 : wr.cell? ⟨a, 4, none⟩ = some (.slice ka n1 kc) := HN.out.na.cell 4
                      have b4 : wr.cell? ⟨b, 4, none⟩ = some (.slice kb n1 kd) := HN.out.nb.cell 4
                      cases gk with
                      | succ g2 =>
                        have hjn : (j : Int) < (n1 : Int) := by omega
                        have hj0 : (0 : Int) ≤ (j : Int) := by omega
                        obtain ⟨k, hk⟩ : ∃ k, xks[j]? = some k := ⟨xks[j]'(by have := HN1.out; omega), List.getElem?_eq_getElem _⟩
                        obtain ⟨l, hl⟩ : ∃ l, yks[j]? = some l := ⟨yks[j]'(by have := HN3.out; omega), List.getElem?_eq_getElem _⟩
                        obtain ⟨p1, o1, c1, e1, f1⟩ := (HR1.out.below HN.out.sd.bl).atv (j := j) (u := .string ⟨k.toArray⟩) (by simp [sv, hk])
                        obtain ⟨p2, o2, c2, e2, f2⟩ := (HR3.out.below HN.out.sd.bl).atv (j := j) (u := .string ⟨l.toArray⟩) (by simp [sv, hl])
                        simp only [Value.slice.injEq] at e1 e2
                        obtain ⟨rfl, -, -⟩ := e1
                        obtain ⟨rfl, -, -⟩ := e2
                        have HKX := Lib.hid hk
                        have HLX := Lib.hid hl
                        clear hk hl
                        by_cases hkl : k = l
                        · subst hkl
                          have HT2 : Hid (xks.take (j + 1) = yks.take (j + 1)) := by
                            show _ = _
                            rw [List.take_add_one, List.take_add_one, HKX.out, HLX.out, HT.out]
                          go_wp2
                          go_quiet (fail)
                          go_wp2
                          go_roundg g2
                          case rel => exact ⟨j + 1, by omega, by first | rfl | (simp; done), Lib.hid (HN.out.calm (below_drewN _ _)), HT2⟩
                          case measure => omega
                        · have hkb : (k == l) = false := by simpa using hkl
                          have hkc : (k != l) = true := by simpa using hkl
                          have E : K = false := by
                            rw [HK.out]
                            exact sameb_no HX.out HY.out (fun h => ne_at HKX.out HLX.out hkl (zi_eq.1 h).2.2.2.1)
                          subst E
                          go_wp2
                          go_quiet (fail)
                          go_wp2
                          go_ret
                          exact ⟨rfl, below_trans HN.out.sd.bl (below_drewN _ _)⟩
                      | zero =>
                        obtain rfl : n1 = j := by omega
                        have HKE : Hid (xks = yks) := by
                          show _ = _
                          have h1 := HT.out
                          rwa [List.take_of_length_le (by have := HN1.out; omega), List.take_of_length_le (by have := HN3.out; omega)] at h1
                        go_wp2
                        go_loopg [9] n2 (fun g s9 wx => ∃ (j : Nat), j + g = n2 ∧ s9 = .int .i64 (j : Int) ∧ Hid (Sn w wx (.slice (some ⟨ba, oa, none⟩) n cap) (.slice (some ⟨bb, ob, none⟩) n cap') a b #[.int .i64 xk, .int .i64 xl, .string ⟨xt.toArray⟩, .bool xq, .slice ka n1 kc, .slice ia n2 ic] #[.int .i64 xk, .int .i64 yl, .string ⟨xt.toArray⟩, .bool xq, .slice kb n1 kd, .slice ja n2 jc]) ∧ Hid (xis.take j = yis.take j))
                        case atStart => exact ⟨0, by omega, rfl, HN, Lib.hid (by simp)⟩
                        case round =>
                          clear HN a4 b4
                          obtain ⟨j, hj, rfl, HN, HT⟩ := hrel
                          have a5 : wr.cell? ⟨a, 5, none⟩ = some (.slice ia n2 ic) := HN.out.na.cell 5
                          have b5 : wr.cell? ⟨b, 5, none⟩ = some (.slice ja n2 jc) := HN.out.nb.cell 5
                          cases gk with
                          | succ g3 =>
                            have hjn : (j : Int) < (n2 : Int) := by omega
                            have hj0 : (0 : Int) ≤ (j : Int) := by omega
                            obtain ⟨k, hk⟩ : ∃ k, xis[j]? = some k := ⟨xis[j]'(by have := HN2.out; omega), List.getElem?_eq_getElem _⟩
                            obtain ⟨l, hl⟩ : ∃ l, yis[j]? = some l := ⟨yis[j]'(by have := HN4.out; omega), List.getElem?_eq_getElem _⟩
                            obtain ⟨p1, o1, c1, e1, f1⟩ := (HR2.out.below HN.out.sd.bl).atv (j := j) (u := .int .i64 k) (by simp [ints, hk])
                            obtain ⟨p2, o2, c2, e2, f2⟩ := (HR4.out.below HN.out.sd.bl).atv (j := j) (u := .int .i64 l) (by simp [ints, hl])
                            simp only [Value.slice.injEq] at e1 e2
                            obtain ⟨rfl, -, -⟩ := e1
                            obtain ⟨rfl, -, -⟩ := e2
                            have HKX := Lib.hid hk
                            have HLX := Lib.hid hl
                            clear hk hl
                            by_cases hkl : k = l
                            · subst hkl
                              have HT2 : Hid (xis.take (j + 1) = yis.take (j + 1)) := by
                                show _ = _
                                rw [List.take_add_one, List.take_add_one, HKX.out, HLX.out, HT.out]
                              go_wp2
                              go_quiet (fail)
                              go_wp2
                              go_roundg g3
                              case rel => exact ⟨j + 1, by omega, by first | rfl | (simp; done), Lib.hid (HN.out.calm (below_drewN _ _)), HT2⟩
                              case measure => omega
                            · have hkb : (k == l) = false := by simpa using hkl
                              have hkc : (k != l) = true := by simpa using hkl
                              have E : K = false := by
                                rw [HK.out]
                                exact sameb_no HX.out HY.out (fun h => ne_at HKX.out HLX.out hkl (zi_eq.1 h).2.2.2.2)
                              subst E
                              go_wp2
                              go_quiet (fail)
                              go_wp2
                              go_ret
                              exact ⟨rfl, below_trans HN.out.sd.bl (below_drewN _ _)⟩
                          | zero =>
                            obtain rfl : n2 = j := by omega
                            have HIE : Hid (xis = yis) := by
                              show _ = _
                              have h1 := HT.out
                              rwa [List.take_of_length_le (by have := HN2.out; omega), List.take_of_length_le (by have := HN4.out; omega)] at h1
                            have HI2 : Hid ((xs.map SH.zi).take (i + 1) = (ys.map SH.zi).take (i + 1)) := by
                              show _ = _
                              rw [List.take_add_one, List.take_add_one, List.getElem?_map, List.getElem?_map, HX.out, HY.out, HI.out]
                              rw [Option.map_some, Option.map_some, show SH.zi ⟨xk, xl, xt, xq, xks, xis⟩ = SH.zi ⟨xk, yl, xt, xq, yks, yis⟩ from zi_eq.2 ⟨rfl, rfl, rfl, HKE.out, HIE.out⟩]
                            go_wp2
                            go_roundg g
                            case rel => exact ⟨i + 1, by omega, by first | rfl | (simp; done), Lib.hid HN.out.sd, HI2⟩
                            case measure => omega
                  · have hb : ((n2 : Int) == (n4 : Int)) = false := by simp; omega
                    have hb2 : (n2 == n4) = false := by simpa using hn2
                    have hb3 : ((n2 : Int) != (n4 : Int)) = true := by simp; omega
                    have E : K = false := by
                      rw [HK.out]
                      exact sameb_no HX.out HY.out (fun h => hn2 ((HN2.out.symm.trans (congrArg List.length (zi_eq.1 h).2.2.2.2)).trans HN4.out))
                    subst E
                    go_wp2
                    go_ret
                    exact ⟨rfl, HN.out.sd.bl⟩
                · have hb : ((n1 : Int) == (n3 : Int)) = false := by simp; omega
                  have hb2 : (n1 == n3) = false := by simpa using hn1
                  have hb3 : ((n1 : Int) != (n3 : Int)) = true := by simp; omega
                  have E : K = false := by
                    rw [HK.out]
                    exact sameb_no HX.out HY.out (fun h => hn1 ((HN1.out.symm.trans (congrArg List.length (zi_eq.1 h).2.2.2.1)).trans HN3.out))
                  subst E
                  go_wp2
                  go_ret
                  exact ⟨rfl, HN.out.sd.bl⟩
              · have hb : (xq == yq) = false := by simpa using hq
                have hb3 : (xq != yq) = true := by simpa using hq
                have E : K = false := by
                  rw [HK.out]
                  exact sameb_no HX.out HY.out (fun h => hq (zi_eq.1 h).2.2.1)
                subst E
                go_wp2
                go_ret
                exact ⟨rfl, HN.out.sd.bl⟩
            · have hb : (xt == yt) = false := by simpa using ht
              have hb3 : (xt != yt) = true := by simpa using ht
              have E : K = false := by
                rw [HK.out]
                exact sameb_no HX.out HY.out (fun h => ht (zi_eq.1 h).2.1)
              subst E
              go_wp2
              go_ret
              exact ⟨rfl, HN.out.sd.bl⟩
          · have hb : (xk == yk) = false := by simpa using hk
            have hb3 : (xk != yk) = true := by simpa using hk
            have E : K = false := by
              rw [HK.out]
              exact sameb_no HX.out HY.out (fun h => hk (zi_eq.1 h).1)
            subst E
            go_wp2
            go_ret
            exact ⟨rfl, HN.out.sd.bl⟩
  · have E : K = false := by
      rw [HK.out]
      refine decide_eq_false fun he => ?_
      have := congrArg List.length he
      rw [List.length_map, List.length_map] at this
      exact hne (by omega)
    have b0 : ((n : Int) == (m : Int)) = false := by simp; omega
    have b2 : (n == m) = false := by simpa using hne
    have b1 : ¬ (n : Int) = (m : Int) := by omega
    subst E
    clear hL hM hne
    go_enter Tryz.func10, Tryz.ntmps10
    go_wp2
    go_ret
    exact ⟨rfl, HS0.out.bl⟩
end Go.Proofs.YtgfhabofhefaaaaGreatDoor
namespace Go.Proofs.YtgfhabofhefaaaaGreatDoor
open Go.RowKit
set_option maxRecDepth 10000 in
set_option maxHeartbeats 32000000 in
theorem docShown_walk (v : Value) (zs : List Int) (w : World) (hr : Rdv w v (iv .i64 zs)) (_hz : ∀ z ∈ zs, (Lit.int .i64 z).wf = true) (hm : MaxIs w) :
    Calls Tryz.prog 3 #[v] w fun e w' => e = .returned (.bool true) ∧ Below w.heap.size w w' := by
  have hq1 := eq_fault 0 0
  have hg2 := fault_guard
  rw [iv_ints] at hr
  have HM := Lib.hid hm
  have HAW := Lib.hid (fun (u : World) (hu : Below w.heap.size w u) => awake12 u (hm.below hu))
  have HCG := Lib.hid (mconfig_any v zs w hr)
  obtain ⟨ao, cap, rfl⟩ := hr.slice
  have hlm := hr.len_le
  unfold maxLen at hlm
  rw [ints_len] at HCG hlm ⊢
  obtain ⟨L, hL⟩ : ∃ L, zs.length = L := ⟨_, rfl⟩
  rw [hL] at HCG hlm ⊢
  clear hm hr
  go_enter Tryz.func3, Tryz.ntmps3
  by_cases h3 : 300 < L
  · have h3i : (300 : Int) < (L : Int) := by omega
    clear HCG hL hlm
    go_wp2_with (go_at_call 5; refine (HAW.out _ (Below.refl _ _)).mono ?_; rintro e w9 ⟨rfl, b9⟩; have B9 := Lib.hid b9; clear b9)
    go_ret
    exact ⟨rfl, B9.out⟩
  have h3i : ¬ (300 : Int) < (L : Int) := by omega
  clear h3 hlm hL
  go_upto_region 4 with (first
    | (go_at_call 6; refine HDC.out.mono ?_; rintro e w2 ⟨b2, ao1, NX, cp1, xs, k, rfl, hnx, r2, hk⟩; have N2 := Lib.hid (below_trans B1.out b2); clear b2)
    | (go_at_call 7; refine HCG.out.mono ?_; rintro e w1 ⟨b1, c, vd, vb, rfl, hd, hb, hmad⟩; have HDC := Lib.hid (made_doc hd hb hmad); have B1 := Lib.hid b1; clear b1 hd hb hmad))
  have b3 := below_alloc w2 (.cells #[.slice ao1 NX cp1] 26)
  have B3 := Lib.hid (below_trans N2.out b3)
  have R3 := Lib.hid (r2.below b3)
  have c1 : (w2.alloc (.cells #[.slice ao1 NX cp1] 26)).cell? ⟨w2.heap.size, 0, none⟩ = some (.slice ao1 NX cp1) := (Str.new w2 26 #[.slice ao1 NX cp1]).cell 0
  clear b3 r2 HDC HCG B1 N2 hnx
  generalize w2.alloc (.cells #[.slice ao1 NX cp1] 26) = W2 at *
  rcases hk with ⟨rfl, rfl⟩ | ⟨rfl, hck, t, hOf, hlen⟩
  · obtain ⟨code, T, ht⟩ := SH.tx_some []
    have HT := Lib.hid (shrtext_any _ [] code T W2 R3.out (by intro x hx; cases hx) ht)
    clear ht
    go_wp2_with (first
      | (go_at_call 5; refine (HAW.out _ (below_trans B3.out N4.out)).mono ?_; rintro e w9 ⟨rfl, b9⟩; have B9 := Lib.hid (below_trans (below_trans B3.out N4.out) b9); clear b9)
      | (go_at_call 8; refine HT.out.mono ?_; rintro e w3 ⟨v3, rfl, r3, b4⟩; obtain ⟨ao3, cp3, rfl, -⟩ := r3; have N4 := Lib.hid b4; clear b4))
    go_ret
    exact ⟨rfl, B9.out⟩
  have HOF := Lib.hid hOf
  have hL2 := up_lens hOf
  obtain ⟨T, hT⟩ : ∃ T, SH.showT t 0 = T := ⟨_, rfl⟩
  have HTX : SH.Tx xs 0 T := .inr ⟨hck, t, hOf, .inr ⟨hlen, rfl, hT.symm⟩⟩
  have HT := Lib.hid (shrtext_any _ xs 0 T W2 R3.out hL2.one HTX)
  have HTT := Lib.hid hT
  obtain ⟨m, hmm⟩ : ∃ m, T.length = m := ⟨_, rfl⟩
  have HMM := Lib.hid hmm
  clear hck hOf hlen hL2 hT HTX hmm
  by_cases h16 : 16384 < m
  · have h16i : (16384 : Int) < (m : Int) := by omega
    go_wp2_with (first
      | (go_at_call 5; refine (HAW.out _ (below_trans B3.out N4.out)).mono ?_; rintro e w9 ⟨rfl, b9⟩; have B9 := Lib.hid (below_trans (below_trans B3.out N4.out) b9); clear b9)
      | (go_at_call 8; refine HT.out.mono ?_; rintro e w3 ⟨v3, rfl, r3, b4⟩; obtain ⟨ao3, cp3, hv3, -⟩ := r3; rw [bv_len, HMM.out] at hv3; subst hv3; have N4 := Lib.hid b4; clear b4))
    go_ret
    exact ⟨rfl, B9.out⟩
  · have h16i : ¬ (16384 : Int) < (m : Int) := by omega
    obtain ⟨ms, hp1, hp2⟩ := SH.parse_shown ⟨HOF.out.ok, HOF.out.god, HOF.out.dep, HOF.out.size, HOF.out.eq⟩ (by rw [HTT.out, HMM.out]; omega)
    rw [HTT.out] at hp1
    have HSB : Hid (SH.sameb (ms.map SH.up) xs = true) := decide_eq_true hp2
    have HPA : Hid (∀ (u : World) (v : Value), Rdv u v (bv T) → MaxIs u → Calls Tryz.prog 9 #[v] u fun e w' => ∃ v2, e = .returned (.tuple #[.agg #[v2], .agg #[.int .i64 0, .int .i64 0]]) ∧ Rdi w' v2 (ms.map SH.up) ∧ Below u.heap.size u w') := fun u v hr hu => by
      refine (parse_any v T u hr hu).mono ?_
      rintro e w' ⟨hb, v2, rfl, hd⟩
      rw [hp1] at hd ⊢
      exact ⟨v2, rfl, hd.rdi, hb⟩
    obtain ⟨NM, hNM⟩ : ∃ NM, (ms.map SH.up).length = NM := ⟨_, rfl⟩
    have HNM := Lib.hid hNM
    clear hp1 hp2 hNM
    go_upto_region 8 with (first
      | (go_at_call 9; refine (HPA.out _ _ R4.out (HM.out.below (below_trans B3.out N4.out))).mono ?_; rintro e w5 ⟨v5, rfl, r5, b5⟩; obtain ⟨ao5, cp5, hv5, -⟩ := r5.slice; rw [HNM.out] at hv5; subst hv5)
      | (go_at_call 8; refine HT.out.mono ?_; rintro e w3 ⟨v3, rfl, r3, b4⟩; have R4 := Lib.hid r3; obtain ⟨ao3, cp3, hv3, -⟩ := r3; rw [bv_len, HMM.out] at hv3; subst hv3; have N4 := Lib.hid b4; clear b4))
    obtain ⟨s6, s7, b6⟩ := two_docs w5 (.slice ao5 NM cp5) (.int .i64 0) (.int .i64 0)
    have N6 := Lib.hid (below_trans (below_trans N4.out b5) b6)
    have R6 := Lib.hid (r5.below b6)
    have c5 := s6.cell 0
    have c6 := s7.cell 0
    have c7 := s7.cell 1
    simp only [List.getElem?_toArray, List.getElem?_cons_zero, List.getElem?_cons_succ] at c5 c6 c7
    have p6 := (N6.out.cell (cell_lt c1)).trans c1
    clear b5 b6 r5 s6 s7
    generalize World.alloc (World.alloc _ _) _ = W6 at *
    have HSM := Lib.hid (shrsame_any _ _ (ms.map SH.up) xs _ R6.out (R3.out.below N6.out))
    rw [HSB.out] at HSM
    go_wp2_with (first
      | (go_at_call 5; refine (HAW.out _ (below_trans B3.out N8.out)).mono ?_; rintro e w9 ⟨rfl, b9⟩; have B9 := Lib.hid (below_trans (below_trans B3.out N8.out) b9); clear b9)
      | (go_at_call 10; refine HSM.out.mono ?_; rintro e w8 ⟨rfl, b8⟩; have N8 := Lib.hid (below_trans N6.out b8); clear b8))
    go_ret
    exact ⟨rfl, B9.out⟩
end Go.Proofs.YtgfhabofhefaaaaGreatDoor
