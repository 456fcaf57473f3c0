/- Several texts in one. -/
import Derived.Test.YtmgalfdiiegjjaaDoorSeg43
import Derived.Test.YtmgalfdiiegjjaaDoorShW5
import Derived.Test.YtmgalfdiiegjjaaDoorSeg35
import Derived.Test.YtmgalfdiiegjjaaDoorSeg03
import Derived.ProofKit
import Derived.Shelf.Vars
namespace Go.Proofs.YtmgalfdiiegjjaaDoor
open Go.RowKit

theorem zi_eq {x y : SH.Ni} : SH.zi x = SH.zi y ↔ x.kind = y.kind ∧ x.text = y.text ∧ x.quoted = y.quoted ∧ x.keys = y.keys ∧ x.kids = y.kids := by
  unfold SH.zi
  simp
/-- A node's cells. -/
abbrev ncv (x : SH.Ni) (va vi : Value) : Array Value := #[.int .i64 x.kind, .int .i64 x.line, .string ⟨x.text.toArray⟩, .bool x.quoted, va, vi]
/-- The kids' cells of two boxes, later. -/
theorem SaN0 (w : World) (a b : Array Value) : ∀ u, Below ((w.alloc (.cells a 37)).alloc (.cells b 37)).heap.size ((w.alloc (.cells a 37)).alloc (.cells b 37)) u → u.cell? ⟨w.heap.size, 5, none⟩ = a[5]? ∧ u.cell? ⟨w.heap.size + 1, 5, none⟩ = b[5]? := by
  intro u hu
  have s1 := (Str.new w 37 a).below (below_alloc _ (.cells b 37))
  have s2 := Str.new (w.alloc (.cells a 37)) 37 b
  rw [bx_size] at s2
  exact ⟨(s1.below hu).cell 5, (s2.below hu).cell 5⟩
set_option maxRecDepth 10000 in
set_option maxHeartbeats 16000000 in
theorem sameNode_any (x y : SH.Ni) (va vi vb vj : Value) (w : World) (hxa : Rdv w va (sv x.keys)) (hxi : Rdv w vi (ints x.kids)) (hya : Rdv w vb (sv y.keys)) (hyi : Rdv w vj (ints y.kids)) :
    Calls Tryd.prog 19 #[.agg #[.int .i64 x.kind, .int .i64 x.line, .string ⟨x.text.toArray⟩, .bool x.quoted, va, vi], .agg #[.int .i64 y.kind, .int .i64 y.line, .string ⟨y.text.toArray⟩, .bool y.quoted, vb, vj]] w fun e w' => e = .returned (.bool (decide (SH.zi x = SH.zi y))) ∧ Below w.heap.size w w' := by
  obtain ⟨K, HK⟩ : ∃ K, Hid (K = decide (SH.zi x = SH.zi y)) := ⟨_, Lib.hid rfl⟩
  rw [← HK.out]
  obtain ⟨ka, kc, rfl⟩ := hxa.slice
  obtain ⟨ia, ic, rfl⟩ := hxi.slice
  obtain ⟨kb, kd, rfl⟩ := hya.slice
  obtain ⟨ja, jc, rfl⟩ := hyi.slice
  obtain ⟨xk, xl, xt, xq, xks, xis⟩ := x
  obtain ⟨yk, yl, yt, yq, yks, yis⟩ := y
  simp only at hxa hxi hya hyi ⊢
  have HBX : Hid (∀ a b : Array Value, Below w.heap.size w ((w.alloc (.cells a 37)).alloc (.cells b 37))) := fun a b => below_trans (below_alloc _ _) (below_alloc _ _)
  have HEK := Lib.hid (fun (u : World) (hu : Below w.heap.size w u) => eqs_any _ _ xks yks u (hxa.below hu) (hya.below hu))
  have HEI := Lib.hid (fun (u : World) (hu : Below w.heap.size w u) => eqi_any _ _ xis yis u (hxi.below hu) (hyi.below hu))
  obtain ⟨n1, h1⟩ : ∃ n, (sv xks).length = n := ⟨_, rfl⟩
  obtain ⟨n2, h2⟩ : ∃ n, (ints xis).length = n := ⟨_, rfl⟩
  obtain ⟨n3, h3⟩ : ∃ n, (sv yks).length = n := ⟨_, rfl⟩
  obtain ⟨n4, h4⟩ : ∃ n, (ints yis).length = n := ⟨_, rfl⟩
  rw [h1, h3] at HEK
  rw [h2, h4] at HEI
  rw [h1, h2, h3, h4]
  clear hxa hxi hya hyi h1 h2 h3 h4
  have HF := Lib.hid (SaN0 w #[.int .i64 xk, .int .i64 xl, .string ⟨xt.toArray⟩, .bool xq, .slice ka n1 kc, .slice ia n2 ic] #[.int .i64 yk, .int .i64 yl, .string ⟨yt.toArray⟩, .bool yq, .slice kb n3 kd, .slice ja n4 jc])
  by_cases hk : xk = yk
  · subst hk
    by_cases ht : xt = yt
    · subst ht
      by_cases hq : xq = yq
      · subst hq
        by_cases hkk : xks = yks
        · rw [decide_eq_true hkk] at HEK
          have E : K = decide (xis = yis) := by
            rw [HK.out]
            refine decide_eq_decide.2 (zi_eq.trans ⟨fun h => h.2.2.2.2, fun h => ⟨rfl, rfl, rfl, hkk, h⟩⟩)
          rw [← E] at HEI
          clear hkk E
          cases xq
          all_goals
            go_enter Tryd.func19, Tryd.ntmps19
            go_wp2_with (first
              | (go_at_call 28; refine (HEI.out _ B1.out).mono ?_; rintro e w2 ⟨rfl, b2⟩; have B2 := Lib.hid (below_trans B1.out b2); clear b2)
              | (go_at_call 27; refine (HEK.out _ (HBX.out _ _)).mono ?_; rintro e w1 ⟨rfl, b1⟩; have B1 := Lib.hid (below_trans (HBX.out _ _) b1); obtain ⟨f5, g5⟩ := HF.out _ b1; simp only [List.getElem?_toArray, List.getElem?_cons_zero, List.getElem?_cons_succ] at f5 g5; clear b1))
            go_ret
            exact ⟨rfl, B2.out⟩
        · rw [decide_eq_false hkk] at HEK
          have E : K = false := by
            rw [HK.out]
            exact decide_eq_false (fun h => hkk (zi_eq.1 h).2.2.2.1)
          subst E
          clear hkk
          cases xq
          all_goals
            go_enter Tryd.func19, Tryd.ntmps19
            go_wp2_with (go_at_call 27; refine (HEK.out _ (HBX.out _ _)).mono ?_; rintro e w1 ⟨rfl, b1⟩; have B1 := Lib.hid (below_trans (HBX.out _ _) b1); clear b1)
            go_ret
            exact ⟨rfl, B1.out⟩
      · have E : K = false := by
          rw [HK.out]
          exact decide_eq_false (fun h => hq (zi_eq.1 h).2.2.1)
        subst E
        have hqb : (xq == yq) = false := by simpa using hq
        go_enter Tryd.func19, Tryd.ntmps19
        go_wp2
        go_ret
        exact ⟨rfl, HBX.out _ _⟩
    · have E : K = false := by
        rw [HK.out]
        exact decide_eq_false (fun h => ht (zi_eq.1 h).2.1)
      subst E
      have htb : (xt == yt) = false := by simpa using ht
      go_enter Tryd.func19, Tryd.ntmps19
      go_wp2
      go_ret
      exact ⟨rfl, HBX.out _ _⟩
  · have E : K = false := by
      rw [HK.out]
      exact decide_eq_false (fun h => hk (zi_eq.1 h).1)
    subst E
    have hkb : (xk == yk) = false := by simpa using hk
    go_enter Tryd.func19, Tryd.ntmps19
    go_wp2
    go_ret
    exact ⟨rfl, HBX.out _ _⟩
end Go.Proofs.YtmgalfdiiegjjaaDoor

/- Walks of slices.EqualFunc at nodes and of show.Same. -/
namespace Go.Proofs.YtmgalfdiiegjjaaDoor
open Go.RowKit

/-- A node of a slice, in a later world. -/
theorem Rdi.at' {w wx : World} {ao : Option Addr} {n cap : Nat} {ns : List SH.Ni} (h : Rdi w (.slice ao n cap) ns) (hb : Below w.heap.size w wx) {j : Nat} {x : SH.Ni} (hx : ns[j]? = some x) :
    ∃ b off ka kc ia ic, ao = some ⟨b, off, none⟩ ∧ At6i wx b (off + j * 6) (x, .slice ka x.keys.length kc, .slice ia x.kids.length ic) ∧ Rdv wx (.slice ka x.keys.length kc) (sv x.keys) ∧ Rdv wx (.slice ia x.kids.length ic) (ints x.kids) := by
  obtain ⟨b, off, cap2, ka, kc, ia, ic, hv, c6, k1, k2⟩ := (h.below hb).at hx
  simp only [Value.slice.injEq] at hv
  exact ⟨b, off, ka, kc, ia, ic, hv.1, c6, k1, k2⟩
set_option maxRecDepth 10000 in
set_option maxHeartbeats 16000000 in
theorem eqn_any (va vb : Value) (xs ys : List SH.Ni) (w : World) (ha : Rdi w va xs) (hb : Rdi w vb ys) :
    Calls Tryd.prog 18 #[va, vb, .func (.func 19) #[] #[]] w fun e w' => e = .returned (.bool (SH.sameb xs ys)) ∧ Below w.heap.size w w' := by
  obtain ⟨ao, cap, rfl, hla⟩ := ha.slice
  obtain ⟨bo, cap', rfl, hlb⟩ := hb.slice
  unfold maxLen at hla hlb
  obtain ⟨L, hL⟩ : ∃ L, xs.length = L := ⟨_, rfl⟩
  obtain ⟨M, hM⟩ : ∃ M, ys.length = M := ⟨_, rfl⟩
  have HL := Lib.hid hL
  have HM := Lib.hid hM
  rw [hL] at ha hla
  rw [hM] at hb hlb
  rw [hL, hM]
  have HA := Lib.hid ha
  have HB := Lib.hid hb
  obtain ⟨K, HK⟩ : ∃ K, Hid (K = SH.sameb xs ys) := ⟨_, Lib.hid rfl⟩
  rw [← HK.out]
  have hLi : (L : Int) ≤ 9223372036854775807 := by omega
  have hMi : (M : Int) ≤ 9223372036854775807 := by omega
  clear ha hb hla hlb
  by_cases hne : L = M
  · subst hne
    clear hL hM hMi
    have HW0 : Hid (Below w.heap.size w w) := Lib.hid (Below.refl _ _)
    go_enter Tryd.func18, Tryd.ntmps18
    go_wp2
    go_loopg [17] L (fun g s17 wx => ∃ k : Nat, k + g = L ∧ s17 = .int .i64 (k : Int) ∧ Hid (Below w.heap.size w wx) ∧ Hid ((xs.map SH.zi).take k = (ys.map SH.zi).take k))
    case atStart => exact ⟨0, by omega, rfl, HW0, Lib.hid (by simp)⟩
    case round =>
      clear HW0
      obtain ⟨k, hk, rfl, HW, HI⟩ := hrel
      cases gk with
      | zero =>
        obtain rfl : k = L := by omega
        have E : K = true := by
          rw [HK.out]
          refine decide_eq_true ?_
          have h1 := HI.out; have h2 := HL.out; have h3 := HM.out
          rwa [List.take_of_length_le (by rw [List.length_map]; omega), List.take_of_length_le (by rw [List.length_map]; omega)] at h1
        subst E
        go_wp2
        go_ret
        exact ⟨rfl, HW.out⟩
      | succ g =>
        have g0 : (k : Int) < (L : Int) := by omega
        have g1 : (0 : Int) ≤ (k : Int) := by omega
        obtain ⟨x, hx⟩ : ∃ x, xs[k]? = some x := ⟨xs[k]'(by have := HL.out; omega), List.getElem?_eq_getElem _⟩
        obtain ⟨y, hy⟩ : ∃ y, ys[k]? = some y := ⟨ys[k]'(by have := HM.out; omega), List.getElem?_eq_getElem _⟩
        obtain ⟨b1, o1, ka, kc, ia, ic, rfl, c1, r1, r2⟩ := HA.out.at' HW.out hx
        obtain ⟨b2, o2, kb, kd, ja, jc, rfl, c2, r3, r4⟩ := HB.out.at' HW.out hy
        have HX := Lib.hid hx
        have HY := Lib.hid hy
        have HSN := Lib.hid (fun (u : World) (hu : Below wr.heap.size wr u) => sameNode_any x y _ _ _ _ u (r1.below hu) (r2.below hu) (r3.below hu) (r4.below hu))
        obtain ⟨D, hD⟩ : ∃ D, decide (SH.zi x = SH.zi y) = D := ⟨_, rfl⟩
        rw [hD] at HSN
        have HD := Lib.hid hD
        obtain ⟨n1, h1⟩ : ∃ n, x.keys.length = n := ⟨_, rfl⟩
        obtain ⟨n2, h2⟩ : ∃ n, x.kids.length = n := ⟨_, rfl⟩
        obtain ⟨n3, h3⟩ : ∃ n, y.keys.length = n := ⟨_, rfl⟩
        obtain ⟨n4, h4⟩ : ∃ n, y.kids.length = n := ⟨_, rfl⟩
        rw [h1, h2] at c1 HSN
        rw [h3, h4] at c2 HSN
        clear h1 h2 h3 h4 r1 r2 r3 r4 hx hy hD
        obtain ⟨xk, xl, xt, xq, xks, xis⟩ := x
        obtain ⟨yk, yl, yt, yq, yks, yis⟩ := y
        simp only at c1 c2 HSN
        obtain ⟨d0, d1, d2, d3, d4, d5⟩ := c1
        have HBB : Hid (∀ a b : Array Value, Below wr.heap.size wr ((wr.alloc (.cells a 37)).alloc (.cells b 37))) := fun a b => below_trans (below_alloc _ _) (below_alloc _ _)
        obtain ⟨f0, f1, f2, f3, f4, f5⟩ := c2.below (below_alloc wr (.cells #[.int .i64 xk, .int .i64 xl, .string ⟨xt.toArray⟩, .bool xq, .slice ka n1 kc, .slice ia n2 ic] 37))
        simp only at d0 d1 d2 d3 d4 d5 f0 f1 f2 f3 f4 f5
        clear c2
        cases D with
        | true =>
          have HI2 : Hid ((xs.map SH.zi).take (k + 1) = (ys.map SH.zi).take (k + 1)) := by
            show _ = _
            rw [List.take_add_one, List.take_add_one, List.getElem?_map, List.getElem?_map, HX.out, HY.out, HI.out]
            rw [Option.map_some, Option.map_some, of_decide_eq_true HD.out]
          go_wp2_with (go_at_call 19; refine (HSN.out _ (HBB.out _ _)).mono ?_; rintro e w2 ⟨rfl, b2⟩; have B2 := Lib.hid (below_trans HW.out (below_trans (HBB.out _ _) b2)); clear b2)
          go_roundg g
          case rel => exact ⟨k + 1, by omega, by first | rfl | (simp; done), B2, HI2⟩
          case measure => omega
        | false =>
          have E : K = false := by
            rw [HK.out]
            refine decide_eq_false fun he => ?_
            have h1 := congrArg (fun l => l[k]?) he
            simp only [List.getElem?_map, HX.out, HY.out, Option.map_some, Option.some.injEq] at h1
            exact of_decide_eq_false HD.out h1
          subst E
          go_wp2_with (go_at_call 19; refine (HSN.out _ (HBB.out _ _)).mono ?_; rintro e w2 ⟨rfl, b2⟩; have B2 := Lib.hid (below_trans HW.out (below_trans (HBB.out _ _) b2)); clear b2)
          go_ret
          exact ⟨rfl, B2.out⟩
  · have E : K = false := by
      rw [HK.out]
      refine decide_eq_false fun he => ?_
      have := congrArg List.length he
      rw [List.length_map, List.length_map] at this
      exact hne (by omega)
    have b0 : ((L : Int) == (M : Int)) = false := by simp; omega
    have b2 : (L == M) = false := by simpa using hne
    have b1 : ¬ (L : Int) = (M : Int) := by omega
    subst E
    clear hL hM hne
    go_enter Tryd.func18, Tryd.ntmps18
    go_wp2
    go_ret
    exact ⟨rfl, Below.refl _ _⟩
set_option maxRecDepth 10000 in
set_option maxHeartbeats 8000000 in
theorem shsame_any (va vb : Value) (xs ys : List SH.Ni) (w : World) (ha : Rdi w va xs) (hb : Rdi w vb ys) :
    Calls Tryd.prog 12 #[.agg #[va], .agg #[vb]] w fun e w' => e = .returned (.bool (SH.sameb xs ys)) ∧ Below w.heap.size w w' := by
  have b1 := below_alloc w (.cells #[va] 24)
  have b2 := below_alloc (w.alloc (.cells #[va] 24)) (.cells #[vb] 24)
  have HB := Lib.hid (below_trans b1 b2)
  have HE := Lib.hid (eqn_any va vb xs ys _ (ha.below HB.out) (hb.below HB.out))
  obtain ⟨ao, cap, rfl, -⟩ := ha.slice
  obtain ⟨bo, cap', rfl, -⟩ := hb.slice
  obtain ⟨L, hL⟩ : ∃ L, xs.length = L := ⟨_, rfl⟩
  obtain ⟨M, hM⟩ : ∃ M, ys.length = M := ⟨_, rfl⟩
  rw [hL, hM] at HE HB ⊢
  clear ha hb b1 b2 hL hM
  go_enter Tryd.func12, Tryd.ntmps12
  go_wp2_with (go_at_call 18; refine HE.out.mono ?_; rintro e w2 ⟨rfl, b2⟩; have B2 := Lib.hid (below_trans HB.out b2); clear b2)
  go_ret
  exact ⟨rfl, B2.out⟩
end Go.Proofs.YtmgalfdiiegjjaaDoor

/- What the start lays of the library's greatest length. -/
namespace Go.Proofs.YtmgalfdiiegjjaaDoor
open Go.RowKit

theorem MaxIs.shaped {w : World} (h : w.ShapedOpen Tryd.prog) : MaxIs w := cell_of_shapedOpen_int (zero := #[.int .i64 0]) (t := 3) h (of_decide_eq_true (by kernel_rfl)) (by kernel_rfl) rfl (by kernel_rfl) (by kernel_rfl) Tryd.underlying3
end Go.Proofs.YtmgalfdiiegjjaaDoor
