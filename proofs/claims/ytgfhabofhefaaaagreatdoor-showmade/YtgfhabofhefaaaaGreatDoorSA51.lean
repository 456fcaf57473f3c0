/- A part of the proof. -/
import Derived.Test.YtgfhabofhefaaaaGreatDoorSA50
import Derived.Test.YtgfhabofhefaaaaGreatDoorSA20
import Derived.Test.YtgfhabofhefaaaaGreatDoorSA03
import Derived.Test.YtgfhabofhefaaaaGreatDoorSA09
import Derived.ProofKit
import Derived.Shelf.Vars
import Derived.Test.YtgfhabofhefaaaaGreatDoorSA40
import Derived.Deep.CutBlock
import Derived.Deep.DeepCutAuto
import Derived.Test.YtgfhabofhefaaaaGreatDoorSA36
namespace Go.Proofs.YtgfhabofhefaaaaGreatDoor
open Go.RowKit
theorem zi_eq {x y : SH.Ni} : SH.zi x = SH.zi y ↔ x.kind = y.kind ∧ x.text = y.text ∧ x.quoted = y.quoted ∧ x.keys = y.keys ∧ x.kids = y.kids := by
  unfold SH.zi
  simp
theorem SaN0 (w : World) (a b : Array Value) : ∀ u, Below ((w.alloc (.cells a 48)).alloc (.cells b 48)).heap.size ((w.alloc (.cells a 48)).alloc (.cells b 48)) u → u.cell? ⟨w.heap.size, 5, none⟩ = a[5]? ∧ u.cell? ⟨w.heap.size + 1, 5, none⟩ = b[5]? := by
  intro u hu
  have s1 := (Str.new w 48 a).below (below_alloc _ (.cells b 48))
  have s2 := Str.new (w.alloc (.cells a 48)) 48 b
  rw [bx_size] at s2
  exact ⟨(s1.below hu).cell 5, (s2.below hu).cell 5⟩
set_option maxRecDepth 10000 in
set_option maxHeartbeats 16000000 in
theorem sameNode_any (x y : SH.Ni) (va vi vb vj : Value) (w : World) (hxa : Rdv w va (sv x.keys)) (hxi : Rdv w vi (ints x.kids)) (hya : Rdv w vb (sv y.keys)) (hyi : Rdv w vj (ints y.kids)) :
    Calls Tryz.prog 37 #[.agg #[.int .i64 x.kind, .int .i64 x.line, .string ⟨x.text.toArray⟩, .bool x.quoted, va, vi], .agg #[.int .i64 y.kind, .int .i64 y.line, .string ⟨y.text.toArray⟩, .bool y.quoted, vb, vj]] w fun e w' => e = .returned (.bool (decide (SH.zi x = SH.zi y))) ∧ Below w.heap.size w w' := by
  obtain ⟨K, HK⟩ : ∃ K, Hid (K = decide (SH.zi x = SH.zi y)) := ⟨_, Lib.hid rfl⟩
  rw [← HK.out]
  obtain ⟨ka, kc, rfl⟩ := hxa.slice
  obtain ⟨ia, ic, rfl⟩ := hxi.slice
  obtain ⟨kb, kd, rfl⟩ := hya.slice
  obtain ⟨ja, jc, rfl⟩ := hyi.slice
  obtain ⟨xk, xl, xt, xq, xks, xis⟩ := x
  obtain ⟨yk, yl, yt, yq, yks, yis⟩ := y
  simp only at hxa hxi hya hyi ⊢
  have HBX : Hid (∀ a b : Array Value, Below w.heap.size w ((w.alloc (.cells a 48)).alloc (.cells b 48))) := fun a b => below_trans (below_alloc _ _) (below_alloc _ _)
  have HEK := Lib.hid (fun (u : World) (hu : Below w.heap.size w u) => eqs_any _ _ xks yks u (hxa.below hu) (hya.below hu))
  have HEI := Lib.hid (fun (u : World) (hu : Below w.heap.size w u) => eqi_any _ _ xis yis u (hxi.below hu) (hyi.below hu))
  obtain ⟨n1, h1⟩ : ∃ n, (sv xks).length = n := ⟨_, rfl⟩
  obtain ⟨n2, h2⟩ : ∃ n, (ints xis).length = n := ⟨_, rfl⟩
  obtain ⟨n3, h3⟩ : ∃ n, (sv yks).length = n := ⟨_, rfl⟩
  obtain ⟨n4, h4⟩ : ∃ n, (ints yis).length = n := ⟨_, rfl⟩
  rw [h1, h3] at HEK
  rw [h2, h4] at HEI
  rw [h1, h2, h3, h4]
  clear hxa hxi hya hyi h1 h2 h3 h4
  have HF := Lib.hid (SaN0 w #[.int .i64 xk, .int .i64 xl, .string ⟨xt.toArray⟩, .bool xq, .slice ka n1 kc, .slice ia n2 ic] #[.int .i64 yk, .int .i64 yl, .string ⟨yt.toArray⟩, .bool yq, .slice kb n3 kd, .slice ja n4 jc])
  by_cases hk : xk = yk
  · subst hk
    by_cases ht : xt = yt
    · subst ht
      by_cases hq : xq = yq
      · subst hq
        by_cases hkk : xks = yks
        · rw [decide_eq_true hkk] at HEK
          have E : K = decide (xis = yis) := by
            rw [HK.out]
            refine decide_eq_decide.2 (zi_eq.trans ⟨fun h => h.2.2.2.2, fun h => ⟨rfl, rfl, rfl, hkk, h⟩⟩)
          rw [← E] at HEI
          clear hkk E
          cases xq
          all_goals
            go_enter Tryz.func37, Tryz.ntmps37
            go_wp2_with (first
              | (go_at_call 66; refine (HEI.out _ B1.out).mono ?_; rintro e w2 ⟨rfl, b2⟩; have B2 := Lib.hid (below_trans B1.out b2); clear b2)
              | (go_at_call 65; refine (HEK.out _ (HBX.out _ _)).mono ?_; rintro e w1 ⟨rfl, b1⟩; have B1 := Lib.hid (below_trans (HBX.out _ _) b1); obtain ⟨f5, g5⟩ := HF.out _ b1; simp only [List.getElem?_toArray, List.getElem?_cons_zero, List.getElem?_cons_succ] at f5 g5; clear b1))
            go_ret
            exact ⟨rfl, B2.out⟩
        · rw [decide_eq_false hkk] at HEK
          have E : K = false := by
            rw [HK.out]
            exact decide_eq_false (fun h => hkk (zi_eq.1 h).2.2.2.1)
          subst E
          clear hkk
          cases xq
          all_goals
            go_enter Tryz.func37, Tryz.ntmps37
            go_wp2_with (go_at_call 65; refine (HEK.out _ (HBX.out _ _)).mono ?_; rintro e w1 ⟨rfl, b1⟩; have B1 := Lib.hid (below_trans (HBX.out _ _) b1); clear b1)
            go_ret
            exact ⟨rfl, B1.out⟩
      · have E : K = false := by
          rw [HK.out]
          exact decide_eq_false (fun h => hq (zi_eq.1 h).2.2.1)
        subst E
        have hqb : (xq == yq) = false := by simpa using hq
        go_enter Tryz.func37, Tryz.ntmps37
        go_wp2
        go_ret
        exact ⟨rfl, HBX.out _ _⟩
    · have E : K = false := by
        rw [HK.out]
        exact decide_eq_false (fun h => ht (zi_eq.1 h).2.1)
      subst E
      have htb : (xt == yt) = false := by simpa using ht
      go_enter Tryz.func37, Tryz.ntmps37
      go_wp2
      go_ret
      exact ⟨rfl, HBX.out _ _⟩
  · have E : K = false := by
      rw [HK.out]
      exact decide_eq_false (fun h => hk (zi_eq.1 h).1)
    subst E
    have hkb : (xk == yk) = false := by simpa using hk
    go_enter Tryz.func37, Tryz.ntmps37
    go_wp2
    go_ret
    exact ⟨rfl, HBX.out _ _⟩
end Go.Proofs.YtgfhabofhefaaaaGreatDoor
namespace Go.Proofs.YtgfhabofhefaaaaGreatDoor
open Go.RowKit
theorem Rdi.at' {w wx : World} {ao : Option Addr} {n cap : Nat} {ns : List SH.Ni} (h : Rdi w (.slice ao n cap) ns) (hb : Below w.heap.size w wx) {j : Nat} {x : SH.Ni} (hx : ns[j]? = some x) :
    ∃ b off ka kc ia ic, ao = some ⟨b, off, none⟩ ∧ At6i wx b (off + j * 6) (x, .slice ka x.keys.length kc, .slice ia x.kids.length ic) ∧ Rdv wx (.slice ka x.keys.length kc) (sv x.keys) ∧ Rdv wx (.slice ia x.kids.length ic) (ints x.kids) := by
  obtain ⟨b, off, cap2, ka, kc, ia, ic, hv, c6, k1, k2⟩ := (h.below hb).at hx
  simp only [Value.slice.injEq] at hv
  exact ⟨b, off, ka, kc, ia, ic, hv.1, c6, k1, k2⟩
set_option maxRecDepth 10000 in
set_option maxHeartbeats 16000000 in
theorem eqn_any (va vb : Value) (xs ys : List SH.Ni) (w : World) (ha : Rdi w va xs) (hb : Rdi w vb ys) :
    Calls Tryz.prog 36 #[va, vb, .func (.func 37) #[] #[]] w fun e w' => e = .returned (.bool (SH.sameb xs ys)) ∧ Below w.heap.size w w' := by
  obtain ⟨ao, cap, rfl, hla⟩ := ha.slice
  obtain ⟨bo, cap', rfl, hlb⟩ := hb.slice
  unfold maxLen at hla hlb
  obtain ⟨L, hL⟩ : ∃ L, xs.length = L := ⟨_, rfl⟩
  obtain ⟨M, hM⟩ : ∃ M, ys.length = M := ⟨_, rfl⟩
  have HL := Lib.hid hL
  have HM := Lib.hid hM
  rw [hL] at ha hla
  rw [hM] at hb hlb
  rw [hL, hM]
  have HA := Lib.hid ha
  have HB := Lib.hid hb
  obtain ⟨K, HK⟩ : ∃ K, Hid (K = SH.sameb xs ys) := ⟨_, Lib.hid rfl⟩
  rw [← HK.out]
  have hLi : (L : Int) ≤ 9223372036854775807 := by omega
  have hMi : (M : Int) ≤ 9223372036854775807 := by omega
  clear ha hb hla hlb
  by_cases hne : L = M
  · subst hne
    clear hL hM hMi
    have HW0 : Hid (Below w.heap.size w w) := Lib.hid (Below.refl _ _)
    go_enter Tryz.func36, Tryz.ntmps36
    go_wp2
    go_loopg [17] L (fun g s17 wx => ∃ k : Nat, k + g = L ∧ s17 = .int .i64 (k : Int) ∧ Hid (Below w.heap.size w wx) ∧ Hid ((xs.map SH.zi).take k = (ys.map SH.zi).take k))
    case atStart => exact ⟨0, by omega, rfl, HW0, Lib.hid (by simp)⟩
    case round =>
      clear HW0
      obtain ⟨k, hk, rfl, HW, HI⟩ := hrel
      cases gk with
      | zero =>
        obtain rfl : k = L := by omega
        have E : K = true := by
          rw [HK.out]
          refine decide_eq_true ?_
          have h1 := HI.out; have h2 := HL.out; have h3 := HM.out
          rwa [List.take_of_length_le (by rw [List.length_map]; omega), List.take_of_length_le (by rw [List.length_map]; omega)] at h1
        subst E
        go_wp2
        go_ret
        exact ⟨rfl, HW.out⟩
      | succ g =>
        have g0 : (k : Int) < (L : Int) := by omega
        have g1 : (0 : Int) ≤ (k : Int) := by omega
        obtain ⟨x, hx⟩ : ∃ x, xs[k]? = some x := ⟨xs[k]'(by have := HL.out; omega), List.getElem?_eq_getElem _⟩
        obtain ⟨y, hy⟩ : ∃ y, ys[k]? = some y := ⟨ys[k]'(by have := HM.out; omega), List.getElem?_eq_getElem _⟩
        obtain ⟨b1, o1, ka, kc, ia, ic, rfl, c1, r1, r2⟩ := HA.out.at' HW.out hx
        obtain ⟨b2, o2, kb, kd, ja, jc, rfl, c2, r3, r4⟩ := HB.out.at' HW.out hy
        have HX := Lib.hid hx
        have HY := Lib.hid hy
        have HSN := Lib.hid (fun (u : World) (hu : Below wr.heap.size wr u) => sameNode_any x y _ _ _ _ u (r1.below hu) (r2.below hu) (r3.below hu) (r4.below hu))
        obtain ⟨D, hD⟩ : ∃ D, decide (SH.zi x = SH.zi y) = D := ⟨_, rfl⟩
        rw [hD] at HSN
        have HD := Lib.hid hD
        obtain ⟨n1, h1⟩ : ∃ n, x.keys.length = n := ⟨_, rfl⟩
        obtain ⟨n2, h2⟩ : ∃ n, x.kids.length = n := ⟨_, rfl⟩
        obtain ⟨n3, h3⟩ : ∃ n, y.keys.length = n := ⟨_, rfl⟩
        obtain ⟨n4, h4⟩ : ∃ n, y.kids.length = n := ⟨_, rfl⟩
        rw [h1, h2] at c1 HSN
        rw [h3, h4] at c2 HSN
        clear h1 h2 h3 h4 r1 r2 r3 r4 hx hy hD
        obtain ⟨xk, xl, xt, xq, xks, xis⟩ := x
        obtain ⟨yk, yl, yt, yq, yks, yis⟩ := y
        simp only at c1 c2 HSN
        obtain ⟨d0, d1, d2, d3, d4, d5⟩ := c1
        have HBB : Hid (∀ a b : Array Value, Below wr.heap.size wr ((wr.alloc (.cells a 48)).alloc (.cells b 48))) := fun a b => below_trans (below_alloc _ _) (below_alloc _ _)
        obtain ⟨f0, f1, f2, f3, f4, f5⟩ := c2.below (below_alloc wr (.cells #[.int .i64 xk, .int .i64 xl, .string ⟨xt.toArray⟩, .bool xq, .slice ka n1 kc, .slice ia n2 ic] 48))
        simp only at d0 d1 d2 d3 d4 d5 f0 f1 f2 f3 f4 f5
        clear c2
        cases D with
        | true =>
          have HI2 : Hid ((xs.map SH.zi).take (k + 1) = (ys.map SH.zi).take (k + 1)) := by
            show _ = _
            rw [List.take_add_one, List.take_add_one, List.getElem?_map, List.getElem?_map, HX.out, HY.out, HI.out]
            rw [Option.map_some, Option.map_some, of_decide_eq_true HD.out]
          go_wp2_with (go_at_call 37; refine (HSN.out _ (HBB.out _ _)).mono ?_; rintro e w2 ⟨rfl, b2⟩; have B2 := Lib.hid (below_trans HW.out (below_trans (HBB.out _ _) b2)); clear b2)
          go_roundg g
          case rel => exact ⟨k + 1, by omega, by first | rfl | (simp; done), B2, HI2⟩
          case measure => omega
        | false =>
          have E : K = false := by
            rw [HK.out]
            refine decide_eq_false fun he => ?_
            have h1 := congrArg (fun l => l[k]?) he
            simp only [List.getElem?_map, HX.out, HY.out, Option.map_some, Option.some.injEq] at h1
            exact of_decide_eq_false HD.out h1
          subst E
          go_wp2_with (go_at_call 37; refine (HSN.out _ (HBB.out _ _)).mono ?_; rintro e w2 ⟨rfl, b2⟩; have B2 := Lib.hid (below_trans HW.out (below_trans (HBB.out _ _) b2)); clear b2)
          go_ret
          exact ⟨rfl, B2.out⟩
  · have E : K = false := by
      rw [HK.out]
      refine decide_eq_false fun he => ?_
      have := congrArg List.length he
      rw [List.length_map, List.length_map] at this
      exact hne (by omega)
    have b0 : ((L : Int) == (M : Int)) = false := by simp; omega
    have b2 : (L == M) = false := by simpa using hne
    have b1 : ¬ (L : Int) = (M : Int) := by omega
    subst E
    clear hL hM hne
    go_enter Tryz.func36, Tryz.ntmps36
    go_wp2
    go_ret
    exact ⟨rfl, Below.refl _ _⟩
set_option maxRecDepth 10000 in
set_option maxHeartbeats 8000000 in
theorem shsame_any (va vb : Value) (xs ys : List SH.Ni) (w : World) (ha : Rdi w va xs) (hb : Rdi w vb ys) :
    Calls Tryz.prog 15 #[.agg #[va], .agg #[vb]] w fun e w' => e = .returned (.bool (SH.sameb xs ys)) ∧ Below w.heap.size w w' := by
  have b1 := below_alloc w (.cells #[va] 26)
  have b2 := below_alloc (w.alloc (.cells #[va] 26)) (.cells #[vb] 26)
  have HB := Lib.hid (below_trans b1 b2)
  have HE := Lib.hid (eqn_any va vb xs ys _ (ha.below HB.out) (hb.below HB.out))
  obtain ⟨ao, cap, rfl, -⟩ := ha.slice
  obtain ⟨bo, cap', rfl, -⟩ := hb.slice
  obtain ⟨L, hL⟩ : ∃ L, xs.length = L := ⟨_, rfl⟩
  obtain ⟨M, hM⟩ : ∃ M, ys.length = M := ⟨_, rfl⟩
  rw [hL, hM] at HE HB ⊢
  clear ha hb b1 b2 hL hM
  go_enter Tryz.func15, Tryz.ntmps15
  go_wp2_with (go_at_call 36; refine HE.out.mono ?_; rintro e w2 ⟨rfl, b2⟩; have B2 := Lib.hid (below_trans HB.out b2); clear b2)
  go_ret
  exact ⟨rfl, B2.out⟩
end Go.Proofs.YtgfhabofhefaaaaGreatDoor
namespace Go.Proofs.YtgfhabofhefaaaaGreatDoor
open Go.RowKit
theorem MaxIs.shaped {w : World} (h : w.ShapedOpen Tryz.prog) : MaxIs w := cell_of_shapedOpen_int (zero := #[.int .i64 0]) (t := 3) h (of_decide_eq_true (by kernel_rfl)) (by kernel_rfl) rfl (by kernel_rfl) (by kernel_rfl) Tryz.underlying3
end Go.Proofs.YtgfhabofhefaaaaGreatDoor
namespace Go.Proofs.YtgfhabofhefaaaaGreatDoor
open Go.RowKit
def awns : List SH.Ni := [⟨3, 0, [], false, [[97]], [1]⟩, ⟨2, 0, [], false, [], [2, 3]⟩, ⟨1, 0, [98], false, [], []⟩, ⟨1, 0, [99], true, [], []⟩]
def awtr : SH.Tr := .map (.cons [97] (.list (.cons [] (.text [98] false) (.cons [] (.text [99] true) .nil))) .nil)
def awT : List UInt8 := [97, 58, 10, 32, 32, 45, 32, 98, 10, 32, 32, 45, 32, 34, 99, 34, 10]
theorem aw_chk : SH.chkb awns = true := by decide +kernel
theorem aw_key : SH.Key [97] := SH.keyb_key (by decide +kernel)
theorem aw_of : SH.Of awtr awns := by
  refine ⟨?_, ?_, ?_, by decide, rfl⟩
  · simp [awtr, SH.okT, SH.okF, SH.keysF]
  · simp only [awtr, SH.godT, SH.godF, SH.keysF, List.mem_singleton, forall_eq, and_true]
    refine ⟨aw_key, SH.leaf_plain (by decide +kernel), SH.leaf_quo (by decide)⟩
  · simp [awtr, SH.depT, SH.depF]
theorem aw_tx : SH.Tx awns 0 awT := .inr ⟨aw_chk, awtr, aw_of, .inr ⟨by decide +kernel, rfl, by decide +kernel⟩⟩
theorem aw_tx0 : SH.Tx [] 1 [] := .inl ⟨by decide +kernel, rfl, rfl⟩
theorem aw_same : SH.sameb awns [] = false := by decide +kernel
theorem Rdi.nil (w : World) : Rdi w (.slice none 0 0) [] := ⟨[], none, 0, rfl, rfl, by simp, by simp [maxLen], fun _ => rfl, by simp, by simp⟩
theorem aw_lens : Lens2 awns := by
  intro x hx
  simp only [awns, List.mem_cons, List.not_mem_nil, or_false] at hx
  rcases hx with rfl | rfl | rfl | rfl <;> refine ⟨by simp, by simp, by simp⟩
abbrev awW (w : World) : World := ((((w.alloc (.cells #[.string ⟨#[97]⟩] 9)).alloc (.cells #[.int .i64 1] 3)).alloc (.cells #[.int .i64 2, .int .i64 3] 3)).alloc (.cells #[.int .i64 3, .int .i64 0, .string ⟨#[]⟩, .bool false, .slice (some ⟨w.heap.size, 0, none⟩) 1 1, .slice (some ⟨w.heap.size + 1, 0, none⟩) 1 1, .int .i64 2, .int .i64 0, .string ⟨#[]⟩, .bool false, .slice none 0 0, .slice (some ⟨w.heap.size + 1 + 1, 0, none⟩) 2 2, .int .i64 1, .int .i64 0, .string ⟨#[98]⟩, .bool false, .slice none 0 0, .slice none 0 0, .int .i64 1, .int .i64 0, .string ⟨#[99]⟩, .bool true, .slice none 0 0, .slice none 0 0] 48)).alloc (.cells #[.slice (some ⟨w.heap.size + 1 + 1 + 1, 0, none⟩) 4 4] 26)
theorem lit_at1 (w : World) (T : TypeId) (cs : List Value) (h : cs.length ≤ maxLen) (g : Nat) (hg : w.heap.size = g) : Rdv (w.alloc (.cells cs.toArray T)) (.slice (some ⟨g, 0, none⟩) cs.length cs.length) cs := by
  subst hg
  exact (Own.lit (base := 0) w (e := T) cs (Nat.zero_le _) h).rd
theorem aw_doc (w : World) : Rdi (awW w) (.slice (some ⟨w.heap.size + 1 + 1 + 1, 0, none⟩) 4 4) awns ∧ (awW w).cell? ⟨w.heap.size + 1 + 1 + 1 + 1, 0, none⟩ = some (.slice (some ⟨w.heap.size + 1 + 1 + 1, 0, none⟩) 4 4) ∧ Below w.heap.size w (awW w) := by
  have z1 := bx_size w (.cells #[.string ⟨#[97]⟩] 9)
  obtain ⟨w1, h1⟩ : ∃ w1, w.alloc (.cells #[.string ⟨#[97]⟩] 9) = w1 := ⟨_, rfl⟩
  have r1 := lit_at1 w 9 [.string ⟨#[97]⟩] (by simp [maxLen]) _ rfl
  have b1 := below_alloc w (.cells #[.string ⟨#[97]⟩] 9)
  have r2 := lit_at1 w1 3 [.int .i64 1] (by simp [maxLen]) (w.heap.size + 1) (by rw [← h1, z1])
  have b2 := below_alloc w1 (.cells #[.int .i64 1] 3)
  have z2 := bx_size w1 (.cells #[.int .i64 1] 3)
  have r3 := lit_at1 (w1.alloc (.cells #[.int .i64 1] 3)) 3 [.int .i64 2, .int .i64 3] (by simp [maxLen]) (w.heap.size + 1 + 1) (by rw [z2, ← h1, z1])
  have b3 := below_alloc (w1.alloc (.cells #[.int .i64 1] 3)) (.cells #[.int .i64 2, .int .i64 3] 3)
  have z3 := bx_size (w1.alloc (.cells #[.int .i64 1] 3)) (.cells #[.int .i64 2, .int .i64 3] 3)
  unfold awW
  rw [h1] at r1 b1 ⊢
  obtain ⟨w2, h2⟩ : ∃ w2, w1.alloc (.cells #[.int .i64 1] 3) = w2 := ⟨_, rfl⟩
  rw [h2] at r3 b2 b3 z3 ⊢
  have r2' : Rdv w2 (.slice (some ⟨w.heap.size + 1, 0, none⟩) 1 1) [.int .i64 1] := by rw [← h2]; exact r2
  obtain ⟨w3, h3⟩ : ∃ w3, w2.alloc (.cells #[.int .i64 2, .int .i64 3] 3) = w3 := ⟨_, rfl⟩
  have r3' : Rdv w3 (.slice (some ⟨w.heap.size + 1 + 1, 0, none⟩) 2 2) [.int .i64 2, .int .i64 3] := by rw [← h3]; exact r3
  rw [h3] at b3 z3 ⊢
  have e3 : w3.heap.size = w.heap.size + 1 + 1 + 1 := by rw [z3, ← h2, z2, ← h1, z1]
  have st := Str.new w3 48 #[.int .i64 3, .int .i64 0, .string ⟨#[]⟩, .bool false, .slice (some ⟨w.heap.size, 0, none⟩) 1 1, .slice (some ⟨w.heap.size + 1, 0, none⟩) 1 1, .int .i64 2, .int .i64 0, .string ⟨#[]⟩, .bool false, .slice none 0 0, .slice (some ⟨w.heap.size + 1 + 1, 0, none⟩) 2 2, .int .i64 1, .int .i64 0, .string ⟨#[98]⟩, .bool false, .slice none 0 0, .slice none 0 0, .int .i64 1, .int .i64 0, .string ⟨#[99]⟩, .bool true, .slice none 0 0, .slice none 0 0]
  have b4 := below_alloc w3 (.cells #[.int .i64 3, .int .i64 0, .string ⟨#[]⟩, .bool false, .slice (some ⟨w.heap.size, 0, none⟩) 1 1, .slice (some ⟨w.heap.size + 1, 0, none⟩) 1 1, .int .i64 2, .int .i64 0, .string ⟨#[]⟩, .bool false, .slice none 0 0, .slice (some ⟨w.heap.size + 1 + 1, 0, none⟩) 2 2, .int .i64 1, .int .i64 0, .string ⟨#[98]⟩, .bool false, .slice none 0 0, .slice none 0 0, .int .i64 1, .int .i64 0, .string ⟨#[99]⟩, .bool true, .slice none 0 0, .slice none 0 0] 48)
  have z4 := bx_size w3 (.cells #[.int .i64 3, .int .i64 0, .string ⟨#[]⟩, .bool false, .slice (some ⟨w.heap.size, 0, none⟩) 1 1, .slice (some ⟨w.heap.size + 1, 0, none⟩) 1 1, .int .i64 2, .int .i64 0, .string ⟨#[]⟩, .bool false, .slice none 0 0, .slice (some ⟨w.heap.size + 1 + 1, 0, none⟩) 2 2, .int .i64 1, .int .i64 0, .string ⟨#[98]⟩, .bool false, .slice none 0 0, .slice none 0 0, .int .i64 1, .int .i64 0, .string ⟨#[99]⟩, .bool true, .slice none 0 0, .slice none 0 0] 48)
  rw [e3] at st
  generalize w3.alloc (.cells _ 48) = w4 at *
  have b5 := below_alloc w4 (.cells #[.slice (some ⟨w.heap.size + 1 + 1 + 1, 0, none⟩) 4 4] 26)
  have s5 := Str.new w4 26 #[.slice (some ⟨w.heap.size + 1 + 1 + 1, 0, none⟩) 4 4]
  have e4 : w4.heap.size = w.heap.size + 1 + 1 + 1 + 1 := by rw [z4, e3]
  rw [e4] at s5
  have st5 := st.below b5
  generalize w4.alloc (.cells _ 26) = w5 at *
  have b14 : Below w1.heap.size w1 w5 := below_trans b2 (below_trans b3 (below_trans b4 b5))
  have b24 : Below w2.heap.size w2 w5 := below_trans b3 (below_trans b4 b5)
  have b34 : Below w3.heap.size w3 w5 := below_trans b4 b5
  refine ⟨⟨[(⟨3, 0, [], false, [[97]], [1]⟩, .slice (some ⟨w.heap.size, 0, none⟩) 1 1, .slice (some ⟨w.heap.size + 1, 0, none⟩) 1 1), (⟨2, 0, [], false, [], [2, 3]⟩, .slice none 0 0, .slice (some ⟨w.heap.size + 1 + 1, 0, none⟩) 2 2), (⟨1, 0, [98], false, [], []⟩, .slice none 0 0, .slice none 0 0), (⟨1, 0, [99], true, [], []⟩, .slice none 0 0, .slice none 0 0)], _, 4, rfl, rfl, by decide, by simp [maxLen], (by intro h; cases h), ?_, ?_⟩, s5.cell 0, below_trans b1 b14⟩
  · intro j x hx
    refine ⟨_, 0, rfl, ?_⟩
    match j, hx with
    | 0, hx =>
      obtain rfl := Option.some.inj hx
      exact ⟨st5.cell 0, st5.cell 1, st5.cell 2, st5.cell 3, st5.cell 4, st5.cell 5⟩
    | 1, hx =>
      obtain rfl := Option.some.inj hx
      exact ⟨st5.cell 6, st5.cell 7, st5.cell 8, st5.cell 9, st5.cell 10, st5.cell 11⟩
    | 2, hx =>
      obtain rfl := Option.some.inj hx
      exact ⟨st5.cell 12, st5.cell 13, st5.cell 14, st5.cell 15, st5.cell 16, st5.cell 17⟩
    | 3, hx =>
      obtain rfl := Option.some.inj hx
      exact ⟨st5.cell 18, st5.cell 19, st5.cell 20, st5.cell 21, st5.cell 22, st5.cell 23⟩
    | j + 4, hx => simp at hx
  · intro a ha
    simp only [List.mem_cons, List.not_mem_nil, or_false] at ha
    rcases ha with rfl | rfl | rfl | rfl
    · exact ⟨r1.below b14, r2'.below b24⟩
    · exact ⟨Rdv.nil _, r3'.below b34⟩
    · exact ⟨Rdv.nil _, Rdv.nil _⟩
    · exact ⟨Rdv.nil _, Rdv.nil _⟩
set_option maxRecDepth 10000 in
set_option maxHeartbeats 8000000 in
theorem awake13 (w : World) (hm : MaxIs w) :
    Calls Tryz.prog 11 #[] w fun e w' => e = .returned (.bool true) ∧ Below w.heap.size w w' := by
  obtain ⟨hd, k0, b0⟩ := aw_doc w
  have HM := Lib.hid (hm.below b0)
  have HD := Lib.hid hd
  have HB := Lib.hid b0
  unfold awW at HM HD HB k0
  clear hd b0 hm
  go_enter Tryz.func11, Tryz.ntmps11
  go_upto_region 2 with fail
  generalize World.alloc (World.alloc (World.alloc (World.alloc (World.alloc _ _) _) _) _) _ = W at *
  generalize w.heap.size + 1 + 1 + 1 + 1 = P at *
  generalize w.heap.size + 1 + 1 + 1 = Q at *
  have HT1 := Lib.hid (shtext_any _ awns 0 awT W HD.out aw_lens HM.out aw_tx)
  have HT2 := Lib.hid (fun (u : World) (hu : MaxIs u) => shtext_any (.slice none 0 0) [] 1 [] u (Rdi.nil u) (by intro x hx; cases hx) hu aw_tx0)
  have HCK := Lib.hid (fun (u : World) (hu : Below W.heap.size W u) => check_any _ awns u (HD.out.below hu) aw_lens (HM.out.below hu))
  have HS1 := Lib.hid (fun (u : World) (hu : Below W.heap.size W u) => shsame_any _ _ awns awns u (HD.out.below hu) (HD.out.below hu))
  have HS2 := Lib.hid (fun (u : World) (hu : Below W.heap.size W u) => shsame_any _ (.slice none 0 0) awns [] u (HD.out.below hu) (Rdi.nil u))
  rw [aw_chk, show okI true = 0 from rfl] at HCK
  rw [SH.sameb_refl] at HS1
  rw [aw_same] at HS2
  have HTL : Hid (awT = [97, 58, 10, 32, 32, 45, 32, 98, 10, 32, 32, 45, 32, 34, 99, 34, 10]) := rfl
  go_wp2_with (first
    | (go_at_call 15; refine (HS2.out _ B4.out).mono ?_; rintro e w5 ⟨rfl, b5⟩; have B5 := Lib.hid (below_trans B4.out b5); clear b5)
    | (go_at_call 15; refine (HS1.out _ B3.out).mono ?_; rintro e w4 ⟨rfl, b4⟩; have B4 := Lib.hid (below_trans B3.out b4); have k4 := (B4.out.cell (cell_lt k0)).trans k0; clear b4)
    | (go_at_call 14; refine (HCK.out _ B2.out).mono ?_; rintro e w3 ⟨rfl, b3⟩; have B3 := Lib.hid (below_trans B2.out b3); have k3 := (B3.out.cell (cell_lt k0)).trans k0; have cs3 := run_string_rd (P := Tryz.prog) 35 5 9 Tryz.underlying35 Tryz.underlying5 Tryz.underlying9 ((R1.out.below b2).below b3); rw [HTL.out] at cs3; clear b2 b3)
    | (go_at_call 12; refine (HT2.out _ (HM.out.below B1.out)).mono ?_; rintro e w2 ⟨v2, rfl, r2, b2⟩; obtain ⟨ao2, cp2, rfl, -⟩ := r2; have B2 := Lib.hid (below_trans B1.out b2); have k2 := (B2.out.cell (cell_lt k0)).trans k0)
    | (go_at_call 12; refine HT1.out.mono ?_; rintro e w1 ⟨v1, rfl, r1, b1⟩; have R1 := Lib.hid r1; obtain ⟨ao1, cp1, hv1, -⟩ := r1; rw [show (bv awT).length = 17 from rfl] at hv1; subst hv1; have B1 := Lib.hid b1; have k1 := (B1.out.cell (cell_lt k0)).trans k0; clear b1))
  go_ret
  exact ⟨rfl, below_trans HB.out B5.out⟩
end Go.Proofs.YtgfhabofhefaaaaGreatDoor
namespace Go.Proofs.YtgfhabofhefaaaaGreatDoor
open Go.RowKit
set_option maxRecDepth 10000 in
set_option maxHeartbeats 32000000 in
theorem showMade_walk (v : Value) (zs : List Int) (w : World) (hr : Rdv w v (iv .i64 zs)) (_hz : ∀ z ∈ zs, (Lit.int .i64 z).wf = true) (hm : MaxIs w) :
    Calls Tryz.prog 4 #[v] w fun e w' => e = .returned (.bool true) ∧ Below w.heap.size w w' := by
  have hq1 := eq_fault 0 0
  have hg2 := fault_guard
  rw [iv_ints] at hr
  have HM := Lib.hid hm
  have HAW := Lib.hid (fun (u : World) (hu : Below w.heap.size w u) => awake13 u (hm.below hu))
  have HCG := Lib.hid (mconfig_any v zs w hr)
  obtain ⟨ao, cap, rfl⟩ := hr.slice
  have hlm := hr.len_le
  unfold maxLen at hlm
  rw [ints_len] at HCG hlm ⊢
  obtain ⟨L, hL⟩ : ∃ L, zs.length = L := ⟨_, rfl⟩
  rw [hL] at HCG hlm ⊢
  clear hm hr
  go_enter Tryz.func4, Tryz.ntmps4
  by_cases h3 : 300 < L
  · have h3i : (300 : Int) < (L : Int) := by omega
    clear HCG hL hlm
    go_wp2_with (go_at_call 11; refine (HAW.out _ (Below.refl _ _)).mono ?_; rintro e w9 ⟨rfl, b9⟩; have B9 := Lib.hid b9; clear b9)
    go_ret
    exact ⟨rfl, B9.out⟩
  have h3i : ¬ (300 : Int) < (L : Int) := by omega
  clear h3 hlm hL
  go_upto_region 4 with (first
    | (go_at_call 6; refine HDC.out.mono ?_; rintro e w2 ⟨b2, ao1, NX, cp1, xs, k, rfl, hnx, r2, hk⟩; have N2 := Lib.hid (below_trans B1.out b2); clear b2)
    | (go_at_call 7; refine HCG.out.mono ?_; rintro e w1 ⟨b1, c, vd, vb, rfl, hd, hb, hmad⟩; have HDC := Lib.hid (made_doc hd hb hmad); have B1 := Lib.hid b1; clear b1 hd hb hmad))
  have b3 := below_alloc w2 (.cells #[.slice ao1 NX cp1] 26)
  have B3 := Lib.hid (below_trans N2.out b3)
  have R3 := Lib.hid (r2.below b3)
  have c1 : (w2.alloc (.cells #[.slice ao1 NX cp1] 26)).cell? ⟨w2.heap.size, 0, none⟩ = some (.slice ao1 NX cp1) := (Str.new w2 26 #[.slice ao1 NX cp1]).cell 0
  clear b3 r2 HDC HCG B1 N2 hnx
  generalize w2.alloc (.cells #[.slice ao1 NX cp1] 26) = W2 at *
  rcases hk with ⟨rfl, rfl⟩ | ⟨rfl, hck, t, hOf, hlen⟩
  · go_wp2_with (go_at_call 11; refine (HAW.out _ B3.out).mono ?_; rintro e w9 ⟨rfl, b9⟩; have B9 := Lib.hid (below_trans B3.out b9); clear b9)
    go_ret
    exact ⟨rfl, B9.out⟩
  have HOF := Lib.hid hOf
  have hL2 := up_lens hOf
  obtain ⟨T, hT⟩ : ∃ T, SH.showT t 0 = T := ⟨_, rfl⟩
  have HTX : SH.Tx xs 0 T := .inr ⟨hck, t, hOf, .inr ⟨hlen, rfl, hT.symm⟩⟩
  have HT := Lib.hid (shtext_any _ xs 0 T W2 R3.out hL2 (HM.out.below B3.out) HTX)
  have HCK := Lib.hid (fun (u : World) (hu : Below W2.heap.size W2 u) => check_any _ xs u (R3.out.below hu) hL2 ((HM.out.below B3.out).below hu))
  rw [hck] at HCK
  have HTT := Lib.hid hT
  obtain ⟨m, hmm⟩ : ∃ m, T.length = m := ⟨_, rfl⟩
  have HMM := Lib.hid hmm
  clear hck hOf hlen hL2 hT HTX hmm
  by_cases h16 : 16384 < m
  · have h16i : (16384 : Int) < (m : Int) := by omega
    have HPG := Lib.hid (fun (u : World) (v : Value) (hv : Rdv u v (bv T)) => parse_tup v T u hv)
    go_upto_region 8 with (first
      | (go_at_call 13; refine (HPG.out _ _ R4.out).mono ?_; rintro e w5 ⟨ao5, n5, cp5, k5, l5, rfl, b5⟩)
      | (go_at_call 12; refine HT.out.mono ?_; rintro e w3 ⟨v3, rfl, r3, b4⟩; have R4 := Lib.hid r3; obtain ⟨ao3, cp3, hv3, -⟩ := r3; rw [bv_len, HMM.out] at hv3; subst hv3; have N4 := Lib.hid b4; clear b4))
    obtain ⟨s6, s7, b6⟩ := two_docs w5 (.slice ao5 n5 cp5) (.int .i64 k5) (.int .i64 l5)
    have N6 := Lib.hid (below_trans (below_trans N4.out b5) b6)
    have p6 := (N6.out.cell (cell_lt c1)).trans c1
    clear b5 b6 s6 s7
    generalize World.alloc (World.alloc _ _) _ = W6 at *
    go_wp2_with (first
      | (go_at_call 11; refine (HAW.out _ (below_trans B3.out N7.out)).mono ?_; rintro e w9 ⟨rfl, b9⟩; have B9 := Lib.hid (below_trans (below_trans B3.out N7.out) b9); clear b9)
      | (go_at_call 14; refine (HCK.out _ N6.out).mono ?_; rintro e w7 ⟨rfl, b7⟩; have N7 := Lib.hid (below_trans N6.out b7); clear b7))
    go_ret
    exact ⟨rfl, B9.out⟩
  · have h16i : ¬ (16384 : Int) < (m : Int) := by omega
    obtain ⟨ms, hp1, hp2⟩ := SH.parse_shown ⟨HOF.out.ok, HOF.out.god, HOF.out.dep, HOF.out.size, HOF.out.eq⟩ (by rw [HTT.out, HMM.out]; omega)
    rw [HTT.out] at hp1
    have HSB : Hid (SH.sameb (ms.map SH.up) xs = true) := decide_eq_true hp2
    have HPA : Hid (∀ (u : World) (v : Value), Rdv u v (bv T) → Calls Tryz.prog 13 #[v] u fun e w' => ∃ v2, e = .returned (.tuple #[.agg #[v2], .agg #[.int .i64 0, .int .i64 0]]) ∧ Rdi w' v2 (ms.map SH.up) ∧ Below u.heap.size u w') := fun u v hr => by
      refine (rparse_any v T u hr).mono ?_
      rintro e w' ⟨hb, v2, rfl, hd⟩
      rw [hp1] at hd ⊢
      exact ⟨v2, rfl, hd.rdi, hb⟩
    obtain ⟨NM, hNM⟩ : ∃ NM, (ms.map SH.up).length = NM := ⟨_, rfl⟩
    have HNM := Lib.hid hNM
    clear hp1 hp2 hNM
    go_upto_region 8 with (first
      | (go_at_call 13; refine (HPA.out _ _ R4.out).mono ?_; rintro e w5 ⟨v5, rfl, r5, b5⟩; obtain ⟨ao5, cp5, hv5, -⟩ := r5.slice; rw [HNM.out] at hv5; subst hv5)
      | (go_at_call 12; refine HT.out.mono ?_; rintro e w3 ⟨v3, rfl, r3, b4⟩; have R4 := Lib.hid r3; obtain ⟨ao3, cp3, hv3, -⟩ := r3; rw [bv_len, HMM.out] at hv3; subst hv3; have N4 := Lib.hid b4; clear b4))
    obtain ⟨s6, s7, b6⟩ := two_docs w5 (.slice ao5 NM cp5) (.int .i64 0) (.int .i64 0)
    have N6 := Lib.hid (below_trans (below_trans N4.out b5) b6)
    have R6 := Lib.hid (r5.below b6)
    have c5 := s6.cell 0
    have c6 := s7.cell 0
    have c7 := s7.cell 1
    simp only [List.getElem?_toArray, List.getElem?_cons_zero, List.getElem?_cons_succ] at c5 c6 c7
    have p6 := (N6.out.cell (cell_lt c1)).trans c1
    clear b5 b6 r5 s6 s7
    generalize World.alloc (World.alloc _ _) _ = W6 at *
    go_wp2_with (first
      | (go_at_call 11; refine (HAW.out _ (below_trans B3.out N8.out)).mono ?_; rintro e w9 ⟨rfl, b9⟩; have B9 := Lib.hid (below_trans (below_trans B3.out N8.out) b9); clear b9)
      | (go_at_call 15; refine HSM.out.mono ?_; rintro e w8 ⟨rfl, b8⟩; have N8 := Lib.hid (below_trans N7.out b8); clear b8)
      | (go_at_call 14; refine (HCK.out _ N6.out).mono ?_; rintro e w7 ⟨rfl, b7⟩; have N7 := Lib.hid (below_trans N6.out b7); have p7 := (b7.cell (cell_lt p6)).trans p6; have d5 := (b7.cell (cell_lt c5)).trans c5; have d6 := (b7.cell (cell_lt c6)).trans c6; have d7 := (b7.cell (cell_lt c7)).trans c7; have HSM := Lib.hid (shsame_any _ _ (ms.map SH.up) xs _ (R6.out.below b7) (R3.out.below N7.out)); rw [HSB.out] at HSM; clear b7))
    go_ret
    exact ⟨rfl, B9.out⟩
end Go.Proofs.YtgfhabofhefaaaaGreatDoor
