/- Walks of ask.Same, of the document's own SameAsk, and of Hits. -/
import Derived.Test.YthbmmnjpiflgdaaAkS
namespace Go.Proofs.Ythbmmnjpiflgdaa
open Go.RowKit

theorem neq_id {i j : Int} {d e : List UInt8} {h k : Int} {x y : List (List D.E)} (hn : i ≠ j) : K.same (i, d, h, x) (j, e, k, y) = false := by simp [K.same, hn]
theorem neq_dom {i j : Int} {d e : List UInt8} {h k : Int} {x y : List (List D.E)} (hn : d ≠ e) : K.same (i, d, h, x) (j, e, k, y) = false := by simp [K.same, hn]
theorem neq_hits {i j : Int} {d e : List UInt8} {h k : Int} {x y : List (List D.E)} (hn : h ≠ k) : K.same (i, d, h, x) (j, e, k, y) = false := by simp [K.same, hn]
theorem eq_descs {i : Int} {d : List UInt8} {h : Int} {x y : List (List D.E)} : K.same (i, d, h, x) (i, d, h, y) = decide (x = y) := by simp [K.same]
/-- Two requests as they lie. -/
structure TwoA (w : World) (a b : Array Value) (wr : World) : Prop where
  below : Below w.heap.size w wr
  first : Str wr w.heap.size 24 a
  second : Str wr (w.heap.size + 1) 24 b
theorem TwoA.new (w : World) (a b : Array Value) : TwoA w a b ((w.alloc (.cells a 24)).alloc (.cells b 24)) := by
  refine ⟨below_trans (below_alloc _ _) (below_alloc _ _), (Str.new w _ _).below (below_alloc _ _), ?_⟩
  have := Str.new (w.alloc (.cells a 24)) 24 b
  rwa [box_size] at this
theorem TwoA.later {w wr w1 : World} {a b : Array Value} (h : TwoA w a b wr) (hb : Below wr.heap.size wr w1) : TwoA w a b w1 := ⟨below_trans h.below hb, h.first.below hb, h.second.below hb⟩

set_option maxHeartbeats 4000000 in
theorem asame_any (a b : K.A) (va vb : Value) (w : World) (ha : Rdd w va a.2.2.2) (hb : Rdd w vb b.2.2.2) :
    Calls Try.prog 20 #[.agg #[.int .i64 a.1, .string ⟨a.2.1.toArray⟩, .int .i64 a.2.2.1, va], .agg #[.int .i64 b.1, .string ⟨b.2.1.toArray⟩, .int .i64 b.2.2.1, vb]] w fun e w' => e = .returned (.bool (K.same a b)) ∧ Below w.heap.size w w' := by
  have HQ := Lib.hid (fun x (hx : Below w.heap.size w x) => eqf_any va vb a.2.2.2 b.2.2.2 x (ha.below hx) (hb.below hx))
  obtain ⟨i, d, h, xs⟩ := a
  obtain ⟨j, d', h', ys⟩ := b
  simp only at HQ ha hb ⊢
  obtain ⟨av, cv, rfl, -⟩ := ha
  obtain ⟨bv', cw, rfl, -⟩ := hb
  have HT := Lib.hid (TwoA.new w #[.int .i64 i, .string ⟨d.toArray⟩, .int .i64 h, .slice av xs.length cv] #[.int .i64 j, .string ⟨d'.toArray⟩, .int .i64 h', .slice bv' ys.length cw])
  by_cases h1 : i = j
  · subst h1
    by_cases h2 : d = d'
    · subst h2
      by_cases h3 : h = h'
      · subst h3
        rw [eq_descs]
        have HQ2 := Lib.hid (HQ.out _ HT.out.below)
        clear HQ
        generalize decide (xs = ys) = r at *
        go_enter Try.func20, Try.ntmps20
        go_wp2_with fail
        refine HQ2.out.mono ?_
        rintro e w1 ⟨rfl, b1⟩
        have B1 := Lib.hid (below_trans HT.out.below b1)
        clear b1
        go_wp2
        go_ret
        exact ⟨rfl, B1.out⟩
      · have E := Lib.hid (neq_hits (i := i) (j := i) (d := d) (e := d) (x := xs) (y := ys) h3)
        have b0 : (h == h') = false := by simpa using h3
        clear HQ
        go_enter Try.func20, Try.ntmps20
        go_wp2
        go_ret
        exact ret_b E.out.symm HT.out.below
    · have E := Lib.hid (neq_dom (i := i) (j := i) (h := h) (k := h') (x := xs) (y := ys) h2)
      have b0 : (d == d') = false := by simpa using h2
      clear HQ
      go_enter Try.func20, Try.ntmps20
      go_wp2
      go_ret
      exact ret_b E.out.symm HT.out.below
  · have E := Lib.hid (neq_id (d := d) (e := d') (h := h) (k := h') (x := xs) (y := ys) h1)
    have b0 : (i == j) = false := by simpa using h1
    clear HQ
    go_enter Try.func20, Try.ntmps20
    go_wp2
    go_ret
    exact ret_b E.out.symm HT.out.below

theorem hits_any (a : K.A) (vd : Value) (w : World) (hr : Rdd w vd a.2.2.2) :
    Calls Try.prog 15 #[.agg #[.int .i64 a.1, .string ⟨a.2.1.toArray⟩, .int .i64 a.2.2.1, vd]] w fun e w' => e = .returned (.int .i64 (K.hits a)) ∧ Below w.heap.size w w' := by
  obtain ⟨av, cv, rfl, -⟩ := hr
  unfold K.hits
  go_enter Try.func15, Try.ntmps15
  go_wp2
  all_goals go_ret
  all_goals exact ret_i (by first | omega | (split at * <;> omega)) (below_alloc _ _)
theorem rhits_any (a : K.A) (vd : Value) (w : World) (hr : Rdd w vd a.2.2.2) :
    Calls Try.prog 16 #[.agg #[.int .i64 a.1, .string ⟨a.2.1.toArray⟩, .int .i64 a.2.2.1, vd]] w fun e w' => e = .returned (.int .i64 (K.hits a)) ∧ Below w.heap.size w w' := by
  obtain ⟨av, cv, rfl, -⟩ := hr
  unfold K.hits
  go_enter Try.func16, Try.ntmps16
  go_wp2
  all_goals go_ret
  all_goals exact ret_i (by first | omega | (split at * <;> omega)) (below_alloc _ _)
end Go.Proofs.Ythbmmnjpiflgdaa
