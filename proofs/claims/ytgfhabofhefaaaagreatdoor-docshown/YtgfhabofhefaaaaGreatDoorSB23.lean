/- A part of the proof. -/
import Derived.Test.YtgfhabofhefaaaaGreatDoorSB22
import Derived.Deep.RegionHeld3
namespace Go.Proofs.YtgfhabofhefaaaaGreatDoor
open Go.RowKit
def Texts (l : List LX.Pc) : Prop := ∀ x ∈ l, x.2.2.2.1.length ≤ 9223372036854775807
theorem Texts.tail {x : LX.Pc} {l : List LX.Pc} (h : Texts (x :: l)) : Texts l := fun y hy => h y (by simp [hy])
theorem Texts.suf {l t r : List LX.Pc} (h : Texts l) (e : l = t ++ r) : Texts r := fun y hy => h y (by rw [e]; simp [hy])
def More (S : Nat → Prop) (w w' : World) (g : Nat) : Prop := S g ∨ (w.heap.size ≤ g ∧ g < w'.heap.size)
def BlkE (w0 w : World) (p : Nat) (nv : Value) (ns : List DC.Nd) (S : Nat → Prop) (r : DC.BR) (e : Ending) (w' : World) : Prop :=
  Kb w w' (some p) nv.ownBlock ∧ match r with
  | .bad k n => e = .panicked (gaveD k n)
  | .ok a => e = .returned (.int .i64 (ns.length : Int)) ∧ ∃ lv' nv', Pst w0 w' p lv' nv' a.2 (ns ++ a.1) (More S w w') ∧ Near w nv nv'
def BlkC (f : Nat) : Prop := ∀ (w0 w : World) (p : Nat) (lv nv : Value) (l : List LX.Pc) (ns : List DC.Nd) (S : Nat → Prop) (d : Nat), Pst w0 w p lv nv l ns S → l ≠ [] → Texts l → 2 * l.length + 2 ≤ f → ns.length ≤ 2000 → d ≤ 25 →
  Calls Tryz.prog 68 #[.pointer (some ⟨p, 0, none⟩), .int .i64 (d : Int)] w (BlkE w0 w p nv ns S (DC.blk f d ns.length l))
theorem BlkE.from {w0 w w1 w' : World} {p : Nat} {nv : Value} {ns : List DC.Nd} {S : Nat → Prop} {r : DC.BR} {e : Ending} (hk : Kb w w1 (some p) nv.ownBlock) (h : BlkE w0 w1 p nv ns S r e w') : BlkE w0 w p nv ns S r e w' := by
  obtain ⟨h1, h2⟩ := h
  refine ⟨hk.trans h1, ?_⟩
  cases r with
  | bad k n => exact h2
  | ok a =>
    obtain ⟨he, lv', nv', hp, hn⟩ := h2
    refine ⟨he, lv', nv', hp.mono (fun g hg => hg.imp id fun hg => ⟨Nat.le_trans hk.size hg.1, hg.2⟩) (fun g hg => ?_), ?_⟩
    · rcases hg with hg | hg
      · exact hp.sb g (.inl hg)
      · exact hg.2
    · rcases hn with hn | hn
      · exact .inl hn
      · exact .inr fun g hg => Nat.le_trans hk.size (hn g hg)
theorem gone_any {w0 w : World} {p : Nat} {lv nv : Value} {x : LX.Pc} {l : List LX.Pc} {ns : List DC.Nd} {S : Nat → Prop} (h : Pst w0 w p lv nv (x :: l) ns S) (o : Obj) {lv' : Value} (hr : Rdp w0 lv' l) :
    Pst w0 (((w.alloc o).setCell ⟨p, 0, none⟩ lv').drew) p lv' nv l ns S ∧ Kb w (((w.alloc o).setCell ⟨p, 0, none⟩ lv').drew) (some p) nv.ownBlock := by
  have h1 := (h.calm (below_alloc w o)).left hr
  exact ⟨h1.1.calm (below_drew _), ((Kb.of_below (below_alloc w o) _ _).trans h1.2).trans (Kb.of_below (below_drew _) _ _)⟩
theorem Rdp.cut1 {w : World} {v : Value} {x : LX.Pc} {l : List LX.Pc} (h : Rdp w v (x :: l)) : ∃ b off cap, v = .slice (some ⟨b, off, none⟩) (l.length + 1) cap ∧ cap ≤ 9223372036854775807 ∧ At5 w b off x ∧
    ((cap = 1 ∧ l = [] ∧ Rdp w (.slice (some ⟨b, off, none⟩) 0 0) l) ∨ (¬ cap = 1 ∧ 1 < cap ∧ l.length + 1 ≤ cap ∧ Rdp w (.slice (some ⟨b, off + 5, none⟩) l.length (cap - 1)) l)) := by
  obtain ⟨b, off, cap, e, h1, h2, hx, hr⟩ := h.first
  refine ⟨b, off, cap, e, by unfold maxLen at h2; omega, hx, ?_⟩
  by_cases hc : cap = 1
  · obtain rfl : l = [] := List.length_eq_zero_iff.1 (by omega)
    exact .inl ⟨hc, rfl, some ⟨b, off, none⟩, 0, rfl, Nat.le_refl _, by simp [maxLen], (by intro h; cases h), by simp⟩
  · exact .inr ⟨hc, by omega, h1, hr⟩
set_option maxHeartbeats 2000000 in
theorem under_none1 {w0 w : World} {p : Nat} {lv nv lv' : Value} {x : LX.Pc} {ns : List DC.Nd} {S : Nat → Prop} {b off cap : Nat} (h : Pst w0 w p lv nv [x] ns S) (hv : lv = .slice (some ⟨b, off, none⟩) 1 cap) (h2 : cap ≤ 9223372036854775807) (hx : At5 w0 b off x) (hr : Rdp w0 lv' [])
    (hl : (cap = 1 ∧ lv' = .slice (some ⟨b, off, none⟩) 0 0) ∨ (¬ cap = 1 ∧ 1 < cap ∧ lv' = .slice (some ⟨b, off + 5, none⟩) 0 (cap - 1))) (d : Int) :
    Calls Tryz.prog 134 #[.pointer (some ⟨p, 0, none⟩), .int .i64 d] w fun e w' => e = .panicked (gaveD 10 x.2.1) ∧ Kb w w' (some p) nv.ownBlock := by
  subst hv
  have c0 : w.cell? ⟨p, 0, none⟩ = some (.slice (some ⟨b, off, none⟩) 1 cap) := h.st.cell 0
  obtain ⟨d0, d1, d2, d3, d4⟩ := hx.below h.bl
  have BA := below_alloc w (.cells (pc x) 117)
  have f0 : (w.alloc (.cells (pc x) 117)).frozen? ⟨p, 0, none⟩ = false := (h.st.below BA).frozen 0
  have e0 : (w.alloc (.cells (pc x) 117)).cell? ⟨p, 0, none⟩ = some (.slice (some ⟨b, off, none⟩) 1 cap) := (h.st.below BA).cell 0
  have sx := Str.new w 117 (pc x)
  have hne : p ≠ w.heap.size := Nat.ne_of_lt h.st.lt
  have g0 : (((w.alloc (.cells (pc x) 117)).setCell ⟨p, 0, none⟩ lv').drew).cell? ⟨w.heap.size, 1, none⟩ = some (.int .i64 x.2.1) :=
    ((sx.kb (Kb.set _ p 0 lv' none) (by simpa using fun e : w.heap.size = p => hne e.symm) (by simp)).below (below_drew _)).cell 1
  have HG := Lib.hid (gone_any h (.cells (pc x) 117) hr)
  have e1 : (((w.alloc (.cells (pc x) 117)).setCell ⟨p, 0, none⟩ lv').drew).cell? ⟨p, 0, none⟩ = some lv' := HG.out.1.st.cell 0
  obtain ⟨xk, xn, xc, xt, xq⟩ := x
  have HF := Lib.hid (fun u => dmust_false 10 xn u)
  unfold pc at f0 e0 HG g0 e1
  simp only at d0 d1 d2 d3 d4 f0 e0 HG g0 e1
  rcases hl with ⟨rfl, rfl⟩ | ⟨hc1, hc2, rfl⟩
  · clear h hx hr BA sx hne
    go_enter Tryz.func134, Tryz.ntmps134
    go_wp2
    generalize hW : (World.setCell (World.alloc _ _) _ _) = W at *
    generalize w.heap.size = P at *
    refine wp_region_held_drew (S := fun x => x.cell? ⟨p, 0, none⟩ = some (.slice (some ⟨b, off, none⟩) 0 0) ∧ x.cell? ⟨P, 1, none⟩ = some (.int .i64 xn)) (by kernel_rfl) ⟨e1, g0⟩ ?_
    intro hS0
    refine wpAnyH_take (i := 0) (v := ?va0) rfl (by kernel_rfl) (by kernel_rfl) (by kernel_rfl) (fun _ _ _ h => h) (Or.inl ⟨by rfl, ?ha0⟩) hS0 ?ra0
    case ha0 => intro x hSx; obtain ⟨q1, q2⟩ := hSx; go_simp; first | done | with_reducible rfl
    (try simp only [List.getElem_toArray, List.getElem_cons_zero, Act.put, List.setIfInBounds_toArray, List.set_cons_zero, List.set_cons_succ])
    refine wpAnyH_take (i := 1) (v := ?va1) rfl (by kernel_rfl) (by kernel_rfl) (by kernel_rfl) (fun _ _ _ h => h) (Or.inl ⟨by rfl, ?ha1⟩) hS0 ?ra1
    case ha1 => intro x hSx; obtain ⟨q1, q2⟩ := hSx; go_simp; first | done | with_reducible rfl
    (try simp only [List.getElem_toArray, List.getElem_cons_zero, List.getElem_cons_succ, Act.put, List.setIfInBounds_toArray, List.set_cons_zero, List.set_cons_succ])
    refine wpAnyH_take (i := 2) (v := ?va2) rfl (by kernel_rfl) (by kernel_rfl) (by kernel_rfl) (fun _ _ _ h => h) (Or.inl ⟨by rfl, ?ha2⟩) hS0 ?ra2
    case ha2 => intro x hSx; obtain ⟨q1, q2⟩ := hSx; go_simp; first | done | with_reducible rfl
    (try simp only [List.getElem_toArray, List.getElem_cons_zero, List.getElem_cons_succ, Act.put, List.setIfInBounds_toArray, List.set_cons_zero, List.set_cons_succ])
    refine wpAnyH_take (i := 3) (v := ?va3) rfl (by kernel_rfl) (by kernel_rfl) (by kernel_rfl) (fun _ _ _ h => h) (Or.inl ⟨by rfl, ?ha3⟩) hS0 ?ra3
    case ha3 => intro x hSx; obtain ⟨q1, q2⟩ := hSx; go_simp; first | done | with_reducible rfl
    (try simp only [List.getElem_toArray, List.getElem_cons_zero, List.getElem_cons_succ, Act.put, List.setIfInBounds_toArray, List.set_cons_zero, List.set_cons_succ])
    refine wpAnyH_take (i := 4) (v := ?va4) rfl (by kernel_rfl) (by kernel_rfl) (by kernel_rfl) (fun _ _ _ h => h) (Or.inl ⟨by rfl, ?ha4⟩) hS0 ?ra4
    case ha4 => intro x hSx; obtain ⟨q1, q2⟩ := hSx; go_simp; first | done | with_reducible rfl
    (try simp only [List.getElem_toArray, List.getElem_cons_zero, List.getElem_cons_succ, Act.put, List.setIfInBounds_toArray, List.set_cons_zero, List.set_cons_succ])
    refine wpAnyH_take (i := 5) (v := ?va5) rfl (by kernel_rfl) (by kernel_rfl) (by kernel_rfl) (fun _ _ _ h => h) (Or.inl ⟨by rfl, ?ha5⟩) hS0 ?ra5
    case ha5 => intro x hSx; obtain ⟨q1, q2⟩ := hSx; go_simp; first | done | with_reducible rfl
    (try simp only [List.getElem_toArray, List.getElem_cons_zero, List.getElem_cons_succ, Act.put, List.setIfInBounds_toArray, List.set_cons_zero, List.set_cons_succ])
    refine wpAnyH_take (i := 6) (v := ?va6) rfl (by kernel_rfl) (by kernel_rfl) (by kernel_rfl) (fun _ _ _ h => h) (Or.inl ⟨by rfl, ?ha6⟩) hS0 ?ra6
    case ha6 => intro x hSx; obtain ⟨q1, q2⟩ := hSx; go_simp; first | done | with_reducible rfl
    (try simp only [List.getElem_toArray, List.getElem_cons_zero, List.getElem_cons_succ, Act.put, List.setIfInBounds_toArray, List.set_cons_zero, List.set_cons_succ])
    refine wpAnyH_take (i := 7) (v := undef) rfl (by kernel_rfl) (by kernel_rfl) (by kernel_rfl) (fun _ _ _ h => h) (Or.inr ⟨by rfl, rfl⟩) hS0 ?_
    (try simp only [List.getElem_toArray, List.getElem_cons_zero, List.getElem_cons_succ, Act.put, List.setIfInBounds_toArray, List.set_cons_zero, List.set_cons_succ])
    refine wpAnyH_take (i := 8) (v := undef) rfl (by kernel_rfl) (by kernel_rfl) (by kernel_rfl) (fun _ _ _ h => h) (Or.inr ⟨by rfl, rfl⟩) hS0 ?_
    (try simp only [List.getElem_toArray, List.getElem_cons_zero, List.getElem_cons_succ, Act.put, List.setIfInBounds_toArray, List.set_cons_zero, List.set_cons_succ])
    refine wpAnyH_take (i := 9) (v := undef) rfl (by kernel_rfl) (by kernel_rfl) (by kernel_rfl) (fun _ _ _ h => h) (Or.inr ⟨by rfl, rfl⟩) hS0 ?_
    (try simp only [List.getElem_toArray, List.getElem_cons_zero, List.getElem_cons_succ, Act.put, List.setIfInBounds_toArray, List.set_cons_zero, List.set_cons_succ])
    refine wpAnyH_take (i := 10) (v := undef) rfl (by kernel_rfl) (by kernel_rfl) (by kernel_rfl) (fun _ _ _ h => h) (Or.inr ⟨by rfl, rfl⟩) hS0 ?_
    (try simp only [List.getElem_toArray, List.getElem_cons_zero, List.getElem_cons_succ, Act.put, List.setIfInBounds_toArray, List.set_cons_zero, List.set_cons_succ])
    refine wpAnyH_take (i := 11) (v := undef) rfl (by kernel_rfl) (by kernel_rfl) (by kernel_rfl) (fun _ _ _ h => h) (Or.inr ⟨by rfl, rfl⟩) hS0 ?_
    (try simp only [List.getElem_toArray, List.getElem_cons_zero, List.getElem_cons_succ, Act.put, List.setIfInBounds_toArray, List.set_cons_zero, List.set_cons_succ])
    refine wpAnyH_take (i := 12) (v := undef) rfl (by kernel_rfl) (by kernel_rfl) (by kernel_rfl) (fun _ _ _ h => h) (Or.inr ⟨by rfl, rfl⟩) hS0 ?_
    (try simp only [List.getElem_toArray, List.getElem_cons_zero, List.getElem_cons_succ, Act.put, List.setIfInBounds_toArray, List.set_cons_zero, List.set_cons_succ])
    refine wpAnyH_take (i := 13) (v := undef) rfl (by kernel_rfl) (by kernel_rfl) (by kernel_rfl) (fun _ _ _ h => h) (Or.inr ⟨by rfl, rfl⟩) hS0 ?_
    (try simp only [List.getElem_toArray, List.getElem_cons_zero, List.getElem_cons_succ, Act.put, List.setIfInBounds_toArray, List.set_cons_zero, List.set_cons_succ])
    refine wpAnyH_take (i := 14) (v := undef) rfl (by kernel_rfl) (by kernel_rfl) (by kernel_rfl) (fun _ _ _ h => h) (Or.inr ⟨by rfl, rfl⟩) hS0 ?_
    (try simp only [List.getElem_toArray, List.getElem_cons_zero, List.getElem_cons_succ, Act.put, List.setIfInBounds_toArray, List.set_cons_zero, List.set_cons_succ])
    refine wpAnyH_take (i := 15) (v := undef) rfl (by kernel_rfl) (by kernel_rfl) (by kernel_rfl) (fun _ _ _ h => h) (Or.inr ⟨by rfl, rfl⟩) hS0 ?_
    (try simp only [List.getElem_toArray, List.getElem_cons_zero, List.getElem_cons_succ, Act.put, List.setIfInBounds_toArray, List.set_cons_zero, List.set_cons_succ])
    refine wpAnyH_take (i := 16) (v := undef) rfl (by kernel_rfl) (by kernel_rfl) (by kernel_rfl) (fun _ _ _ h => h) (Or.inr ⟨by rfl, rfl⟩) hS0 ?_
    (try simp only [List.getElem_toArray, List.getElem_cons_zero, List.getElem_cons_succ, Act.put, List.setIfInBounds_toArray, List.set_cons_zero, List.set_cons_succ])
    refine wpAnyH_take (i := 17) (v := ?va17) rfl (by kernel_rfl) (by kernel_rfl) (by kernel_rfl) (fun _ _ _ h => h) (Or.inl ⟨by rfl, ?ha17⟩) hS0 ?ra17
    case ha17 => intro x hSx; obtain ⟨q1, q2⟩ := hSx; go_simp; first | done | with_reducible rfl
    (try simp only [List.getElem_toArray, List.getElem_cons_zero, List.getElem_cons_succ, Act.put, List.setIfInBounds_toArray, List.set_cons_zero, List.set_cons_succ])
    refine wpAnyH_take (i := 18) (v := ?va18) rfl (by kernel_rfl) (by kernel_rfl) (by kernel_rfl) (fun _ _ _ h => h) (Or.inl ⟨by rfl, ?ha18⟩) hS0 ?ra18
    case ha18 => intro x hSx; obtain ⟨q1, q2⟩ := hSx; go_simp; first | done | with_reducible rfl
    (try simp only [List.getElem_toArray, List.getElem_cons_zero, List.getElem_cons_succ, Act.put, List.setIfInBounds_toArray, List.set_cons_zero, List.set_cons_succ])
    refine wpAnyH_take (i := 19) (v := ?va19) rfl (by kernel_rfl) (by kernel_rfl) (by kernel_rfl) (fun _ _ _ h => h) (Or.inl ⟨by rfl, ?ha19⟩) hS0 ?ra19
    case ha19 => intro x hSx; obtain ⟨q1, q2⟩ := hSx; go_simp; first | done | with_reducible rfl
    (try simp only [List.getElem_toArray, List.getElem_cons_zero, List.getElem_cons_succ, Act.put, List.setIfInBounds_toArray, List.set_cons_zero, List.set_cons_succ])
    refine wpAnyH_ready (rs := [20]) (by kernel_rfl) (by simp) ?_
    refine AllReadyH.cons rfl (fun K hK => ?_) AllReadyH.nil
    go_simp
    refine HF.out W.drew |>.mono ?_
    rintro e u ⟨rfl, rfl⟩
    exact ⟨rfl, rfl, HG.out.2⟩
  · clear h hx hr BA sx hne
    go_enter Tryz.func134, Tryz.ntmps134
    go_wp2
    generalize hW : (World.setCell (World.alloc _ _) _ _) = W at *
    generalize w.heap.size = P at *
    refine wp_region_held_drew (S := fun x => x.cell? ⟨p, 0, none⟩ = some (.slice (some ⟨b, off + 5, none⟩) 0 (cap - 1)) ∧ x.cell? ⟨P, 1, none⟩ = some (.int .i64 xn)) (by kernel_rfl) ⟨e1, g0⟩ ?_
    intro hS0
    refine wpAnyH_take (i := 0) (v := ?vb0) rfl (by kernel_rfl) (by kernel_rfl) (by kernel_rfl) (fun _ _ _ h => h) (Or.inl ⟨by rfl, ?hb0⟩) hS0 ?rb0
    case hb0 => intro x hSx; obtain ⟨q1, q2⟩ := hSx; go_simp; first | done | with_reducible rfl
    (try simp only [List.getElem_toArray, List.getElem_cons_zero, Act.put, List.setIfInBounds_toArray, List.set_cons_zero, List.set_cons_succ])
    refine wpAnyH_take (i := 1) (v := ?vb1) rfl (by kernel_rfl) (by kernel_rfl) (by kernel_rfl) (fun _ _ _ h => h) (Or.inl ⟨by rfl, ?hb1⟩) hS0 ?rb1
    case hb1 => intro x hSx; obtain ⟨q1, q2⟩ := hSx; go_simp; first | done | with_reducible rfl
    (try simp only [List.getElem_toArray, List.getElem_cons_zero, List.getElem_cons_succ, Act.put, List.setIfInBounds_toArray, List.set_cons_zero, List.set_cons_succ])
    refine wpAnyH_take (i := 2) (v := ?vb2) rfl (by kernel_rfl) (by kernel_rfl) (by kernel_rfl) (fun _ _ _ h => h) (Or.inl ⟨by rfl, ?hb2⟩) hS0 ?rb2
    case hb2 => intro x hSx; obtain ⟨q1, q2⟩ := hSx; go_simp; first | done | with_reducible rfl
    (try simp only [List.getElem_toArray, List.getElem_cons_zero, List.getElem_cons_succ, Act.put, List.setIfInBounds_toArray, List.set_cons_zero, List.set_cons_succ])
    refine wpAnyH_take (i := 3) (v := ?vb3) rfl (by kernel_rfl) (by kernel_rfl) (by kernel_rfl) (fun _ _ _ h => h) (Or.inl ⟨by rfl, ?hb3⟩) hS0 ?rb3
    case hb3 => intro x hSx; obtain ⟨q1, q2⟩ := hSx; go_simp; first | done | with_reducible rfl
    (try simp only [List.getElem_toArray, List.getElem_cons_zero, List.getElem_cons_succ, Act.put, List.setIfInBounds_toArray, List.set_cons_zero, List.set_cons_succ])
    refine wpAnyH_take (i := 4) (v := ?vb4) rfl (by kernel_rfl) (by kernel_rfl) (by kernel_rfl) (fun _ _ _ h => h) (Or.inl ⟨by rfl, ?hb4⟩) hS0 ?rb4
    case hb4 => intro x hSx; obtain ⟨q1, q2⟩ := hSx; go_simp; first | done | with_reducible rfl
    (try simp only [List.getElem_toArray, List.getElem_cons_zero, List.getElem_cons_succ, Act.put, List.setIfInBounds_toArray, List.set_cons_zero, List.set_cons_succ])
    refine wpAnyH_take (i := 5) (v := ?vb5) rfl (by kernel_rfl) (by kernel_rfl) (by kernel_rfl) (fun _ _ _ h => h) (Or.inl ⟨by rfl, ?hb5⟩) hS0 ?rb5
    case hb5 => intro x hSx; obtain ⟨q1, q2⟩ := hSx; go_simp; first | done | with_reducible rfl
    (try simp only [List.getElem_toArray, List.getElem_cons_zero, List.getElem_cons_succ, Act.put, List.setIfInBounds_toArray, List.set_cons_zero, List.set_cons_succ])
    refine wpAnyH_take (i := 6) (v := ?vb6) rfl (by kernel_rfl) (by kernel_rfl) (by kernel_rfl) (fun _ _ _ h => h) (Or.inl ⟨by rfl, ?hb6⟩) hS0 ?rb6
    case hb6 => intro x hSx; obtain ⟨q1, q2⟩ := hSx; go_simp; first | done | with_reducible rfl
    (try simp only [List.getElem_toArray, List.getElem_cons_zero, List.getElem_cons_succ, Act.put, List.setIfInBounds_toArray, List.set_cons_zero, List.set_cons_succ])
    refine wpAnyH_take (i := 7) (v := undef) rfl (by kernel_rfl) (by kernel_rfl) (by kernel_rfl) (fun _ _ _ h => h) (Or.inr ⟨by rfl, rfl⟩) hS0 ?_
    (try simp only [List.getElem_toArray, List.getElem_cons_zero, List.getElem_cons_succ, Act.put, List.setIfInBounds_toArray, List.set_cons_zero, List.set_cons_succ])
    refine wpAnyH_take (i := 8) (v := undef) rfl (by kernel_rfl) (by kernel_rfl) (by kernel_rfl) (fun _ _ _ h => h) (Or.inr ⟨by rfl, rfl⟩) hS0 ?_
    (try simp only [List.getElem_toArray, List.getElem_cons_zero, List.getElem_cons_succ, Act.put, List.setIfInBounds_toArray, List.set_cons_zero, List.set_cons_succ])
    refine wpAnyH_take (i := 9) (v := undef) rfl (by kernel_rfl) (by kernel_rfl) (by kernel_rfl) (fun _ _ _ h => h) (Or.inr ⟨by rfl, rfl⟩) hS0 ?_
    (try simp only [List.getElem_toArray, List.getElem_cons_zero, List.getElem_cons_succ, Act.put, List.setIfInBounds_toArray, List.set_cons_zero, List.set_cons_succ])
    refine wpAnyH_take (i := 10) (v := undef) rfl (by kernel_rfl) (by kernel_rfl) (by kernel_rfl) (fun _ _ _ h => h) (Or.inr ⟨by rfl, rfl⟩) hS0 ?_
    (try simp only [List.getElem_toArray, List.getElem_cons_zero, List.getElem_cons_succ, Act.put, List.setIfInBounds_toArray, List.set_cons_zero, List.set_cons_succ])
    refine wpAnyH_take (i := 11) (v := undef) rfl (by kernel_rfl) (by kernel_rfl) (by kernel_rfl) (fun _ _ _ h => h) (Or.inr ⟨by rfl, rfl⟩) hS0 ?_
    (try simp only [List.getElem_toArray, List.getElem_cons_zero, List.getElem_cons_succ, Act.put, List.setIfInBounds_toArray, List.set_cons_zero, List.set_cons_succ])
    refine wpAnyH_take (i := 12) (v := undef) rfl (by kernel_rfl) (by kernel_rfl) (by kernel_rfl) (fun _ _ _ h => h) (Or.inr ⟨by rfl, rfl⟩) hS0 ?_
    (try simp only [List.getElem_toArray, List.getElem_cons_zero, List.getElem_cons_succ, Act.put, List.setIfInBounds_toArray, List.set_cons_zero, List.set_cons_succ])
    refine wpAnyH_take (i := 13) (v := undef) rfl (by kernel_rfl) (by kernel_rfl) (by kernel_rfl) (fun _ _ _ h => h) (Or.inr ⟨by rfl, rfl⟩) hS0 ?_
    (try simp only [List.getElem_toArray, List.getElem_cons_zero, List.getElem_cons_succ, Act.put, List.setIfInBounds_toArray, List.set_cons_zero, List.set_cons_succ])
    refine wpAnyH_take (i := 14) (v := undef) rfl (by kernel_rfl) (by kernel_rfl) (by kernel_rfl) (fun _ _ _ h => h) (Or.inr ⟨by rfl, rfl⟩) hS0 ?_
    (try simp only [List.getElem_toArray, List.getElem_cons_zero, List.getElem_cons_succ, Act.put, List.setIfInBounds_toArray, List.set_cons_zero, List.set_cons_succ])
    refine wpAnyH_take (i := 15) (v := undef) rfl (by kernel_rfl) (by kernel_rfl) (by kernel_rfl) (fun _ _ _ h => h) (Or.inr ⟨by rfl, rfl⟩) hS0 ?_
    (try simp only [List.getElem_toArray, List.getElem_cons_zero, List.getElem_cons_succ, Act.put, List.setIfInBounds_toArray, List.set_cons_zero, List.set_cons_succ])
    refine wpAnyH_take (i := 16) (v := undef) rfl (by kernel_rfl) (by kernel_rfl) (by kernel_rfl) (fun _ _ _ h => h) (Or.inr ⟨by rfl, rfl⟩) hS0 ?_
    (try simp only [List.getElem_toArray, List.getElem_cons_zero, List.getElem_cons_succ, Act.put, List.setIfInBounds_toArray, List.set_cons_zero, List.set_cons_succ])
    refine wpAnyH_take (i := 17) (v := ?vb17) rfl (by kernel_rfl) (by kernel_rfl) (by kernel_rfl) (fun _ _ _ h => h) (Or.inl ⟨by rfl, ?hb17⟩) hS0 ?rb17
    case hb17 => intro x hSx; obtain ⟨q1, q2⟩ := hSx; go_simp; first | done | with_reducible rfl
    (try simp only [List.getElem_toArray, List.getElem_cons_zero, List.getElem_cons_succ, Act.put, List.setIfInBounds_toArray, List.set_cons_zero, List.set_cons_succ])
    refine wpAnyH_take (i := 18) (v := ?vb18) rfl (by kernel_rfl) (by kernel_rfl) (by kernel_rfl) (fun _ _ _ h => h) (Or.inl ⟨by rfl, ?hb18⟩) hS0 ?rb18
    case hb18 => intro x hSx; obtain ⟨q1, q2⟩ := hSx; go_simp; first | done | with_reducible rfl
    (try simp only [List.getElem_toArray, List.getElem_cons_zero, List.getElem_cons_succ, Act.put, List.setIfInBounds_toArray, List.set_cons_zero, List.set_cons_succ])
    refine wpAnyH_take (i := 19) (v := ?vb19) rfl (by kernel_rfl) (by kernel_rfl) (by kernel_rfl) (fun _ _ _ h => h) (Or.inl ⟨by rfl, ?hb19⟩) hS0 ?rb19
    case hb19 => intro x hSx; obtain ⟨q1, q2⟩ := hSx; go_simp; first | done | with_reducible rfl
    (try simp only [List.getElem_toArray, List.getElem_cons_zero, List.getElem_cons_succ, Act.put, List.setIfInBounds_toArray, List.set_cons_zero, List.set_cons_succ])
    refine wpAnyH_ready (rs := [20]) (by kernel_rfl) (by simp) ?_
    refine AllReadyH.cons rfl (fun K hK => ?_) AllReadyH.nil
    go_simp
    refine HF.out W.drew |>.mono ?_
    rintro e u ⟨rfl, rfl⟩
    exact ⟨rfl, rfl, HG.out.2⟩
set_option maxHeartbeats 2000000 in
theorem under_low {w0 w : World} {p : Nat} {lv nv : Value} {x q : LX.Pc} {l : List LX.Pc} {ns : List DC.Nd} {S : Nat → Prop} (h : Pst w0 w p lv nv (x :: q :: l) ns S) (hqc : q.2.2.1 ≤ x.2.2.1) (d : Int) :
    Calls Tryz.prog 134 #[.pointer (some ⟨p, 0, none⟩), .int .i64 d] w fun e w' => e = .panicked (gaveD 10 x.2.1) ∧ Kb w w' (some p) nv.ownBlock := by
  obtain ⟨b, off, cap, rfl, h2, hx, hl⟩ := h.rd.cut1
  obtain ⟨hc1, hc2, hc3, hr⟩ : ¬ cap = 1 ∧ 1 < cap ∧ (q :: l).length + 1 ≤ cap ∧ Rdp w0 (.slice (some ⟨b, off + 5, none⟩) (q :: l).length (cap - 1)) (q :: l) := by
    rcases hl with ⟨_, h, _⟩ | h
    · cases h
    · exact h
  have c0 : w.cell? ⟨p, 0, none⟩ = some (.slice (some ⟨b, off, none⟩) ((q :: l).length + 1) cap) := h.st.cell 0
  obtain ⟨d0, d1, d2, d3, d4⟩ := hx.below h.bl
  obtain ⟨b', off', cap', ev, -, -, hq, -⟩ := hr.first
  simp only [Value.slice.injEq, Option.some.injEq, Addr.mk.injEq, and_true] at ev
  obtain ⟨⟨rfl, rfl⟩, -, -⟩ := ev
  have BA := below_alloc w (.cells (pc x) 117)
  have f0 : (w.alloc (.cells (pc x) 117)).frozen? ⟨p, 0, none⟩ = false := (h.st.below BA).frozen 0
  have e0 : (w.alloc (.cells (pc x) 117)).cell? ⟨p, 0, none⟩ = some (.slice (some ⟨b, off, none⟩) ((q :: l).length + 1) cap) := (h.st.below BA).cell 0
  have sx := Str.new w 117 (pc x)
  have hne : p ≠ w.heap.size := Nat.ne_of_lt h.st.lt
  have sx2 := ((sx.kb (Kb.set _ p 0 (.slice (some ⟨b, off + 5, none⟩) (q :: l).length (cap - 1)) none) (by simpa using fun e : w.heap.size = p => hne e.symm) (by simp)).below (below_drew _))
  have g1 := sx2.cell 1
  have g2 := sx2.cell 2
  have HG := Lib.hid (gone_any h (.cells (pc x) 117) hr)
  have e1 := HG.out.1.st.cell 0
  have q2 := (hq.below HG.out.1.bl).c2
  obtain ⟨n, hn⟩ : ∃ n, l.length = n := ⟨_, rfl⟩
  have hn1 : (q :: l).length = n + 1 := by simp [hn]
  rw [hn1] at c0 e0 g1 g2 HG e1 q2 hc3
  obtain ⟨xk, xn, xc, xt, xq⟩ := x
  obtain ⟨qk, qn, qc, qt, qq⟩ := q
  unfold pc at f0 e0 HG g1 g2 e1 q2
  simp only [List.getElem?_toArray, List.getElem?_cons_zero, List.getElem?_cons_succ] at d0 d1 d2 d3 d4 f0 e0 HG g1 g2 e1 q2 hqc
  have hn2 : (0 : Int) < ((n : Int) + 1) := by omega
  have hn3 : (1 : Int) ≤ ((n : Int) + 1 + 1) := by omega
  have HF := Lib.hid (fun u => dmust_false 10 xn u)
  have hqn : ¬ xc < qc := by omega
  have hqd : decide (xc < qc) = false := decide_eq_false hqn
  clear h hx hr BA sx sx2 hne hq hl hn hn1 hqc
  go_enter Tryz.func134, Tryz.ntmps134
  go_wp2
  generalize hW : (World.setCell (World.alloc _ _) _ _) = W at *
  generalize w.heap.size = P at *
  refine wp_region_held_drew (S := fun x => x.cell? ⟨p, 0, none⟩ = some (.slice (some ⟨b, off + 5, none⟩) (n + 1) (cap - 1)) ∧ x.cell? ⟨P, 1, none⟩ = some (.int .i64 xn) ∧ x.cell? ⟨P, 2, none⟩ = some (.int .i64 xc) ∧ x.cell? ⟨b, off + 5 + 2, none⟩ = some (.int .i64 qc)) (by kernel_rfl) ⟨e1, g1, g2, q2⟩ ?_
  intro hS0
  refine wpAnyH_take (i := 0) (v := ?v0) rfl (by kernel_rfl) (by kernel_rfl) (by kernel_rfl) (fun _ _ _ h => h) (Or.inl ⟨by rfl, ?h0⟩) hS0 ?r0
  case h0 => intro x hSx; obtain ⟨q1, q2, q3, q4⟩ := hSx; go_simp; first | done | with_reducible rfl
  (try simp only [List.getElem_toArray, List.getElem_cons_zero, Act.put, List.setIfInBounds_toArray, List.set_cons_zero, List.set_cons_succ])
  refine wpAnyH_take (i := 1) (v := ?v1) rfl (by kernel_rfl) (by kernel_rfl) (by kernel_rfl) (fun _ _ _ h => h) (Or.inl ⟨by rfl, ?h1⟩) hS0 ?r1
  case h1 => intro x hSx; obtain ⟨q1, q2, q3, q4⟩ := hSx; go_simp; first | done | with_reducible rfl
  (try simp only [List.getElem_toArray, List.getElem_cons_zero, List.getElem_cons_succ, Act.put, List.setIfInBounds_toArray, List.set_cons_zero, List.set_cons_succ])
  refine wpAnyH_take (i := 2) (v := ?v2) rfl (by kernel_rfl) (by kernel_rfl) (by kernel_rfl) (fun _ _ _ h => h) (Or.inl ⟨by rfl, ?h2⟩) hS0 ?r2
  case h2 => intro x hSx; obtain ⟨q1, q2, q3, q4⟩ := hSx; go_simp; first | done | with_reducible rfl
  (try simp only [List.getElem_toArray, List.getElem_cons_zero, List.getElem_cons_succ, Act.put, List.setIfInBounds_toArray, List.set_cons_zero, List.set_cons_succ])
  refine wpAnyH_take (i := 3) (v := ?v3) rfl (by kernel_rfl) (by kernel_rfl) (by kernel_rfl) (fun _ _ _ h => h) (Or.inl ⟨by rfl, ?h3⟩) hS0 ?r3
  case h3 => intro x hSx; obtain ⟨q1, q2, q3, q4⟩ := hSx; go_simp; first | done | with_reducible rfl
  (try simp only [List.getElem_toArray, List.getElem_cons_zero, List.getElem_cons_succ, Act.put, List.setIfInBounds_toArray, List.set_cons_zero, List.set_cons_succ])
  refine wpAnyH_take (i := 4) (v := ?v4) rfl (by kernel_rfl) (by kernel_rfl) (by kernel_rfl) (fun _ _ _ h => h) (Or.inl ⟨by rfl, ?h4⟩) hS0 ?r4
  case h4 => intro x hSx; obtain ⟨q1, q2, q3, q4⟩ := hSx; go_simp; first | done | with_reducible rfl
  (try simp only [List.getElem_toArray, List.getElem_cons_zero, List.getElem_cons_succ, Act.put, List.setIfInBounds_toArray, List.set_cons_zero, List.set_cons_succ])
  refine wpAnyH_take (i := 5) (v := ?v5) rfl (by kernel_rfl) (by kernel_rfl) (by kernel_rfl) (fun _ _ _ h => h) (Or.inl ⟨by rfl, ?h5⟩) hS0 ?r5
  case h5 => intro x hSx; obtain ⟨q1, q2, q3, q4⟩ := hSx; go_simp; first | done | with_reducible rfl
  (try simp only [List.getElem_toArray, List.getElem_cons_zero, List.getElem_cons_succ, Act.put, List.setIfInBounds_toArray, List.set_cons_zero, List.set_cons_succ])
  refine wpAnyH_take (i := 6) (v := ?v6) rfl (by kernel_rfl) (by kernel_rfl) (by kernel_rfl) (fun _ _ _ h => h) (Or.inl ⟨by rfl, ?h6⟩) hS0 ?r6
  case h6 => intro x hSx; obtain ⟨q1, q2, q3, q4⟩ := hSx; go_simp; first | done | with_reducible rfl
  (try simp only [List.getElem_toArray, List.getElem_cons_zero, List.getElem_cons_succ, Act.put, List.setIfInBounds_toArray, List.set_cons_zero, List.set_cons_succ])
  refine wpAnyH_take (i := 7) (v := ?v7) rfl (by kernel_rfl) (by kernel_rfl) (by kernel_rfl) (fun _ _ _ h => h) (Or.inl ⟨by rfl, ?h7⟩) hS0 ?r7
  case h7 => intro x hSx; obtain ⟨q1, q2, q3, q4⟩ := hSx; go_simp; first | done | with_reducible rfl
  (try simp only [List.getElem_toArray, List.getElem_cons_zero, List.getElem_cons_succ, Act.put, List.setIfInBounds_toArray, List.set_cons_zero, List.set_cons_succ])
  refine wpAnyH_take (i := 8) (v := ?v8) rfl (by kernel_rfl) (by kernel_rfl) (by kernel_rfl) (fun _ _ _ h => h) (Or.inl ⟨by rfl, ?h8⟩) hS0 ?r8
  case h8 => intro x hSx; obtain ⟨q1, q2, q3, q4⟩ := hSx; go_simp; first | done | with_reducible rfl
  (try simp only [List.getElem_toArray, List.getElem_cons_zero, List.getElem_cons_succ, Act.put, List.setIfInBounds_toArray, List.set_cons_zero, List.set_cons_succ])
  refine wpAnyH_take (i := 9) (v := ?v9) rfl (by kernel_rfl) (by kernel_rfl) (by kernel_rfl) (fun _ _ _ h => h) (Or.inl ⟨by rfl, ?h9⟩) hS0 ?r9
  case h9 => intro x hSx; obtain ⟨q1, q2, q3, q4⟩ := hSx; go_simp; first | done | with_reducible rfl
  (try simp only [List.getElem_toArray, List.getElem_cons_zero, List.getElem_cons_succ, Act.put, List.setIfInBounds_toArray, List.set_cons_zero, List.set_cons_succ])
  refine wpAnyH_take (i := 10) (v := ?v10) rfl (by kernel_rfl) (by kernel_rfl) (by kernel_rfl) (fun _ _ _ h => h) (Or.inl ⟨by rfl, ?h10⟩) hS0 ?r10
  case h10 => intro x hSx; obtain ⟨q1, q2, q3, q4⟩ := hSx; go_simp; first | done | with_reducible rfl
  (try simp only [List.getElem_toArray, List.getElem_cons_zero, List.getElem_cons_succ, Act.put, List.setIfInBounds_toArray, List.set_cons_zero, List.set_cons_succ])
  refine wpAnyH_take (i := 11) (v := ?v11) rfl (by kernel_rfl) (by kernel_rfl) (by kernel_rfl) (fun _ _ _ h => h) (Or.inl ⟨by rfl, ?h11⟩) hS0 ?r11
  case h11 => intro x hSx; obtain ⟨q1, q2, q3, q4⟩ := hSx; go_simp; first | done | with_reducible rfl
  (try simp only [List.getElem_toArray, List.getElem_cons_zero, List.getElem_cons_succ, Act.put, List.setIfInBounds_toArray, List.set_cons_zero, List.set_cons_succ])
  refine wpAnyH_take (i := 12) (v := ?v12) rfl (by kernel_rfl) (by kernel_rfl) (by kernel_rfl) (fun _ _ _ h => h) (Or.inl ⟨by rfl, ?h12⟩) hS0 ?r12
  case h12 => intro x hSx; obtain ⟨q1, q2, q3, q4⟩ := hSx; go_simp; first | done | with_reducible rfl
  (try simp only [List.getElem_toArray, List.getElem_cons_zero, List.getElem_cons_succ, Act.put, List.setIfInBounds_toArray, List.set_cons_zero, List.set_cons_succ])
  refine wpAnyH_take (i := 13) (v := ?v13) rfl (by kernel_rfl) (by kernel_rfl) (by kernel_rfl) (fun _ _ _ h => h) (Or.inl ⟨by rfl, ?h13⟩) hS0 ?r13
  case h13 => intro x hSx; obtain ⟨q1, q2, q3, q4⟩ := hSx; go_simp; first | done | with_reducible rfl
  (try simp only [List.getElem_toArray, List.getElem_cons_zero, List.getElem_cons_succ, Act.put, List.setIfInBounds_toArray, List.set_cons_zero, List.set_cons_succ])
  refine wpAnyH_take (i := 14) (v := ?v14) rfl (by kernel_rfl) (by kernel_rfl) (by kernel_rfl) (fun _ _ _ h => h) (Or.inl ⟨by rfl, ?h14⟩) hS0 ?r14
  case h14 => intro x hSx; obtain ⟨q1, q2, q3, q4⟩ := hSx; go_simp; first | done | with_reducible rfl
  (try simp only [List.getElem_toArray, List.getElem_cons_zero, List.getElem_cons_succ, Act.put, List.setIfInBounds_toArray, List.set_cons_zero, List.set_cons_succ])
  refine wpAnyH_take (i := 15) (v := ?v15) rfl (by kernel_rfl) (by kernel_rfl) (by kernel_rfl) (fun _ _ _ h => h) (Or.inl ⟨by rfl, ?h15⟩) hS0 ?r15
  case h15 => intro x hSx; obtain ⟨q1, q2, q3, q4⟩ := hSx; go_simp; first | done | with_reducible rfl
  (try simp only [List.getElem_toArray, List.getElem_cons_zero, List.getElem_cons_succ, Act.put, List.setIfInBounds_toArray, List.set_cons_zero, List.set_cons_succ])
  refine wpAnyH_take (i := 16) (v := ?v16) rfl (by kernel_rfl) (by kernel_rfl) (by kernel_rfl) (fun _ _ _ h => h) (Or.inl ⟨by rfl, ?h16⟩) hS0 ?r16
  case h16 => intro x hSx; obtain ⟨q1, q2, q3, q4⟩ := hSx; go_simp; first | done | with_reducible rfl
  (try simp only [List.getElem_toArray, List.getElem_cons_zero, List.getElem_cons_succ, Act.put, List.setIfInBounds_toArray, List.set_cons_zero, List.set_cons_succ])
  refine wpAnyH_take (i := 17) (v := ?v17) rfl (by kernel_rfl) (by kernel_rfl) (by kernel_rfl) (fun _ _ _ h => h) (Or.inl ⟨by rfl, ?h17⟩) hS0 ?r17
  case h17 => intro x hSx; obtain ⟨q1, q2, q3, q4⟩ := hSx; go_simp; first | done | with_reducible rfl
  (try simp only [List.getElem_toArray, List.getElem_cons_zero, List.getElem_cons_succ, Act.put, List.setIfInBounds_toArray, List.set_cons_zero, List.set_cons_succ])
  refine wpAnyH_take (i := 18) (v := ?v18) rfl (by kernel_rfl) (by kernel_rfl) (by kernel_rfl) (fun _ _ _ h => h) (Or.inl ⟨by rfl, ?h18⟩) hS0 ?r18
  case h18 => intro x hSx; obtain ⟨q1, q2, q3, q4⟩ := hSx; go_simp; first | done | with_reducible rfl
  (try simp only [List.getElem_toArray, List.getElem_cons_zero, List.getElem_cons_succ, Act.put, List.setIfInBounds_toArray, List.set_cons_zero, List.set_cons_succ])
  refine wpAnyH_take (i := 19) (v := ?v19) rfl (by kernel_rfl) (by kernel_rfl) (by kernel_rfl) (fun _ _ _ h => h) (Or.inl ⟨by rfl, ?h19⟩) hS0 ?r19
  case h19 => intro x hSx; obtain ⟨q1, q2, q3, q4⟩ := hSx; go_simp; first | done | with_reducible rfl
  (try simp only [List.getElem_toArray, List.getElem_cons_zero, List.getElem_cons_succ, Act.put, List.setIfInBounds_toArray, List.set_cons_zero, List.set_cons_succ])
  refine wpAnyH_ready (rs := [20]) (by kernel_rfl) (by simp) ?_
  refine AllReadyH.cons rfl (fun K hK => ?_) AllReadyH.nil
  go_simp
  refine HF.out W.drew |>.mono ?_
  rintro e u ⟨rfl, rfl⟩
  exact ⟨rfl, rfl, HG.out.2⟩
set_option maxHeartbeats 2000000 in
theorem under_go {f : Nat} (hb : BlkC f) {w0 w : World} {p : Nat} {lv nv : Value} {x q : LX.Pc} {l : List LX.Pc} {ns : List DC.Nd} {S : Nat → Prop} (h : Pst w0 w p lv nv (x :: q :: l) ns S) (hqc : ¬ q.2.2.1 ≤ x.2.2.1) (d : Nat) (hd : d ≤ 25) (ht : Texts (x :: q :: l)) (hf : 2 * (q :: l).length + 2 ≤ f) (hN : ns.length ≤ 2000) :
    Calls Tryz.prog 134 #[.pointer (some ⟨p, 0, none⟩), .int .i64 (d : Int)] w (BlkE w0 w p nv ns S (DC.blk f d ns.length (q :: l))) := by
  obtain ⟨b, off, cap, rfl, h2, hx, hl⟩ := h.rd.cut1
  obtain ⟨hc1, hc2, hc3, hr⟩ : ¬ cap = 1 ∧ 1 < cap ∧ (q :: l).length + 1 ≤ cap ∧ Rdp w0 (.slice (some ⟨b, off + 5, none⟩) (q :: l).length (cap - 1)) (q :: l) := by
    rcases hl with ⟨_, h, _⟩ | h
    · cases h
    · exact h
  have c0 : w.cell? ⟨p, 0, none⟩ = some (.slice (some ⟨b, off, none⟩) ((q :: l).length + 1) cap) := h.st.cell 0
  obtain ⟨d0, d1, d2, d3, d4⟩ := hx.below h.bl
  obtain ⟨b', off', cap', ev, -, -, hq, -⟩ := hr.first
  simp only [Value.slice.injEq, Option.some.injEq, Addr.mk.injEq, and_true] at ev
  obtain ⟨⟨rfl, rfl⟩, -, -⟩ := ev
  have BA := below_alloc w (.cells (pc x) 117)
  have f0 : (w.alloc (.cells (pc x) 117)).frozen? ⟨p, 0, none⟩ = false := (h.st.below BA).frozen 0
  have e0 : (w.alloc (.cells (pc x) 117)).cell? ⟨p, 0, none⟩ = some (.slice (some ⟨b, off, none⟩) ((q :: l).length + 1) cap) := (h.st.below BA).cell 0
  have sx := Str.new w 117 (pc x)
  have hne : p ≠ w.heap.size := Nat.ne_of_lt h.st.lt
  have sx2 := ((sx.kb (Kb.set _ p 0 (.slice (some ⟨b, off + 5, none⟩) (q :: l).length (cap - 1)) none) (by simpa using fun e : w.heap.size = p => hne e.symm) (by simp)).below (below_drew _))
  have g1 := sx2.cell 1
  have g2 := sx2.cell 2
  have HG := Lib.hid (gone_any h (.cells (pc x) 117) hr)
  have e1 := HG.out.1.st.cell 0
  have q2 := (hq.below HG.out.1.bl).c2
  obtain ⟨n, hn⟩ : ∃ n, l.length = n := ⟨_, rfl⟩
  have hn1 : (q :: l).length = n + 1 := by simp [hn]
  rw [hn1] at c0 e0 g1 g2 HG e1 q2 hc3
  have HB := Lib.hid (fun (u : World) (k : Below _ _ u) => hb w0 u p _ nv _ ns S d (HG.out.1.calm k) (by simp) ht.tail hf hN hd)
  have HO := Lib.hid (fun (u : World) (k : Below _ _ u) (e : Ending) (w' : World) (he : BlkE w0 u p nv ns S (DC.blk f d ns.length (q :: l)) e w') => BlkE.from (HG.out.2.trans (Kb.of_below k (some p) nv.ownBlock)) he)
  obtain ⟨xk, xn, xc, xt, xq⟩ := x
  obtain ⟨qk, qn, qc, qt, qq⟩ := q
  unfold pc at f0 e0 HG HB HO g1 g2 e1 q2
  simp only [List.getElem?_toArray, List.getElem?_cons_zero, List.getElem?_cons_succ] at d0 d1 d2 d3 d4 f0 e0 HG HB HO g1 g2 e1 q2 hqc
  have hn2 : (0 : Int) < ((n : Int) + 1) := by omega
  have hn3 : (1 : Int) ≤ ((n : Int) + 1 + 1) := by omega
  have HF := Lib.hid (fun u => dmust_true 10 xn u)
  have hqn : decide (xc < qc) = true := decide_eq_true (by omega)
  have hn4 : decide ((0 : Int) < ((n : Int) + 1)) = true := decide_eq_true hn2
  clear h hx hr BA sx sx2 hne hq hl hn hn1 hqc ht hf hN hd
  go_enter Tryz.func134, Tryz.ntmps134
  go_wp2
  generalize hW : (World.setCell (World.alloc _ _) _ _) = W at *
  generalize w.heap.size = P at *
  clear hW
  generalize hR : DC.blk f d ns.length _ = R at *
  replace e1 : W.cell? ⟨p, 0, none⟩ = some (.slice (some ⟨b, off + 5, none⟩) (n + 1) (cap - 1)) := e1
  replace g1 : W.cell? ⟨P, 1, none⟩ = some (.int .i64 xn) := g1
  replace g2 : W.cell? ⟨P, 2, none⟩ = some (.int .i64 xc) := g2
  replace q2 : W.cell? ⟨b, off + 5 + 2, none⟩ = some (.int .i64 qc) := q2
  go_quiet (first | (with_reducible refine Calls.quiet_of_same (HF.out _)))
  go_wp2_with fail
  refine (HB.out (W.drewN nq) ⟨rfl, rfl, rfl, Nat.le_refl _, fun _ _ => rfl⟩).mono ?_
  rintro e w2 he
  replace he := HO.out (W.drewN nq) ⟨rfl, rfl, rfl, Nat.le_refl _, fun _ _ => rfl⟩ _ _ he
  clear HB HO HG
  cases R with
  | bad k n =>
    obtain ⟨hk, rfl⟩ := he
    exact ⟨rfl, hk, rfl⟩
  | ok a =>
    obtain ⟨hk, rfl, lv', nv', hp, hn⟩ := he
    have HK := Lib.hid hk
    have HP := Lib.hid hp
    have HN := Lib.hid hn
    clear hk hp hn
    go_wp2
    go_ret
    exact ⟨HK.out, rfl, _, _, HP.out, HN.out⟩
theorem under_any {f : Nat} (hb : BlkC f) {w0 w : World} {p : Nat} {lv nv : Value} {x : LX.Pc} {l : List LX.Pc} {ns : List DC.Nd} {S : Nat → Prop} (h : Pst w0 w p lv nv (x :: l) ns S) (d : Nat) (hd : d ≤ 25) (ht : Texts (x :: l)) (hf : 2 * l.length + 2 ≤ f) (hN : ns.length ≤ 2000) :
    Calls Tryz.prog 134 #[.pointer (some ⟨p, 0, none⟩), .int .i64 (d : Int)] w (BlkE w0 w p nv ns S (DC.und f x.2.1 x.2.2.1 d ns.length l)) := by
  unfold DC.und
  cases l with
  | nil =>
    rw [if_pos (show DC.low x.2.2.1 [] = true from rfl)]
    obtain ⟨b, off, cap, rfl, h2, hx, hl⟩ := h.rd.cut1
    have hc : Calls Tryz.prog 134 #[.pointer (some ⟨p, 0, none⟩), .int .i64 (d : Int)] w fun e w' => e = .panicked (gaveD 10 x.2.1) ∧ Kb w w' (some p) nv.ownBlock := by
      rcases hl with ⟨hc1, _, hr⟩ | ⟨hc1, hc2, _, hr⟩
      · exact under_none1 h rfl h2 hx hr (.inl ⟨hc1, rfl⟩) d
      · exact under_none1 h rfl h2 hx hr (.inr ⟨hc1, hc2, rfl⟩) d
    exact hc.mono fun e w' he => ⟨he.2, he.1⟩
  | cons q l =>
    by_cases hq : q.2.2.1 ≤ x.2.2.1
    · rw [if_pos (by simpa [DC.low] using hq)]
      exact (under_low h hq d).mono fun e w' he => ⟨he.2, he.1⟩
    · rw [if_neg (by simpa [DC.low] using hq)]
      exact under_go hb h hq d hd ht hf hN
end Go.Proofs.YtgfhabofhefaaaaGreatDoor
