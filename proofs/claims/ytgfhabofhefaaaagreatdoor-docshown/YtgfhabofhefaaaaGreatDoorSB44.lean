/- A part of the proof. -/
import Derived.Test.YtgfhabofhefaaaaGreatDoorSB43
import Derived.Deep.RegionLaw
import Derived.BigRegion
import Derived.Deep.DeepCutAuto
import Derived.Deep.CutBlock
import Derived.Deep.RegionHeld3
namespace Go.Proofs.YtgfhabofhefaaaaGreatDoor
open Go.RowKit
structure BkS (w0 w wr : World) (p : Nat) (nv lv' nv' : Value) (x : LX.Pc) (y : Nv) (l' : List LX.Pc) (ns : List DC.Nd) (S : Nat → Prop) : Prop where
  ps : Pst w0 wr p lv' nv' l' ns S
  kb : Kb w wr (some p) nv.ownBlock
  nr : Near w nv nv'
  fi : Str wr w.heap.size 117 (pc x)
  nd : Str wr (w.heap.size + 1) 48 (nc y)
  nn : nv'.ownBlock = none ∨ nv'.ownBlock ≠ some (w.heap.size + 1)
  gz : w0.heap.size ≤ w.heap.size
def node0 (x : LX.Pc) : DC.Nd := ⟨DC.nk x.1, x.2.1, [], false, [], []⟩
abbrev bare (y : DC.Nd) : Nv := (y, .slice none 0 0, .slice none 0 0)
theorem BkS.start {w0 w : World} {p : Nat} {lv nv : Value} {x : LX.Pc} {l : List LX.Pc} {ns : List DC.Nd} {S : Nat → Prop} (h : Pst w0 w p lv nv (x :: l) ns S) :
    BkS w0 w (((w.alloc (.cells (pc x) 117)).alloc (.cells (nc (bare (node0 x))) 48)).drew) p nv lv nv x (bare (node0 x)) (x :: l) ns S := by
  have b1 := (below_alloc w (.cells (pc x) 117))
  have b3 := below_alloc (w.alloc (.cells (pc x) 117)) (.cells (nc (bare (node0 x))) 48)
  have b4 := below_trans (below_trans b1 b3) (below_drew _)
  have n2 := (Str.new (w.alloc (.cells (pc x) 117)) 48 (nc (bare (node0 x)))).below (below_drew _)
  have z : (w.alloc (.cells (pc x) 117)).heap.size = w.heap.size + 1 := bx_size _ _
  rw [z] at n2
  refine ⟨h.calm b4, Kb.of_below b4 _ _, Near.refl _ _, ((Str.new w 117 (pc x)).below b3).below (below_drew _), n2, ?_, h.bl.size⟩
  cases hg : nv.ownBlock with
  | none => exact .inl rfl
  | some g =>
    right
    intro e
    have := (h.nd.ge hg).2
    have := Option.some.inj e
    omega
section
variable {w0 w wr : World} {p : Nat} {nv lv' nv' : Value} {x : LX.Pc} {y : Nv} {l' : List LX.Pc} {ns : List DC.Nd} {S : Nat → Prop}
theorem BkS.fed (h : BkS w0 w wr p nv lv' nv' x y l' ns S) {w2 : World} {lv2 nv2 : Value} {r : List LX.Pc} {ns2 : List DC.Nd} {S2 : Nat → Prop} (hk : Kb wr w2 (some p) nv'.ownBlock) (hp : Pst w0 w2 p lv2 nv2 r ns2 S2) (hn : Near wr nv' nv2) : BkS w0 w w2 p nv lv2 nv2 x y r ns2 S2 := by
  have hpf : p ≠ w.heap.size := h.ps.st.apart_str h.fi (by decide)
  have hpn : p ≠ w.heap.size + 1 := h.ps.st.apart_str h.nd (by decide)
  refine ⟨hp, h.kb.near h.nr hk, h.nr.trans hn h.kb.size, h.fi.kb hk (fun e => hpf (Option.some.inj e).symm) ?_, h.nd.kb hk (fun e => hpn (Option.some.inj e).symm) ?_, ?_, h.gz⟩
  · intro e
    rcases h.ps.nd.off h.fi (by decide) with h1 | h1
    · rw [h1] at e; cases e
    · exact h1 e.symm
  · intro e
    rcases h.nn with h1 | h1
    · rw [h1] at e; cases e
    · exact h1 e.symm
  · rcases hn with hn | hn
    · rw [hn]; exact h.nn
    · cases hg : nv2.ownBlock with
      | none => exact .inl rfl
      | some g =>
        right
        intro e
        have h1 := hn g hg
        have h2 := h.nd.lt
        have h3 := Option.some.inj e
        omega
theorem BkS.calm (h : BkS w0 w wr p nv lv' nv' x y l' ns S) {w' : World} (hb : Below wr.heap.size wr w') : BkS w0 w w' p nv lv' nv' x y l' ns S :=
  ⟨h.ps.calm hb, h.kb.trans (Kb.of_below hb _ _), h.nr, h.fi.below hb, h.nd.below hb, h.nn, h.gz⟩
theorem BkS.push (h : BkS w0 w wr p nv lv' nv' x y l' ns S) {vs : List Nv} (hvs : vs.map (·.1) = ns) (ho : Ownv wr w0.heap.size nv' vs) (hn : ∀ a ∈ vs, Nk wr w0.heap.size S a) {w1 : World} {nv2 : Value} {a : Nv} (hg : wr.grownBy w1 nv'.ownBlock) (ho' : Ownv w1 w0.heap.size nv2 (vs ++ [a])) (ha : Nk w1 w0.heap.size S a) (hnr : Near wr nv' nv2) :
    Str w1 p 84 #[lv', nv'] ∧ BkS w0 w (w1.setCell ⟨p, 1, none⟩ nv2) p nv lv' nv2 x y l' (ns ++ [a.1]) S := by
  subst hvs
  obtain ⟨s1, s2, s3⟩ := h.ps.push hn ho hg ho' ha
  exact ⟨s1, h.fed s3 s2 hnr⟩
theorem BkS.turn (h : BkS w0 w wr p nv lv' nv' x y l' ns S) {w' : World} {y' : Nv} (hk : Kb wr w' (some (w.heap.size + 1)) none) (hs : Str w' (w.heap.size + 1) 48 (nc y')) : BkS w0 w w' p nv lv' nv' x y' l' ns S := by
  have hpn : p ≠ w.heap.size + 1 := h.ps.st.apart_str h.nd (by decide)
  exact ⟨h.ps.kb hk (Far.str h.nd (by decide) (by decide)) (Far.none _ _) (fun e => hpn (Option.some.inj e)) (by simp) h.nn no_or (fun g hg => by have := Option.some.inj hg; have := h.gz; omega) (by simp), h.kb.trans_new (q' := some (w.heap.size + 1)) ⟨hk.os, hk.tape, hk.output, hk.size, fun k h1 h2 h3 => hk.block k h1 h3 (by simp)⟩ (fun g hg => .inr (by have := Option.some.inj hg; omega)), h.nr, h.fi.kb hk (by simp) (by simp), hs, h.nn, h.gz⟩
end
set_option maxRecDepth 10000 in
set_option maxHeartbeats 8000000 in
theorem block_any {f : Nat} (hi : ItC f) (he : EnC f) : BlkC (f + 1) := by
  intro w0 w p lv nv l ns S d h hl ht hf hN hd
  obtain ⟨x, t, rfl⟩ : ∃ x t, l = x :: t := by
    cases l with
    | nil => exact absurd rfl hl
    | cons x t => exact ⟨x, t, rfl⟩
  obtain ⟨A, HF⟩ : ∃ A, Hid (A = DC.blk (f + 1) d ns.length (x :: t)) := ⟨_, Lib.hid rfl⟩
  rw [show DC.blk (f + 1) d ns.length (x :: t) = A from HF.out.symm]
  have HS := Lib.hid (BkS.start h)
  have HSB := Lib.hid h.sb
  have HI := Lib.hid hi
  have HEn := Lib.hid he
  have HT := Lib.hid ht
  have HN := Lib.hid hN
  have HD := Lib.hid hd
  have HF0 := Lib.hid hf
  obtain ⟨bx, off, cap, rfl, h2, hx, hlv⟩ := h.rd.cut1
  have c0 : w.cell? ⟨p, 0, none⟩ = some (.slice (some ⟨bx, off, none⟩) (t.length + 1) cap) := h.st.cell 0
  obtain ⟨d0, d1, d2, d3, d4⟩ := hx.below h.bl
  have HLV := Lib.hid hlv
  have hn2 : (0 : Int) < (t.length : Int) + 1 := by omega
  have HK1 := Lib.hid (Str.new w 117 (pc x))
  have e0 := HK1.out.cell 0
  have e1 := HK1.out.cell 1
  obtain ⟨xk, xn, xc, xt, xq⟩ := x
  have HNK := Lib.hid (fun u => nodeKind_any xk u)
  obtain ⟨K, hK⟩ : ∃ K, DC.nk xk = K := ⟨_, rfl⟩
  have HK := Lib.hid hK
  rw [hK] at HNK
  unfold pc at e0 e1
  unfold bare node0 nc at HS
  simp only [List.getElem?_toArray, List.getElem?_cons_zero, List.getElem?_cons_succ] at d0 d1 d2 d3 d4 e0 e1 HS
  rw [hK] at HS
  have HS' : Hid (BkS w0 w (((w.alloc (.cells #[.int .i64 xk, .int .i64 xn, .int .i64 xc, .string ⟨xt.toArray⟩, .bool xq] 117)).alloc (.cells #[.int .i64 K, .int .i64 xn, .string ⟨#[]⟩, .bool false, .slice none 0 0, .slice none 0 0] 48)).drew) p nv (.slice (some ⟨bx, off, none⟩) (t.length + 1) cap) nv (xk, xn, xc, xt, xq) (bare ⟨K, xn, [], false, [], []⟩) ((xk, xn, xc, xt, xq) :: t) ns S) := HS
  clear h hx ht hN hd hf hl hK hlv HK1 HS hi he
  go_enter Tryz.func68, Tryz.ntmps68
  go_upto_region 2 with fail
  go_cut [5, 6] (fun s5 s6 wx => s5 = .pointer (some ⟨w.heap.size, 0, none⟩) ∧ s6 = .pointer (some ⟨w.heap.size + 1, 0, none⟩) ∧ Hid (BkS w0 w wx p nv (.slice (some ⟨bx, off, none⟩) (t.length + 1) cap) nv (xk, xn, xc, xt, xq) (bare ⟨K, xn, [], false, [], []⟩) ((xk, xn, xc, xt, xq) :: t) ns S))
  case first =>
    go_region_with (go_at_call 99; refine (HNK.out _).mono ?_; rintro e u ⟨rfl, hw1⟩; replace hw1 := hw1.symm; subst hw1)
    all_goals (go_wp2_with fail; go_meet; exact ⟨rfl, rfl, HS'⟩)
  case rest =>
    obtain ⟨rfl, rfl, HS⟩ := hcut
    clear HS' c0 d0 d1 d2 d3 d4 e0 e1
    obtain ⟨P, hP⟩ : ∃ P, w.heap.size = P := ⟨_, rfl⟩
    have HP := Lib.hid hP
    simp only [hP]
    have e0 : wc.cell? ⟨P, 0, none⟩ = some (.int .i64 xk) := by rw [← hP]; exact HS.out.fi.cell 0
    have e1 : wc.cell? ⟨P, 1, none⟩ = some (.int .i64 xn) := by rw [← hP]; exact HS.out.fi.cell 1
    have n0 : wc.cell? ⟨P + 1, 0, none⟩ = some (.int .i64 K) := by rw [← hP]; exact HS.out.nd.cell 0
    clear hP
    by_cases hk0 : K = 0
    · have E := Lib.hid (show A = .bad 6 xn by rw [HF.out, DC.blk_kind (by rw [← hk0]; exact HK.out)])
      have hkb : (K != 0) = false := by rw [hk0]; rfl
      go_wp2_with (go_at_call 67; refine (dmust_false 6 xn _).mono ?_; rintro e u ⟨rfl, rfl⟩)
      rw [E.out]
      exact ⟨rfl, HS.out.kb, rfl⟩
    have hkb : (K != 0) = true := by simpa using hk0
    have HKN : Hid (DC.nk xk ≠ 0) := by show _ ≠ _; rw [HK.out]; exact hk0
    have HM6 := Lib.hid (fun u => dmust_true 6 xn u)
    by_cases hd : 24 < d
    · have E := Lib.hid (show A = .bad 8 xn by rw [HF.out, DC.blk_deep HKN.out hd])
      have hdb : decide ((d : Int) ≤ 24) = false := decide_eq_false (by omega)
      have HM8 := Lib.hid (fun u => dmust_false 8 xn u)
      go_wp2_with (first
        | (go_at_call 67; with_reducible refine (HM6.out _).mono ?_; rintro e u ⟨rfl, hw1⟩; replace hw1 := hw1.symm; subst hw1)
        | (go_at_call 67; with_reducible refine (HM8.out _).mono ?_; rintro e u ⟨rfl, rfl⟩))
      rw [E.out]
      exact ⟨rfl, HS.out.kb, rfl⟩
    have hdb : decide ((d : Int) ≤ 24) = true := decide_eq_true (by omega)
    have HM8 := Lib.hid (fun u => dmust_true 8 xn u)
    have HDD := Lib.hid hd
    obtain ⟨an, cn, hnv⟩ := HS.out.ps.nd.slice
    obtain ⟨N, hNN⟩ : ∃ N, ns.length = N := ⟨_, rfl⟩
    have HNN := Lib.hid hNN
    rw [hNN] at hnv HF HN
    subst hnv
    have p1 : wc.cell? ⟨p, 1, none⟩ = some (.slice an N cn) := HS.out.ps.st.cell 1
    clear hNN hd
    by_cases hm : 2000 ≤ N
    · have E := Lib.hid (show A = .bad 9 xn by rw [HF.out, DC.blk_many HKN.out HDD.out hm])
      have hmb : decide ((N : Int) < 2000) = false := decide_eq_false (by omega)
      have HM9 := Lib.hid (fun u => dmust_false 9 xn u)
      go_wp2_with (first
        | (go_at_call 67; with_reducible refine (HM6.out _).mono ?_; rintro e u ⟨rfl, hw1⟩; replace hw1 := hw1.symm; subst hw1)
        | (go_at_call 67; with_reducible refine (HM8.out _).mono ?_; rintro e u ⟨rfl, hw1⟩; replace hw1 := hw1.symm; subst hw1))
      refine wp_region_held_drew (S := fun u => u.cell? ⟨p, 1, none⟩ = some (.slice an N cn) ∧ u.cell? ⟨P, 1, none⟩ = some (.int .i64 xn)) (by kernel_rfl) ⟨p1, e1⟩ ?_
      intro hS0
      refine wpAnyH_take (i := 0) (v := ?vm0) rfl (by kernel_rfl) (by kernel_rfl) (by kernel_rfl) (fun _ _ _ h => h) (Or.inl ⟨by rfl, ?hm0⟩) hS0 ?rm0
      case hm0 => intro x hSx; obtain ⟨q1, q2⟩ := hSx; go_simp; first | done | with_reducible rfl
      (try simp only [List.getElem_toArray, List.getElem_cons_zero, Act.put, List.setIfInBounds_toArray, List.set_cons_zero, List.set_cons_succ])
      refine wpAnyH_take (i := 1) (v := ?vm1) rfl (by kernel_rfl) (by kernel_rfl) (by kernel_rfl) (fun _ _ _ h => h) (Or.inl ⟨by rfl, ?hm1⟩) hS0 ?rm1
      case hm1 => intro x hSx; obtain ⟨q1, q2⟩ := hSx; go_simp; first | done | with_reducible rfl
      (try simp only [List.getElem_toArray, List.getElem_cons_zero, List.getElem_cons_succ, Act.put, List.setIfInBounds_toArray, List.set_cons_zero, List.set_cons_succ])
      refine wpAnyH_take (i := 2) (v := ?vm2) rfl (by kernel_rfl) (by kernel_rfl) (by kernel_rfl) (fun _ _ _ h => h) (Or.inl ⟨by rfl, ?hm2⟩) hS0 ?rm2
      case hm2 => intro x hSx; obtain ⟨q1, q2⟩ := hSx; go_simp; first | done | with_reducible rfl
      (try simp only [List.getElem_toArray, List.getElem_cons_zero, List.getElem_cons_succ, Act.put, List.setIfInBounds_toArray, List.set_cons_zero, List.set_cons_succ])
      refine wpAnyH_take (i := 3) (v := ?vm3) rfl (by kernel_rfl) (by kernel_rfl) (by kernel_rfl) (fun _ _ _ h => h) (Or.inl ⟨by rfl, ?hm3⟩) hS0 ?rm3
      case hm3 => intro x hSx; obtain ⟨q1, q2⟩ := hSx; go_simp; first | done | with_reducible rfl
      (try simp only [List.getElem_toArray, List.getElem_cons_zero, List.getElem_cons_succ, Act.put, List.setIfInBounds_toArray, List.set_cons_zero, List.set_cons_succ])
      refine wpAnyH_take (i := 4) (v := ?vm4) rfl (by kernel_rfl) (by kernel_rfl) (by kernel_rfl) (fun _ _ _ h => h) (Or.inl ⟨by rfl, ?hm4⟩) hS0 ?rm4
      case hm4 => intro x hSx; obtain ⟨q1, q2⟩ := hSx; go_simp; first | done | with_reducible rfl
      (try simp only [List.getElem_toArray, List.getElem_cons_zero, List.getElem_cons_succ, Act.put, List.setIfInBounds_toArray, List.set_cons_zero, List.set_cons_succ])
      refine wpAnyH_take (i := 5) (v := ?vm5) rfl (by kernel_rfl) (by kernel_rfl) (by kernel_rfl) (fun _ _ _ h => h) (Or.inl ⟨by rfl, ?hm5⟩) hS0 ?rm5
      case hm5 => intro x hSx; obtain ⟨q1, q2⟩ := hSx; go_simp; first | done | with_reducible rfl
      (try simp only [List.getElem_toArray, List.getElem_cons_zero, List.getElem_cons_succ, Act.put, List.setIfInBounds_toArray, List.set_cons_zero, List.set_cons_succ])
      refine wpAnyH_take (i := 6) (v := ?vm6) rfl (by kernel_rfl) (by kernel_rfl) (by kernel_rfl) (fun _ _ _ h => h) (Or.inl ⟨by rfl, ?hm6⟩) hS0 ?rm6
      case hm6 => intro x hSx; obtain ⟨q1, q2⟩ := hSx; go_simp; first | done | with_reducible rfl
      (try simp only [List.getElem_toArray, List.getElem_cons_zero, List.getElem_cons_succ, Act.put, List.setIfInBounds_toArray, List.set_cons_zero, List.set_cons_succ])
      refine wpAnyH_take (i := 7) (v := ?vm7) rfl (by kernel_rfl) (by kernel_rfl) (by kernel_rfl) (fun _ _ _ h => h) (Or.inl ⟨by rfl, ?hm7⟩) hS0 ?rm7
      case hm7 => intro x hSx; obtain ⟨q1, q2⟩ := hSx; go_simp; first | done | with_reducible rfl
      (try simp only [List.getElem_toArray, List.getElem_cons_zero, List.getElem_cons_succ, Act.put, List.setIfInBounds_toArray, List.set_cons_zero, List.set_cons_succ])
      refine wpAnyH_ready (rs := [8]) (by kernel_rfl) (by simp) ?_
      refine AllReadyH.cons rfl (fun K hK => ?_) AllReadyH.nil
      go_simp
      refine (HM9.out _).mono ?_
      rintro e u ⟨rfl, rfl⟩
      rw [E.out]
      exact ⟨rfl, HS.out.kb.trans (Kb.of_below (below_drew _) _ _), rfl⟩
    have hmb : decide ((N : Int) < 2000) = true := decide_eq_true (by omega)
    have HM9 := Lib.hid (fun u => dmust_true 9 xn u)
    go_upto_region 7 with (first
        | (go_at_call 67; with_reducible refine (HM6.out _).mono ?_; rintro e u ⟨rfl, hw1⟩; replace hw1 := hw1.symm; subst hw1)
        | (go_at_call 67; with_reducible refine (HM8.out _).mono ?_; rintro e u ⟨rfl, hw1⟩; replace hw1 := hw1.symm; subst hw1)
        | (go_quiet (first | (with_reducible refine Calls.quiet_of_same (HM9.out _)))))
    have HS3 := Lib.hid (HS.out.calm (below_drewN wc nq))
    clear HS p1 e0 e1 n0 hkb hdb hmb HM6 HM8 HM9
    generalize wc.drewN nq = w3 at *
    clear wc
    go_cut [] (fun wx => ∃ an2 cn2, Hid (BkS w0 w wx p (.slice an N cn) (.slice (some ⟨bx, off, none⟩) (t.length + 1) cap) (.slice an2 (N + 1) cn2) (xk, xn, xc, xt, xq) (bare ⟨K, xn, [], false, [], []⟩) ((xk, xn, xc, xt, xq) :: t) (ns ++ [⟨K, xn, [], false, [], []⟩]) S))
    case first =>
      have b5 := below_trans (below_alloc w3 (.cells #[.int .i64 K, .int .i64 xn, .string ⟨#[]⟩, .bool false, .slice none 0 0, .slice none 0 0] 48)) (below_drew _)
      have HS5 := Lib.hid (HS3.out.calm b5)
      have p1 : w3.cell? ⟨p, 1, none⟩ = some (.slice an N cn) := HS3.out.ps.st.cell 1
      have p1' : (w3.alloc (.cells #[.int .i64 K, .int .i64 xn, .string ⟨#[]⟩, .bool false, .slice none 0 0, .slice none 0 0] 48)).cell? ⟨p, 1, none⟩ = some (.slice an N cn) := HS5.out.ps.st.cell 1
      have n0 : w3.cell? ⟨P + 1, 0, none⟩ = some (.int .i64 K) := by rw [← HP.out]; exact HS3.out.nd.cell 0
      have n1 : w3.cell? ⟨P + 1, 1, none⟩ = some (.int .i64 xn) := by rw [← HP.out]; exact HS3.out.nd.cell 1
      have n2 : w3.cell? ⟨P + 1, 2, none⟩ = some (.string ⟨#[]⟩) := by rw [← HP.out]; exact HS3.out.nd.cell 2
      have n3 : w3.cell? ⟨P + 1, 3, none⟩ = some (.bool false) := by rw [← HP.out]; exact HS3.out.nd.cell 3
      have n4 : w3.cell? ⟨P + 1, 4, none⟩ = some (.slice none 0 0) := by rw [← HP.out]; exact HS3.out.nd.cell 4
      have n5 : w3.cell? ⟨P + 1, 5, none⟩ = some (.slice none 0 0) := by rw [← HP.out]; exact HS3.out.nd.cell 5
      have HA5 : Hid (At6 _ w3.heap.size 0 (bare ⟨K, xn, [], false, [], []⟩)) := Lib.hid (((Str.new w3 48 (nc (bare ⟨K, xn, [], false, [], []⟩))).below (below_drew _)).at6)
      unfold nc bare at HA5
      simp only at HA5
      obtain ⟨vs, hvs, hov, hnk⟩ := HS5.out.ps.nd
      have HV := Lib.hid hvs
      have HO := Lib.hid hov
      have HNKS := Lib.hid hnk
      have HVL : Hid (vs.length = N) := by show _ = _; rw [← HNN.out, ← hvs, List.length_map]
      clear b5 hvs hov hnk
      go_region_law (refine step_append_node (l := bare ⟨K, xn, [], false, [], []⟩) (by rfl) (.tmp 49) (.tmp 51) (by rfl) w0.heap.size (by rfl) HO.out (by rfl) HA5.out rfl rfl (by have := HVL.out; have := HN.out; omega) HS5.out.ps.bl.size ?_; intro g4 cap4 w4 ho4 hg4 hn4; obtain ⟨s4, hd4⟩ := HS5.out.push HV.out HO.out HNKS.out hg4 ho4 (Nk.bare _ _ _ _ rfl rfl) hn4; rw [HVL.out] at *; have HD4 := Lib.hid hd4; have k1 := s4.cell 1; have j1 := s4.frozen 1; simp only [List.getElem?_toArray, List.getElem?_cons_zero, List.getElem?_cons_succ] at k1; clear ho4 hg4 s4 hd4 hn4)
      all_goals (go_wp2_with fail; go_meet; exact ⟨_, _, HD4.out⟩)
    case rest =>
      obtain ⟨an2, cn2, HS⟩ := hcut
      clear HS3 w3
      have n0 : wc.cell? ⟨P + 1, 0, none⟩ = some (.int .i64 K) := by rw [← HP.out]; exact HS.out.nd.cell 0
      have hk3 := DC.nk_three HKN.out
      have HN2 : Hid ((ns ++ [(⟨K, xn, [], false, [], []⟩ : DC.Nd)]).length = N + 1) := by show _ = _; rw [List.length_append, HNN.out]; rfl
      have HN3 : Hid (N + 1 ≤ 2000) := by show _ ≤ _; omega
      go_upto_block 0 with fail
      go_cut [] (fun wx => ∃ (y : Nv) (lv2 nv2 : Value) (r : List LX.Pc) (ms : List DC.Nd) (Sk : Nat → Prop), Hid (BkS w0 w wx p (.slice an N cn) lv2 nv2 (xk, xn, xc, xt, xq) y r (ns ++ (⟨K, xn, [], false, [], []⟩ : DC.Nd) :: ms) Sk) ∧ Hid (Nk wx w0.heap.size Sk y) ∧ Hid (A = .ok (y.1 :: ms, r)) ∧ Hid (∀ g, Sk g → More S w wx g))
      case first =>
        rcases hk3 with rfl | rfl | rfl
        · obtain rfl : K = 2 := HK.out.symm
          have HIt := Lib.hid (HI.out w0 wc p _ _ _ _ S xc (d + 1) HS.out.ps HT.out (by have := HF0.out; omega) (by rw [HN2.out]; exact HN3.out) (by have := HDD.out; omega))
          rw [show ((d + 1 : Nat) : Int) = (d : Int) + 1 from rfl, HN2.out] at HIt
          have e2 : wc.cell? ⟨P, 2, none⟩ = some (.int .i64 xc) := by rw [← HP.out]; exact HS.out.fi.cell 2
          have hd25 : (d : Int) ≤ 24 := by have := HDD.out; omega
          obtain ⟨R, hR⟩ : ∃ R, DC.itm f 1 xc (d + 1) (N + 1) [] ((1, xn, xc, xt, xq) :: t) = R := ⟨_, rfl⟩
          have HE := Lib.hid (show A = R.bind fun a => .ok (⟨2, xn, [], false, a.1, a.2.1⟩ :: a.2.2.1, a.2.2.2) by rw [HF.out, DC.blk_in (.inl rfl) HDD.out hm, hR]; rfl)
          rw [hR] at HIt
          cases R with
          | bad k n =>
            clear hR
            go_wp2_with (go_at_call 100; refine HIt.out.mono ?_; rintro e w6 ⟨hk, rfl⟩)
            rw [HE.out]
            exact ⟨rfl, HS.out.kb.near HS.out.nr hk, rfl⟩
          | ok a =>
            obtain ⟨ks, is, ms, r⟩ := a
            obtain rfl : ks = [] := DC.dash_keys hR
            have E := Lib.hid (show A = .ok (⟨2, xn, [], false, [], is⟩ :: ms, r) by rw [HE.out]; rfl)
            clear hR HE
            go_wp2_with (go_at_call 100; refine HIt.out.mono ?_; rintro e w6 ⟨hk, v, rfl, hov, lv2, nv2, hp2, hn2⟩; have HK6 := Lib.hid hk.size; have HS6 := Lib.hid (HS.out.fed hk hp2 hn2); have HOV := Lib.hid hov; clear hk hov hp2 hn2; obtain ⟨av, cv, rfl⟩ := HOV.out.slice; have g5 : w6.frozen? ⟨P + 1, 5, none⟩ = false := (by rw [← HP.out]; exact HS6.out.nd.frozen 5); have m5 : w6.cell? ⟨P + 1, 5, none⟩ = some (.slice none 0 0) := (by rw [← HP.out]; exact HS6.out.nd.cell 5))
            have hkb := Kb.set w6 (w.heap.size + 1) 5 (.slice av (nats is).length cv) none
            have HS7 := Lib.hid (HS6.out.turn (y' := (⟨2, xn, [], false, [], is⟩, .slice none 0 0, .slice av (nats is).length cv)) hkb (HS6.out.nd.set 5 (.slice av (nats is).length cv)))
            have HNK7 : Hid (Nk _ w0.heap.size (More S wc w6) (⟨2, xn, [], false, [], is⟩, .slice none 0 0, .slice av (nats is).length cv)) := Nk.kb (w := w6) ⟨Own.nil _ _ _, HOV.out.base HS.out.ps.bl.size, (by intro g h; cases h), fun g hg => .inr (HOV.out.lt hg)⟩ hkb (Far.str HS6.out.nd (by decide) (by decide)) (Far.none _ _)
            have HMO : Hid (∀ g, More S wc w6 g → More S w w6 g) := Lib.hid fun g hg => hg.imp id fun h => ⟨Nat.le_trans HS.out.kb.size h.1, h.2⟩
            have HMS := Lib.hid hkb.size
            clear hkb
            rw [HP.out] at HS7 HNK7 HMS
            go_meet
            refine ⟨_, lv2, nv2, r, ms, _, ?_, HNK7, E, ?_⟩
            · have := HS7.out
              rw [List.append_assoc] at this
              exact this
            · exact fun g hg => (HMO.out g hg).imp id fun h => ⟨h.1, Nat.lt_of_lt_of_le h.2 HMS.out⟩
        · obtain rfl : K = 3 := HK.out.symm
          have HIt := Lib.hid (HEn.out w0 wc p _ _ _ _ S xc (d + 1) HS.out.ps HT.out (by have := HF0.out; omega) (by rw [HN2.out]; exact HN3.out) (by have := HDD.out; omega))
          rw [show ((d + 1 : Nat) : Int) = (d : Int) + 1 from rfl, HN2.out] at HIt
          have e2 : wc.cell? ⟨P, 2, none⟩ = some (.int .i64 xc) := by rw [← HP.out]; exact HS.out.fi.cell 2
          have hd25 : (d : Int) ≤ 24 := by have := HDD.out; omega
          obtain ⟨R, hR⟩ : ∃ R, DC.itm f 2 xc (d + 1) (N + 1) [] ((2, xn, xc, xt, xq) :: t) = R := ⟨_, rfl⟩
          have HE := Lib.hid (show A = R.bind fun a => .ok (⟨3, xn, [], false, a.1, a.2.1⟩ :: a.2.2.1, a.2.2.2) by rw [HF.out, DC.blk_in (.inr rfl) HDD.out hm, hR]; rfl)
          rw [hR] at HIt
          cases R with
          | bad k n =>
            clear hR
            go_wp2_with (go_at_call 101; refine HIt.out.mono ?_; rintro e w6 ⟨hk, rfl⟩)
            rw [HE.out]
            exact ⟨rfl, HS.out.kb.near HS.out.nr hk, rfl⟩
          | ok a =>
            obtain ⟨ks, is, ms, r⟩ := a
            have E := Lib.hid (show A = .ok (⟨3, xn, [], false, ks, is⟩ :: ms, r) by rw [HE.out]; rfl)
            clear hR HE
            go_wp2_with (go_at_call 101; refine HIt.out.mono ?_; rintro e w6 ⟨hk, kv, v, rfl, hok, hov, lv2, nv2, hp2, hn2⟩; have HOK := Lib.hid hok; obtain ⟨ak, ck, rfl⟩ := hok.slice; clear hok; have HK6 := Lib.hid hk.size; have HS6 := Lib.hid (HS.out.fed hk hp2 hn2); have HOV := Lib.hid hov; clear hk hov hp2 hn2; obtain ⟨av, cv, rfl⟩ := HOV.out.slice; have g5 : w6.frozen? ⟨P + 1, 5, none⟩ = false := (by rw [← HP.out]; exact HS6.out.nd.frozen 5); have g4 : w6.frozen? ⟨P + 1, 4, none⟩ = false := (by rw [← HP.out]; exact HS6.out.nd.frozen 4); have m5 : w6.cell? ⟨P + 1, 5, none⟩ = some (.slice none 0 0) := (by rw [← HP.out]; exact HS6.out.nd.cell 5); have m4 : w6.cell? ⟨P + 1, 4, none⟩ = some (.slice none 0 0) := (by rw [← HP.out]; exact HS6.out.nd.cell 4))
            have hkb := (Kb.set w6 (w.heap.size + 1) 4 (.slice ak (sv ks).length ck) none).trans (Kb.set _ (w.heap.size + 1) 5 (.slice av (nats is).length cv) none)
            have HS7 := Lib.hid (HS6.out.turn (y' := (⟨3, xn, [], false, ks, is⟩, .slice ak (sv ks).length ck, .slice av (nats is).length cv)) hkb ((HS6.out.nd.set 4 (.slice ak (sv ks).length ck)).set 5 (.slice av (nats is).length cv)))
            have HNK7 : Hid (Nk _ w0.heap.size (More S wc w6) (⟨3, xn, [], false, ks, is⟩, .slice ak (sv ks).length ck, .slice av (nats is).length cv)) := Nk.kb (w := w6) ⟨HOK.out.base HS.out.ps.bl.size, HOV.out.base HS.out.ps.bl.size, fun g hg => .inr (HOK.out.lt hg), fun g hg => .inr (HOV.out.lt hg)⟩ hkb (Far.str HS6.out.nd (by decide) (by decide)) (Far.none _ _)
            have HMO : Hid (∀ g, More S wc w6 g → More S w w6 g) := Lib.hid fun g hg => hg.imp id fun h => ⟨Nat.le_trans HS.out.kb.size h.1, h.2⟩
            have HMS := Lib.hid hkb.size
            clear hkb
            rw [HP.out] at HS7 HNK7 HMS
            go_meet
            refine ⟨_, lv2, nv2, r, ms, _, ?_, HNK7, E, ?_⟩
            · have := HS7.out
              rw [List.append_assoc] at this
              exact this
            · exact fun g hg => (HMO.out g hg).imp id fun h => ⟨h.1, Nat.lt_of_lt_of_le h.2 HMS.out⟩
        · obtain rfl : K = 1 := HK.out.symm
          have E := Lib.hid (show A = .ok ([DC.leaf (3, xn, xc, xt, xq)], t) by rw [HF.out, DC.blk_text rfl HDD.out hm])
          have c0 : wc.cell? ⟨p, 0, none⟩ = some (.slice (some ⟨bx, off, none⟩) (t.length + 1) cap) := HS.out.ps.st.cell 0
          have f0 := HS.out.ps.st.frozen 0
          have hn3 : (1 : Int) ≤ (t.length : Int) + 1 := by omega
          rcases HLV.out with ⟨rfl, rfl, hr⟩ | ⟨hc1, hc2, hc3, hr⟩
          all_goals
            have HL := Lib.hid (HS.out.ps.left hr)
            have HS1 := Lib.hid (HS.out.fed HL.out.2 HL.out.1 (Near.refl _ _))
            clear hr HL
            go_wp2
            generalize hW : World.setCell _ _ _ = W at *
            clear hW c0 f0 n0
            have e3 : W.cell? ⟨P, 3, none⟩ = some (.string ⟨xt.toArray⟩) := by rw [← HP.out]; exact HS1.out.fi.cell 3
            have e4 : W.cell? ⟨P, 4, none⟩ = some (.bool xq) := by rw [← HP.out]; exact HS1.out.fi.cell 4
            have g2 : W.frozen? ⟨P + 1, 2, none⟩ = false := by rw [← HP.out]; exact HS1.out.nd.frozen 2
            have g3 : W.frozen? ⟨P + 1, 3, none⟩ = false := by rw [← HP.out]; exact HS1.out.nd.frozen 3
            have m2 : W.cell? ⟨P + 1, 2, none⟩ = some (.string ⟨#[]⟩) := by rw [← HP.out]; exact HS1.out.nd.cell 2
            have m3 : W.cell? ⟨P + 1, 3, none⟩ = some (.bool false) := by rw [← HP.out]; exact HS1.out.nd.cell 3
            have HS2 := Lib.hid ((HS1.out.turn (y' := bare (DC.leaf (3, xn, xc, xt, xq))) ((Kb.set W (w.heap.size + 1) 2 (.string ⟨xt.toArray⟩) none).trans (Kb.set _ (w.heap.size + 1) 3 (.bool xq) none)) ((HS1.out.nd.set 2 (.string ⟨xt.toArray⟩)).set 3 (.bool xq))).calm (below_drew _))
            rw [HP.out] at HS2
            go_region
            all_goals (go_wp2_with fail; go_meet; exact ⟨_, _, _, _, [], S, HS2, Nk.bare _ _ _ _ rfl rfl, E, Lib.hid (fun g hg => .inl hg)⟩)
      case rest =>
        obtain ⟨y, lv2, nv2, r, ms, Sk, HS8, HNK8, E, HMO⟩ := hcut
        clear HS n0
        obtain ⟨g, cg, hv2, hgl, hgf, ⟨y0, hy0⟩, hnd2, hkb2⟩ := HS8.out.ps.nd.put (j := N) (by rw [List.length_append, HNN.out]; simp) y HNK8.out
        have hlen : (ns ++ (⟨K, xn, [], false, [], []⟩ : DC.Nd) :: ms).length = N + 1 + ms.length := by rw [List.length_append, HNN.out, List.length_cons]; omega
        rw [hlen] at hv2
        subst hv2
        have HFIN : Hid (BlkE w0 w p (.slice an N cn) ns S A (.returned (.int .i64 (N : Int))) (six wc g (N * 6) y).drew) := by
          have hne : p ≠ g := by
            rcases HS8.out.ps.off with h1 | h1
            · cases h1
            · exact fun e => h1 (by rw [e]; rfl)
          have hps : Pst w0 (six wc g (N * 6) y) p lv2 (.slice (some ⟨g, 0, none⟩) (N + 1 + ms.length) cg) r (ns ++ y.1 :: ms) Sk :=
            ⟨HS8.out.ps.bl.trans (hkb2.below HS8.out.ps.bl.size (fun g' hg' => by have := Option.some.inj hg'; have := (HS8.out.ps.nd.ge (g := g) rfl).1; omega) (by simp)), HS8.out.ps.hp, HS8.out.ps.st.kb hkb2 (by simpa using hne) (by simp), HS8.out.ps.rd, by
              have := hnd2
              rw [show (ns ++ (⟨K, xn, [], false, [], []⟩ : DC.Nd) :: ms).set N y.1 = ns ++ y.1 :: ms by rw [List.set_append_right _ _ (by rw [HNN.out]; exact Nat.le_refl _), HNN.out]; simp] at this
              exact this, fun g' hg' => Nat.lt_of_lt_of_le (HS8.out.ps.sb g' hg') hkb2.size⟩
          have hkk : Kb wc (six wc g (N * 6) y) (some p) (.slice (some ⟨g, 0, none⟩) (N + 1 + ms.length) cg : Value).ownBlock := ⟨hkb2.os, hkb2.tape, hkb2.output, hkb2.size, fun k h1 h2 h3 => hkb2.block k h1 h3 (by simp)⟩
          have hk9 := (HS8.out.kb.near HS8.out.nr hkk).trans (Kb.of_below (below_drew _) (some p) (Value.slice an N cn).ownBlock)
          refine ⟨hk9, ?_⟩
          rw [E.out]
          refine ⟨by rw [HNN.out], _, _, (hps.calm (below_drew _)).mono (S' := More S w (six wc g (N * 6) y).drew) (fun g' hg' => (HMO.out g' hg').imp id fun h => ⟨h.1, Nat.lt_of_lt_of_le h.2 hkb2.size⟩) (fun g' hg' => ?_), HS8.out.nr⟩
          rcases hg' with h1 | h1
          · exact Nat.lt_of_lt_of_le (HSB.out g' h1) hk9.size
          · exact h1.2
        have p1 : wc.cell? ⟨p, 1, none⟩ = some (.slice (some ⟨g, 0, none⟩) (N + 1 + ms.length) cg) := HS8.out.ps.st.cell 1
        have n0 : wc.cell? ⟨P + 1, 0, none⟩ = some (.int .i64 y.1.kind) := by rw [← HP.out]; exact HS8.out.nd.cell 0
        have n1 : wc.cell? ⟨P + 1, 1, none⟩ = some (.int .i64 y.1.line) := by rw [← HP.out]; exact HS8.out.nd.cell 1
        have n2 : wc.cell? ⟨P + 1, 2, none⟩ = some (.string ⟨y.1.text.toArray⟩) := by rw [← HP.out]; exact HS8.out.nd.cell 2
        have n3 : wc.cell? ⟨P + 1, 3, none⟩ = some (.bool y.1.quoted) := by rw [← HP.out]; exact HS8.out.nd.cell 3
        have n4 : wc.cell? ⟨P + 1, 4, none⟩ = some y.2.1 := by rw [← HP.out]; exact HS8.out.nd.cell 4
        have n5 : wc.cell? ⟨P + 1, 5, none⟩ = some y.2.2 := by rw [← HP.out]; exact HS8.out.nd.cell 5
        obtain ⟨ya, yac, hya⟩ := HNK8.out.keys.slice
        obtain ⟨yb, ybc, hyb⟩ := HNK8.out.kids.slice
        obtain ⟨q0, q1, q2, q3, q4, q5⟩ := hy0
        have F0 := hgf (N * 6)
        have F1 := hgf (N * 6 + 1)
        have F2 := hgf (N * 6 + 2)
        have F3 := hgf (N * 6 + 3)
        have F4 := hgf (N * 6 + 4)
        have F5 := hgf (N * 6 + 5)
        unfold six at HFIN
        obtain ⟨⟨yk, yn, yt, yq, yks, yis⟩, yv1, yv2⟩ := y
        simp only at hya hyb
        subst hya hyb
        simp only at HFIN n0 n1 n2 n3 n4 n5
        have hb0 : (0 : Int) ≤ (N : Int) := by omega
        have hb1 : (N : Int) < (N : Int) + 1 + (ms.length : Int) := by omega
        clear hkb2 hnd2 hgl hgf hlen HS8 HNK8 E HMO
        go_wp2
        go_region
        go_wp2
        go_ret
        exact HFIN.out
theorem block_all : ∀ f, BlkC f := by
  intro f
  induction f using Nat.strongRecOn with
  | _ f ih =>
    cases f with
    | zero => intro w0 w p lv nv l ns S d _ _ _ hf; omega
    | succ f => exact block_any (items_any fun f' hf' => ih f' (by omega)) (entries_any fun f' hf' => ih f' (by omega))
end Go.Proofs.YtgfhabofhefaaaaGreatDoor
