/- A part of the proof. -/
import Derived.Test.YtgfhabofhefaaaaGreatDoorSB11
import Derived.BigQuiet
import Derived.Deep.LoopGhost
import Derived.Deep.DeepCutAuto
namespace Go.Proofs.YtgfhabofhefaaaaGreatDoor
open Go.RowKit
structure Kin (x y : DC.Nd) : Prop where
  kind : x.kind = y.kind
  text : x.text = y.text
  quoted : x.quoted = y.quoted
  keys : x.keys = y.keys
  kids : x.kids = y.kids
theorem Kin.refl (x : DC.Nd) : Kin x x := ⟨rfl, rfl, rfl, rfl, rfl⟩
structure SaD (w wx : World) (v v' : Value) : Prop where
  bl : Below w.heap.size w wx
  d0 : Str wx w.heap.size 26 #[v]
  d1 : Str wx (w.heap.size + 1) 26 #[v']
theorem SaD.calm {w wx w' : World} {v v' : Value} (h : SaD w wx v v') (hb : Below wx.heap.size wx w') : SaD w w' v v' := ⟨below_trans h.bl hb, h.d0.below hb, h.d1.below hb⟩
theorem SaD.start (w : World) (v v' : Value) : SaD w ((w.alloc (.cells #[v] 26)).alloc (.cells #[v'] 26)) v v' := by
  have b1 := below_alloc w (.cells #[v] 26)
  have b2 := below_alloc (w.alloc (.cells #[v] 26)) (.cells #[v'] 26)
  have s2 := Str.new (w.alloc (.cells #[v] 26)) 26 #[v']
  rw [bx_size] at s2
  exact ⟨below_trans b1 b2, (Str.new w 26 #[v]).below b2, s2⟩
structure SaN (w wx : World) (v v' : Value) (a b : Nat) (x y : Nv) : Prop where
  sd : SaD w wx v v'
  na : Str wx a 48 (nc x)
  nb : Str wx b 48 (nc y)
theorem SaN.calm {w wx w' : World} {v v' : Value} {a b : Nat} {x y : Nv} (h : SaN w wx v v' a b x y) (hb : Below wx.heap.size wx w') : SaN w w' v v' a b x y := ⟨h.sd.calm hb, h.na.below hb, h.nb.below hb⟩
theorem SaD.two {w wr : World} {v v' : Value} (h : SaD w wr v v') (x y : Nv) : SaN w (((wr.alloc (.cells (nc x) 48)).alloc (.cells (nc y) 48)).drew) v v' wr.heap.size (wr.heap.size + 1) x y ∧ SaN w (((wr.alloc (.cells (nc y) 48)).alloc (.cells (nc x) 48)).drew) v v' (wr.heap.size + 1) wr.heap.size x y := by
  have key : ∀ a b : Nv, SaD w (((wr.alloc (.cells (nc a) 48)).alloc (.cells (nc b) 48)).drew) v v' ∧ Str (((wr.alloc (.cells (nc a) 48)).alloc (.cells (nc b) 48)).drew) wr.heap.size 48 (nc a) ∧ Str (((wr.alloc (.cells (nc a) 48)).alloc (.cells (nc b) 48)).drew) (wr.heap.size + 1) 48 (nc b) := fun a b => by
    have b1 := below_alloc wr (.cells (nc a) 48)
    have b2 := below_alloc (wr.alloc (.cells (nc a) 48)) (.cells (nc b) 48)
    have s2 := (Str.new (wr.alloc (.cells (nc a) 48)) 48 (nc b)).below (below_drew _)
    rw [bx_size] at s2
    exact ⟨h.calm (below_trans (below_trans b1 b2) (below_drew _)), ((Str.new wr 48 (nc a)).below b2).below (below_drew _), s2⟩
  exact ⟨⟨(key x y).1, (key x y).2.1, (key x y).2.2⟩, ⟨(key y x).1, (key y x).2.2, (key y x).2.1⟩⟩
set_option maxRecDepth 10000 in
set_option maxHeartbeats 16000000 in
theorem same_any (v v' : Value) (ns ms : List DC.Nd) (w : World) (h1 : Rdoc w v ns) (h2 : Rdoc w v' ms) (hl : ns.length = ms.length) (hk : ∀ (i : Nat) (x y : DC.Nd), ns[i]? = some x → ms[i]? = some y → Kin x y) (hn : ns.length ≤ 100000) :
    Calls Tryz.prog 10 #[.agg #[v], .agg #[v']] w fun e w' => e = .returned (.bool true) ∧ Below w.heap.size w w' := by
  obtain ⟨vs, hvs, ⟨ao, cap, rfl, r1, r2, _, r4⟩, rk⟩ := h1
  obtain ⟨us, hus, ⟨bo, cap', rfl, s1, s2, _, s4⟩, sk⟩ := h2
  subst hvs hus
  rw [List.length_map, List.length_map] at hl
  rw [List.length_map] at hn
  obtain ⟨n, hN⟩ : ∃ n, vs.length = n := ⟨_, rfl⟩
  have HNV := Lib.hid hN
  have HNU : Hid (us.length = n) := by show _ = _; omega
  rw [← hl, hN]
  rw [hN] at hn
  have HS0 := Lib.hid (SaD.start w (.slice ao n cap) (.slice bo n cap'))
  have HR := Lib.hid r4
  have HSR := Lib.hid s4
  have HRK := Lib.hid rk
  have HSK := Lib.hid sk
  have HKK : Hid (∀ (i : Nat) (x y : Nv), vs[i]? = some x → us[i]? = some y → Kin x.1 y.1) := fun i x y hx hy => hk i x.1 y.1 (by simp [hx]) (by simp [hy])
  have g0 := HS0.out.d0.cell 0
  have g1 := HS0.out.d1.cell 0
  clear r1 r2 r4 rk s1 s2 s4 sk hl hk hN
  go_enter Tryz.func10, Tryz.ntmps10
  go_wp2
  generalize World.alloc (World.alloc _ _) _ = w2 at *
  clear g0 g1
  go_loopg [5] n (fun g s5 wx => ∃ (i : Nat), i + g = n ∧ s5 = .int .i64 (i : Int) ∧ Hid (SaD w wx (.slice ao n cap) (.slice bo n cap')))
  case atStart => exact ⟨0, by omega, rfl, HS0⟩
  case round =>
    clear HS0
    obtain ⟨i, hi, rfl, HS⟩ := hrel
    have g0 : wr.cell? ⟨w.heap.size, 0, none⟩ = some (.slice ao n cap) := HS.out.d0.cell 0
    have g1 : wr.cell? ⟨w.heap.size + 1, 0, none⟩ = some (.slice bo n cap') := HS.out.d1.cell 0
    cases gk with
    | zero =>
      obtain rfl : i = n := by omega
      go_wp2
      go_ret
      exact ⟨rfl, HS.out.bl⟩
    | succ g =>
      have hin : (i : Int) < (n : Int) := by omega
      have hi0 : (0 : Int) ≤ (i : Int) := by omega
      obtain ⟨x, hx⟩ : ∃ x, vs[i]? = some x := ⟨vs[i]'(by have := HNV.out; omega), List.getElem?_eq_getElem _⟩
      obtain ⟨y, hy⟩ : ∃ y, us[i]? = some y := ⟨us[i]'(by have := HNU.out; omega), List.getElem?_eq_getElem _⟩
      have HK := Lib.hid (HKK.out i x y hx hy)
      obtain ⟨ba, oa, rfl, ca⟩ := HR.out i x hx
      obtain ⟨bb, ob, rfl, cb⟩ := HSR.out i y hy
      obtain ⟨a0, a1, a2, a3, a4, a5⟩ := ca.below HS.out.bl
      obtain ⟨b0, b1, b2, b3, b4, b5⟩ := cb.below HS.out.bl
      have HXK := Lib.hid (HRK.out x (List.mem_of_getElem? hx))
      have HYK := Lib.hid (HSK.out y (List.mem_of_getElem? hy))
      obtain ⟨xka, xkc, hxk⟩ := HXK.out.1.slice
      obtain ⟨xia, xic, hxi⟩ := HXK.out.2.slice
      obtain ⟨yka, ykc, hyk⟩ := HYK.out.1.slice
      obtain ⟨yia, yic, hyi⟩ := HYK.out.2.slice
      clear hx hy ca cb
      obtain ⟨⟨xkd, xln, xt, xq, xks, xis⟩, xv1, xv2⟩ := x
      obtain ⟨⟨ykd, yln, yt, yq, yks, yis⟩, yv1, yv2⟩ := y
      obtain ⟨hk1, hk2, hk3, hk4, hk5⟩ := HK.out
      simp only at hk1 hk2 hk3 hk4 hk5 hxk hxi hyk hyi
      subst hk1 hk2 hk3 hk4 hk5 hxk hxi hyk hyi
      simp only at a0 a1 a2 a3 a4 a5 b0 b1 b2 b3 b4 b5 HXK HYK
      rw [sv_len] at a4 b4 HXK HYK
      rw [nats_len] at a5 b5 HXK HYK
      clear HK
      go_upto_region 6 with fail
      go_cut [6, 7] (fun s6 s7 wx => ∃ (a b : Nat), s6 = .pointer (some ⟨a, 0, none⟩) ∧ s7 = .pointer (some ⟨b, 0, none⟩) ∧ Hid (SaN w wx (.slice (some ⟨ba, oa, none⟩) n cap) (.slice (some ⟨bb, ob, none⟩) n cap') a b (⟨xkd, xln, xt, xq, xks, xis⟩, .slice xka xks.length xkc, .slice xia xis.length xic) (⟨xkd, yln, xt, xq, xks, xis⟩, .slice yka xks.length ykc, .slice yia xis.length yic)))
      case first =>
        have A_a0 := fun o => ((below_alloc wr o).cell (cell_lt a0)).trans a0
        have B_a0 := fun o o' => ((below_trans (below_alloc wr o) (below_alloc _ o')).cell (cell_lt a0)).trans a0
        have A_a1 := fun o => ((below_alloc wr o).cell (cell_lt a1)).trans a1
        have B_a1 := fun o o' => ((below_trans (below_alloc wr o) (below_alloc _ o')).cell (cell_lt a1)).trans a1
        have A_a2 := fun o => ((below_alloc wr o).cell (cell_lt a2)).trans a2
        have B_a2 := fun o o' => ((below_trans (below_alloc wr o) (below_alloc _ o')).cell (cell_lt a2)).trans a2
        have A_a3 := fun o => ((below_alloc wr o).cell (cell_lt a3)).trans a3
        have B_a3 := fun o o' => ((below_trans (below_alloc wr o) (below_alloc _ o')).cell (cell_lt a3)).trans a3
        have A_a4 := fun o => ((below_alloc wr o).cell (cell_lt a4)).trans a4
        have B_a4 := fun o o' => ((below_trans (below_alloc wr o) (below_alloc _ o')).cell (cell_lt a4)).trans a4
        have A_a5 := fun o => ((below_alloc wr o).cell (cell_lt a5)).trans a5
        have B_a5 := fun o o' => ((below_trans (below_alloc wr o) (below_alloc _ o')).cell (cell_lt a5)).trans a5
        have A_b0 := fun o => ((below_alloc wr o).cell (cell_lt b0)).trans b0
        have B_b0 := fun o o' => ((below_trans (below_alloc wr o) (below_alloc _ o')).cell (cell_lt b0)).trans b0
        have A_b1 := fun o => ((below_alloc wr o).cell (cell_lt b1)).trans b1
        have B_b1 := fun o o' => ((below_trans (below_alloc wr o) (below_alloc _ o')).cell (cell_lt b1)).trans b1
        have A_b2 := fun o => ((below_alloc wr o).cell (cell_lt b2)).trans b2
        have B_b2 := fun o o' => ((below_trans (below_alloc wr o) (below_alloc _ o')).cell (cell_lt b2)).trans b2
        have A_b3 := fun o => ((below_alloc wr o).cell (cell_lt b3)).trans b3
        have B_b3 := fun o o' => ((below_trans (below_alloc wr o) (below_alloc _ o')).cell (cell_lt b3)).trans b3
        have A_b4 := fun o => ((below_alloc wr o).cell (cell_lt b4)).trans b4
        have B_b4 := fun o o' => ((below_trans (below_alloc wr o) (below_alloc _ o')).cell (cell_lt b4)).trans b4
        have A_b5 := fun o => ((below_alloc wr o).cell (cell_lt b5)).trans b5
        have B_b5 := fun o o' => ((below_trans (below_alloc wr o) (below_alloc _ o')).cell (cell_lt b5)).trans b5
        have A_g0 := fun o => ((below_alloc wr o).cell (cell_lt g0)).trans g0
        have B_g0 := fun o o' => ((below_trans (below_alloc wr o) (below_alloc _ o')).cell (cell_lt g0)).trans g0
        have A_g1 := fun o => ((below_alloc wr o).cell (cell_lt g1)).trans g1
        have B_g1 := fun o o' => ((below_trans (below_alloc wr o) (below_alloc _ o')).cell (cell_lt g1)).trans g1
        have HT := Lib.hid (HS.out.two (⟨xkd, xln, xt, xq, xks, xis⟩, .slice xka xks.length xkc, .slice xia xis.length xic) (⟨xkd, yln, xt, xq, xks, xis⟩, .slice yka xks.length ykc, .slice yia xis.length yic))
        go_region
        · go_wp2_with fail
          go_meet
          exact ⟨_, _, rfl, rfl, HT.out.1⟩
        · go_wp2_with fail
          go_meet
          exact ⟨_, _, rfl, rfl, HT.out.2⟩
      case rest =>
        obtain ⟨a, b, rfl, rfl, HN⟩ := hcut
        have HXB := Lib.hid (show Below w.heap.size w wr from HS.out.bl)
        clear HS a0 a1 a2 a3 a4 a5 b0 b1 b2 b3 b4 b5 g0 g1
        have a0 : wc.cell? ⟨a, 0, none⟩ = some (.int .i64 xkd) := HN.out.na.cell 0
        have a2 : wc.cell? ⟨a, 2, none⟩ = some (.string ⟨xt.toArray⟩) := HN.out.na.cell 2
        have a3 : wc.cell? ⟨a, 3, none⟩ = some (.bool xq) := HN.out.na.cell 3
        have a4 : wc.cell? ⟨a, 4, none⟩ = some (.slice xka xks.length xkc) := HN.out.na.cell 4
        have a5 : wc.cell? ⟨a, 5, none⟩ = some (.slice xia xis.length xic) := HN.out.na.cell 5
        have b0 : wc.cell? ⟨b, 0, none⟩ = some (.int .i64 xkd) := HN.out.nb.cell 0
        have b2 : wc.cell? ⟨b, 2, none⟩ = some (.string ⟨xt.toArray⟩) := HN.out.nb.cell 2
        have b3 : wc.cell? ⟨b, 3, none⟩ = some (.bool xq) := HN.out.nb.cell 3
        have b4 : wc.cell? ⟨b, 4, none⟩ = some (.slice yka xks.length ykc) := HN.out.nb.cell 4
        have b5 : wc.cell? ⟨b, 5, none⟩ = some (.slice yia xis.length yic) := HN.out.nb.cell 5
        go_wp2
        go_loopg [8] xks.length (fun g s8 wx => ∃ (j : Nat), j + g = xks.length ∧ s8 = .int .i64 (j : Int) ∧ Hid (SaN w wx (.slice (some ⟨ba, oa, none⟩) n cap) (.slice (some ⟨bb, ob, none⟩) n cap') a b (⟨xkd, xln, xt, xq, xks, xis⟩, .slice xka xks.length xkc, .slice xia xis.length xic) (⟨xkd, yln, xt, xq, xks, xis⟩, .slice yka xks.length ykc, .slice yia xis.length yic)))
        case atStart => exact ⟨0, by omega, rfl, HN⟩
        case round =>
          clear HN a0 a2 a3 a4 a5 b0 b2 b3 b4 b5
          obtain ⟨j, hj, rfl, HN⟩ := hrel
          have a4 : wr.cell? ⟨a, 4, none⟩ = some (.slice xka xks.length xkc) := HN.out.na.cell 4
          have b4 : wr.cell? ⟨b, 4, none⟩ = some (.slice yka xks.length ykc) := HN.out.nb.cell 4
          cases gk with
          | succ g2 =>
            have hjn : (j : Int) < (xks.length : Int) := by omega
            have hjm : (xks.length : Int) ≤ 9223372036854775807 := by have := HXK.out.1.len_le; rw [sv_len] at this; unfold maxLen at this; omega
            have hj0 : (0 : Int) ≤ (j : Int) := by omega
            obtain ⟨k, hk⟩ : ∃ k, xks[j]? = some k := ⟨xks[j]'(by omega), List.getElem?_eq_getElem _⟩
            have hks : (sv xks)[j]? = some (.string ⟨k.toArray⟩) := by simp [sv, hk]
            obtain ⟨p1, o1, c1, e1, f1⟩ := (HXK.out.1.below HN.out.sd.bl).atv hks
            obtain ⟨p2, o2, c2, e2, f2⟩ := (HYK.out.1.below HN.out.sd.bl).atv hks
            simp only [Value.slice.injEq] at e1 e2
            obtain ⟨rfl, -, -⟩ := e1
            obtain ⟨rfl, -, -⟩ := e2
            clear hk hks
            go_wp2
            go_quiet (fail)
            go_wp2
            go_roundg g2
            case rel => exact ⟨j + 1, by omega, by first | rfl | (simp; done), Lib.hid (HN.out.calm (below_drewN _ _))⟩
            case measure => omega
          | zero =>
            obtain rfl : j = xks.length := by omega
            go_wp2
            go_loopg [9] xis.length (fun g s9 wx => ∃ (j : Nat), j + g = xis.length ∧ s9 = .int .i64 (j : Int) ∧ Hid (SaN w wx (.slice (some ⟨ba, oa, none⟩) n cap) (.slice (some ⟨bb, ob, none⟩) n cap') a b (⟨xkd, xln, xt, xq, xks, xis⟩, .slice xka xks.length xkc, .slice xia xis.length xic) (⟨xkd, yln, xt, xq, xks, xis⟩, .slice yka xks.length ykc, .slice yia xis.length yic)))
            case atStart => exact ⟨0, by omega, rfl, HN⟩
            case round =>
              clear HN a4 b4
              obtain ⟨j, hj, rfl, HN⟩ := hrel
              have a5 : wr.cell? ⟨a, 5, none⟩ = some (.slice xia xis.length xic) := HN.out.na.cell 5
              have b5 : wr.cell? ⟨b, 5, none⟩ = some (.slice yia xis.length yic) := HN.out.nb.cell 5
              cases gk with
              | succ g2 =>
                have hjn : (j : Int) < (xis.length : Int) := by omega
                have hjm : (xis.length : Int) ≤ 9223372036854775807 := by have := HXK.out.2.len_le; rw [nats_len] at this; unfold maxLen at this; omega
                have hj0 : (0 : Int) ≤ (j : Int) := by omega
                obtain ⟨k, hk⟩ : ∃ k, xis[j]? = some k := ⟨xis[j]'(by omega), List.getElem?_eq_getElem _⟩
                have hks : (nats xis)[j]? = some (.int .i64 (k : Int)) := by simp [nats, hk]
                obtain ⟨p1, o1, c1, e1, f1⟩ := (HXK.out.2.below HN.out.sd.bl).atv hks
                obtain ⟨p2, o2, c2, e2, f2⟩ := (HYK.out.2.below HN.out.sd.bl).atv hks
                simp only [Value.slice.injEq] at e1 e2
                obtain ⟨rfl, -, -⟩ := e1
                obtain ⟨rfl, -, -⟩ := e2
                clear hk hks
                go_wp2
                go_quiet (fail)
                go_wp2
                go_roundg g2
                case rel => exact ⟨j + 1, by omega, by first | rfl | (simp; done), Lib.hid (HN.out.calm (below_drewN _ _))⟩
                case measure => omega
              | zero =>
                obtain rfl : j = xis.length := by omega
                go_wp2
                go_roundg g
                case rel => exact ⟨i + 1, by omega, by first | rfl | (simp; done), Lib.hid HN.out.sd⟩
                case measure => omega
set_option maxRecDepth 10000 in
set_option maxHeartbeats 16000000 in
theorem dalike_any (v v' : Value) (ns : List DC.Nd) (w : World) (h1 : Rdoc w v ns) (h2 : Rdoc w v' ns) (hn : ns.length ≤ 100000) :
    Calls Tryz.prog 17 #[.agg #[v], .agg #[v']] w fun e w' => e = .returned (.bool true) ∧ Below w.heap.size w w' := by
  have HD0 := Lib.hid (SaD.start w v v')
  have HSM := Lib.hid (fun (u : World) (k : Below w.heap.size w u) => same_any v v' ns ns u (h1.below k) (h2.below k) rfl (fun i x y hx hy => by rw [hx] at hy; obtain rfl := Option.some.inj hy; exact Kin.refl x) hn)
  obtain ⟨vs, hvs, ⟨ao, cap, rfl, r1, r2, _, r4⟩, rk⟩ := h1
  obtain ⟨us, hus, ⟨bo, cap', rfl, s1, s2, _, s4⟩, sk⟩ := h2
  have hl : us.length = vs.length := by
    have := congrArg List.length (hvs.trans hus.symm)
    rw [List.length_map, List.length_map] at this
    exact this.symm
  rw [hl] at HD0 HSM ⊢
  obtain ⟨n, hN⟩ : ∃ n, vs.length = n := ⟨_, rfl⟩
  have HNV := Lib.hid hN
  have HNU : Hid (us.length = n) := by show _ = _; omega
  have hn' : n ≤ 100000 := by rw [← hN]; rw [← hvs, List.length_map] at hn; exact hn
  rw [hN] at HD0 HSM ⊢
  have HR := Lib.hid r4
  have HSR := Lib.hid s4
  have HLL : Hid (∀ (i : Nat) (x y : Nv), vs[i]? = some x → us[i]? = some y → x.1.line = y.1.line) := fun i x y hx hy => by
    have e1 : ns[i]? = some x.1 := by rw [← hvs]; simp [hx]
    have e2 : ns[i]? = some y.1 := by rw [← hus]; simp [hy]
    rw [e1] at e2
    rw [Option.some.inj e2]
  have g0 := HD0.out.d0.cell 0
  have g1 := HD0.out.d1.cell 0
  simp only [List.getElem?_toArray, List.getElem?_cons_zero] at g0 g1
  clear r1 r2 r4 rk s1 s2 s4 sk hl hN hvs hus hn
  go_enter Tryz.func17, Tryz.ntmps17
  go_wp2_with (go_at_call 10; refine (HSM.out _ HD0.out.bl).mono ?_; rintro e w2 ⟨rfl, hb⟩; have HD2 := Lib.hid (HD0.out.calm hb); clear hb)
  generalize World.alloc (World.alloc _ _) _ = w3 at *
  clear g0 g1 HD0 HSM
  go_loopg [5] n (fun g s5 wx => ∃ (i : Nat), i + g = n ∧ s5 = .int .i64 (i : Int) ∧ Hid (SaD w wx (.slice ao n cap) (.slice bo n cap')))
  case atStart => exact ⟨0, by omega, rfl, HD2⟩
  case round =>
    clear HD2
    obtain ⟨i, hi, rfl, HS⟩ := hrel
    have g0 : wr.cell? ⟨w.heap.size, 0, none⟩ = some (.slice ao n cap) := HS.out.d0.cell 0
    have g1 : wr.cell? ⟨w.heap.size + 1, 0, none⟩ = some (.slice bo n cap') := HS.out.d1.cell 0
    cases gk with
    | zero =>
      obtain rfl : i = n := by omega
      go_wp2
      go_ret
      exact ⟨rfl, HS.out.bl⟩
    | succ g =>
      have hin : (i : Int) < (n : Int) := by omega
      have hi0 : (0 : Int) ≤ (i : Int) := by omega
      obtain ⟨x, hx⟩ : ∃ x, vs[i]? = some x := ⟨vs[i]'(by have := HNV.out; omega), List.getElem?_eq_getElem _⟩
      obtain ⟨y, hy⟩ : ∃ y, us[i]? = some y := ⟨us[i]'(by have := HNU.out; omega), List.getElem?_eq_getElem _⟩
      have hxy := HLL.out i x y hx hy
      obtain ⟨ba, oa, rfl, ca⟩ := HR.out i x hx
      obtain ⟨bb, ob, rfl, cb⟩ := HSR.out i y hy
      have a1 := (ca.below HS.out.bl).c1
      have b1 := (cb.below HS.out.bl).c1
      rw [← hxy] at b1
      generalize x.1.line = L at *
      clear hx hy ca cb hxy
      go_wp2
      go_quiet (fail)
      go_wp2
      go_roundg g
      case rel => exact ⟨i + 1, by omega, by first | rfl | (simp; done), Lib.hid (HS.out.calm (below_drewN _ _))⟩
      case measure => omega
end Go.Proofs.YtgfhabofhefaaaaGreatDoor
