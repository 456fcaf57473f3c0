/- A part of the proof. -/
import Derived.Test.YtgfhabofhefaaaaGreatDoorSB32
namespace Go.Proofs.YtgfhabofhefaaaaGreatDoor
open Go.RowKit
set_option maxRecDepth 4000 in
set_option maxHeartbeats 16000000 in
theorem wkey_any {w0 w : World} {p T : Nat} {ns : List SH.Ni} (h : Wnt w0 w p T ns) (n : Nat) (key : LX.B) (k : Nat) (hn : n < ns.length) (hl : ns.length ≤ 19000) (hT : T ≤ 100000) :
    Calls Tryz.prog 20 #[.pointer (some ⟨p, 0, none⟩), .int .i64 (n : Int), .string ⟨key.toArray⟩, .int .i64 (k : Int)] w fun e w' => e = .returned (.tuple #[]) ∧ Wnt w0 w' p (T + 1) (CF.addK n key k ns) ∧ Kw w w' := by
  obtain ⟨nv, vs, rfl, h⟩ := h
  rw [List.length_map] at hn hl
  obtain ⟨a, ha⟩ : ∃ a, vs[n]? = some a := ⟨vs[n], List.getElem?_eq_getElem hn⟩
  have BX := below_trans (below_alloc w (.cells #[.string ⟨key.toArray⟩] 9)) (below_drew _)
  obtain ⟨g, cap, rfl, _, _, c6, _⟩ := h.nd.at ha
  have c0 : w.cell? ⟨p, 0, none⟩ = some (.slice (some ⟨g, 0, none⟩) vs.length cap) := h.st.cell 0
  have hk := h.nk.keys n a ha
  obtain ⟨ao, cp, hv⟩ := hk.slice
  have d4 := c6.c4
  rw [hv] at d4
  have HTA := Lib.hid (h.tl a (List.mem_of_getElem? ha))
  have HTL := Lib.hid h.tl
  have H1 := Lib.hid (h.calm BX)
  have HK1 := Lib.hid (Kw.of_below BX)
  have HO := Lib.hid (hk.below BX)
  have HCX : Hid ((w.alloc (.cells #[.string ⟨key.toArray⟩] 9)).drew.cell? ⟨w.heap.size, 0, none⟩ = some (.string ⟨key.toArray⟩)) := Lib.hid (((Str.new w 9 #[.string ⟨key.toArray⟩]).below (below_drew _)).cell 0)
  have A_c0 := fun o => ((below_alloc w o).cell (cell_lt c0)).trans c0
  have A_d4 := fun o => ((below_alloc w o).cell (cell_lt d4)).trans d4
  have hni : (n : Int) < (vs.length : Int) := by omega
  have hn0 : (0 : Int) ≤ (n : Int) := by omega
  obtain ⟨L, hL⟩ : ∃ L, vs.length = L := ⟨_, rfl⟩
  obtain ⟨N, hN⟩ : ∃ N, (sv a.1.keys).length = N := ⟨_, rfl⟩
  have HAA := Lib.hid ha
  have HLL := Lib.hid hL
  rw [hN] at hv
  rw [hv] at HO
  have HV := Lib.hid hv
  have HNB : Hid (N + 1 ≤ 200000) := by show _ ≤ _; rw [← hN, sv_len]; have := HTA.out; omega
  have HNN := Lib.hid hN
  have HT := Lib.hid hT
  rw [hL] at c0 A_c0 H1 hni
  rw [hN] at d4 A_d4
  clear h hk c6 BX hL hN ha hv hn hl hT
  go_enter Tryz.func20, Tryz.ntmps20
  go_upto_region 0 with fail
  go_cut [] (fun wx => ∃ kv, Hid (Wrt w0 wx p (.slice (some ⟨g, 0, none⟩) L cap) (T + 1) (vs.set n ({ a.1 with keys := a.1.keys ++ [key] }, kv, a.2.2))) ∧ Hid (Kw w wx))
  case first =>
    go_wp2
    go_region_law (refine step_append_cell (by rfl) (.tmp 20) (.tmp 22) 46 (by rfl) w0.heap.size 9 (.string ⟨#[]⟩) 16 Tryz.underlying46 Tryz.info_string rfl (by rfl) HO.out (by rfl) HCX.out rfl (by have := HNB.out; rw [HNN.out]; unfold maxLen; omega) (by have := HNB.out; rw [HNN.out]; omega) H1.out.size ?_; intro g4 cap4 w4 ho4 hg4 hn4; obtain ⟨g', cap', e', -, q6, s4, f4, h4, k4⟩ := H1.out.key (key := key) HAA.out (by rw [HV.out]; exact hg4) (by rw [← sv_one1]; exact ho4) (by rw [HV.out]; exact hn4); simp only [Value.slice.injEq, Option.some.injEq, Addr.mk.injEq, and_true] at e'; obtain ⟨rfl, -, rfl⟩ := e'; have H4 := Lib.hid h4; have K4 := Lib.hid k4; have p4 := s4.cell 0; have f5 := f4 (n * 6 + 4); have d5 := q6.c4; simp only [List.getElem?_toArray, List.getElem?_cons_zero] at p4; clear ho4 hg4 hn4 q6 s4 f4 h4 k4)
    all_goals
      go_wp2_with fail
      go_meet
      exact ⟨_, H4, Lib.hid (HK1.out.trans K4.out)⟩
  case rest =>
    obtain ⟨kv, H2, K2⟩ := hcut
    clear H1 HK1 HO HCX c0 d4 A_c0 A_d4 HV HNB HNN N ao cp
    have ha2 : (vs.set n ({ a.1 with keys := a.1.keys ++ [key] }, kv, a.2.2))[n]? = some ({ a.1 with keys := a.1.keys ++ [key] }, kv, a.2.2) := by
      rw [List.getElem?_set, if_pos rfl, if_pos (List.getElem?_eq_some_iff.1 HAA.out).1]
    have HAB := Lib.hid ha2
    have HLM : Hid ((vs.set n (({ a.1 with keys := a.1.keys ++ [key] }, kv, a.2.2) : Nv)).length = L) := by show _ = _; rw [List.length_set]; exact HLL.out
    obtain ⟨b, hb⟩ : ∃ b : Nv, b = ({ a.1 with keys := a.1.keys ++ [key] }, kv, a.2.2) := ⟨_, rfl⟩
    have HBK : Hid (b.1.kids = a.1.kids) := by show _ = _; rw [hb]
    have HBL : Hid (b.1.keys = a.1.keys ++ [key]) := by show _ = _; rw [hb]
    have HUP : Hid (∀ kv' : Value, (vs.set n (({ b.1 with kids := b.1.kids ++ [k] }, b.2.1, kv') : Nv)).map (fun a : Nv => SH.up a.1) = CF.addK n key k (vs.map (fun a : Nv => SH.up a.1))) := fun kv' => up_set HAA.out (by rw [hb]; simp [SH.up])
    rw [← hb] at H2 HAB ha2 HLM
    obtain ⟨us, hus⟩ : ∃ us, vs.set n b = us := ⟨_, rfl⟩
    have HSS : Hid (∀ y : Nv, us.set n y = vs.set n y) := by show ∀ y : Nv, _; intro y; rw [← hus, List.set_set]
    rw [hus] at H2 HAB ha2 HLM
    have BX := below_trans (below_alloc wc (.cells #[.int .i64 (k : Int)] 3)) (below_drew _)
    obtain ⟨g', cap', e', _, _, c6, _⟩ := H2.out.nd.at ha2
    simp only [Value.slice.injEq, Option.some.injEq, Addr.mk.injEq, and_true] at e'
    obtain ⟨rfl, -, rfl⟩ := e'
    have c0 : wc.cell? ⟨p, 0, none⟩ = some (.slice (some ⟨g, 0, none⟩) L cap) := H2.out.st.cell 0
    have hk := H2.out.nk.kids n b ha2
    obtain ⟨ao, cp, hv⟩ := hk.slice
    have d5 := c6.c5
    rw [hv] at d5
    have HTA := Lib.hid (H2.out.tl b (List.mem_of_getElem? ha2))
    have H1 := Lib.hid (H2.out.calm BX)
    have HK1 := Lib.hid (K2.out.trans (Kw.of_below BX))
    have HO := Lib.hid (hk.below BX)
    have HCX : Hid ((wc.alloc (.cells #[.int .i64 (k : Int)] 3)).drew.cell? ⟨wc.heap.size, 0, none⟩ = some (.int .i64 (k : Int))) := Lib.hid (((Str.new wc 3 #[.int .i64 (k : Int)]).below (below_drew _)).cell 0)
    have A_c0 := fun o => ((below_alloc wc o).cell (cell_lt c0)).trans c0
    have A_d5 := fun o => ((below_alloc wc o).cell (cell_lt d5)).trans d5
    obtain ⟨N, hN⟩ : ∃ N, (nats b.1.kids).length = N := ⟨_, rfl⟩
    rw [hN] at hv
    rw [hv] at HO
    have HV := Lib.hid hv
    have HNB : Hid (N + 1 ≤ 200000) := by show _ ≤ _; rw [← hN, nats_len]; have := HTA.out; have := HT.out; omega
    have HNN := Lib.hid hN
    rw [hN] at d5 A_d5
    clear hk c6 BX hN hv ha2 hb hus H2
    go_wp2
    go_region_law (refine step_append_cell (by rfl) (.tmp 38) (.tmp 40) 22 (by rfl) w0.heap.size 3 (.int .i64 0) 8 Tryz.underlying22 Tryz.info_int rfl (by rfl) HO.out (by rfl) HCX.out rfl (by have := HNB.out; rw [HNN.out]; unfold maxLen; omega) (by have := HNB.out; rw [HNN.out]; omega) H1.out.size ?_; intro g4 cap4 w4 ho4 hg4 hn4; obtain ⟨g', cap', e', -, q6, s4, f4, h4, k4⟩ := H1.out.kid (k := k) HAB.out (by rw [HV.out]; exact hg4) (by rw [← nats_one1]; exact ho4) (by rw [HV.out]; exact hn4); simp only [Value.slice.injEq, Option.some.injEq, Addr.mk.injEq, and_true] at e'; obtain ⟨rfl, -, rfl⟩ := e'; have H4 := Lib.hid h4; have K4 := Lib.hid k4; have p4 := s4.cell 0; have f5 := f4 (n * 6 + 5); have d4 := q6.c5; simp only [List.getElem?_toArray, List.getElem?_cons_zero] at p4; clear ho4 hg4 hn4 q6 s4 f4 h4 k4)
    all_goals
      go_wp2
      go_end0
      refine ⟨rfl, ⟨_, _, ?_, H4.out.bl, H4.out.hp, H4.out.st, H4.out.nd, H4.out.nk, ?_⟩, HK1.out.trans K4.out⟩
      · rw [HSS.out]; exact HUP.out _
      · intro y hy
        rw [HSS.out] at hy
        rcases List.mem_or_eq_of_mem_set hy with hy | rfl
        · have := HTL.out y hy; omega
        · have := HTL.out a (List.mem_of_getElem? HAA.out)
          rw [HBL.out, HBK.out]
          simp only [List.length_append, List.length_cons, List.length_nil]
          omega
end Go.Proofs.YtgfhabofhefaaaaGreatDoor
