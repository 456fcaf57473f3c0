/- The walk of the document's own block where its first piece is none of a block's. -/
import Derived.Test.YthhngkoopaolkaaDoorDcTX
import Derived.Deep.RegionLaw
import Derived.BigRegion
import Derived.Deep.DeepCutAuto
import Derived.Deep.CutBlock
import Derived.Deep.LoopGhost
namespace Go.Proofs.YthhngkoopaolkaaDoor
open Go.RowKit

theorem nk_no {k : Int} (h : DC.nk k = 0) : ¬ k = 3 ∧ ¬ k = 1 ∧ ¬ k = 2 := by
  refine ⟨?_, ?_, ?_⟩ <;> rintro rfl <;> exact absurd h (by decide)

set_option maxRecDepth 10000 in
set_option maxHeartbeats 16000000 in
theorem rblock0_any {f : Nat} (hb : ∀ f', f' < f → RbC f') (w0 w : World) (p : Nat) (lv nv : Value) (L : List LX.Pc) (t : Nat) (ns : List DC.Nd) (S : Nat → Prop) (d : Nat) (x : LX.Pc) (hx : L[t]? = some x) (hdr : L.drop t = x :: L.drop (t + 1)) (hk0 : DC.nk x.1 = 0) (h : Rst w0 w p lv L t nv ns 0 0 S) (ht : t < L.length) (hL : L.length ≤ 1000000) (hf : 2 * (L.drop t).length + 2 ≤ f + 1) (hN : ns.length ≤ 2000) (hd : d ≤ 25) :
    Calls Tryd.prog 16 #[.pointer (some ⟨p, 0, none⟩), .int .i64 (d : Int)] w (RbE w0 w p lv L nv ns S (DC.blk (f + 1) d ns.length (L.drop t))) := by
  obtain ⟨A, HF⟩ : ∃ A, Hid (A = DC.blk (f + 1) d ns.length (L.drop t)) := ⟨_, Lib.hid rfl⟩
  rw [show DC.blk (f + 1) d ns.length (L.drop t) = A from HF.out.symm]
  have HDR := Lib.hid hdr
  have HS := Lib.hid (TbS.start h x)
  have HSB := Lib.hid h.sb
  have HB := Lib.hid hb
  have HN := Lib.hid hN
  have HD := Lib.hid hd
  have HF0 := Lib.hid hf
  have HLL := Lib.hid hL
  have HX := Lib.hid hx
  obtain ⟨b, off, cap, rfl, hx5⟩ := h.at hx
  obtain ⟨n, hn⟩ : ∃ n, L.length = n := ⟨_, rfl⟩
  have HLn := Lib.hid hn
  have c0 : w.cell? ⟨p, 0, none⟩ = some (.slice (some ⟨b, off, none⟩) n cap) := by rw [← hn]; exact h.st.cell 0
  have c1 : w.cell? ⟨p, 1, none⟩ = some (.int .i64 (t : Int)) := h.st.cell 1
  obtain ⟨d0, d1, d2, d3, d4⟩ := hx5
  have htn : (t : Int) < (n : Int) := by omega
  have ht0 : (0 : Int) ≤ (t : Int) := by omega
  obtain ⟨xk, xn, xc, xt, xq⟩ := x
  replace hk0 : DC.nk xk = 0 := hk0
  unfold pc at HS
  simp only at HS d0 d1 d2 d3 d4
  rw [hn] at HS
  have a0 := fun o => ((below_alloc w o).cell (cell_lt c0)).trans c0
  have a1 := fun o => ((below_alloc w o).cell (cell_lt c1)).trans c1
  have a2 := fun o => ((below_alloc w o).cell (cell_lt d0)).trans d0
  have a3 := fun o => ((below_alloc w o).cell (cell_lt d1)).trans d1
  have a4 := fun o => ((below_alloc w o).cell (cell_lt d2)).trans d2
  have a5 := fun o => ((below_alloc w o).cell (cell_lt d3)).trans d3
  have a6 := fun o => ((below_alloc w o).cell (cell_lt d4)).trans d4
  rw [hn]
  clear h hx hdr hN hd hf hL hn hb ht
  go_enter Tryd.func16, Tryd.ntmps16
  go_upto_region 1 with fail
  go_cut [5] (fun s5 wx => s5 = .pointer (some ⟨w.heap.size, 0, none⟩) ∧ Hid (TbS w0 w wx p nv (.slice (some ⟨b, off, none⟩) n cap) nv (.slice none 0 0) (.slice none 0 0) (xk, xn, xc, xt, xq) L t ns 0 0 S S [] []))
  case first =>
    go_region
    all_goals (go_wp2_with fail; go_meet; exact ⟨rfl, HS⟩)
  case rest =>
    obtain ⟨rfl, HS1⟩ := hcut
    clear HS a0 a1 a2 a3 a4 a5 a6 c0 c1 d0 d1 d2 d3 d4
    obtain ⟨P, hP⟩ : ∃ P, w.heap.size = P := ⟨_, rfl⟩
    have HP := Lib.hid hP
    simp only [hP]
    have e0 : wc.cell? ⟨P, 0, none⟩ = some (.int .i64 xk) := by rw [← hP]; exact HS1.out.fi.cell 0
    have e1 : wc.cell? ⟨P, 1, none⟩ = some (.int .i64 xn) := by rw [← hP]; exact HS1.out.fi.cell 1
    clear hP
    have HBAD := Lib.hid (fun (k l : Int) (w2 : World) (hAA : A = .bad k l) (hp : Rst w0 w2 p (.slice (some ⟨b, off, none⟩) n cap) L t nv ns k l S) (hk : Kb wc w2 (some p) nv.ownBlock) => (show RbE w0 w p (.slice (some ⟨b, off, none⟩) n cap) L nv ns S A (.returned (.int .i64 0)) w2 by
      have hkk := HS1.out.kb.trans hk
      obtain ⟨m1, m2⟩ := More.ofS HSB.out hkk.size
      rw [hAA]
      exact ⟨0, t, nv, ns, k, l, rfl, hp.mono m1 m2, hkk, Near.refl _ _, rfl, rfl, ⟨[], (List.append_nil _).symm⟩, HN.out⟩))
    have HFA := Lib.hid (fun (k : Int) => rfail_any HS1.out.rs k xn)
    have E := Lib.hid (show A = .bad 6 xn by rw [HF.out, HDR.out, DC.blk_kind hk0])
    obtain ⟨k3, k1, k2⟩ := nk_no hk0
    have b3 : (xk != 3) = true := by simpa using k3
    have b1 : (xk != 1) = true := by simpa using k1
    have b2 : (xk != 2) = true := by simpa using k2
    go_wp2_with (go_at_call 17; refine (HFA.out 6).mono ?_; rintro e w2 ⟨rfl, hp, hk⟩)
    go_ret
    exact HBAD.out 6 xn w2 E.out hp hk
end Go.Proofs.YthhngkoopaolkaaDoor
