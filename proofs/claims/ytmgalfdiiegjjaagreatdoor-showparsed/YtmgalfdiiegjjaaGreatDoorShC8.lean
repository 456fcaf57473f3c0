/- Walks of a writer's sign, quoted and text. -/
import Derived.Test.YtmgalfdiiegjjaaGreatDoorSeg24
import Derived.Deep.RegionLaw
namespace Go.Proofs.YtmgalfdiiegjjaaGreatDoor
open Go.RowKit

theorem low4_all : ∀ n : Fin 256, bits .and .u8 (n.val : Int) 15 = ((n.val % 16 : Nat) : Int) := by decide +kernel
theorem low4 (c : UInt8) : bits .and .u8 (c.toNat : Int) 15 = ((c.toNat % 16 : Nat) : Int) := low4_all ⟨c.toNat, c.toNat_lt⟩
set_option maxRecDepth 10000 in
set_option maxHeartbeats 16000000 in
theorem wsign_any (c : UInt8) (z : Int) (hz : (c.toNat : Int) = z) {w0 wa w : World} {p : Nat} {v ov : Value} {bs : List UInt8} (h : Wrs w0 wa w p v ov bs) (hl : bs.length ≤ 900000000) :
    Calls Tryz.prog 131 #[.pointer (some ⟨p, 0, none⟩), .int .u8 z] w (WrE w0 wa p v (bs ++ LX.q1 c)) := by
  have H := Lib.hid h
  have HL := Lib.hid hl
  have HZ := Lib.hid hz
  have hub := c.toNat_lt
  have hz0 : 0 ≤ z := by omega
  have hz1 : z < 256 := by omega
  have c1 : w.cell? ⟨p, 1, none⟩ = some ov := h.st.cell 1
  have B2 : ∀ A B : Int, Wrs w0 wa (w.alloc (.cells #[.int .u8 A, .int .u8 B] 5)) p v ov bs := fun A B => h.calm (below_alloc _ _)
  have B1 : ∀ A : Int, Wrs w0 wa (w.alloc (.cells #[.int .u8 A] 5)) p v ov bs := fun A => h.calm (below_alloc _ _)
  have H1 := Lib.hid B1
  have H2 := Lib.hid B2
  have HES := Lib.hid (escapes_any z w)
  clear h hl hub hz B1 B2
  by_cases h92 : c = 92
  · subst h92
    obtain rfl : z = 92 := HZ.out.symm
    rw [show LX.q1 92 = [92, 92] from rfl]
    go_enter Tryz.func131, Tryz.ntmps131
    go_wp2_with (at_builtin; refine wpList_append_rd rfl (.tmp 23) (.tmp 25) 35 rfl w0.heap.size 5 (.int .u8 0) 1 Tryz.underlying35 Tryz.linfo_u8 rfl (by rfl) (H2.out 92 92).own (by rfl) (two_rd (a := 92) (b := 92) rfl rfl) bv_one (by have := HL.out; rw [bv_len, bv_len]; simp only [List.length_cons, List.length_nil]; unfold maxLen; omega) (by have := HL.out; rw [bv_len, bv_len]; simp only [List.length_cons, List.length_nil]; omega) (H2.out 92 92).size ?_; intro u2 w2 ho2 hg2 hb2; rw [← bv_app] at ho2; obtain ⟨ao2, cp2, rfl, -⟩ := ho2.rd; have G2 := Lib.hid ((H2.out 92 92).grown hg2 ho2); have f1 := G2.out.1.frozen 1; have k1 := G2.out.1.cell 1; clear ho2 hg2 hb2)
    go_end0
    exact ⟨rfl, _, G2.out.2⟩
  have q92 : (z == 92) = false := zne HZ.out 92 (by decide) h92
  have q92' : ¬ z = 92 := beq_eq_false_iff_ne.1 q92
  by_cases h34 : c = 34
  · subst h34
    obtain rfl : z = 34 := HZ.out.symm
    rw [show LX.q1 34 = [92, 34] from rfl]
    go_enter Tryz.func131, Tryz.ntmps131
    go_wp2_with (at_builtin; refine wpList_append_rd rfl (.tmp 23) (.tmp 25) 35 rfl w0.heap.size 5 (.int .u8 0) 1 Tryz.underlying35 Tryz.linfo_u8 rfl (by rfl) (H2.out 92 34).own (by rfl) (two_rd (a := 92) (b := 34) rfl rfl) bv_one (by have := HL.out; rw [bv_len, bv_len]; simp only [List.length_cons, List.length_nil]; unfold maxLen; omega) (by have := HL.out; rw [bv_len, bv_len]; simp only [List.length_cons, List.length_nil]; omega) (H2.out 92 34).size ?_; intro u2 w2 ho2 hg2 hb2; rw [← bv_app] at ho2; obtain ⟨ao2, cp2, rfl, -⟩ := ho2.rd; have G2 := Lib.hid ((H2.out 92 34).grown hg2 ho2); have f1 := G2.out.1.frozen 1; have k1 := G2.out.1.cell 1; clear ho2 hg2 hb2)
    go_end0
    exact ⟨rfl, _, G2.out.2⟩
  have q34 : (z == 34) = false := zne HZ.out 34 (by decide) h34
  have q34' : ¬ z = 34 := beq_eq_false_iff_ne.1 q34
  by_cases h10 : c = 10
  · subst h10
    obtain rfl : z = 10 := HZ.out.symm
    rw [show LX.q1 10 = [92, 110] from rfl]
    have HP := Lib.hid (wput_any H.out [92, 110] (by have := HL.out; simp; omega))
    go_enter Tryz.func131, Tryz.ntmps131
    go_wp2_with (go_at_call 91; refine HP.out.mono ?_; rintro e w2 ⟨rfl, ov2, s2⟩; have S2 := Lib.hid s2; clear s2)
    go_end0
    exact ⟨rfl, _, S2.out⟩
  have q10 : (z == 10) = false := zne HZ.out 10 (by decide) h10
  have q10' : ¬ z = 10 := beq_eq_false_iff_ne.1 q10
  by_cases h9 : c = 9
  · subst h9
    obtain rfl : z = 9 := HZ.out.symm
    rw [show LX.q1 9 = [92, 116] from rfl]
    have HP := Lib.hid (wput_any H.out [92, 116] (by have := HL.out; simp; omega))
    go_enter Tryz.func131, Tryz.ntmps131
    go_wp2_with (go_at_call 91; refine HP.out.mono ?_; rintro e w2 ⟨rfl, ov2, s2⟩; have S2 := Lib.hid s2; clear s2)
    go_end0
    exact ⟨rfl, _, S2.out⟩
  have q9 : (z == 9) = false := zne HZ.out 9 (by decide) h9
  have q9' : ¬ z = 9 := beq_eq_false_iff_ne.1 q9
  by_cases hlow : c.toNat < 32 ∨ c = 127
  · have E : LX.q1 c = _ := LX.q1_hex h92 h34 h10 h9 hlow
    have hes : esb z = true := by
      unfold esb
      rw [Bool.or_eq_true, decide_eq_true_eq, decide_eq_true_eq]
      have := HZ.out
      rcases hlow with h | h
      · exact .inl (by omega)
      · right; rw [h] at this; exact this.symm
    rw [hes] at HES
    have hc256 := c.toNat_lt
    obtain ⟨x, hx⟩ : ∃ x, c.toNat / 16 = x := ⟨_, rfl⟩
    obtain ⟨y, hy⟩ : ∃ y, c.toNat % 16 = y := ⟨_, rfl⟩
    have hx16 : x < 16 := by omega
    have hy16 : y < 16 := by omega
    have HX := Lib.hid (LX.hexs_at ⟨x, hx16⟩)
    have HY := Lib.hid (LX.hexs_at ⟨y, hy16⟩)
    rw [hx, hy] at E
    simp only at HX HY
    obtain ⟨a, ha⟩ : ∃ a, LX.hexd x = a := ⟨_, rfl⟩
    obtain ⟨b, hb⟩ : ∃ b, LX.hexd y = b := ⟨_, rfl⟩
    rw [ha] at HX E
    rw [hb] at HY E
    rw [E]
    have hs16 := str_size LX.hexs
    have e16 : LX.hexs.length = 16 := rfl
    rw [e16] at hs16
    have hlx : x < (⟨LX.hexs.toArray⟩ : ByteArray).size := by omega
    have hly : y < (⟨LX.hexs.toArray⟩ : ByteArray).size := by omega
    obtain ⟨za, hza⟩ : ∃ za : Int, (a.toNat : Int) = za := ⟨_, rfl⟩
    obtain ⟨zb, hzb⟩ : ∃ zb : Int, (b.toNat : Int) = zb := ⟨_, rfl⟩
    have q1 : z / 16 = (x : Int) := by have := HZ.out; omega
    have q2 : bits .and .u8 z 15 = (y : Int) := by rw [← HZ.out, low4, hy]
    have ia := at_z HX.out hza hlx
    have ib := at_z HY.out hzb hly
    have HZA := Lib.hid hza
    have HZB := Lib.hid hzb
    have x0 : (x : Int) < 16 := by omega
    have y0 : (y : Int) < 16 := by omega
    unfold LX.hexs at ia ib hlx hly hs16
    clear hza hzb ha hb hx hy hc256 HX HY e16 E hes
    go_enter Tryz.func131, Tryz.ntmps131
    go_upto_region 9 with (go_at_call 135; refine HES.out.mono ?_; rintro e w1 ⟨rfl, hw1⟩; replace hw1 := hw1.symm; subst hw1)
    have H4 : Hid (∀ A B C D : Int, Wrs w0 wa ((w.alloc (.cells #[.int .u8 A, .int .u8 B, .int .u8 C, .int .u8 D] 5)).drew) p v ov bs) := fun A B C D => (H.out.calm (below_alloc _ _)).calm (below_drew _)
    have c1l : (w.alloc (.cells #[.int .u8 92, .int .u8 120, .int .u8 za, .int .u8 zb] 5)).cell? ⟨p, 1, none⟩ = some ov := (H.out.calm (below_alloc _ _)).st.cell 1
    go_region_law (refine step_append_turned (news := [92, 120, a, b]) (by rfl) (.tmp 46) (.tmp 53) 35 (by rfl) w0.heap.size 5 Tryz.underlying35 Tryz.linfo_u8 (by rfl) (H4.out _ _ _ _).own (by rfl) ((four_rd (a := 92) (b := 120) rfl rfl HZA.out.symm HZB.out.symm).below (below_drew _)) (by simp) (by have := HL.out; simp; omega) (H4.out 92 120 za zb).size ?_; intro g3 cap3 w3 ho3 hg3; have G3 := Lib.hid ((H4.out 92 120 za zb).grown hg3 ho3); have f1 := G3.out.1.frozen 1; have k1 := G3.out.1.cell 1; clear ho3 hg3)
    all_goals
      go_wp2
      go_end0
      exact ⟨rfl, _, G3.out.2⟩
  · have hes : esb z = false := by
      unfold esb
      rw [Bool.or_eq_false_iff, decide_eq_false_iff_not, decide_eq_false_iff_not]
      have := HZ.out
      refine ⟨fun h => hlow (.inl (by omega)), fun h => hlow (.inr ?_)⟩
      exact UInt8.toNat_inj.1 (show c.toNat = 127 by omega)
    rw [hes] at HES
    rw [LX.q1_self h92 h34 h10 h9 hlow]
    clear hes
    go_enter Tryz.func131, Tryz.ntmps131
    go_wp2_with (first
      | (go_at_call 135; refine HES.out.mono ?_; rintro e w1 ⟨rfl, hw1⟩; replace hw1 := hw1.symm; subst hw1)
      | (at_builtin; refine wpList_append_rd rfl (.tmp 8) (.tmp 10) 35 rfl w0.heap.size 5 (.int .u8 0) 1 Tryz.underlying35 Tryz.linfo_u8 rfl (by rfl) (H1.out z).own (by rfl) (one_rd (b := c) HZ.out.symm) bv_one (by have := HL.out; rw [bv_len, bv_len]; simp only [List.length_cons, List.length_nil]; unfold maxLen; omega) (by have := HL.out; rw [bv_len, bv_len]; simp only [List.length_cons, List.length_nil]; omega) (H1.out z).size ?_; intro u2 w2 ho2 hg2 hb2; rw [← bv_app] at ho2; obtain ⟨ao2, cp2, rfl, -⟩ := ho2.rd; have G2 := Lib.hid ((H1.out z).grown hg2 ho2); have f1 := G2.out.1.frozen 1; have k1 := G2.out.1.cell 1; clear ho2 hg2 hb2))
    go_end0
    exact ⟨rfl, _, G2.out.2⟩
end Go.Proofs.YtmgalfdiiegjjaaGreatDoor
