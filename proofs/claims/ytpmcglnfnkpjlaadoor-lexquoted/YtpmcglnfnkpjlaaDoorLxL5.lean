/- The walk of LexQuoted. -/
import Derived.Test.YtpmcglnfnkpjlaaDoorLxL4
import Derived.Test.YtpmcglnfnkpjlaaDoorLxQb
namespace Go.Proofs.YtpmcglnfnkpjlaaDoor
open Go.RowKit

set_option maxRecDepth 10000 in
set_option maxHeartbeats 8000000 in
theorem lexQuoted_list (S : List UInt8) (ind : Int) (w : World) (hl : S.length ≤ maxLen) (hm : MaxIs w) :
    Calls Tryd.prog 6 #[.string ⟨S.toArray⟩, .int .i64 ind] w fun e w' => e = .returned (.bool true) ∧ Below w.heap.size w w' := by
  have hsz := str_size S
  unfold maxLen at hl
  have HM := Lib.hid hm
  obtain ⟨n, hn⟩ : ∃ n, S.length = n := ⟨_, rfl⟩
  have HN := Lib.hid hn
  rw [hn] at hsz hl
  have HA := Lib.hid (awake11 w hm)
  by_cases hbig : 200 < n
  · have hb2 : (200 : Int) < (n : Int) := by omega
    clear hn
    go_enter Tryd.func6, Tryd.ntmps6
    go_wp2_with (go_at_call 8; refine HA.out.mono ?_; rintro e w3 ⟨rfl, b3⟩; have B3 := Lib.hid b3; clear b3)
    go_ret
    exact ⟨rfl, B3.out⟩
  have hb2 : ¬ (200 : Int) < (n : Int) := by omega
  by_cases hin0 : ind < 0
  · clear hn
    go_enter Tryd.func6, Tryd.ntmps6
    go_wp2_with (go_at_call 8; refine HA.out.mono ?_; rintro e w3 ⟨rfl, b3⟩; have B3 := Lib.hid b3; clear b3)
    go_ret
    exact ⟨rfl, B3.out⟩
  by_cases hin1 : 1000 < ind
  · clear hn
    go_enter Tryd.func6, Tryd.ntmps6
    go_wp2_with (go_at_call 8; refine HA.out.mono ?_; rintro e w3 ⟨rfl, b3⟩; have B3 := Lib.hid b3; clear b3)
    go_ret
    exact ⟨rfl, B3.out⟩
  have BX := below_alloc w (.cells #[.int .i64 1, .int .i64 0, .string ⟨S.toArray⟩, .bool true, .slice none 0 0, .slice none 0 0] 44)
  have s0 := Str.new w 44 #[.int .i64 1, .int .i64 0, .string ⟨S.toArray⟩, .bool true, .slice none 0 0, .slice none 0 0]
  have HT := Lib.hid (rtext_any S w.heap.size 0 1 _ (by omega) ⟨s0.cell 0, s0.cell 1, s0.cell 2, s0.cell 3, s0.cell 4, s0.cell 5⟩)
  have HBX := Lib.hid BX
  have HRQ := Lib.hid (LX.row_quo (no := 1) (ind := ind) (s := S) (by omega) (by omega) (by omega))
  have HQL := Lib.hid (LX.quo_len S)
  obtain ⟨Q, hQ⟩ : ∃ Q, LX.quo S = Q := ⟨_, rfl⟩
  rw [hQ] at HT HRQ HQL
  obtain ⟨p, hp⟩ : ∃ p, Q.length = p := ⟨_, rfl⟩
  have HP := Lib.hid hp
  have HQP : Hid ((Q ++ [10]).length = p + 1) := by show _ = _; rw [List.length_append, hp]; rfl
  rw [hp] at HQL
  rw [HQP.out] at HT
  have hp802 : p ≤ 802 := by have := HQL.out; have := HN.out; omega
  have hq1 := eq_fault 0 0
  have hg2 := fault_guard
  clear hn hm hQ hp BX s0 HA
  go_enter Tryd.func6, Tryd.ntmps6
  go_wp2_with fail
  refine HT.out.mono ?_
  rintro e w1 ⟨ao, m, cap, rfl, rfl, hr, b1⟩
  have q0 : ((p : Int) + 1 == 0) = false := beq_eq_false_iff_ne.2 (by omega)
  have hpc : p + 1 ≤ cap := by
    obtain ⟨_, _, hv, h1, -⟩ := id hr
    injection hv with e1 e2 e3
    rw [← e2, ← e3] at h1
    exact h1
  obtain ⟨b, off, cap', hv, -⟩ := hr.at (j := 0) (bs := Q ++ [10]) (by rw [HQP.out]; omega)
  injection hv with hv1 hv2 hv3
  subst hv1
  clear hv2 hv3
  have hpc1 : p ≤ cap := by omega
  have hpc2 : ¬ cap = 0 := by omega
  have hr0 := (Rdv.cut2 (l := 0) (k := p) (bs := Q ++ [10]) (by rw [HQP.out]; exact hr) (by rw [HQP.out]; omega)).1 (by omega)
  have e0 : (List.take (0 + p) (Q ++ [10])).drop 0 = Q := by rw [Nat.zero_add, List.drop_zero, List.take_left' HP.out]
  rw [e0] at hr0
  have hr1 : Rdv w1 (.slice (some ⟨b, off, none⟩) p cap) (bv Q) := by simpa [Addr.add] using hr0
  have hcs := run_string_rd (P := Tryd.prog) 37 5 9 Tryd.underlying37 Tryd.underlying5 Tryd.underlying9 hr1
  have HB1 := Lib.hid (below_trans HBX.out b1)
  have H1 := Lib.hid (lexRow_any (1, ind, Q) w1 (by have := HP.out; simp only; omega) (HM.out.below HB1.out))
  have HOK := Lib.hid (fun (x : World) (e : Ending) (w' : World) (h : RowE x (1, ind, Q) e w') => rowe_ok HRQ.out h)
  clear e0 hr hr0 hr1 b1 HBX HT HRQ
  go_wp2_with fail
  refine H1.out.mono ?_
  rintro e w2 h2
  obtain ⟨v2, rfl, o2, b2⟩ := HOK.out _ _ _ h2
  obtain ⟨a2, c2, rfl⟩ := o2.slice
  have B2 := below_tr b2 (below_alloc w2 (.cells #[.int .i64 0, .int .i64 0] 27))
  have hsz2 := bx_size w2 (.cells #[.int .i64 0, .int .i64 0] 27)
  have BL := below_alloc (w2.alloc (.cells #[.int .i64 0, .int .i64 0] 27)) (.cells #[.int .i64 3, .int .i64 1, .int .i64 ind, .string ⟨S.toArray⟩, .bool true] 36)
  have HB2 := Lib.hid (below_tr HB1.out (below_tr B2 BL))
  have HO2 := (o2.rd.below (below_alloc w2 (.cells #[.int .i64 0, .int .i64 0] 27))).below BL
  have HC := Lib.hid (psame_any _ _ [(3, 1, ind, S, true)] _ HO2 (one_lit _ (w2.heap.size + 1) hsz2 3 1 ind S true))
  clear h2 o2 b2 B2 H1 HOK HB1 HO2 BL hsz2 hcs
  go_wp2_with fail
  refine HC.out.mono ?_
  rintro e w3 ⟨rfl, b3⟩
  have HB3 := Lib.hid (below_tr HB2.out b3)
  have HA := Lib.hid (awake11 w3 (HM.out.below HB3.out))
  clear HC b3 HB2
  go_wp2_with (go_at_call 8; refine HA.out.mono ?_; rintro e w4 ⟨rfl, b4⟩; have B4 := Lib.hid (below_tr HB3.out b4); clear b4)
  go_ret
  exact ⟨rfl, B4.out⟩
theorem lexQuoted_walk (s : ByteArray) (ind : Int) (w : World) (hs : s.size ≤ maxLen) (hm : MaxIs w) :
    Calls Tryd.prog 6 #[.string s, .int .i64 ind] w fun e w' => e = .returned (.bool true) ∧ Below w.heap.size w w' := by
  obtain ⟨⟨l⟩⟩ := s
  exact lexQuoted_list l ind w hs hm
end Go.Proofs.YtpmcglnfnkpjlaaDoor
