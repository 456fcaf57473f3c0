/- What the document fixes of frames: the walk of awake. -/
import Derived.Test.YtlilicmnihgbdaaFrA
import Derived.Lib.SlBytesConst
namespace Go.Proofs.Ytlilicmnihgbdaa
open Go.RowKit

/-- '[]byte("..")' of a constant, wherever its row lies. -/
theorem conv_const_at {P : Program} (w : World) (t e : TypeId) (C : Array Value) (n c g : Nat) (hg : g = w.heap.size) (ht : P.underlying t = some (.slice e)) (he : P.underlying e = some (.int .u8)) :
    (convert t t (.slice (some ⟨g, 0, none⟩) n c)).run P (w.alloc (.cells C e)) = .ok (.slice (some ⟨g, 0, none⟩) n c) (w.alloc (.cells C e (C.size, C.size + 1))) := by
  subst hg; exact Lib.run_convert_bytes_const w t e C n c ht he
theorem mark_rd {w : World} {e : TypeId} (bs : List UInt8) (fr : Nat × Nat) (g : Nat) (hg : g = w.heap.size) (hm : bs.length ≤ maxLen) : Rdv (w.alloc (.cells (bv bs).toArray e fr)) (.slice (some ⟨g, 0, none⟩) bs.length bs.length) (bv bs) := by
  subst hg
  refine ⟨some ⟨w.heap.size, 0, none⟩, bs.length, by rw [bv_len], by rw [bv_len]; omega, hm, (by intro h; cases h), fun j u hu => ⟨_, rfl, ?_⟩⟩
  rw [Addr.add_lit]
  have := World.cell?_alloc_mark w (bv bs).toArray e fr (0 + j)
  rw [this]
  simpa using hu

theorem q_most : F.most 5 = 5 := by decide
theorem q_n1 : F.next [2, 97, 98, 99] (F.most 5) = ([97, 98], 3, 0) := by decide
theorem q_n2 : F.next [6] (F.most 5) = ([], 0, 4) := by decide
theorem q_n3 : F.next [2, 97] (F.most 5) = ([], 0, 3) := by decide
theorem q_all : F.all [1, 97, 0, 2] (F.most 5) = ([[97], []], 3, 3) := by
  have n1 : F.next [1, 97, 0, 2] 5 = ([97], 2, 0) := by decide
  have n2 : F.next [0, 2] 5 = ([], 1, 0) := by decide
  have n3 : F.next [2] 5 = ([], 0, 3) := by decide
  have a3 : F.all [2] 5 = ([], 0, 3) := by rw [F.all_wrong (by simp) (by rw [n3]; decide), n3]
  have a2 : F.all [0, 2] 5 = ([[]], 1, 3) := by
    rw [F.all_step (by simp) (by rw [n2]), n2]
    show ([] :: (F.all [2] 5).1, 1 + (F.all [2] 5).2.1, (F.all [2] 5).2.2) = _
    rw [a3]
    rfl
  rw [q_most, F.all_step (by simp) (by rw [n1]), n1]
  show ([97] :: (F.all [0, 2] 5).1, 2 + (F.all [0, 2] 5).2.1, (F.all [0, 2] 5).2.2) = _
  rw [a2]
  rfl
theorem q_fput : [9] ++ F.put [97] = ([9, 1, 97] : List UInt8) := by
  unfold F.put
  show [9] ++ (V.put 1 ++ [97]) = _
  rw [V.put_small (by decide)]
  rfl

set_option maxRecDepth 100000 in
set_option maxHeartbeats 2000000 in
theorem awake3_any (w : World) :
    Calls Try.prog 8 #[] w fun e w' => e = .returned (.bool true) ∧ Below w.heap.size w w' := by
  go_enter Try.func8, Try.ntmps8
  go_wp2_with fail
  refine (next_any _ [2, 97, 98, 99] 5 _ (lit_rd [2, 97, 98, 99] (by simp [maxLen]))).mono ?_
  rw [q_n1]
  rintro e w1 ⟨v1, rfl, ho1, hb1⟩
  have B1 := Lib.hid (below_tr (below_alloc _ _) hb1)
  have R1 := Lib.hid ho1.rd
  clear ho1 hb1
  go_wp2_with fail
  refine (next_any _ [6] 5 _ (lit_rd [6] (by simp [maxLen]))).mono ?_
  rw [q_n2]
  rintro e w2 ⟨v2, rfl, ho2, hb2⟩
  have B2 := Lib.hid (below_tr (below_alloc _ _) hb2)
  clear ho2 hb2
  go_wp2_with fail
  refine (next_any _ [2, 97] 5 _ (lit_rd [2, 97] (by simp [maxLen]))).mono ?_
  rw [q_n3]
  rintro e w3 ⟨v3, rfl, ho3, hb3⟩
  have B3 := Lib.hid (below_tr (below_alloc _ _) hb3)
  clear ho3 hb3
  go_wp2_with fail
  refine (all_any _ [1, 97, 0, 2] 5 _ (lit_rd [1, 97, 0, 2] (by simp [maxLen])) (by simp)).mono ?_
  rw [q_all]
  rintro e w4 ⟨v4, rfl, ho4, hb4⟩
  have B4 := Lib.hid (below_tr (below_alloc _ _) hb4)
  obtain ⟨b, off, cap, ao, c, hv4, hbl, hcell, hrd⟩ := ho4.rd.at (j := 1) (by simp)
  subst hv4
  clear ho4 hb4 hrd
  have B14 := Lib.hid (below_tr (below_tr B2.out B3.out) B4.out)
  have cs := run_string_rd (P := Try.prog) 25 5 9 Try.underlying25 Try.underlying5 Try.underlying9 (R1.out.below B14.out)
  obtain ⟨a1, c1, hv1, -⟩ := id R1.out
  subst hv1
  clear B2 B3 B4 R1
  have hc1 : w4.cell? ⟨b, off + 1, none⟩ = some (.slice ao 0 c) := hcell
  clear hcell
  have kc := conv_const_at (P := Try.prog) (w4.alloc (.cells #[.int .u8 9] 5)) 25 5 #[.int .u8 97] 1 1 (w4.heap.size + 1) (by simp) Try.underlying25 Try.underlying5
  have L1 := Lib.hid (lit_rd (w := w4) (e := 5) [9] (by simp [maxLen]))
  go_wp2_with fail
  refine (fput_any _ _ [9] [97] _ (L1.out.below (below_alloc _ _)) (mark_rd [97] _ _ (by simp) (by simp [maxLen])) (by simp)).mono ?_
  rw [q_fput]
  rintro e w5 ⟨v5, rfl, ho5, hb5⟩
  have B5 := Lib.hid (below_tr (below_tr (below_alloc w4 _) (below_alloc _ _)) hb5)
  have R5 := Lib.hid ho5.rd
  clear ho5 hb5 kc L1
  go_wp2_with fail
  refine (rbytes_true (R5.out.below (below_alloc _ _)) (lit_rd [9, 1, 97] (by simp [maxLen])) rfl).mono ?_
  rintro e w6 ⟨rfl, hw⟩
  have B6 : Hid (Below w5.heap.size w5 w6) := by rw [← hw]; exact below_alloc _ _
  clear hw
  go_wp2
  go_ret
  exact ⟨rfl, below_tr B1.out (below_tr B14.out (below_tr B5.out B6.out))⟩
end Go.Proofs.Ytlilicmnihgbdaa
