/- Walks of what puts a number's bytes, and of what holds two slices of bytes against each other. -/
import Derived.Test.YtfpdcljeepjogaaVarW
namespace Go.Proofs.Ytfpdcljeepjogaa
open Go.RowKit

theorem Try.info_u8 : (Try.prog.info? 5).map (fun i => (i.zero, i.size, i.bytes)) = some (some (.int .u8 0), 1, 1) := by kernel_rfl

theorem or8 {X : Int} {b : UInt8} (hb : (b.toNat : Int) = X % 128 + 128) : bits .or .u8 (X % 256) 128 = (b.toNat : Int) := by
  have : ∀ y : Fin 256, bits .or .u8 ((y.val : Nat) : Int) 128 = ((y.val % 128 + 128 : Nat) : Int) := by decide +kernel
  have := this ⟨(X % 256).toNat, by omega⟩
  have e : (((X % 256).toNat : Nat) : Int) = X % 256 := by omega
  simp only [e] at this
  rw [this, hb]
  omega
theorem put_step {X : Int} {b : UInt8} {done D : List UInt8} (hm : 128 ≤ X) (hb : (b.toNat : Int) = X % 128 + 128) (HP : done ++ V.put X.toNat = D) : (done ++ [b]) ++ V.put (X / 128).toNat = D := by
  have e : (X / 128).toNat = X.toNat / 128 := by omega
  have e2 : UInt8.ofNat (X.toNat % 128 + 128) = b := UInt8.toNat_inj.1 (by simp; omega)
  rw [V.put_big (by omega), e2] at HP
  rw [e, ← HP]
  simp
theorem put_stop {X : Int} {b : UInt8} {done D : List UInt8} (hm : X < 128) (h0 : 0 ≤ X) (hb : (b.toNat : Int) = X) (HP : done ++ V.put X.toNat = D) : done ++ [b] = D := by
  have e2 : UInt8.ofNat X.toNat = b := UInt8.toNat_inj.1 (by simp; omega)
  rw [V.put_small (by omega), e2] at HP
  exact HP
theorem put_len {X : Int} {done : List UInt8} {n : Nat} (hn : n < 18446744073709551616) (HP : done ++ V.put X.toNat = V.put n) : done.length + 1 ≤ 10 := by
  have := congrArg List.length HP
  simp only [List.length_append] at this
  have h1 : 1 ≤ (V.put X.toNat).length := V.len_pos _
  have h2 : (V.put n).length ≤ 10 := V.len_le10 hn
  omega

set_option maxHeartbeats 800000 in
theorem vput_any (vb : Value) (bs : List UInt8) (n : Int) (h0 : 0 ≤ n) (h1 : n < 18446744073709551616) (w : World) (hr : Rdv w vb (bv bs)) (hb : bs.length + 10 ≤ 140737488355328) :
    Calls Try.prog 54 #[vb, .int .u64 n] w fun e w' => ∃ v', e = .returned v' ∧ Own w' w.heap.size 5 v' (bv (bs ++ V.put n.toNat)) ∧ Below w.heap.size w w' := by
  have hl := V.len_le10 (v := n.toNat) (by omega)
  have hlp := V.len_pos n.toNat
  obtain ⟨ao, cap, rfl, g1, g2, g3, g4⟩ := hr
  rw [bv_len] at g1
  rw [bv_len]
  have HR : Hid (Rdv w (.slice ao bs.length cap) (bv bs)) := Lib.hid ⟨ao, cap, by rw [bv_len], by rw [bv_len]; exact g1, g2, g3, g4⟩
  clear g3 g4
  unfold maxLen at g2
  go_enter Try.func54, Try.ntmps54
  go_wp2_with (first
    | (go_at_call 58; refine (vlen_any _ h0 h1 _).mono ?_; rintro e w' ⟨rfl, rfl⟩)
    | (at_make; refine wpList_make0 (C := (bs.length : Int) + (V.len n.toNat : Int)) rfl _ (.tmp 10) 25 rfl w.heap.size 5 (.int .u8 0) 1 Try.underlying25 Try.info_u8 (bs.length + V.len n.toNat) (by rfl) (by rfl) (by omega) (by omega) (by unfold maxLen; omega) (Nat.le_refl _) ?_; intro v1 w1 ho1 hb1)
    | (at_builtin; refine wpList_append_rd rfl (.tmp 12) (.tmp 13) 25 rfl w.heap.size 5 (.int .u8 0) 1 Try.underlying25 Try.info_u8 rfl (by rfl) ho1 (by rfl) (HR.out.below hb1) bv_one (by rw [bv_len]; simp [maxLen]; omega) (by rw [bv_len]; simp; omega) hb1.size ?_; intro v2 w2 ho2 _ hb2))
  have B2 := Lib.hid (hb1.trans hb2)
  have O2 := Lib.hid ho2
  clear ho1 ho2 hb1 hb2
  go_wp2_with fail
  go_loopw [1, 5] (fun x o wr => ∃ (X : Int) (done : List UInt8), x = .int .u64 X ∧ 0 ≤ X ∧ X < 18446744073709551616 ∧ done.length ≤ 10 ∧ Hid (Own wr w.heap.size 5 o (bv (bs ++ done))) ∧ Hid (done ++ V.put X.toNat = V.put n.toNat) ∧ Hid (Below w.heap.size w wr)) (fun x _ _ => (intOf x).toNat)
  case atStart => exact ⟨n, [], rfl, h0, h1, by simp, by show Own _ _ _ _ _; simpa using O2.out, by show _ = _; simp, B2.out⟩
  case round =>
    obtain ⟨X, done, rfl, hX0, hX1, hdl, HO, HP, HB⟩ := hrel
    have hN := put_len (by omega) HP.out
    by_cases hm : 128 ≤ X
    · obtain ⟨b, hbb⟩ : ∃ b : UInt8, (b.toNat : Int) = X % 128 + 128 := ⟨UInt8.ofNat (X % 128 + 128).toNat, by simp; omega⟩
      have HE := Lib.hid (or8 hbb)
      have HS := Lib.hid (put_step hm hbb HP.out)
      clear hbb
      go_wp2_with (at_builtin; refine wpList_append_bytes rfl (.tmp 17) (.tmp 21) 25 rfl w.heap.size 5 Try.underlying25 Try.info_u8 (by rfl) (HO.out.alloc _) (by rfl) (one_rd (b := b) HE.out) (by simp; omega) (by have := HB.out.size; simp; omega) ?_; intro v3 w3 ho3 hg3 hb3)
      go_roundw
      case rel => exact ⟨X / 128, done ++ [b], by go_num, by omega, by omega, by simpa using hN, by rw [← List.append_assoc]; exact ho3, HS.out, HB.out.trans (((Below.refl _ wr).alloc HB.out.size _).trans hb3)⟩
      case measure => simp [intOf]; omega
    · obtain ⟨b, hbb⟩ : ∃ b : UInt8, (b.toNat : Int) = X := ⟨UInt8.ofNat X.toNat, by simp; omega⟩
      have HS := Lib.hid (put_stop (by omega) hX0 hbb HP.out)
      have HE := Lib.hid hbb
      clear hbb
      go_wp2_with (at_builtin; refine wpList_append_bytes rfl (.tmp 25) (.tmp 28) 25 rfl w.heap.size 5 Try.underlying25 Try.info_u8 (by rfl) (HO.out.alloc _) (by rfl) (one_rd (b := b) HE.out.symm) (by simp; omega) (by have := HB.out.size; simp; omega) ?_; intro v3 w3 ho3 hg3 hb3)
      go_ret
      exact ⟨_, rfl, by rw [← HS.out, ← List.append_assoc]; exact ho3, HB.out.trans (((Below.refl _ wr).alloc HB.out.size _).trans hb3)⟩

set_option maxHeartbeats 800000 in
theorem rput_any (vb : Value) (bs : List UInt8) (n : Int) (h0 : 0 ≤ n) (h1 : n < 18446744073709551616) (w : World) (hr : Rdv w vb (bv bs)) (hb : bs.length + 10 ≤ 140737488355328) :
    Calls Try.prog 43 #[vb, .int .u64 n] w fun e w' => ∃ v', e = .returned v' ∧ Own w' w.heap.size 5 v' (bv (bs ++ V.put n.toNat)) ∧ Below w.heap.size w w' := by
  have hl := V.len_le10 (v := n.toNat) (by omega)
  have hlp := V.len_pos n.toNat
  obtain ⟨ao, cap, rfl, g1, g2, g3, g4⟩ := hr
  rw [bv_len] at g1
  rw [bv_len]
  have HR : Hid (Rdv w (.slice ao bs.length cap) (bv bs)) := Lib.hid ⟨ao, cap, by rw [bv_len], by rw [bv_len]; exact g1, g2, g3, g4⟩
  clear g3 g4
  unfold maxLen at g2
  go_enter Try.func43, Try.ntmps43
  go_wp2_with (at_builtin; refine wpList_append_bytes (xs := []) rfl (.tmp 6) (.tmp 7) 25 rfl w.heap.size 5 Try.underlying25 Try.info_u8 (by rfl) (Own.lit w [] (Nat.le_refl _) (by simp [maxLen])) (by rfl) (HR.out.below (below_alloc _ _)) (by simp; omega) (by simp) ?_; intro v2 w2 ho2 _ hb2)
  have B2 := Lib.hid ((below_alloc w _).trans hb2)
  have O2 := Lib.hid ho2
  clear ho2 hb2
  go_wp2_with fail
  go_loopw [1, 5] (fun x o wr => ∃ (X : Int) (done : List UInt8), x = .int .u64 X ∧ 0 ≤ X ∧ X < 18446744073709551616 ∧ done.length ≤ 10 ∧ Hid (Own wr w.heap.size 5 o (bv (bs ++ done))) ∧ Hid (done ++ V.put X.toNat = V.put n.toNat) ∧ Hid (Below w.heap.size w wr)) (fun x _ _ => (intOf x).toNat)
  case atStart => exact ⟨n, [], rfl, h0, h1, by simp, by show Own _ _ _ _ _; simpa using O2.out, by show _ = _; simp, B2.out⟩
  case round =>
    obtain ⟨X, done, rfl, hX0, hX1, hdl, HO, HP, HB⟩ := hrel
    have hN := put_len (by omega) HP.out
    by_cases hm : 128 ≤ X
    · obtain ⟨b, hbb⟩ : ∃ b : UInt8, (b.toNat : Int) = X % 128 + 128 := ⟨UInt8.ofNat (X % 128 + 128).toNat, by simp; omega⟩
      have HE := Lib.hid hbb
      have HS := Lib.hid (put_step hm hbb HP.out)
      clear hbb
      go_wp2_with (at_builtin; refine wpList_append_bytes rfl (.tmp 11) (.tmp 16) 25 rfl w.heap.size 5 Try.underlying25 Try.info_u8 (by rfl) (HO.out.alloc _) (by rfl) (one_rd (b := b) HE.out.symm) (by simp; omega) (by have := HB.out.size; simp; omega) ?_; intro v3 w3 ho3 hg3 hb3)
      go_roundw
      case rel => exact ⟨X / 128, done ++ [b], by go_num, by omega, by omega, by simpa using hN, by rw [← List.append_assoc]; exact ho3, HS.out, HB.out.trans (((Below.refl _ wr).alloc HB.out.size _).trans hb3)⟩
      case measure => simp [intOf]; omega
    · obtain ⟨b, hbb⟩ : ∃ b : UInt8, (b.toNat : Int) = X := ⟨UInt8.ofNat X.toNat, by simp; omega⟩
      have HS := Lib.hid (put_stop (by omega) hX0 hbb HP.out)
      have HE := Lib.hid hbb
      clear hbb
      go_wp2_with (at_builtin; refine wpList_append_bytes rfl (.tmp 20) (.tmp 23) 25 rfl w.heap.size 5 Try.underlying25 Try.info_u8 (by rfl) (HO.out.alloc _) (by rfl) (one_rd (b := b) HE.out.symm) (by simp; omega) (by have := HB.out.size; simp; omega) ?_; intro v3 w3 ho3 hg3 hb3)
      go_ret
      exact ⟨_, rfl, by rw [← HS.out, ← List.append_assoc]; exact ho3, HB.out.trans (((Below.refl _ wr).alloc HB.out.size _).trans hb3)⟩

set_option maxHeartbeats 400000 in
theorem rbytes_any (va vb : Value) (a b : List UInt8) (w : World) (ha : Rdv w va (bv a)) (hb : Rdv w vb (bv b)) :
    Calls Try.prog 12 #[va, vb] w fun e w' => e = .returned (.bool (a == b)) ∧ w = w' := by
  have ca := run_string_rd (P := Try.prog) 25 5 9 Try.underlying25 Try.underlying5 Try.underlying9 ha
  have cb := run_string_rd (P := Try.prog) 25 5 9 Try.underlying25 Try.underlying5 Try.underlying9 hb
  obtain ⟨aa, ca1, rfl, -⟩ := ha
  obtain ⟨ab, cb1, rfl, -⟩ := hb
  simp only [bv_len] at ca cb ⊢
  go_enter Try.func12, Try.ntmps12
  go_wp2
  go_ret
  exact ⟨rfl, rfl⟩

theorem rbytes_true {va vb : Value} {a b : List UInt8} {w : World} (ha : Rdv w va (bv a)) (hb : Rdv w vb (bv b)) (h : a = b) :
    Calls Try.prog 12 #[va, vb] w fun e w' => e = .returned (.bool true) ∧ w = w' := by
  have := rbytes_any va vb a b w ha hb
  rw [show (a == b) = true by simpa using h] at this
  exact this

end Go.Proofs.Ytfpdcljeepjogaa
