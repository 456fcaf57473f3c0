/- Walks of what puts a number's bytes, and of what holds two slices of bytes against each other. -/
import Derived.Test.YtaajdodicepbdaaVarW
namespace Go.Proofs.Ytaajdodicepbdaa
open Go.RowKit

theorem Try.info_u8 : (Try.prog.info? 5).map (fun i => (i.zero, i.size, i.bytes)) = some (some (.int .u8 0), 1, 1) := by kernel_rfl

theorem or8 {X : Int} {b : UInt8} (hb : (b.toNat : Int) = X % 128 + 128) : bits .or .u8 (X % 256) 128 = (b.toNat : Int) := by
  have : ∀ y : Fin 256, bits .or .u8 ((y.val : Nat) : Int) 128 = ((y.val % 128 + 128 : Nat) : Int) := by decide +kernel
  have := this ⟨(X % 256).toNat, by omega⟩
  have e : (((X % 256).toNat : Nat) : Int) = X % 256 := by omega
  simp only [e] at this
  rw [this, hb]
  omega
theorem put_step {X : Int} {b : UInt8} {done D : List UInt8} (hm : 128 ≤ X) (hb : (b.toNat : Int) = X % 128 + 128) (HP : done ++ V.put X.toNat = D) : (done ++ [b]) ++ V.put (X / 128).toNat = D := by
  have e : (X / 128).toNat = X.toNat / 128 := by omega
  have e2 : UInt8.ofNat (X.toNat % 128 + 128) = b := UInt8.toNat_inj.1 (by simp; omega)
  rw [V.put_big (by omega), e2] at HP
  rw [e, ← HP]
  simp
theorem put_stop {X : Int} {b : UInt8} {done D : List UInt8} (hm : X < 128) (h0 : 0 ≤ X) (hb : (b.toNat : Int) = X) (HP : done ++ V.put X.toNat = D) : done ++ [b] = D := by
  have e2 : UInt8.ofNat X.toNat = b := UInt8.toNat_inj.1 (by simp; omega)
  rw [V.put_small (by omega), e2] at HP
  exact HP
theorem put_len {X : Int} {done : List UInt8} {n : Nat} (hn : n < 18446744073709551616) (HP : done ++ V.put X.toNat = V.put n) : done.length + 1 ≤ 10 := by
  have := congrArg List.length HP
  simp only [List.length_append] at this
  have h1 : 1 ≤ (V.put X.toNat).length := V.len_pos _
  have h2 : (V.put n).length ≤ 10 := V.len_le10 hn
  omega

set_option maxHeartbeats 400000 in
theorem rbytes_any (va vb : Value) (a b : List UInt8) (w : World) (ha : Rdv w va (bv a)) (hb : Rdv w vb (bv b)) :
    Calls Try.prog 18 #[va, vb] w fun e w' => e = .returned (.bool (a == b)) ∧ w = w' := by
  have ca := run_string_rd (P := Try.prog) 28 5 9 Try.underlying28 Try.underlying5 Try.underlying9 ha
  have cb := run_string_rd (P := Try.prog) 28 5 9 Try.underlying28 Try.underlying5 Try.underlying9 hb
  obtain ⟨aa, ca1, rfl, -⟩ := ha
  obtain ⟨ab, cb1, rfl, -⟩ := hb
  simp only [bv_len] at ca cb ⊢
  go_enter Try.func18, Try.ntmps18
  go_wp2
  go_ret
  exact ⟨rfl, rfl⟩

theorem rbytes_true {va vb : Value} {a b : List UInt8} {w : World} (ha : Rdv w va (bv a)) (hb : Rdv w vb (bv b)) (h : a = b) :
    Calls Try.prog 18 #[va, vb] w fun e w' => e = .returned (.bool true) ∧ w = w' := by
  have := rbytes_any va vb a b w ha hb
  rw [show (a == b) = true by simpa using h] at this
  exact this

end Go.Proofs.Ytaajdodicepbdaa
