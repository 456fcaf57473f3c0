/- Walks of package ratio's Text, of the document's own twin, and of what these call. -/
import Derived.Test.YtbinhlnekhglkaaDoorRatT
namespace Go.Proofs.YtbinhlnekhglkaaDoor
open Go.RowKit

theorem ret_int5 {k : IntKind} {a b : Int} (h : a = b) : Ending.returned (.int k a) = .returned (.int k b) := by rw [h]
set_option maxHeartbeats 400000 in
theorem rhold_any (a : Int) (w : World) :
    Calls Tryd.prog 52 #[.int .i64 a] w fun e w' => e = .returned (.int .i64 (M.hold a)) ∧ w = w' := by
  go_enter Tryd.func52, Tryd.ntmps52
  go_wp2
  all_goals go_ret
  all_goals refine ⟨ret_int5 ?_, rfl⟩
  all_goals (unfold M.hold M.top; split <;> (try split) <;> omega)

def restIs (n : Int) (acc D : List UInt8) : Prop := if n = 0 then acc = D else Lib.decDigits n.toNat ++ acc = D
theorem str_cons (b : UInt8) (acc : List UInt8) : Value.string ((⟨#[b]⟩ : ByteArray) ++ ⟨acc.toArray⟩) = .string ⟨(b :: acc).toArray⟩ := congrArg _ (ByteArray.mk_append_mk [b] acc)
theorem rest_step {n : Int} {acc D : List UInt8} {b : UInt8} (hz : 0 < n) (h : restIs n acc D) (hb : (b.toNat : Int) = 48 + n % 10) : restIs (n / 10) (b :: acc) D := by
  unfold restIs at h ⊢
  rw [if_neg (by omega)] at h
  obtain ⟨k, rfl⟩ := Int.eq_ofNat_of_zero_le (Int.le_of_lt hz)
  have e : UInt8.ofNat (48 + k % 10) = b := UInt8.toNat_inj.1 (by simp; omega)
  have e2 : ((k : Int) / 10).toNat = k / 10 := by omega
  rw [Int.toNat_natCast] at h
  rw [e2]
  by_cases h10 : k < 10
  · rw [if_pos (by omega), ← h, Lib.decDigits_one h10]
    have : k % 10 = k := by omega
    rw [this] at e
    rw [e]; rfl
  · rw [if_neg (by omega), ← h]
    conv => rhs; unfold Lib.decDigits
    rw [dif_neg h10, e]
    simp
theorem rest_len {n : Int} {acc D : List UInt8} (h : restIs n acc D) : acc.length ≤ D.length := by
  unfold restIs at h
  split at h
  · rw [h]; exact Nat.le_refl _
  · rw [← h]; simp
set_option maxHeartbeats 800000 in
theorem rdigits_any (a : Int) (w : World) :
    Calls Tryd.prog 35 #[.int .i64 a] w fun e w' => e = .returned (.string ⟨(Lib.decDigits (M.hold a).toNat).toArray⟩) ∧ Below w.heap.size w w' := by
  have a0 := M.hold_lo a; have a1 := M.hold_hi a
  by_cases h0 : M.hold a = 0
  · have hb : (M.hold a == 0) = true := beq_iff_eq.2 h0
    have E := Lib.hid (show Lib.decDigits (M.hold a).toNat = [48] by rw [h0]; exact Lib.decDigits_one (by decide))
    clear h0
    go_enter Tryd.func35, Tryd.ntmps35
    go_wp2_with (go_at_call 52; refine (rhold_any _ _).mono ?_; rintro e w' ⟨rfl, rfl⟩)
    go_ret
    rw [E.out]
    exact ⟨rfl, Below.refl _ _⟩
  · have hb : (M.hold a == 0) = false := beq_eq_false_iff_ne.2 h0
    obtain ⟨D, hD⟩ : ∃ D, D = Lib.decDigits (M.hold a).toNat := ⟨_, rfl⟩
    rw [← hD]
    have hDl : D.length ≤ 20 := by rw [hD, Lib.decDigits_length]; exact Lib.nDigits_le20 _ (by omega)
    have HD := Lib.hid hD
    clear hD
    go_enter Tryd.func35, Tryd.ntmps35
    go_wp2_with (go_at_call 52; refine (rhold_any _ _).mono ?_; rintro e w' ⟨rfl, rfl⟩)
    go_loopw [3, 4] (fun v t wr => ∃ (n : Int) (acc : List UInt8), Below w.heap.size w wr ∧ v = .int .i64 n ∧ t = .string ⟨acc.toArray⟩ ∧ 0 ≤ n ∧ n ≤ 4611686018427387904 ∧ acc.length ≤ 20 ∧ Hid (restIs n acc D)) (fun v _ _ => (intOf v).toNat)
    case atStart => exact ⟨M.hold a, [], Below.refl _ _, rfl, rfl, a0, a1, by simp, by show restIs _ _ _; unfold restIs; rw [if_neg h0, HD.out]; simp⟩
    case round =>
      obtain ⟨n, acc, hbw, rfl, rfl, hn0, hn1, hal, HR⟩ := hrel
      by_cases hz : 0 < n
      · obtain ⟨b, hbb⟩ : ∃ b : UInt8, (b.toNat : Int) = 48 + n % 10 := ⟨UInt8.ofNat (48 + (n % 10).toNat), by simp; omega⟩
        have hcv : (convert 59 9 (.slice (some ⟨wr.heap.size, 0, none⟩) 1 1)).run Tryd.prog (wr.alloc (.cells #[.int .u8 (48 + n % 10)] 5)) = .ok (.string ⟨#[b]⟩) (wr.alloc (.cells #[.int .u8 (48 + n % 10)] 5)) := by
          rw [← hbb]
          exact run_convert_bytes_back _ 59 9 5 ⟨wr.heap.size, 0, none⟩ 1 [b] Tryd.underlying59 Tryd.underlying5 Tryd.underlying9 (fun j hj => by
            have : j = 0 := by simpa using hj
            subst this
            exact World.cell?_alloc_new _ _ _ _)
        have HR2 := Lib.hid (rest_step hz HR.out hbb)
        clear hbb
        go_wp2
        go_roundw
        case rel => exact ⟨n / 10, b :: acc, hbw.alloc hbw.size _, rfl, str_cons b acc, by omega, by omega, Nat.le_trans (rest_len HR2.out) hDl, HR2.out⟩
        case measure => simp [intOf]; omega
      · have : restIs n acc D := HR.out
        unfold restIs at this
        rw [if_pos (by omega)] at this
        subst this
        go_wp2
        go_ret
        exact ⟨rfl, hbw⟩
theorem rdig_any (n : Nat) (hn : n ≤ 4611686018427387904) (w : World) :
    Calls Tryd.prog 35 #[.int .i64 (n : Int)] w fun e w' => e = .returned (.string ⟨(Lib.decDigits n).toArray⟩) ∧ Below w.heap.size w w' := by
  have h := rdigits_any (n : Int) w
  rw [M.hold_in (by omega) (by omega), Int.toNat_natCast] at h
  exact h

theorem pad_step (D : List UInt8) (k j : Nat) (_h : D.length + j < k) : (48 :: (List.replicate j 48 ++ D)) = List.replicate (j + 1) 48 ++ D := by rw [List.replicate_succ]; rfl
set_option maxHeartbeats 800000 in
theorem rfilled_any (n k : Nat) (hn : n ≤ 4611686018427387904) (hk : k ≤ 6) (w : World) :
    Calls Tryd.prog 45 #[.int .i64 (n : Int), .int .i64 (k : Int)] w fun e w' => e = .returned (.string ⟨(TX.pad n k).toArray⟩) ∧ Below w.heap.size w w' := by
  have HD := Lib.hid (fun w => rdig_any n hn w)
  have hl := dig_le (n := n) (by omega)
  have E := Lib.hid (show TX.pad n k = List.replicate (k - (Lib.decDigits n).length) 48 ++ Lib.decDigits n from rfl)
  obtain ⟨D, hD⟩ : ∃ D, D = Lib.decDigits n := ⟨_, rfl⟩
  rw [← hD] at HD hl E
  clear hD hn
  go_enter Tryd.func45, Tryd.ntmps45
  go_wp2_with fail
  refine (HD.out _).mono ?_
  rintro e w1 ⟨rfl, b1⟩
  have B1 := Lib.hid b1
  clear b1
  go_wp2
  go_loop [5] (fun v => ∃ (j : Nat) (S : List UInt8), v = .string ⟨S.toArray⟩ ∧ S.length = D.length + j ∧ (j = 0 ∨ S.length ≤ k) ∧ Hid (S = List.replicate j 48 ++ D)) (fun v => match v with | .string s => k - s.size | _ => 0)
  case atStart => exact ⟨0, D, rfl, rfl, .inl rfl, rfl⟩
  case round =>
    obtain ⟨j, S, rfl, hS, hj, HS⟩ := hrel
    have hsz := str_size S
    by_cases hlt : S.length < k
    · have hb : decide ((S.length : Int) < (k : Int)) = true := by simp; omega
      go_wp2
      go_round
      case rel => exact ⟨j + 1, 48 :: S, str_cons 48 S, by simp; omega, .inr (by simp; omega), by show _ = _; rw [HS.out]; exact pad_step D k j (by omega)⟩
      case measure =>
        have : ((⟨#[48]⟩ : ByteArray) ++ ⟨S.toArray⟩).size = S.length + 1 := by rw [ByteArray.size_append, hsz]; show 1 + S.length = _; omega
        show k - ((⟨#[48]⟩ : ByteArray) ++ ⟨S.toArray⟩).size < k - (⟨S.toArray⟩ : ByteArray).size
        rw [this, hsz]; omega
    · have hb : decide ((S.length : Int) < (k : Int)) = false := by simp; omega
      go_wp2
      go_ret
      refine ret_s ?_ B1.out
      rw [E.out, HS.out]
      congr 2
      omega
end Go.Proofs.YtbinhlnekhglkaaDoor
