/- A part of the proof. -/
import Derived.Test.YtgfhabofhefaaaaGreatDoorSB06
import Derived.Lib.ConvBytes
import Derived.Deep.RegionHeld3
import Derived.Test.YtgfhabofhefaaaaGreatDoorSB03
namespace Go.Proofs.YtgfhabofhefaaaaGreatDoor
open Go.RowKit
theorem ret_int5 {k : IntKind} {a b : Int} (h : a = b) : Ending.returned (.int k a) = .returned (.int k b) := by rw [h]
set_option maxHeartbeats 400000 in
theorem rhold_any (a : Int) (w : World) :
    Calls Tryz.prog 78 #[.int .i64 a] w fun e w' => e = .returned (.int .i64 (M.hold a)) ∧ w = w' := by
  go_enter Tryz.func78, Tryz.ntmps78
  go_wp2
  all_goals go_ret
  all_goals refine ⟨ret_int5 ?_, rfl⟩
  all_goals (unfold M.hold M.top; split <;> (try split) <;> omega)
def restIs (n : Int) (acc D : List UInt8) : Prop := if n = 0 then acc = D else Lib.decDigits n.toNat ++ acc = D
theorem str_cons (b : UInt8) (acc : List UInt8) : Value.string ((⟨#[b]⟩ : ByteArray) ++ ⟨acc.toArray⟩) = .string ⟨(b :: acc).toArray⟩ := congrArg _ (ByteArray.mk_append_mk [b] acc)
theorem rest_step {n : Int} {acc D : List UInt8} {b : UInt8} (hz : 0 < n) (h : restIs n acc D) (hb : (b.toNat : Int) = 48 + n % 10) : restIs (n / 10) (b :: acc) D := by
  unfold restIs at h ⊢
  rw [if_neg (by omega)] at h
  obtain ⟨k, rfl⟩ := Int.eq_ofNat_of_zero_le (Int.le_of_lt hz)
  have e : UInt8.ofNat (48 + k % 10) = b := UInt8.toNat_inj.1 (by simp; omega)
  have e2 : ((k : Int) / 10).toNat = k / 10 := by omega
  rw [Int.toNat_natCast] at h
  rw [e2]
  by_cases h10 : k < 10
  · rw [if_pos (by omega), ← h, Lib.decDigits_one h10]
    have : k % 10 = k := by omega
    rw [this] at e
    rw [e]; rfl
  · rw [if_neg (by omega), ← h]
    conv => rhs; unfold Lib.decDigits
    rw [dif_neg h10, e]
    simp
theorem rest_len {n : Int} {acc D : List UInt8} (h : restIs n acc D) : acc.length ≤ D.length := by
  unfold restIs at h
  split at h
  · rw [h]; exact Nat.le_refl _
  · rw [← h]; simp
set_option maxHeartbeats 800000 in
theorem rdigits_any (a : Int) (w : World) :
    Calls Tryz.prog 45 #[.int .i64 a] w fun e w' => e = .returned (.string ⟨(Lib.decDigits (M.hold a).toNat).toArray⟩) ∧ Below w.heap.size w w' := by
  have a0 := M.hold_lo a; have a1 := M.hold_hi a
  by_cases h0 : M.hold a = 0
  · have hb : (M.hold a == 0) = true := beq_iff_eq.2 h0
    have E := Lib.hid (show Lib.decDigits (M.hold a).toNat = [48] by rw [h0]; exact Lib.decDigits_one (by decide))
    clear h0
    go_enter Tryz.func45, Tryz.ntmps45
    go_wp2_with (go_at_call 78; refine (rhold_any _ _).mono ?_; rintro e w' ⟨rfl, rfl⟩)
    go_ret
    rw [E.out]
    exact ⟨rfl, Below.refl _ _⟩
  · have hb : (M.hold a == 0) = false := beq_eq_false_iff_ne.2 h0
    obtain ⟨D, hD⟩ : ∃ D, D = Lib.decDigits (M.hold a).toNat := ⟨_, rfl⟩
    rw [← hD]
    have hDl : D.length ≤ 20 := by rw [hD, Lib.decDigits_length]; exact Lib.nDigits_le20 _ (by omega)
    have HD := Lib.hid hD
    clear hD
    go_enter Tryz.func45, Tryz.ntmps45
    go_wp2_with (go_at_call 78; refine (rhold_any _ _).mono ?_; rintro e w' ⟨rfl, rfl⟩)
    go_loopw [3, 4] (fun v t wr => ∃ (n : Int) (acc : List UInt8), Below w.heap.size w wr ∧ v = .int .i64 n ∧ t = .string ⟨acc.toArray⟩ ∧ 0 ≤ n ∧ n ≤ 4611686018427387904 ∧ acc.length ≤ 20 ∧ Hid (restIs n acc D)) (fun v _ _ => (intOf v).toNat)
    case atStart => exact ⟨M.hold a, [], Below.refl _ _, rfl, rfl, a0, a1, by simp, by show restIs _ _ _; unfold restIs; rw [if_neg h0, HD.out]; simp⟩
    case round =>
      obtain ⟨n, acc, hbw, rfl, rfl, hn0, hn1, hal, HR⟩ := hrel
      by_cases hz : 0 < n
      · obtain ⟨b, hbb⟩ : ∃ b : UInt8, (b.toNat : Int) = 48 + n % 10 := ⟨UInt8.ofNat (48 + (n % 10).toNat), by simp; omega⟩
        have hcv : (convert 35 9 (.slice (some ⟨wr.heap.size, 0, none⟩) 1 1)).run Tryz.prog (wr.alloc (.cells #[.int .u8 (48 + n % 10)] 5)) = .ok (.string ⟨#[b]⟩) (wr.alloc (.cells #[.int .u8 (48 + n % 10)] 5)) := by
          rw [← hbb]
          exact run_convert_bytes_back _ 35 9 5 ⟨wr.heap.size, 0, none⟩ 1 [b] Tryz.underlying35 Tryz.underlying5 Tryz.underlying9 (fun j hj => by
            have : j = 0 := by simpa using hj
            subst this
            exact World.cell?_alloc_new _ _ _ _)
        have HR2 := Lib.hid (rest_step hz HR.out hbb)
        clear hbb
        go_wp2
        go_roundw
        case rel => exact ⟨n / 10, b :: acc, hbw.alloc hbw.size _, rfl, str_cons b acc, by omega, by omega, Nat.le_trans (rest_len HR2.out) hDl, HR2.out⟩
        case measure => simp [intOf]; omega
      · have : restIs n acc D := HR.out
        unfold restIs at this
        rw [if_pos (by omega)] at this
        subst this
        go_wp2
        go_ret
        exact ⟨rfl, hbw⟩
theorem rdig_any (n : Nat) (hn : n ≤ 4611686018427387904) (w : World) :
    Calls Tryz.prog 45 #[.int .i64 (n : Int)] w fun e w' => e = .returned (.string ⟨(Lib.decDigits n).toArray⟩) ∧ Below w.heap.size w w' := by
  have h := rdigits_any (n : Int) w
  rw [M.hold_in (by omega) (by omega), Int.toNat_natCast] at h
  exact h
theorem pad_step (D : List UInt8) (k j : Nat) (_h : D.length + j < k) : (48 :: (List.replicate j 48 ++ D)) = List.replicate (j + 1) 48 ++ D := by rw [List.replicate_succ]; rfl
set_option maxHeartbeats 800000 in
theorem rfilled_any (n k : Nat) (hn : n ≤ 4611686018427387904) (hk : k ≤ 6) (w : World) :
    Calls Tryz.prog 77 #[.int .i64 (n : Int), .int .i64 (k : Int)] w fun e w' => e = .returned (.string ⟨(TX.pad n k).toArray⟩) ∧ Below w.heap.size w w' := by
  have HD := Lib.hid (fun w => rdig_any n hn w)
  have hl := dig_le (n := n) (by omega)
  have E := Lib.hid (show TX.pad n k = List.replicate (k - (Lib.decDigits n).length) 48 ++ Lib.decDigits n from rfl)
  obtain ⟨D, hD⟩ : ∃ D, D = Lib.decDigits n := ⟨_, rfl⟩
  rw [← hD] at HD hl E
  clear hD hn
  go_enter Tryz.func77, Tryz.ntmps77
  go_wp2_with fail
  refine (HD.out _).mono ?_
  rintro e w1 ⟨rfl, b1⟩
  have B1 := Lib.hid b1
  clear b1
  go_wp2
  go_loop [5] (fun v => ∃ (j : Nat) (S : List UInt8), v = .string ⟨S.toArray⟩ ∧ S.length = D.length + j ∧ (j = 0 ∨ S.length ≤ k) ∧ Hid (S = List.replicate j 48 ++ D)) (fun v => match v with | .string s => k - s.size | _ => 0)
  case atStart => exact ⟨0, D, rfl, rfl, .inl rfl, rfl⟩
  case round =>
    obtain ⟨j, S, rfl, hS, hj, HS⟩ := hrel
    have hsz := str_size S
    by_cases hlt : S.length < k
    · have hb : decide ((S.length : Int) < (k : Int)) = true := by simp; omega
      go_wp2
      go_round
      case rel => exact ⟨j + 1, 48 :: S, str_cons 48 S, by simp; omega, .inr (by simp; omega), by show _ = _; rw [HS.out]; exact pad_step D k j (by omega)⟩
      case measure =>
        have : ((⟨#[48]⟩ : ByteArray) ++ ⟨S.toArray⟩).size = S.length + 1 := by rw [ByteArray.size_append, hsz]; show 1 + S.length = _; omega
        show k - ((⟨#[48]⟩ : ByteArray) ++ ⟨S.toArray⟩).size < k - (⟨S.toArray⟩ : ByteArray).size
        rw [this, hsz]; omega
    · have hb : decide ((S.length : Int) < (k : Int)) = false := by simp; omega
      go_wp2
      go_ret
      refine ret_s ?_ B1.out
      rw [E.out, HS.out]
      congr 2
      omega
end Go.Proofs.YtgfhabofhefaaaaGreatDoor
namespace Go.Proofs.YtgfhabofhefaaaaGreatDoor
open Go.RowKit
theorem not_nam {x : Nat} (h : isNam x = false) : FM.nan x = false ∧ FM.rg x ≠ FM.infR ∧ FM.rg x < FM.infR := by
  unfold isNam at h
  simp only [Bool.or_eq_false_iff, beq_eq_false_iff_ne] at h
  refine ⟨h.1, h.2, ?_⟩
  have := of_decide_eq_false h.1
  have := h.2
  omega
theorem nan_rg {x : Nat} (h : FM.nan x = false) : FM.nan (FM.rg x) = false := by unfold FM.nan at *; rw [rg_rg]; exact h
theorem sv_rg (x : Nat) : FM.sv (FM.rg x) = (FM.val (FM.rg x) : Int) := by unfold FM.sv; rw [sgn_rg, rg_rg]; rfl
theorem size3 {x c : Nat} (hx : FM.nan x = false) (hc : FM.nan c = false) (hs : FM.sv c = (FM.val c : Int)) :
    (FloatKind.f64.format.order (FM.rg x) c = some .lt ∧ FM.rg x < c) ∨ (FloatKind.f64.format.order (FM.rg x) c = some .gt ∧ c ≤ FM.rg x) ∨ (FloatKind.f64.format.order (FM.rg x) c = some .eq ∧ c ≤ FM.rg x) := by
  rcases ord3 (nan_rg hx) hc with ⟨h1, h2⟩ | ⟨h1, h2⟩ | ⟨h1, h2⟩
  · rw [sv_rg, hs] at h2
    exact .inl ⟨h1, FM.val_lt_iff.1 (by omega)⟩
  · rw [sv_rg, hs] at h2
    exact .inr (.inl ⟨h1, FM.val_le_iff.1 (by omega)⟩)
  · rw [sv_rg, hs] at h2
    exact .inr (.inr ⟨h1, FM.val_le_iff.1 (by omega)⟩)
theorem conv_int {r : Nat} (h : r < FM.infR) (hb : FM.val r / FM.U ≤ 9223372036854775807) (w : World) : (convert 88 3 (.float .f64 r)).run Tryz.prog w = .ok (.int .i64 ((FM.val r / FM.U : Nat) : Int)) w :=
  run_convert_float_int w _ _ .f64 .i64 r _ (by kernel_rfl) (by kernel_rfl) (FM.toInt_num h hb)
theorem str_pnt (A D B : List UInt8) : (⟨A.toArray⟩ : ByteArray) ++ ⟨D.toArray⟩ ++ ⟨#[46]⟩ ++ ⟨B.toArray⟩ = ⟨(A ++ (D ++ 46 :: B)).toArray⟩ := by
  have e : (⟨#[46]⟩ : ByteArray) = ⟨[46].toArray⟩ := rfl
  rw [e, str_app, str_app, str_app]; simp
end Go.Proofs.YtgfhabofhefaaaaGreatDoor
namespace Go.Proofs.YtgfhabofhefaaaaGreatDoor
open Go.RowKit
theorem isD_yes {c : UInt8} (h : TX.isD c = true) : 48 ≤ c.toNat ∧ c.toNat ≤ 57 := of_decide_eq_true h
end Go.Proofs.YtgfhabofhefaaaaGreatDoor
namespace Go.Proofs.YtgfhabofhefaaaaGreatDoor
open Go.RowKit
theorem byte_eq (c d : UInt8) : (((c.toNat : Int)) == (d.toNat : Int)) = (c == d) := by
  rw [Bool.eq_iff_iff]; simp [← UInt8.toNat_inj]; omega
theorem ten_step {i : Nat} {p : Int} (hi : i < 9) (h : p = ((10 ^ i : Nat) : Int)) : p * 10 = ((10 ^ (i + 1) : Nat) : Int) ∧ 0 < p ∧ p ≤ 100000000 := by
  have h1 := TX.ten_pos i
  have h2 : 10 ^ i ≤ 10 ^ 8 := Nat.pow_le_pow_right (by decide) (by omega)
  have e : 10 ^ (i + 1) = 10 ^ i * 10 := Nat.pow_succ ..
  have e8 : (10 : Nat) ^ 8 = 100000000 := by decide
  rw [e]; omega
set_option maxHeartbeats 400000 in
theorem rten_any (k : Nat) (hk : k ≤ 9) (w : World) :
    Calls Tryz.prog 75 #[.int .i64 (k : Int)] w fun e w' => e = .returned (.int .i64 ((10 ^ k : Nat) : Int)) ∧ w = w' := by
  go_enter Tryz.func75, Tryz.ntmps75
  go_wp2
  go_loop [3, 4] (fun v i => ∃ (j : Nat) (p : Int), j ≤ k ∧ i = .int .i64 (j : Int) ∧ v = .int .i64 p ∧ Hid (p = ((10 ^ j : Nat) : Int))) (fun _ i => k - (intOf i).toNat)
  case atStart => exact ⟨0, 1, Nat.zero_le _, rfl, rfl, by show _ = _; rfl⟩
  case round =>
    obtain ⟨j, p, hj, rfl, rfl, HP⟩ := hrel
    by_cases hlt : j < k
    · obtain ⟨e1, e2, e3⟩ := ten_step (i := j) (by omega) HP.out
      have E1 := Lib.hid e1
      clear e1
      go_wp2
      go_round
      case rel => exact ⟨j + 1, p * 10, by omega, by go_num, rfl, E1.out⟩
      case measure => simp [intOf]; omega
    · obtain rfl : j = k := by omega
      go_wp2
      go_ret
      exact ret_i HP.out rfl
def pF (l : List UInt8) : Nat := match TX.psz l with | some p => TX.qw p.1 p.2 | none => 0
def pOk (l : List UInt8) : Bool := (TX.psz l).isSome
theorem ret_fb {a b : Nat} {x y : Bool} {P : Prop} (h : a = b) (h2 : x = y) (hp : P) : Ending.returned (.tuple #[.float .f64 a, .bool x]) = .returned (.tuple #[.float .f64 b, .bool y]) ∧ P := ⟨by rw [h, h2], hp⟩
theorem num_lt : ∀ (l : List UInt8) (n : Nat), (∀ c ∈ l, TX.isD c = true) → TX.num n l < (n + 1) * 10 ^ l.length
  | [], n, _ => by rw [TX.num_nil]; simp
  | c :: l, n, h => by
    rw [TX.num_cons]
    have h1 := isD_yes (h c (List.mem_cons_self ..))
    have h2 := num_lt l (n * 10 + (c.toNat - 48)) (fun d hd => h d (List.mem_cons_of_mem _ hd))
    have h3 : (n * 10 + (c.toNat - 48) + 1) * 10 ^ l.length ≤ ((n + 1) * 10) * 10 ^ l.length := Nat.mul_le_mul_right _ (by omega)
    rw [List.length_cons, Nat.pow_succ, Nat.mul_comm (10 ^ l.length), ← Nat.mul_assoc]
    omega
end Go.Proofs.YtgfhabofhefaaaaGreatDoor
namespace Go.Proofs.YtgfhabofhefaaaaGreatDoor
open Go.RowKit
end Go.Proofs.YtgfhabofhefaaaaGreatDoor
namespace Go.Proofs.YtgfhabofhefaaaaGreatDoor
open Go.RowKit
def parF (l : List UInt8) : Nat := (TX.parse l).getD 0
def parOk (l : List UInt8) : Bool := (TX.parse l).isSome
theorem par_minus {t : List UInt8} (h : ¬ 45 :: t = [45, 105, 110, 102]) : parF (45 :: t) = (if pOk t then Ieee.double.word true (pF t) else 0) ∧ parOk (45 :: t) = pOk t := by
  have e : TX.parse (45 :: t) = (TX.psz t).map fun p => Ieee.double.word true (TX.qw p.1 p.2) := by
    unfold TX.parse
    rw [if_neg (by simp), if_neg (by simp), if_neg h]
    split
    · rename_i t' he
      have : t = t' := by simpa using he
      rw [this]
    · rename_i h'
      exact absurd rfl (h' t)
  unfold parF parOk pOk pF
  rw [e]
  cases TX.psz t <;> simp
theorem par_plain {l : List UInt8} (h1 : ¬ l = [110, 97, 110]) (h2 : ¬ l = [105, 110, 102]) (h3 : ∀ t, l ≠ 45 :: t) : parF l = pF l ∧ parOk l = pOk l := by
  have e : TX.parse l = (TX.psz l).map fun p => TX.qw p.1 p.2 := by
    unfold TX.parse
    rw [if_neg h1, if_neg h2, if_neg (h3 _)]
    split
    · rename_i t; exact absurd rfl (h3 t)
    · rfl
  unfold parF parOk pOk pF
  rw [e]
  cases TX.psz l <;> simp
theorem pF_zero {l : List UInt8} (h : pOk l = false) : pF l = 0 := by
  unfold pOk at h
  unfold pF
  cases hp : TX.psz l with
  | none => rfl
  | some p => rw [hp] at h; cases h
theorem rg_of_lt {x : Nat} (h : x < FM.infR) : FM.rg x = x := by have := FM.infR_lt; unfold FM.rg; omega
theorem str_neq {l k : List UInt8} (h : ¬ l = k) : (l == k) = false := by simpa using h
end Go.Proofs.YtgfhabofhefaaaaGreatDoor
namespace Go.Proofs.YtgfhabofhefaaaaGreatDoor
open Go.RowKit
def wk (x k : Nat) : Option (List UInt8) :=
  if TX.allOf (FM.rg x) k / 10 ^ k ≤ 999999999 ∧ TX.qw (TX.allOf (FM.rg x) k) k = FM.rg x then some (TX.mns x ++ TX.pnt (TX.allOf (FM.rg x) k / 10 ^ k) (TX.allOf (FM.rg x) k % 10 ^ k) k) else none
def wr (x : Nat) : Option (List UInt8) := if isNam x then some (nam x) else if 1000000000 * FM.U ≤ FM.val (FM.rg x) then none else (List.range 7).findSome? (wk x)
def wrS (x : Nat) : List UInt8 := (wr x).getD []
def wrOk (x : Nat) : Bool := (wr x).isSome
theorem wr_nam {x : Nat} (h : isNam x = true) : wrS x = nam x ∧ wrOk x = true := by
  unfold wrS wrOk wr; rw [h]; exact ⟨rfl, rfl⟩
theorem wr_big {x : Nat} (h : isNam x = false) (h2 : 1000000000 * FM.U ≤ FM.val (FM.rg x)) : wrS x = [] ∧ wrOk x = false := by
  unfold wrS wrOk wr; rw [h, if_pos h2]; exact ⟨rfl, rfl⟩
theorem wr_at {x k : Nat} {s : List UInt8} (h : isNam x = false) (h2 : ¬ 1000000000 * FM.U ≤ FM.val (FM.rg x)) (hk : k < 7) (hn : ∀ j < k, wk x j = none) (hs : wk x k = some s) : wrS x = s ∧ wrOk x = true := by
  have e : (List.range 7).findSome? (wk x) = some s := by
    rw [List.findSome?_eq_some_iff]
    refine ⟨List.range k, k, List.range' (k + 1) (6 - k), ?_, hs, ?_⟩
    · have : k = 0 ∨ k = 1 ∨ k = 2 ∨ k = 3 ∨ k = 4 ∨ k = 5 ∨ k = 6 := by omega
      rcases this with rfl | rfl | rfl | rfl | rfl | rfl | rfl <;> rfl
    · intro j hj
      exact hn j (List.mem_range.1 hj)
  unfold wrS wrOk wr; rw [h, if_neg h2, e]; exact ⟨rfl, rfl⟩
theorem wr_not {x : Nat} (h : isNam x = false) (h2 : ¬ 1000000000 * FM.U ≤ FM.val (FM.rg x)) (hn : ∀ j < 7, wk x j = none) : wrS x = [] ∧ wrOk x = false := by
  have e : (List.range 7).findSome? (wk x) = none := by
    rw [List.findSome?_eq_none_iff]
    intro j hj
    exact hn j (List.mem_range.1 hj)
  unfold wrS wrOk wr; rw [h, if_neg h2, e]; exact ⟨rfl, rfl⟩
theorem quo_is (a b : Int) (ha : 0 ≤ a) (ha2 : a ≤ 4000000000000000) (hb : 0 < b) : IntKind.i64.wrap (a.tdiv b) = a / b := by
  have h1 : a.tdiv b = a / b := Int.tdiv_eq_ediv_of_nonneg ha
  have h2 : 0 ≤ a / b := Int.ediv_nonneg ha (by omega)
  have h3 : a / b ≤ a := Int.ediv_le_self b ha
  rw [h1]
  generalize a / b = q at *
  simp [IntKind.wrap, IntKind.bits, IntKind.signed]
  omega
theorem ten6_le {k : Nat} (hk : k ≤ 6) : 1000000000 * 10 ^ k ≤ 1000000000000000 := by have := TX.ten_le hk; omega
end Go.Proofs.YtgfhabofhefaaaaGreatDoor
namespace Go.Proofs.YtgfhabofhefaaaaGreatDoor
namespace CF
abbrev B := List UInt8
structure Ru where
  name : B
  unit : Int
  limit : Int
  near : Nat
  shadow : Bool
  unl : Bool
structure Br where
  key : B
  val : B
  any : Bool
  dom : Int
  up : Int
  has : Bool
  rule : Ru
  kids : List Int
structure Do where
  name : B
  kids : List Int
structure Cf where
  doms : List Do
  brs : List Br
def ru0 : Ru := ⟨[], 0, 0, 0, false, false⟩
def secs (u : Int) : Int := if u = 1 then 1 else if u = 2 then 60 else if u = 3 then 3600 else if u = 4 then 86400 else 0
def unitS (u : Int) : B := if u = 1 then [115, 101, 99, 111, 110, 100] else if u = 2 then [109, 105, 110, 117, 116, 101] else if u = 3 then [104, 111, 117, 114] else if u = 4 then [100, 97, 121] else []
def chkRule (r : Ru) : Bool :=
  if r.name ≠ [] ∧ D.nm r.name = false then false
  else if r.unl then decide (r.unit = 0) && decide (r.limit = 0) && (ordI r.near 0 == 0)
  else if secs r.unit = 0 ∨ r.limit < 0 ∨ 4294967295 < r.limit then false
  else if ordI r.near 0 < 0 ∨ 0 < ordI r.near 4607182418800017408 then false
  else wrOk r.near
def sameRule (a b : Ru) : Bool := decide (a.name = b.name) && decide (a.unit = b.unit) && decide (a.limit = b.limit) && (a.shadow == b.shadow) && (a.unl == b.unl) && (ordI a.near b.near == 0)
def fits (b : Br) (dom up : Int) : Bool :=
  if b.dom ≠ dom ∨ b.up ≠ up ∨ D.nm b.key = false ∨ 128 < b.val.length ∨ (b.any = true ∧ b.val ≠ []) then false
  else if b.has then chkRule b.rule else sameRule b.rule ru0
def met (b x : Br) : Bool := decide (x.key = b.key) && decide (x.val = b.val) && (x.any == b.any)
def lp (g : List Int → Nat → Int → Int → Option Nat) (c : Cf) (dom up : Int) : List Br → List Int → Nat → Option Nat
  | _, [], next => some next
  | seen, k :: r, next =>
    if k ≠ (next : Int) then none
    else match c.brs[next]? with
      | none => none
      | some b =>
        if fits b dom up = false ∨ seen.any (met b) = true then none
        else match g b.kids (next + 1) dom next with
          | none => none
          | some m => lp g c dom up (seen ++ [b]) r m
def kf (c : Cf) : Nat → List Int → Nat → Int → Int → Option Nat
  | 0, kids, next, _, _ => if kids = [] then some next else none
  | f + 1, kids, next, dom, up => lp (kf c f) c dom up [] kids next
def dl (c : Cf) : List Do → List Do → Nat → Option Nat
  | _, [], next => some next
  | seen, d :: r, next =>
    if D.nm d.name = false ∨ seen.any (fun x => decide (x.name = d.name)) = true then none
    else match kf c 8 d.kids next seen.length (-1) with
      | none => none
      | some m => dl c (seen ++ [d]) r m
def chk (c : Cf) : Bool := decide (1 ≤ c.doms.length ∧ c.doms.length ≤ 16 ∧ c.brs.length ≤ 500 ∧ dl c [] c.doms 0 = some c.brs.length)
def opn (k : Int) (ns : List SH.Ni) : List SH.Ni := ns ++ [⟨k, 0, [], false, [], []⟩]
def txt (s : B) (q : Bool) (ns : List SH.Ni) : List SH.Ni := ns ++ [⟨1, 0, s, q, [], []⟩]
def addK (n : Nat) (key : B) (k : Nat) (ns : List SH.Ni) : List SH.Ni := ns.modify n fun x => { x with keys := x.keys ++ [key], kids := x.kids ++ [(k : Int)] }
def addI (n k : Nat) (ns : List SH.Ni) : List SH.Ni := ns.modify n fun x => { x with kids := x.kids ++ [(k : Int)] }
def put (n : Nat) (key s : B) (q : Bool) (ns : List SH.Ni) : List SH.Ni := addK n key ns.length (txt s q ns)
def kDomains : B := [100, 111, 109, 97, 105, 110, 115]
def kDomain : B := [100, 111, 109, 97, 105, 110]
def kDescs : B := [100, 101, 115, 99, 114, 105, 112, 116, 111, 114, 115]
def kKey : B := [107, 101, 121]
def kValue : B := [118, 97, 108, 117, 101]
def kRate : B := [114, 97, 116, 101, 95, 108, 105, 109, 105, 116]
def kUnl : B := [117, 110, 108, 105, 109, 105, 116, 101, 100]
def kTrue : B := [116, 114, 117, 101]
def kUnit : B := [117, 110, 105, 116]
def kRpu : B := [114, 101, 113, 117, 101, 115, 116, 115, 95, 112, 101, 114, 95, 117, 110, 105, 116]
def kNear : B := [110, 101, 97, 114]
def kName : B := [110, 97, 109, 101]
def kShadow : B := [115, 104, 97, 100, 111, 119, 95, 109, 111, 100, 101]
def limS (r : Ru) : B := Lib.decDigits (M.hold r.limit).toNat
def inRule (r : Ru) (m : Nat) (ns : List SH.Ni) : List SH.Ni :=
  if r.unl then put m kUnl kTrue false ns else put m kNear (wrS r.near) false (put m kRpu (limS r) false (put m kUnit (unitS r.unit) false ns))
def named (r : Ru) (m : Nat) (ns : List SH.Ni) : List SH.Ni := if r.name = [] then ns else put m kName r.name true ns
def shaded (r : Ru) (n : Nat) (ns : List SH.Ni) : List SH.Ni := if r.shadow then put n kShadow kTrue false ns else ns
def ruled (r : Ru) (n : Nat) (ns : List SH.Ni) : List SH.Ni := shaded r n (named r ns.length (inRule r ns.length (addK n kRate ns.length (opn 3 ns))))
def valued (b : Br) (n : Nat) (ns : List SH.Ni) : List SH.Ni := if b.any then ns else put n kValue b.val true ns
def hasR (b : Br) (n : Nat) (ns : List SH.Ni) : List SH.Ni := if b.has then ruled b.rule n ns else ns
def front (l : Nat) (b : Br) (ns : List SH.Ni) : List SH.Ni := hasR b ns.length (valued b ns.length (put ns.length kKey b.key true (addI l ns.length (opn 3 ns))))
def under (g : List Int → List SH.Ni → List SH.Ni) (kids : List Int) (n : Nat) (ns : List SH.Ni) : List SH.Ni := if kids = [] then ns else addK n kDescs ns.length (g kids ns)
def brl (g : List Int → List SH.Ni → List SH.Ni) (c : Cf) (l : Nat) : List Int → List SH.Ni → List SH.Ni
  | [], ns => ns
  | k :: r, ns => match c.brs[k.toNat]? with
    | none => ns
    | some b => brl g c l r (under g b.kids ns.length (front l b ns))
def brw (c : Cf) : Nat → List Int → List SH.Ni → List SH.Ni
  | 0, _, ns => opn 2 ns
  | f + 1, kids, ns => brl (brw c f) c ns.length kids (opn 2 ns)
def dms (c : Cf) : List Do → List SH.Ni → List SH.Ni
  | [], ns => ns
  | d :: r, ns => dms c r (under (brw c 8) d.kids ns.length (put ns.length kDomain d.name true (addI 1 ns.length (opn 3 ns))))
def doc (c : Cf) : List SH.Ni := dms c c.doms (addK 0 kDomains 1 (opn 2 (opn 3 [])))
def Deep (c : Cf) : Nat → List Int → Prop
  | 0, kids => kids = []
  | f + 1, kids => ∀ k ∈ kids, 0 ≤ k ∧ ∃ b, c.brs[k.toNat]? = some b ∧ Deep c f b.kids
end CF
end Go.Proofs.YtgfhabofhefaaaaGreatDoor
namespace Go.Proofs.YtgfhabofhefaaaaGreatDoor
open Go.RowKit
theorem nm_long {l : List UInt8} (h : 64 < l.length) : D.nm l = false := by
  unfold D.nm
  have : decide (l.length ≤ 64) = false := by simp; omega
  rw [this]; simp
theorem nm_bad {l : List UInt8} {j : Nat} {c : UInt8} (h : l[j]? = some c) (hc : D.vis c = false) : D.nm l = false := by
  unfold D.nm
  have : l.all D.vis = false := by
    rw [List.all_eq_false]
    exact ⟨c, List.mem_of_getElem? h, by simp [hc]⟩
  rw [this]; simp
theorem nm_good {l : List UInt8} (h0 : l ≠ []) (h1 : l.length ≤ 64) (h : ∀ c ∈ l, D.vis c = true) : D.nm l = true := by
  unfold D.nm
  have e1 : 1 ≤ l.length := List.length_pos_iff.2 h0
  have e2 : l.all D.vis = true := List.all_eq_true.2 h
  rw [e2]; simp [h1, e1]
theorem vis_yes {c : UInt8} (h : D.vis c = true) : 33 ≤ c.toNat ∧ c.toNat ≤ 126 := of_decide_eq_true h
theorem vis_no {c : UInt8} (h : D.vis c = false) : ¬ (33 ≤ c.toNat ∧ c.toNat ≤ 126) := of_decide_eq_false h
theorem take_vis {l : List UInt8} {k : Nat} {c : UInt8} (h : l[k]? = some c) (hd : ∀ d ∈ l.take k, D.vis d = true) (hc : D.vis c = true) : ∀ d ∈ l.take (k + 1), D.vis d = true := by
  intro d hm
  rw [List.take_add_one, h] at hm
  rcases List.mem_append.1 hm with h1 | h1
  · exact hd d h1
  · have : d = c := by simpa using h1
    rw [this]; exact hc
set_option maxHeartbeats 800000 in
theorem rname_any (l : List UInt8) (hl : l.length ≤ maxLen) (w : World) :
    Calls Tryz.prog 40 #[.string ⟨l.toArray⟩] w fun e w' => e = .returned (.bool (D.nm l)) ∧ w' = w := by
  unfold maxLen at hl
  cases l with
  | nil =>
    go_enter Tryz.func40, Tryz.ntmps40
    go_wp2
    go_ret
    exact ret_b (by decide) rfl
  | cons c0 l0 =>
    obtain ⟨l, hL⟩ : ∃ l, l = c0 :: l0 := ⟨_, rfl⟩
    rw [← hL] at hl ⊢
    have hne2 : ¬ l = [] := by rw [hL]; simp
    have hpos : 1 ≤ l.length := by rw [hL]; simp
    clear hL
    have hsz := str_size l
    by_cases hlen : l.length ≤ 64
    · have HLN := Lib.hid hlen
      obtain ⟨L, hLI⟩ : ∃ L : Nat, l.length = L := ⟨_, rfl⟩
      have hl9 : L ≤ 64 := by omega
      have hl1 : 1 ≤ L := by omega
      rw [hLI] at hsz
      have HL := Lib.hid hLI
      clear hl hlen hLI hpos
      go_enter Tryz.func40, Tryz.ntmps40
      go_wp2
      go_loop [3] (fun i => ∃ (k : Nat), k ≤ L ∧ i = .int .i64 (k : Int) ∧ Hid (∀ d ∈ l.take k, D.vis d = true)) (fun i => L - (intOf i).toNat)
      case atStart => exact ⟨0, Nat.zero_le _, rfl, by show ∀ _, _; simp⟩
      case round =>
        obtain ⟨k, hk, rfl, HD⟩ := hrel
        by_cases hlt : k < L
        · obtain ⟨c, hc⟩ : ∃ c, l[k]? = some c := ⟨l[k]'(by have := HL.out; omega), List.getElem?_eq_getElem _⟩
          have hub := c.toNat_lt
          have HCC := Lib.hid hc
          have hkL : k < (⟨l.toArray⟩ : ByteArray).size := by omega
          obtain ⟨z, hz⟩ : ∃ z : Int, (c.toNat : Int) = z := ⟨_, rfl⟩
          have hi := at_z hc hz hkL
          have hz0 : 0 ≤ z := by omega
          have hz1 : z < 256 := by omega
          clear hc
          cases hd : D.vis c
          · have hno := vis_no hd
            have E := Lib.hid (nm_bad HCC.out hd)
            have h3 : z < 33 ∨ (¬ z < 33 ∧ 126 < z) := by omega
            clear hd hno hz hub
            rcases h3 with h3 | ⟨h3, h4⟩
            all_goals
              go_wp2
              go_ret
              exact ret_b E.out.symm rfl
          · obtain ⟨h1, h2⟩ := vis_yes hd
            have HD2 := Lib.hid (take_vis HCC.out HD.out hd)
            have h3 : ¬ z < 33 := by omega
            have h4 : ¬ 126 < z := by omega
            clear hd h1 h2 hz hub
            go_wp2
            go_round
            case rel => exact ⟨k + 1, by omega, by go_num, HD2.out⟩
            case measure => simp [intOf]; omega
        · have E := Lib.hid (nm_good hne2 HLN.out (by
            have h1 := HD.out; have h2 := HL.out
            rw [List.take_of_length_le (by omega)] at h1
            exact h1))
          go_wp2
          go_ret
          exact ret_b E.out.symm rfl
    · have E := Lib.hid (nm_long (l := l) (by omega))
      have hb : decide ((64 : Int) < (l.length : Int)) = true := by simp; omega
      go_enter Tryz.func40, Tryz.ntmps40
      go_wp2
      go_ret
      exact ret_b E.out.symm rfl
end Go.Proofs.YtgfhabofhefaaaaGreatDoor
