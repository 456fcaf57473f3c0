/- Walks of package ratio's Parse. -/
import Derived.Test.YtbinhlnekhglkaaDoorRatR
namespace Go.Proofs.YtbinhlnekhglkaaDoor
open Go.RowKit

theorem psize_any (l : List UInt8) (hl : l.length ≤ maxLen) (w : World) :
    Calls Tryd.prog 47 #[.string ⟨l.toArray⟩] w fun e w' => e = .returned (.tuple #[.float .f64 (pF l), .bool (pOk l)]) ∧ Below w.heap.size w w' := by
  rcases index_split 46 l with ⟨_, h⟩ | ⟨a, b, rfl, h, _⟩
  · refine psize_core l l [] false hl (Nat.zero_le _) (fun _ => rfl) (fun w => ?_) ?_ w
    · refine (cut_none l h w).mono ?_
      rintro e w' ⟨rfl, rfl⟩
      exact ⟨rfl, Below.refl _ _⟩
    · rw [TX.psz_none h]
      unfold pszBy
      simp
  · have h1 : a.length ≤ (a ++ 46 :: b).length := by simp
    have h2 : b.length ≤ (a ++ 46 :: b).length := by simp; omega
    refine psize_core (a ++ 46 :: b) a b true (Nat.le_trans h1 hl) (Nat.le_trans h2 hl) (fun h => by cases h) (fun w => cut_some a b h hl w) ?_ w
    rw [TX.psz_point h]
    unfold pszBy
    simp

theorem psz_bound {l : List UInt8} {n k : Nat} (h : TX.psz l = some (n, k)) : n < 1000000000000000 ∧ k ≤ 6 ∧ n / 10 ^ k ≤ 999999999 := by
  unfold TX.psz at h
  split at h
  · cases h
  · have a1 := num_lt (l.take (TX.cnt 9 l)) 0 (TX.cnt_digits 9 l)
    have a2 : 10 ^ (l.take (TX.cnt 9 l)).length ≤ 10 ^ 9 := Nat.pow_le_pow_right (by decide) (by
      have := (TX.cnt_le 9 l).1
      rw [List.length_take]; omega)
    have e9 : (10 : Nat) ^ 9 = 1000000000 := by decide
    split at h
    · simp only [Option.some.injEq, Prod.mk.injEq] at h
      obtain ⟨rfl, rfl⟩ := h
      refine ⟨by omega, by omega, ?_⟩
      rw [Nat.pow_zero, Nat.div_one]; omega
    · split at h
      · split at h
        · cases h
        · rename_i t _ _ _
          simp only [Option.some.injEq, Prod.mk.injEq] at h
          obtain ⟨rfl, rfl⟩ := h
          have b1 := num_lt (t.take (TX.cnt 6 t)) (TX.num 0 (l.take (TX.cnt 9 l))) (TX.cnt_digits 6 t)
          have b2 := TX.cnt_le 6 t
          have b3 : (t.take (TX.cnt 6 t)).length = TX.cnt 6 t := by rw [List.length_take]; omega
          rw [b3] at b1
          have b4 := TX.ten_le b2.1
          have b5 := TX.ten_pos (TX.cnt 6 t)
          generalize TX.num (TX.num 0 (l.take (TX.cnt 9 l))) (t.take (TX.cnt 6 t)) = n at *
          generalize TX.num 0 (l.take (TX.cnt 9 l)) = m at *
          have b6 : (m + 1) * 10 ^ TX.cnt 6 t ≤ 1000000000 * 10 ^ TX.cnt 6 t := Nat.mul_le_mul_right _ (by omega)
          refine ⟨by omega, b2.1, ?_⟩
          apply Nat.le_of_lt_succ
          rw [Nat.div_lt_iff_lt_mul b5, Nat.succ_mul]
          omega
      · cases h
theorem pF_lt (l : List UInt8) : pF l < FM.infR := by
  unfold pF
  cases h : TX.psz l with
  | none => decide
  | some p =>
    obtain ⟨n, k⟩ := p
    obtain ⟨h1, h2, _⟩ := psz_bound h
    exact (TX.qdiv (n := n) (k := k) (by omega) h2).2.1

def parF (l : List UInt8) : Nat := (TX.parse l).getD 0
def parOk (l : List UInt8) : Bool := (TX.parse l).isSome
theorem par_minus {t : List UInt8} (h : ¬ 45 :: t = [45, 105, 110, 102]) : parF (45 :: t) = (if pOk t then Ieee.double.word true (pF t) else 0) ∧ parOk (45 :: t) = pOk t := by
  have e : TX.parse (45 :: t) = (TX.psz t).map fun p => Ieee.double.word true (TX.qw p.1 p.2) := by
    unfold TX.parse
    rw [if_neg (by simp), if_neg (by simp), if_neg h]
    split
    · rename_i t' he
      have : t = t' := by simpa using he
      rw [this]
    · rename_i h'
      exact absurd rfl (h' t)
  unfold parF parOk pOk pF
  rw [e]
  cases TX.psz t <;> simp
theorem par_plain {l : List UInt8} (h1 : ¬ l = [110, 97, 110]) (h2 : ¬ l = [105, 110, 102]) (h3 : ∀ t, l ≠ 45 :: t) : parF l = pF l ∧ parOk l = pOk l := by
  have e : TX.parse l = (TX.psz l).map fun p => TX.qw p.1 p.2 := by
    unfold TX.parse
    rw [if_neg h1, if_neg h2, if_neg (h3 _)]
    split
    · rename_i t; exact absurd rfl (h3 t)
    · rfl
  unfold parF parOk pOk pF
  rw [e]
  cases TX.psz l <;> simp
theorem pF_zero {l : List UInt8} (h : pOk l = false) : pF l = 0 := by
  unfold pOk at h
  unfold pF
  cases hp : TX.psz l with
  | none => rfl
  | some p => rw [hp] at h; cases h
theorem cutp_yes (t : List UInt8) (w : World) : Calls Tryd.prog 46 #[.string ⟨(45 :: t).toArray⟩, .string ⟨#[45]⟩] w fun e w' => e = .returned (.tuple #[.string ⟨t.toArray⟩, .bool true]) ∧ w' = w := by
  refine (Tryd.strings_CutPrefix ⟨(45 :: t).toArray⟩ ⟨#[45]⟩ w).mono ?_
  rintro e w' ⟨rfl, rfl⟩
  have e1 : Lib.hasPrefix (⟨(45 :: t).toArray⟩ : ByteArray).data.toList (⟨#[45]⟩ : ByteArray).data.toList = true := by
    show [45].isPrefixOf (45 :: t) = true
    simp
  have e2 : Lib.trimPrefix (⟨(45 :: t).toArray⟩ : ByteArray).data.toList (⟨#[45]⟩ : ByteArray).data.toList = t := by
    unfold Lib.trimPrefix; rw [e1]; rfl
  rw [e1, e2]; exact ⟨rfl, rfl⟩
theorem cutp_no (l : List UInt8) (h : ∀ t, l ≠ 45 :: t) (w : World) : Calls Tryd.prog 46 #[.string ⟨l.toArray⟩, .string ⟨#[45]⟩] w fun e w' => e = .returned (.tuple #[.string ⟨l.toArray⟩, .bool false]) ∧ w' = w := by
  refine (Tryd.strings_CutPrefix ⟨l.toArray⟩ ⟨#[45]⟩ w).mono ?_
  rintro e w' ⟨rfl, rfl⟩
  have e1 : Lib.hasPrefix (⟨l.toArray⟩ : ByteArray).data.toList (⟨#[45]⟩ : ByteArray).data.toList = false := by
    show [45].isPrefixOf l = false
    cases l with
    | nil => rfl
    | cons c l =>
      have : c ≠ 45 := fun e => h l (by rw [e])
      simp [List.isPrefixOf, Ne.symm this]
  have e2 : Lib.trimPrefix (⟨l.toArray⟩ : ByteArray).data.toList (⟨#[45]⟩ : ByteArray).data.toList = l := by
    unfold Lib.trimPrefix; rw [e1]; rfl
  rw [e1, e2]; exact ⟨rfl, rfl⟩
theorem rg_of_lt {x : Nat} (h : x < FM.infR) : FM.rg x = x := by have := FM.infR_lt; unfold FM.rg; omega
theorem copy_minus (x : Nat) (h : x < FM.infR) (w : World) : Calls Tryd.prog 40 #[.float .f64 x, .float .f64 13830554455654793216] w fun e w' => e = .returned (.float .f64 (Ieee.double.word true x)) ∧ w = w' := by
  have hb := FM.infR_lt
  have := copysign_any x 13830554455654793216 (by omega) (by decide) w
  rw [rg_of_lt h] at this
  exact this

theorem str_neq {l k : List UInt8} (h : ¬ l = k) : (l == k) = false := by simpa using h
set_option maxHeartbeats 2000000 in
theorem parse_any (l : List UInt8) (hl : l.length ≤ maxLen) (w : World) :
    Calls Tryd.prog 30 #[.string ⟨l.toArray⟩] w fun e w' => e = .returned (.tuple #[.float .f64 (parF l), .bool (parOk l)]) ∧ Below w.heap.size w w' := by
  by_cases n1 : l = [110, 97, 110]
  · subst n1
    clear hl
    go_enter Tryd.func30, Tryd.ntmps30
    go_wp2_with (go_at_call 27; refine (mnan_any _).mono ?_; rintro e w' ⟨rfl, rfl⟩)
    go_ret2
    exact ret_fb (by rfl) (by rfl) (Below.refl _ _)
  · by_cases n2 : l = [105, 110, 102]
    · subst n2
      clear hl n1
      go_enter Tryd.func30, Tryd.ntmps30
      go_wp2_with (go_at_call 39; refine (minf_any _ _).mono ?_; rintro e w' ⟨rfl, rfl⟩)
      go_ret2
      exact ret_fb (by rfl) (by rfl) (Below.refl _ _)
    · by_cases n3 : l = [45, 105, 110, 102]
      · subst n3
        clear hl n1 n2
        go_enter Tryd.func30, Tryd.ntmps30
        go_wp2_with (go_at_call 39; refine (minf_any _ _).mono ?_; rintro e w' ⟨rfl, rfl⟩)
        go_ret2
        exact ret_fb (by rfl) (by rfl) (Below.refl _ _)
      · have m1 := str_neq n1; have m2 := str_neq n2; have m3 := str_neq n3
        by_cases hm : ∃ t, l = 45 :: t
        · obtain ⟨t, ht⟩ := hm
          have hlt : t.length ≤ maxLen := by rw [ht] at hl; simp at hl; omega
          obtain ⟨p1, p2⟩ : parF l = (if pOk t then Ieee.double.word true (pF t) else 0) ∧ parOk l = pOk t := by
            have := par_minus (t := t) (by rw [← ht]; exact n3)
            rw [← ht] at this; exact this
          have P1 := Lib.hid p1; have P2 := Lib.hid p2
          have HCP := Lib.hid (show ∀ w, Calls Tryd.prog 46 #[.string ⟨l.toArray⟩, .string ⟨#[45]⟩] w fun e w' => e = .returned (.tuple #[.string ⟨t.toArray⟩, .bool true]) ∧ w' = w by
            intro w; rw [ht]; exact cutp_yes t w)
          have HPS := Lib.hid (fun w => psize_any t hlt w)
          have HCS := Lib.hid (fun w => copy_minus (pF t) (pF_lt t) w)
          have HZ := Lib.hid (fun h => pF_zero (l := t) h)
          clear p1 p2 hl hlt ht
          cases ho : pOk t
          · have z := HZ.out ho
            go_enter Tryd.func30, Tryd.ntmps30
            go_wp2_with fail
            refine (HCP.out _).mono ?_
            rintro e w1 ⟨rfl, rfl⟩
            go_wp2_with fail
            refine (HPS.out _).mono ?_
            rintro e w2 ⟨rfl, b2⟩
            have B2 := Lib.hid b2
            clear b2
            go_wp2
            go_ret2
            refine ret_fb ?_ ?_ B2.out
            · rw [P1.out, ho]; rfl
            · rw [P2.out, ho]
          · go_enter Tryd.func30, Tryd.ntmps30
            go_wp2_with fail
            refine (HCP.out _).mono ?_
            rintro e w1 ⟨rfl, rfl⟩
            go_wp2_with fail
            refine (HPS.out _).mono ?_
            rintro e w2 ⟨rfl, b2⟩
            have B2 := Lib.hid b2
            clear b2
            go_wp2_with (go_at_call 40; refine (HCS.out _).mono ?_; rintro e w' ⟨rfl, rfl⟩)
            go_ret2
            refine ret_fb ?_ ?_ B2.out
            · rw [P1.out, ho]; rfl
            · rw [P2.out, ho]
        · have hm' : ∀ t, l ≠ 45 :: t := fun t e => hm ⟨t, e⟩
          obtain ⟨p1, p2⟩ := par_plain n1 n2 hm'
          have P1 := Lib.hid p1; have P2 := Lib.hid p2
          have HCP := Lib.hid (fun w => cutp_no l hm' w)
          have HPS := Lib.hid (fun w => psize_any l hl w)
          clear p1 p2 hl hm hm'
          go_enter Tryd.func30, Tryd.ntmps30
          go_wp2_with fail
          refine (HCP.out _).mono ?_
          rintro e w1 ⟨rfl, rfl⟩
          go_wp2_with fail
          refine (HPS.out _).mono ?_
          rintro e w2 ⟨rfl, b2⟩
          have B2 := Lib.hid b2
          clear b2
          cases ho : pOk l
          all_goals
            go_wp2
            go_ret2
            exact ret_fb P1.out.symm (by rw [P2.out, ho]) B2.out
end Go.Proofs.YtbinhlnekhglkaaDoor
