/- Walks of line.hasWrongByte and of line.one. -/
import Derived.Test.YthhngkoopaolkaaGreatDoorLnB
import Derived.Test.YthhngkoopaolkaaGreatDoorLnS
namespace Go.Proofs.YthhngkoopaolkaaGreatDoor
open Go.RowKit

def wrongB (c : UInt8) : Bool := decide (c.toNat < 32) || decide (c.toNat = 127)
theorem bad_take {bs : List UInt8} {k : Nat} {c : UInt8} (h : bs[k]? = some c) (hk : LN.bad (bs.take k) = false) (hc : wrongB c = false) : LN.bad (bs.take (k + 1)) = false := by
  have hlt := (List.getElem?_eq_some_iff.1 h).1
  have e : bs.take (k + 1) = bs.take k ++ [c] := by
    rw [List.take_succ_eq_append_getElem hlt]
    rw [List.getElem?_eq_getElem hlt] at h
    rw [Option.some.inj h]
  unfold LN.bad at hk ⊢
  rw [e, List.any_append, hk]
  simpa [wrongB] using hc
theorem bad_at {bs : List UInt8} {k : Nat} {c : UInt8} (h : bs[k]? = some c) (hc : wrongB c = true) : LN.bad bs = true := by
  unfold LN.bad
  rw [List.any_eq_true]
  exact ⟨c, List.mem_of_getElem? h, hc⟩
theorem wrongB_cases (c : UInt8) {z : Int} (hz : (c.toNat : Int) = z) : (z < 32 ∧ wrongB c = true) ∨ (¬ z < 32 ∧ z = 127 ∧ wrongB c = true) ∨ (¬ z < 32 ∧ ¬ z = 127 ∧ wrongB c = false) := by
  unfold wrongB
  by_cases h1 : c.toNat < 32
  · exact .inl ⟨by omega, by simp [h1]⟩
  · by_cases h2 : c.toNat = 127
    · exact .inr (.inl ⟨by omega, by omega, by simp [h2]⟩)
    · exact .inr (.inr ⟨by omega, by omega, by simp [h1, h2]⟩)

set_option maxHeartbeats 800000 in
theorem wrong_any (v : Value) (bs : List UInt8) (w : World) (hr : Rdv w v (bv bs)) (hl : bs.length ≤ 20000) :
    Calls Tryz.prog 76 #[v] w fun e w' => e = .returned (.bool (LN.bad bs)) ∧ w' = w := by
  have HR := Lib.hid hr
  obtain ⟨ao, cap, rfl, -⟩ := hr
  rw [bv_len]
  have HN := Lib.hid (HR.out)
  rw [bv_len] at HN
  clear HR
  obtain ⟨n, hn⟩ : ∃ n, bs.length = n := ⟨_, rfl⟩
  have HL := Lib.hid hn
  rw [hn] at HN hl ⊢
  clear hn
  go_enter Tryz.func76, Tryz.ntmps76
  go_wp2
  go_loopg [7] n (fun g s7 wx => ∃ k : Nat, k + g = n ∧ s7 = .int .i64 (k : Int) ∧ wx = w ∧ Hid (LN.bad (bs.take k) = false))
  case atStart => exact ⟨0, by omega, rfl, rfl, by show LN.bad (bs.take 0) = false; simp [LN.bad]⟩
  case round =>
    obtain ⟨k, hk, rfl, rfl, HB⟩ := hrel
    cases gk with
    | zero =>
      obtain rfl : k = n := by omega
      have E := Lib.hid (show LN.bad bs = false by have := HB.out; rwa [List.take_of_length_le (by have := HL.out; omega)] at this)
      go_wp2
      go_ret
      exact ret_b E.out.symm rfl
    | succ g =>
      have hkn : (k : Int) < (n : Int) := by omega
      obtain ⟨b, off, cp, e1, hb, hcells⟩ := HN.out.at (j := k) (by have := HL.out; omega)
      have hcell := hcells k (by have := HL.out; omega)
      obtain ⟨rfl, rfl⟩ : ao = some ⟨b, off, none⟩ ∧ cap = cp := by
        have := e1
        simp at this
        exact ⟨this.1, this.2.2⟩
      obtain ⟨c, hc⟩ : ∃ c, bs[k]? = some c := ⟨bs[k]'(by have := HL.out; omega), List.getElem?_eq_getElem _⟩
      have hcc : bs[k]'(by have := HL.out; omega) = c := by
        rw [List.getElem?_eq_getElem (by have := HL.out; omega)] at hc
        exact Option.some.inj hc
      rw [hcc] at hcell
      obtain ⟨z, hz⟩ : ∃ z : Int, (c.toNat : Int) = z := ⟨_, rfl⟩
      rw [hz] at hcell
      have hub := c.toNat_lt
      have hz0 : 0 ≤ z := by omega
      have hz1 : z < 256 := by omega
      have HC := Lib.hid hc
      have hw := wrongB_cases c hz
      clear hcells e1 hc hcc hz hub hb
      rcases hw with ⟨h1, h2⟩ | ⟨h1, rfl, h2⟩ | ⟨h1, h3, h2⟩
      · have E := Lib.hid (bad_at HC.out h2)
        clear h2
        go_wp2
        go_ret
        exact ret_b E.out.symm rfl
      · have E := Lib.hid (bad_at HC.out h2)
        clear h2
        go_wp2
        go_ret
        exact ret_b E.out.symm rfl
      · have E := Lib.hid (bad_take HC.out HB.out h2)
        clear h2
        go_wp2
        go_roundg g
        case rel => exact ⟨k + 1, by omega, rfl, rfl, E⟩
        case measure => omega

theorem tleft_any (l : List UInt8) (w : World) : Calls Tryz.prog 77 #[.string ⟨l.toArray⟩, .string ⟨#[32]⟩] w fun e w' => e = .returned (.string ⟨(LN.tl l).toArray⟩) ∧ w' = w :=
  Tryz.strings_TrimLeft_one ⟨l.toArray⟩ 32 (by decide) w
theorem tl_len (l : List UInt8) : (LN.tl l).length ≤ l.length := (List.dropWhile_sublist _).length_le

/-- The line that is told of a row: nothing, if something is wrong. -/
def oneC (no : Nat) (r : List UInt8) : Array Value := if LN.kind r = 0 then lc (no, LN.ind r, LN.said r) else #[.int .i64 0, .int .i64 0, .string ⟨#[]⟩]
theorem one_bad {no : Nat} {r : List UInt8} {P : Prop} (h : LN.bad r = true) (hp : P) : Ending.returned (.tuple #[.agg #[.int .i64 0, .int .i64 0, .string ⟨#[]⟩], .int .i64 2]) = .returned (.tuple #[.agg (oneC no r), .int .i64 (LN.kind r : Int)]) ∧ P := by
  have : LN.kind r = 2 := by unfold LN.kind; rw [if_pos h]
  unfold oneC
  rw [this]
  exact ⟨rfl, hp⟩
theorem one_quote {no : Nat} {r R : List UInt8} {P : Prop} (h : LN.bad r = false) (hR : R = LN.tl r) (h2 : stB R = false) (hp : P) : Ending.returned (.tuple #[.agg #[.int .i64 0, .int .i64 0, .string ⟨#[]⟩], .int .i64 3]) = .returned (.tuple #[.agg (oneC no r), .int .i64 (LN.kind r : Int)]) ∧ P := by
  have : LN.kind r = 3 := by
    unfold LN.kind
    rw [if_neg (by rw [h]; simp), ← hR]
    unfold stB at h2
    rw [if_pos (by simpa using h2)]
  unfold oneC
  rw [this]
  exact ⟨rfl, hp⟩
theorem one_ok {no i : Nat} {r R S : List UInt8} {P : Prop} (h : LN.bad r = false) (hR : R = LN.tl r) (h2 : stB R = true) (hS : S = stS R) (hi : i = r.length - R.length) (hp : P) : Ending.returned (.tuple #[.agg #[.int .i64 (no : Int), .int .i64 (i : Int), .string ⟨S.toArray⟩], .int .i64 0]) = .returned (.tuple #[.agg (oneC no r), .int .i64 (LN.kind r : Int)]) ∧ P := by
  have h3 : LN.strip R ≠ none := by
    unfold stB at h2
    intro e
    rw [e] at h2; cases h2
  have : LN.kind r = 0 := by
    unfold LN.kind
    rw [if_neg (by rw [h]; simp), ← hR, if_neg h3]
  unfold oneC
  rw [this, if_pos rfl]
  unfold LN.ind LN.said lc
  rw [← hR, hi, hS]
  exact ⟨rfl, hp⟩

set_option maxHeartbeats 1600000 in
theorem one_any (no : Nat) (_hno : no ≤ 20000) (v : Value) (r : List UInt8) (w : World) (hr : Rdv w v (bv r)) (hl : r.length ≤ 16384) :
    Calls Tryz.prog 44 #[.int .i64 (no : Int), v] w fun e w' => e = .returned (.tuple #[.agg (oneC no r), .int .i64 (LN.kind r : Int)]) ∧ Below w.heap.size w w' := by
  have B0 := below_alloc w (.cells #[.int .i64 0, .int .i64 0, .string ⟨#[]⟩] 100)
  have hr1 := hr.below B0
  have HS := Lib.hid (Str.new w 100 #[.int .i64 0, .int .i64 0, .string ⟨#[]⟩])
  have HB := Lib.hid B0
  have HW := Lib.hid (wrong_any v r _ hr1 (by omega))
  have hcs := run_string_rd (P := Tryz.prog) 22 5 9 Tryz.underlying22 Tryz.underlying5 Tryz.underlying9 hr1
  obtain ⟨ao, cap, rfl, -⟩ := hr
  rw [bv_len] at HW hcs ⊢
  obtain ⟨c0, c1, c2⟩ := HS.out.cells3
  obtain ⟨f0, f1, f2, -⟩ := HS.out.frozen4
  clear hr1 B0
  obtain ⟨R, hR⟩ : ∃ R, R = LN.tl r := ⟨_, rfl⟩
  obtain ⟨S, hSS⟩ : ∃ S, S = stS R := ⟨_, rfl⟩
  obtain ⟨i, hi⟩ : ∃ i, i = r.length - R.length := ⟨_, rfl⟩
  have hRl : R.length ≤ r.length := by rw [hR]; exact tl_len r
  have HT := Lib.hid (show ∀ x : World, Calls Tryz.prog 77 #[.string ⟨r.toArray⟩, .string ⟨#[32]⟩] x fun e w' => e = .returned (.string ⟨R.toArray⟩) ∧ w' = x from fun x => by rw [hR]; exact tleft_any r x)
  have HP := Lib.hid (show ∀ x : World, Calls Tryz.prog 78 #[.string ⟨R.toArray⟩] x fun e w' => e = .returned (.tuple #[.string ⟨S.toArray⟩, .bool (stB R)]) ∧ w' = x from fun x => by rw [hSS]; exact strip_any R (by omega) x)
  have HR := Lib.hid hR
  have HSS := Lib.hid hSS
  have HI := Lib.hid hi
  have hRs := str_size R
  obtain ⟨m, hm⟩ : ∃ m, R.length = m := ⟨_, rfl⟩
  obtain ⟨n, hn⟩ : ∃ n, r.length = n := ⟨_, rfl⟩
  rw [hm] at hRs
  rw [hn] at hcs HW ⊢
  have hin : (n : Int) - (m : Int) = (i : Int) := by omega
  have hn9 : n ≤ 16384 := by omega
  have hm9 : m ≤ n := by omega
  clear hR hSS hi hm hn hl hRl
  go_enter Tryz.func44, Tryz.ntmps44
  cases hbad : LN.bad r with
  | true =>
    have E := Lib.hid hbad
    rw [hbad] at HW
    clear hbad hcs
    go_wp2_with (go_at_call 76; refine HW.out.mono ?_; rintro e w' ⟨rfl, rfl⟩)
    (try simp only [Exit.inBlock, Exit.then])
    refine bodyPost_ret (ret_cb rfl rfl rfl (Str.new w _ _) Tryz.underlying100 rfl line_size) rfl ?_
    exact one_bad E.out (below_alloc w _)
  | false =>
    have E := Lib.hid hbad
    rw [hbad] at HW
    clear hbad
    cases hst : stB R with
    | false =>
      have E2 := Lib.hid hst
      rw [hst] at HP
      clear hst
      go_wp2_with (first
        | (go_at_call 76; refine HW.out.mono ?_; rintro e w' ⟨rfl, rfl⟩)
        | (go_at_call 77; refine (HT.out _).mono ?_; rintro e w' ⟨rfl, rfl⟩)
        | (go_at_call 78; refine (HP.out _).mono ?_; rintro e w' ⟨rfl, rfl⟩))
      (try simp only [Exit.inBlock, Exit.then])
      refine bodyPost_ret (ret_cb rfl rfl rfl (Str.new w _ _) Tryz.underlying100 rfl line_size) rfl ?_
      exact one_quote E.out HR.out E2.out (below_alloc w _)
    | true =>
      have E2 := Lib.hid hst
      rw [hst] at HP
      clear hst
      go_wp2_with (first
        | (go_at_call 76; refine HW.out.mono ?_; rintro e w' ⟨rfl, rfl⟩)
        | (go_at_call 77; refine (HT.out _).mono ?_; rintro e w' ⟨rfl, rfl⟩)
        | (go_at_call 78; refine (HP.out _).mono ?_; rintro e w' ⟨rfl, rfl⟩))
      (try simp only [Exit.inBlock, Exit.then])
      refine bodyPost_ret (ret_cb rfl rfl rfl (Str.new w _ _) Tryz.underlying100 rfl line_size) rfl ?_
      exact one_ok E.out HR.out E2.out HSS.out HI.out (below_alloc w _)
theorem one_good (no : Nat) (hno : no ≤ 20000) (v : Value) (r : List UInt8) (w : World) (hr : Rdv w v (bv r)) (hl : r.length ≤ 16384) (hk : LN.kind r = 0) :
    Calls Tryz.prog 44 #[.int .i64 (no : Int), v] w fun e w' => e = .returned (.tuple #[.agg #[.int .i64 (no : Int), .int .i64 (LN.ind r : Int), .string ⟨(LN.said r).toArray⟩], .int .i64 0]) ∧ Below w.heap.size w w' := by
  have := one_any no hno v r w hr hl
  unfold oneC at this
  rw [hk, if_pos rfl] at this
  exact this
theorem one_wrong (no : Nat) (hno : no ≤ 20000) (v : Value) (r : List UInt8) (w : World) (hr : Rdv w v (bv r)) (hl : r.length ≤ 16384) (hk : ¬ LN.kind r = 0) :
    Calls Tryz.prog 44 #[.int .i64 (no : Int), v] w fun e w' => e = .returned (.tuple #[.agg #[.int .i64 0, .int .i64 0, .string ⟨#[]⟩], .int .i64 (LN.kind r : Int)]) ∧ Below w.heap.size w w' := by
  have := one_any no hno v r w hr hl
  unfold oneC at this
  rw [if_neg hk] at this
  exact this
end Go.Proofs.YthhngkoopaolkaaGreatDoor
