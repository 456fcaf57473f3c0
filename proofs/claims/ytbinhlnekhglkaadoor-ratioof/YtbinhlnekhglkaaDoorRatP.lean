/- Walks of package ratio's Parse, and of what it calls. -/
import Derived.Test.YtbinhlnekhglkaaDoorRatY
import Derived.Lib.ConvBytes
namespace Go.Proofs.YtbinhlnekhglkaaDoor
open Go.RowKit

theorem index_split (c : UInt8) : ∀ l : List UInt8, (Lib.indexByte l c = -1 ∧ c ∉ l) ∨ ∃ a b, l = a ++ c :: b ∧ c ∉ a ∧ Lib.indexByte l c = (a.length : Int)
  | [] => .inl ⟨rfl, by simp⟩
  | d :: l => by
    unfold Lib.indexByte
    by_cases h : d = c
    · subst h
      exact .inr ⟨[], l, rfl, by simp, by simp⟩
    · have hb : (d == c) = false := by simpa using h
      rw [hb]
      simp only [Bool.false_eq_true, if_false]
      rcases index_split c l with ⟨h1, h2⟩ | ⟨a, b, h1, h2, h3⟩
      · rw [h1]
        exact .inl ⟨rfl, by simp [Ne.symm h, h2]⟩
      · refine .inr ⟨d :: a, b, by rw [h1]; rfl, by simp [Ne.symm h, h2], ?_⟩
        rw [h3]
        have : ((a.length : Int) == -1) = false := by simp
        rw [this]
        simp

theorem ret_ssb {a b c d : List UInt8} {x y : Bool} {P : Prop} (h : a = b) (h2 : c = d) (h3 : x = y) (hp : P) : Ending.returned (.tuple #[.string ⟨a.toArray⟩, .string ⟨c.toArray⟩, .bool x]) = .returned (.tuple #[.string ⟨b.toArray⟩, .string ⟨d.toArray⟩, .bool y]) ∧ P := ⟨by rw [h, h2, h3], hp⟩
set_option maxHeartbeats 800000 in
theorem lcut_none (l : List UInt8) (h : (46 : UInt8) ∉ l) (w : World) :
    Calls Tryd.prog 71 #[.string ⟨l.toArray⟩, .string ⟨#[46]⟩] w fun e w' => e = .returned (.tuple #[.string ⟨l.toArray⟩, .string ⟨([] : List UInt8).toArray⟩, .bool false]) ∧ w' = w := by
  have hi : Lib.indexByte l 46 = -1 := by
    rcases index_split 46 l with h1 | ⟨a, b, h1, _, _⟩
    · exact h1.1
    · rw [h1] at h; simp at h
  have hx := fun w => Tryd.stringslite_Index_one ⟨l.toArray⟩ 46 w
  have e : (⟨l.toArray⟩ : ByteArray).data.toList = l := rfl
  simp only [hi] at hx
  have HX := Lib.hid hx
  clear hx hi e h
  go_enter Tryd.func71, Tryd.ntmps71
  go_wp2_with fail
  refine (HX.out _).mono ?_
  rintro e w1 ⟨rfl, rfl⟩
  go_wp2
  go_ret3
  exact ⟨rfl, rfl⟩
set_option maxHeartbeats 800000 in
theorem lcut_some (a b : List UInt8) (h : (46 : UInt8) ∉ a) (hl : (a ++ 46 :: b).length ≤ maxLen) (w : World) :
    Calls Tryd.prog 71 #[.string ⟨(a ++ 46 :: b).toArray⟩, .string ⟨#[46]⟩] w fun e w' => e = .returned (.tuple #[.string ⟨a.toArray⟩, .string ⟨b.toArray⟩, .bool true]) ∧ Below w.heap.size w w' := by
  have hi : Lib.indexByte (a ++ 46 :: b) 46 = (a.length : Int) := by
    clear hl
    induction a with
    | nil => rfl
    | cons d a ih =>
      have hd : d ≠ 46 := fun e => h (e ▸ List.mem_cons_self ..)
      have hb : (d == 46) = false := by simpa using hd
      rw [List.cons_append, Lib.indexByte, hb]
      simp only [Bool.false_eq_true, if_false]
      rw [ih (fun hm => h (List.mem_cons_of_mem _ hm))]
      have : ((a.length : Int) == -1) = false := by simp
      rw [this]; simp
  have hx := fun w => Tryd.stringslite_Index_one ⟨(a ++ 46 :: b).toArray⟩ 46 w
  have e : (⟨(a ++ 46 :: b).toArray⟩ : ByteArray).data.toList = a ++ 46 :: b := rfl
  simp only [hi] at hx
  have HX := Lib.hid hx
  have hsz : (⟨(a ++ 46 :: b).toArray⟩ : ByteArray).size = a.length + 1 + b.length := by rw [str_size]; simp; omega
  have x1 : (⟨(a ++ 46 :: b).toArray⟩ : ByteArray).extract 0 a.length = ⟨a.toArray⟩ := by rw [ByteArray.extract_mk]; simp
  have x2 : (⟨(a ++ 46 :: b).toArray⟩ : ByteArray).extract (a.length + 1) (a.length + 1 + b.length) = ⟨b.toArray⟩ := by
    rw [ByteArray.extract_mk]
    have : a ++ 46 :: b = (a ++ [46]) ++ b := by simp
    rw [this, List.drop_left' (by simp)]
    congr 2
    apply List.take_of_length_le
    omega
  unfold maxLen at hl
  have hl' : a.length + 1 + b.length ≤ 9223372036854775807 := by simp at hl; omega
  clear hx hi e h hl
  generalize (⟨(a ++ 46 :: b).toArray⟩ : ByteArray) = s at *
  have c1 : (0 : Int) ≤ (a.length : Int) := by omega
  have c2 : (a.length : Int) ≤ (s.size : Int) := by omega
  have c4 : (a.length : Int) + 1 ≤ (s.size : Int) := by omega
  go_enter Tryd.func71, Tryd.ntmps71
  go_wp2_with fail
  refine (HX.out _).mono ?_
  rintro e w1 ⟨rfl, rfl⟩
  go_wp2
  go_region
  go_wp2
  go_ret3
  exact ⟨rfl, below_drew _⟩
set_option maxHeartbeats 400000 in
theorem cut_none (l : List UInt8) (h : (46 : UInt8) ∉ l) (w : World) :
    Calls Tryd.prog 58 #[.string ⟨l.toArray⟩, .string ⟨#[46]⟩] w fun e w' => e = .returned (.tuple #[.string ⟨l.toArray⟩, .string ⟨([] : List UInt8).toArray⟩, .bool false]) ∧ w' = w := by
  have H := Lib.hid (fun w => lcut_none l h w)
  clear h
  go_enter Tryd.func58, Tryd.ntmps58
  go_wp2_with fail
  refine (H.out _).mono ?_
  rintro e w1 ⟨rfl, rfl⟩
  go_wp2
  go_ret3
  exact ⟨rfl, rfl⟩
set_option maxHeartbeats 400000 in
theorem cut_some (a b : List UInt8) (h : (46 : UInt8) ∉ a) (hl : (a ++ 46 :: b).length ≤ maxLen) (w : World) :
    Calls Tryd.prog 58 #[.string ⟨(a ++ 46 :: b).toArray⟩, .string ⟨#[46]⟩] w fun e w' => e = .returned (.tuple #[.string ⟨a.toArray⟩, .string ⟨b.toArray⟩, .bool true]) ∧ Below w.heap.size w w' := by
  have H := Lib.hid (fun w => lcut_some a b h hl w)
  clear h hl
  generalize (⟨(a ++ 46 :: b).toArray⟩ : ByteArray) = s at *
  go_enter Tryd.func58, Tryd.ntmps58
  go_wp2_with fail
  refine (H.out _).mono ?_
  rintro e w1 ⟨rfl, b1⟩
  have B1 := Lib.hid b1
  clear b1
  go_wp2
  go_ret3
  exact ⟨rfl, B1.out⟩

/-- '[]byte(s)': a new row, of which the call reads the text's bytes. -/
theorem bytes_of (l : List UInt8) (w : World) : ∃ (W : World) (cap : Nat), (convert 9 59 (.string ⟨l.toArray⟩)).run Tryd.prog w = .ok (.slice (some ⟨w.heap.size, 0, none⟩) l.length cap) W ∧ Below w.heap.size w W ∧ ∀ j c, l[j]? = some c → W.cell? ⟨w.heap.size, j, none⟩ = some (.int .u8 (c.toNat : Int)) := by
  have h := Lib.run_convert_string_bytes (P := Tryd.prog) w 9 59 5 ⟨l.toArray⟩ (u := .string) Tryd.underlying9 Tryd.underlying59 Tryd.underlying5
  rw [str_size] at h
  refine ⟨_, _, h, ?_, ?_⟩
  · refine ⟨rfl, rfl, rfl, ?_, ?_⟩
    · rw [Lib.bytesWorld_size]; omega
    · intro j hj
      exact Lib.bytesWorld_at_old _ _ _ _ hj
  · intro j c hc
    have hj : j < l.length := by
      rcases Nat.lt_or_ge j l.length with h1 | h1
      · exact h1
      · rw [List.getElem?_eq_none h1] at hc; cases hc
    have := Lib.bytesWorld_cell w 5 ⟨l.toArray⟩ j (by rw [str_size]; exact hj)
    rw [this]
    have e : (⟨l.toArray⟩ : ByteArray).data.toList = l := rfl
    rw [e, List.getD_eq_getElem?_getD, hc]; rfl

theorem ret_b {a b : Bool} {P : Prop} (h : a = b) (hp : P) : Ending.returned (.bool a) = .returned (.bool b) ∧ P := ⟨by rw [h], hp⟩
theorem areD_empty (m : Nat) : TX.areD [] m = false := rfl
theorem areD_long {l : List UInt8} {m : Nat} (h : m < l.length) : TX.areD l m = false := by
  unfold TX.areD
  have : decide (l.length ≤ m) = false := by simp; omega
  rw [this]; simp
theorem areD_bad {l : List UInt8} {m j : Nat} {c : UInt8} (h : l[j]? = some c) (hc : TX.isD c = false) : TX.areD l m = false := by
  unfold TX.areD
  have : l.all TX.isD = false := by
    rw [List.all_eq_false]
    exact ⟨c, List.mem_of_getElem? h, by simp [hc]⟩
  rw [this]; simp
theorem areD_good {l : List UInt8} {m : Nat} (h0 : l ≠ []) (h1 : l.length ≤ m) (h : ∀ c ∈ l, TX.isD c = true) : TX.areD l m = true := by
  unfold TX.areD
  have e1 : l.isEmpty = false := by rw [List.isEmpty_eq_false_iff]; exact h0
  have e2 : l.all TX.isD = true := List.all_eq_true.2 h
  rw [e1, e2]; simp [h1]

theorem isD_yes {c : UInt8} (h : TX.isD c = true) : 48 ≤ c.toNat ∧ c.toNat ≤ 57 := of_decide_eq_true h
theorem isD_no {c : UInt8} (h : TX.isD c = false) : ¬ (48 ≤ c.toNat ∧ c.toNat ≤ 57) := of_decide_eq_false h
theorem take_more {l : List UInt8} {k : Nat} {c : UInt8} (h : l[k]? = some c) (hd : ∀ d ∈ l.take k, TX.isD d = true) (hc : TX.isD c = true) : ∀ d ∈ l.take (k + 1), TX.isD d = true := by
  intro d hm
  rw [List.take_add_one, h] at hm
  rcases List.mem_append.1 hm with h1 | h1
  · exact hd d h1
  · have : d = c := by simpa using h1
    rw [this]; exact hc
set_option maxHeartbeats 800000 in
theorem areDigits_any (l : List UInt8) (m : Nat) (hl : l.length ≤ maxLen) (hm : m = 9 ∨ m = 6) (w : World) :
    Calls Tryd.prog 59 #[.string ⟨l.toArray⟩, .int .i64 (m : Int)] w fun e w' => e = .returned (.bool (TX.areD l m)) ∧ Below w.heap.size w w' := by
  unfold maxLen at hl
  cases l with
  | nil =>
    go_enter Tryd.func59, Tryd.ntmps59
    go_wp2
    go_ret
    exact ret_b (areD_empty m).symm (Below.refl _ _)
  | cons c0 l0 =>
    obtain ⟨l, hL⟩ : ∃ l, l = c0 :: l0 := ⟨_, rfl⟩
    rw [← hL] at hl ⊢
    have hne : l.isEmpty = false := by rw [hL]; rfl
    have hne2 : ¬ l = [] := by rw [hL]; simp
    clear hL
    have hsz := str_size l
    by_cases hlen : l.length ≤ m
    · have hb : decide ((m : Int) < (l.length : Int)) = false := by simp; omega
      have hl9 : l.length ≤ 9 := by omega
      have HLN := Lib.hid hlen
      have HM := Lib.hid hm
      obtain ⟨mI, hmI⟩ : ∃ mI : Int, (m : Int) = mI := ⟨_, rfl⟩
      obtain ⟨L, hLI⟩ : ∃ L : Nat, l.length = L := ⟨_, rfl⟩
      rw [hmI] at hb ⊢
      rw [hLI] at hb hsz hl9
      obtain ⟨W, cap, hcv, hbw, hcell⟩ := bytes_of l w
      rw [hLI] at hcv
      have HB := Lib.hid hbw
      have HC := Lib.hid hcell
      have HL := Lib.hid hLI
      clear hbw hcell hl hlen hm hmI hLI
      go_enter Tryd.func59, Tryd.ntmps59
      go_wp2
      go_loop [18] (fun i => ∃ (k : Nat), k ≤ L ∧ i = .int .i64 (k : Int) ∧ Hid (∀ d ∈ l.take k, TX.isD d = true)) (fun i => L - (intOf i).toNat)
      case atStart => exact ⟨0, Nat.zero_le _, rfl, by show ∀ _, _; simp⟩
      case round =>
        obtain ⟨k, hk, rfl, HD⟩ := hrel
        by_cases hlt : k < L
        · obtain ⟨c, hc⟩ : ∃ c, l[k]? = some c := ⟨l[k]'(by have := HL.out; omega), List.getElem?_eq_getElem _⟩
          have hcl := HC.out k c hc
          have hub := c.toNat_lt
          have HCC := Lib.hid hc
          obtain ⟨z, hz⟩ : ∃ z : Int, (c.toNat : Int) = z := ⟨_, rfl⟩
          rw [hz] at hcl
          have hz0 : 0 ≤ z := by omega
          have hz1 : z < 256 := by omega
          clear hc
          cases hd : TX.isD c
          · have hno := isD_no hd
            have E := Lib.hid (areD_bad (m := m) HCC.out hd)
            have h3 : z < 48 ∨ (¬ z < 48 ∧ 57 < z) := by omega
            clear hd hno hz hub
            rcases h3 with h3 | ⟨h3, h4⟩
            all_goals
              go_wp2
              go_ret
              exact ret_b E.out.symm HB.out
          · obtain ⟨h1, h2⟩ := isD_yes hd
            have HD2 := Lib.hid (take_more HCC.out HD.out hd)
            have h3 : ¬ z < 48 := by omega
            have h4 : ¬ 57 < z := by omega
            clear hd h1 h2 hz hub
            go_wp2
            go_round
            case rel => exact ⟨k + 1, by omega, by go_num, HD2.out⟩
            case measure => simp [intOf]; omega
        · have E := Lib.hid (areD_good hne2 HLN.out (by
            have h1 := HD.out; have h2 := HL.out
            rw [List.take_of_length_le (by omega)] at h1
            exact h1))
          go_wp2
          go_ret
          exact ret_b E.out.symm HB.out
    · have hb : decide ((m : Int) < (l.length : Int)) = true := by simp; omega
      have E := Lib.hid (areD_long (l := l) (m := m) (by omega))
      go_enter Tryd.func59, Tryd.ntmps59
      go_wp2
      go_ret
      exact ret_b E.out.symm (Below.refl _ _)
end Go.Proofs.YtbinhlnekhglkaaDoor
