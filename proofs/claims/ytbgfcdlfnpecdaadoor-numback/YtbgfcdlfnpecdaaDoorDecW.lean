/- Walks of num.Parse, num.Digits, and of the document's own twins. -/
import Derived.Test.YtbgfcdlfnpecdaaDoorRows
import Derived.Test.YtbgfcdlfnpecdaaDoorDecMath
import Derived.Test.YtbgfcdlfnpecdaaDoorNumW
import Derived.Test.YtbgfcdlfnpecdaaDoorShelf
import Derived.WalkKit
import Derived.WalkSpells
import Derived.WalkLawsBesides
import Derived.Lib.Hide
import Derived.Lib.OthersKept
import Derived.Laws.RangeAny
namespace Go.Proofs.YtbgfcdlfnpecdaaDoor
open Go.RowKit

def noughtB (l : List UInt8) : Bool := decide (1 < l.length) && (l.head? == some 48)

theorem noughtB_long (s : ByteArray) (h : 1 < s.size) : noughtB s.data.toList = (s[0] == 48) := by
  have hl := Lib.size_eq s
  have hd : s.data.toList = s[0] :: s.data.toList.drop 1 := M.drop_at s 0 (by omega)
  unfold noughtB
  rw [hd]
  rw [hd] at hl
  simp at hl ⊢
  omega
theorem noughtB_short (s : ByteArray) (h : ¬ 1 < s.size) : noughtB s.data.toList = false := by
  have hl := Lib.size_eq s
  unfold noughtB
  simp
  omega
def digB (c : Nat) : Bool := decide (48 ≤ c ∧ c ≤ 57)
theorem ret_bool {a b : Bool} (h : a = b) : Ending.returned (.bool a) = .returned (.bool b) := by rw [h]
theorem byte_eq (c d : UInt8) : (((c.toNat : Int)) == (d.toNat : Int)) = (c == d) := by
  rw [Bool.eq_iff_iff]; simp [← UInt8.toNat_inj]; omega

set_option maxHeartbeats 400000 in
theorem nought_any (s : ByteArray) (w : World) (hs : s.size ≤ maxLen) :
    Calls Tryd.prog 23 #[.string s] w fun e w' => e = .returned (.bool (noughtB s.data.toList)) ∧ w = w' := by
  unfold maxLen at hs
  by_cases h1 : 1 < s.size
  · have E := Lib.hid (noughtB_long s h1)
    go_enter Tryd.func23, Tryd.ntmps23
    go_wp2
    go_ret
    refine ⟨ret_bool ?_, rfl⟩
    rw [E.out]
    exact byte_eq s[0] 48
  · have E := Lib.hid (noughtB_short s h1)
    go_enter Tryd.func23, Tryd.ntmps23
    go_wp2
    go_ret
    exact ⟨ret_bool E.out.symm, rfl⟩

set_option maxHeartbeats 400000 in
theorem digit_any (c : UInt8) (w : World) :
    Calls Tryd.prog 24 #[.int .u8 (c.toNat : Int)] w fun e w' => e = .returned (.bool (digB c.toNat)) ∧ w = w' := by
  have hc := c.toNat_lt
  go_enter Tryd.func24, Tryd.ntmps24
  go_wp2
  all_goals go_ret
  all_goals refine ⟨ret_bool ?_, rfl⟩
  all_goals (unfold digB; rw [Bool.eq_iff_iff]; simp; omega)

theorem ret_two {k : IntKind} {a b : Int} {x y : Bool} (h : a = b) (h2 : x = y) : Ending.returned (.tuple #[.int k a, .bool x]) = .returned (.tuple #[.int k b, .bool y]) := by rw [h, h2]
theorem pN_some {l : List UInt8} {m : Int} (h : M.parse l = some m) : M.pN l = m := by unfold M.pN; rw [h]; rfl
theorem pB_some {l : List UInt8} {m : Int} (h : M.parse l = some m) : M.pB l = true := by unfold M.pB; rw [h]; rfl
theorem pN_none {l : List UInt8} (h : M.parse l = none) : M.pN l = 0 := by unfold M.pN; rw [h]; rfl
theorem pB_none {l : List UInt8} (h : M.parse l = none) : M.pB l = false := by unfold M.pB; rw [h]; rfl
theorem empty_of (s : ByteArray) (h : s.size = 0) : s.data.toList = [] := by
  have := Lib.size_eq s
  apply List.eq_nil_of_length_eq_zero
  omega
theorem none_nought (s : ByteArray) (h : noughtB s.data.toList = true) : M.parse s.data.toList = none := by
  unfold noughtB at h
  simp at h
  exact M.parse_nought h.1 h.2
theorem go_of (s : ByteArray) (h0 : s.size ≠ 0) (h : noughtB s.data.toList = false) : M.parse s.data.toList = M.pgo 0 s.data.toList := by
  apply M.parse_go
  · intro e
    have := Lib.size_eq s
    rw [e] at this
    exact h0 this
  · unfold noughtB at h
    simp at h
    rintro ⟨h1, h2⟩
    exact h h1 h2

theorem none_end {l : List UInt8} {P : Prop} (h : M.parse l = none) (hp : P) : Ending.returned (.tuple #[.int .i64 0, .bool false]) = .returned (.tuple #[.int .i64 (M.pN l), .bool (M.pB l)]) ∧ P := ⟨ret_two (pN_none h).symm (pB_none h).symm, hp⟩
theorem iterPos_of' {w : World} {k : Nat} {s : ByteArray} {p : Nat} (h : w.heap[k]? = some (.stringIter s p)) : w.iterPos k = p := by simp [World.iterPos, h]

set_option maxHeartbeats 800000 in
theorem parse_any (s : ByteArray) (w : World) (hs : s.size ≤ maxLen) :
    Calls Tryd.prog 19 #[.string s] w fun e w' => e = .returned (.tuple #[.int .i64 (M.pN s.data.toList), .bool (M.pB s.data.toList)]) ∧ Below w.heap.size w w' := by
  have hs' := hs
  unfold maxLen at hs
  by_cases h0 : s.size = 0
  · have e := M.parse_empty
    rw [← empty_of s h0] at e
    have E := Lib.hid e
    clear e
    obtain rfl : s = ⟨#[]⟩ := by
      have := empty_of s h0
      rw [← Lib.mk_data s, this]
    clear h0 hs hs'
    go_enter Tryd.func19, Tryd.ntmps19
    go_wp2
    go_ret2
    exact ⟨ret_two (pN_none E.out).symm (pB_none E.out).symm, Below.refl _ _⟩
  · have hne : s.toList.isEmpty = false := by
      rw [Lib.toList_data]
      have := Lib.size_eq s
      rw [List.isEmpty_eq_false_iff]
      intro h
      rw [h] at this
      exact h0 this
    cases hn : noughtB s.data.toList
    · have E := Lib.hid (go_of s h0 hn)
      clear h0
      have HN := Lib.hid hn
      go_enter Tryd.func19, Tryd.ntmps19
      go_wp2_with (go_at_call 23; refine (nought_any _ _ hs').mono ?_; rintro e w' ⟨rfl, rfl⟩)
      go_loopw [4] (fun v wr => ∃ (pos : Nat) (n : Int), wr.heap[w.heap.size]? = some (.stringIter s pos) ∧ Below w.heap.size w wr ∧ v = .int .i64 n ∧ 0 ≤ n ∧ n ≤ 4611686018427387904 ∧ Hid (M.parse s.data.toList = M.pgo n (s.data.toList.drop pos))) (fun _ wr => s.size - wr.iterPos w.heap.size)
      case atStart => exact ⟨0, 0, World.iter_heap w s 0, (Below.refl _ _).alloc (Nat.le_refl _) _, rfl, by omega, by omega, E.out⟩
      case round =>
        obtain ⟨pos, n, hit, hbw, rfl, hn0, hn1, HS⟩ := hrel
        have hpos0 := Lib.hid (iterPos_of' hit)
        by_cases hp : pos < s.size
        · have hdr := Lib.hid (M.drop_at s pos hp)
          by_cases ha : s[pos].toNat < 128
          · have hnx : ∀ ty, (Instr.next (.pointer (some ⟨w.heap.size, 0, none⟩)) true ty).run Tryd.prog wr = _ := fun ty => Lib.run_next_ascii_at wr w.heap.size s pos ty hit hp ha
            have hit2 := Lib.iterAt_heap wr w.heap.size s pos (pos + 1) hit
            have hbw2 := Lib.below_iterAt hbw (k := w.heap.size) (Nat.le_refl _) s (pos + 1)
            obtain ⟨W1, hW1⟩ : ∃ W1, W1 = wr.iterAt w.heap.size s (pos + 1) := ⟨_, rfl⟩
            rw [← hW1] at hnx hit2 hbw2
            have hp2 := Lib.hid (iterPos_of' hit2)
            have hit2' := Lib.hid hit2
            obtain ⟨c, hc⟩ : ∃ c, c = s[pos] := ⟨_, rfl⟩
            rw [← hc] at hnx ha hdr
            clear hW1 hit hbw hit2 hc
            go_wp2
            · go_ret2
              exact none_end (HS.out.trans (by rw [hdr.out]; exact M.pgo_none_sign (by omega))) hbw2
            · go_ret2
              exact none_end (HS.out.trans (by rw [hdr.out]; exact M.pgo_none_big ‹_›)) hbw2
            · go_roundw
              case rel => exact ⟨pos + 1, _, hit2'.out, hbw2, rfl, by omega, by omega, HS.out.trans (by rw [hdr.out]; exact M.pgo_step (by omega) (by omega))⟩
              case measure => rw [hp2.out, hpos0.out]; omega
            · go_ret2
              exact none_end (HS.out.trans (by rw [hdr.out]; exact M.pgo_none_sign (by omega))) hbw2
          · have hnx : ∀ ty, (Instr.next (.pointer (some ⟨w.heap.size, 0, none⟩)) true ty).run Tryd.prog wr = _ := fun ty => Lib.run_next_any_at wr w.heap.size s pos ty hit hp
            have hr := (decode_high s pos hp (by omega)).1
            have hr2 := decode_le s pos
            have hbw2 := Lib.below_iterAt hbw (k := w.heap.size) (Nat.le_refl _) s (pos + (Utf8.decode s pos).2)
            obtain ⟨W1, hW1⟩ : ∃ W1, W1 = wr.iterAt w.heap.size s (pos + (Utf8.decode s pos).2) := ⟨_, rfl⟩
            rw [← hW1] at hnx hbw2
            obtain ⟨r, hrr⟩ : ∃ r, r = (Utf8.decode s pos).1 := ⟨_, rfl⟩
            rw [← hrr] at hnx hr hr2
            clear hW1 hit hbw hrr
            go_wp2
            all_goals first
              | omega
              | (go_ret2; exact none_end (HS.out.trans (by rw [hdr.out]; exact M.pgo_none_sign (by omega))) hbw2)
        · have hdr := Lib.hid (M.drop_end s pos hp)
          have hnx : ∀ ty, (Instr.next (.pointer (some ⟨w.heap.size, 0, none⟩)) true ty).run Tryd.prog wr = _ := fun ty => Lib.run_next_end_at wr w.heap.size s pos ty hit hp
          go_wp2
          go_ret2
          have e : M.parse s.data.toList = some n := by rw [HS.out, hdr.out]; rfl
          exact ⟨ret_two (pN_some e).symm (pB_some e).symm, hbw⟩
    · have E := Lib.hid (none_nought s hn)
      clear h0
      go_enter Tryd.func19, Tryd.ntmps19
      go_wp2_with (go_at_call 23; refine (nought_any _ _ hs').mono ?_; rintro e w' ⟨rfl, rfl⟩)
      go_ret2
      exact ⟨ret_two (pN_none E.out).symm (pB_none E.out).symm, Below.refl _ _⟩

theorem long_none {l : List UInt8} (h : 19 < l.length) : M.parse l = none := by
  cases e : M.parse l with
  | none => rfl
  | some m => have := M.parse_len e; omega

set_option maxHeartbeats 800000 in
theorem rparse_any (s : ByteArray) (w : World) (hs : s.size ≤ maxLen) :
    Calls Tryd.prog 20 #[.string s] w fun e w' => e = .returned (.tuple #[.int .i64 (M.pN s.data.toList), .bool (M.pB s.data.toList)]) ∧ w = w' := by
  unfold maxLen at hs
  by_cases h0 : s.size = 0
  · have e := M.parse_empty
    rw [← empty_of s h0] at e
    have E := Lib.hid e
    clear e
    obtain rfl : s = ⟨#[]⟩ := by
      have := empty_of s h0
      rw [← Lib.mk_data s, this]
    clear h0 hs
    go_enter Tryd.func20, Tryd.ntmps20
    go_wp2
    go_ret2
    exact none_end E.out rfl
  · by_cases h19 : 19 < s.size
    · have E := Lib.hid (long_none (l := s.data.toList) (by have := Lib.size_eq s; omega))
      go_enter Tryd.func20, Tryd.ntmps20
      go_wp2
      go_ret2
      exact none_end E.out rfl
    · cases hn : noughtB s.data.toList
      · have E := Lib.hid (go_of s h0 hn)
        have h1 : 1 < s.size → ((s[0].toNat : Int) == 48) = false := fun h => by
          have := noughtB_long s h
          rw [hn] at this
          exact (byte_eq s[0] 48).trans this.symm
        clear hn
        have b2 : decide ((s.size : Int) < 1) = false := by simp; omega
        have b3 : decide ((19 : Int) < (s.size : Int)) = false := by simp; omega
        by_cases hone : 1 < s.size
        · have h1' := h1 hone
          clear h1
          have b1 : decide ((1 : Int) < (s.size : Int)) = true := by simp; omega
          go_enter Tryd.func20, Tryd.ntmps20
          go_wp2
          go_loop [4, 5] (fun v i => ∃ (k : Nat) (n : Int), k ≤ s.size ∧ i = .int .i64 (k : Int) ∧ v = .int .i64 n ∧ 0 ≤ n ∧ n ≤ 4611686018427387904 ∧ Hid (M.parse s.data.toList = M.pgo n (s.data.toList.drop k))) (fun _ i => s.size - (intOf i).toNat)
          case atStart => exact ⟨0, 0, Nat.zero_le _, rfl, rfl, by omega, by omega, E.out⟩
          case round =>
            obtain ⟨k, n, hk, rfl, rfl, hn0, hn1, HS⟩ := hrel
            by_cases hlt : k < s.size
            · have hdr := Lib.hid (M.drop_at s k hlt)
              have hub := s[k].toNat_lt
              by_cases hd : 48 ≤ s[k].toNat ∧ s[k].toNat ≤ 57
              · have hdb : digB s[k].toNat = true := decide_eq_true hd
                obtain ⟨hd1, hd2⟩ := hd
                go_wp2_with (go_at_call 24; refine (digit_any _ _).mono ?_; rintro e w' ⟨rfl, rfl⟩)
                · go_ret2
                  exact none_end (HS.out.trans (by rw [hdr.out]; exact M.pgo_none_big ‹_›)) rfl
                · go_round
                  case rel => exact ⟨k + 1, _, by omega, by go_num, rfl, by omega, by omega, HS.out.trans (by rw [hdr.out]; exact M.pgo_step ⟨hd1, hd2⟩ (by omega))⟩
                  case measure => simp [intOf]; omega
              · have hdb : digB s[k].toNat = false := decide_eq_false hd
                go_wp2_with (go_at_call 24; refine (digit_any _ _).mono ?_; rintro e w' ⟨rfl, rfl⟩)
                go_ret2
                exact none_end (HS.out.trans (by rw [hdr.out]; exact M.pgo_none_sign hd)) rfl
            · have hdr := Lib.hid (M.drop_end s k hlt)
              go_wp2
              go_ret2
              have e : M.parse s.data.toList = some n := by rw [HS.out, hdr.out]; rfl
              exact ⟨ret_two (pN_some e).symm (pB_some e).symm, rfl⟩
        · clear h1
          have b1 : decide ((1 : Int) < (s.size : Int)) = false := by simp; omega
          go_enter Tryd.func20, Tryd.ntmps20
          go_wp2
          go_loop [4, 5] (fun v i => ∃ (k : Nat) (n : Int), k ≤ s.size ∧ i = .int .i64 (k : Int) ∧ v = .int .i64 n ∧ 0 ≤ n ∧ n ≤ 4611686018427387904 ∧ Hid (M.parse s.data.toList = M.pgo n (s.data.toList.drop k))) (fun _ i => s.size - (intOf i).toNat)
          case atStart => exact ⟨0, 0, Nat.zero_le _, rfl, rfl, by omega, by omega, E.out⟩
          case round =>
            obtain ⟨k, n, hk, rfl, rfl, hn0, hn1, HS⟩ := hrel
            by_cases hlt : k < s.size
            · have hdr := Lib.hid (M.drop_at s k hlt)
              have hub := s[k].toNat_lt
              by_cases hd : 48 ≤ s[k].toNat ∧ s[k].toNat ≤ 57
              · have hdb : digB s[k].toNat = true := decide_eq_true hd
                obtain ⟨hd1, hd2⟩ := hd
                go_wp2_with (go_at_call 24; refine (digit_any _ _).mono ?_; rintro e w' ⟨rfl, rfl⟩)
                · go_ret2
                  exact none_end (HS.out.trans (by rw [hdr.out]; exact M.pgo_none_big ‹_›)) rfl
                · go_round
                  case rel => exact ⟨k + 1, _, by omega, by go_num, rfl, by omega, by omega, HS.out.trans (by rw [hdr.out]; exact M.pgo_step ⟨hd1, hd2⟩ (by omega))⟩
                  case measure => simp [intOf]; omega
              · have hdb : digB s[k].toNat = false := decide_eq_false hd
                go_wp2_with (go_at_call 24; refine (digit_any _ _).mono ?_; rintro e w' ⟨rfl, rfl⟩)
                go_ret2
                exact none_end (HS.out.trans (by rw [hdr.out]; exact M.pgo_none_sign hd)) rfl
            · have hdr := Lib.hid (M.drop_end s k hlt)
              go_wp2
              go_ret2
              have e : M.parse s.data.toList = some n := by rw [HS.out, hdr.out]; rfl
              exact ⟨ret_two (pN_some e).symm (pB_some e).symm, rfl⟩
      · by_cases hone : 1 < s.size
        · have h1 : ((s[0].toNat : Int) == 48) = true := by
            have := noughtB_long s hone
            rw [hn] at this
            exact (byte_eq s[0] 48).trans this.symm
          have E := Lib.hid (none_nought s hn)
          clear hn
          go_enter Tryd.func20, Tryd.ntmps20
          go_wp2
          go_ret2
          exact none_end E.out rfl
        · rw [noughtB_short s hone] at hn; cases hn
end Go.Proofs.YtbgfcdlfnpecdaaDoor
