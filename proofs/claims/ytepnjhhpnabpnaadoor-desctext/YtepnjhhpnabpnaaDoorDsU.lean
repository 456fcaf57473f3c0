/- Walks of the document's own hex and cut; strings.Cut at one byte; and how a text is unescaped, step by step. -/
import Derived.Test.YtepnjhhpnabpnaaDoorDsTR
namespace Go.Proofs.YtepnjhhpnabpnaaDoor
open Go.RowKit

set_option maxHeartbeats 800000 in
theorem hex_any (c : UInt8) (w : World) :
    Calls Tryd.prog 36 #[.int .u8 (c.toNat : Int)] w fun e w' => e = .returned (.int .i64 (D.hexv c)) ∧ w' = w := by
  have hub := c.toNat_lt
  have HD := Lib.hid (fun w => digit_any c w)
  have hcase : (digB c = true ∧ 48 ≤ c.toNat ∧ c.toNat ≤ 57 ∧ D.hexv c = (c.toNat : Int) - 48) ∨ (digB c = false ∧ (65 ≤ c.toNat ∧ c.toNat ≤ 70) ∧ D.hexv c = (c.toNat : Int) - 55) ∨ (digB c = false ∧ (c.toNat < 65 ∨ 65 ≤ c.toNat ∧ 70 < c.toNat) ∧ D.hexv c = -1) := by
    unfold digB D.hexv
    by_cases h1 : 48 ≤ c.toNat ∧ c.toNat ≤ 57
    · left; simp [h1]
    · right
      by_cases h2 : 65 ≤ c.toNat ∧ c.toNat ≤ 70
      · left; simp [h1, h2]
      · right
        refine ⟨by simp; omega, by omega, ?_⟩
        rw [if_neg h1, if_neg h2]
  obtain ⟨z, hz⟩ : ∃ z : Int, (c.toNat : Int) = z := ⟨_, rfl⟩
  rw [hz] at HD hcase ⊢
  have hz0 : 0 ≤ z := by omega
  have hz1 : z < 256 := by omega
  rcases hcase with ⟨hb, h1, h2, he⟩ | ⟨hb, ⟨h1, h2⟩, he⟩ | ⟨hb, h1, he⟩
  · have g1 : 48 ≤ z := by omega
    have g2 : z ≤ 57 := by omega
    rw [hb] at HD
    have E := Lib.hid he
    clear hb he h1 h2 hz hub
    go_enter Tryd.func36, Tryd.ntmps36
    go_wp2_with (go_at_call 30; refine (HD.out _).mono ?_; rintro e w1 ⟨rfl, rfl⟩)
    go_ret
    exact ret_i (E.out.symm) rfl
  · have g1 : 65 ≤ z := by omega
    have g2 : z ≤ 70 := by omega
    rw [hb] at HD
    have E := Lib.hid he
    clear hb he h1 h2 hz hub
    go_enter Tryd.func36, Tryd.ntmps36
    go_wp2_with (go_at_call 30; refine (HD.out _).mono ?_; rintro e w1 ⟨rfl, rfl⟩)
    go_ret
    exact ret_i (by rw [E.out]; omega) rfl
  · rw [hb] at HD
    have E := Lib.hid he
    have g : (¬ 65 ≤ z) ∨ (65 ≤ z ∧ ¬ z ≤ 70) := by omega
    clear hb he h1 hz hub
    rcases g with g1 | ⟨g1, g2⟩
    all_goals
      go_enter Tryd.func36, Tryd.ntmps36
      go_wp2_with (go_at_call 30; refine (HD.out _).mono ?_; rintro e w1 ⟨rfl, rfl⟩)
      go_ret
      exact ret_i (E.out.symm) rfl

set_option maxHeartbeats 800000 in
theorem rcut_none (l : List UInt8) (c : UInt8) (cz : Int) (hcz : (c.toNat : Int) = cz) (h : c ∉ l) (hl : l.length ≤ 9223372036854775807) (w : World) :
    Calls Tryd.prog 25 #[.string ⟨l.toArray⟩, .int .u8 cz] w fun e w' => e = .returned (.tuple #[.string ⟨l.toArray⟩, .string ⟨([] : List UInt8).toArray⟩, .bool false]) ∧ Below w.heap.size w w' := by
  have hsz := str_size l
  obtain ⟨L, hL⟩ : ∃ L, l.length = L := ⟨_, rfl⟩
  rw [hL] at hsz hl
  have HL := Lib.hid hL
  have HN := Lib.hid h
  have HC := Lib.hid hcz
  clear hL h hcz
  go_enter Tryd.func25, Tryd.ntmps25
  go_wp2
  go_loop [7] (fun i => ∃ (k : Nat), i = .int .i64 (k : Int) ∧ k ≤ L) (fun i => L - (intOf i).toNat)
  case atStart => exact ⟨0, rfl, Nat.zero_le _⟩
  case round =>
    obtain ⟨k, rfl, hk⟩ := hrel
    by_cases hlt : k < L
    · obtain ⟨d, hd⟩ : ∃ d, l[k]? = some d := ⟨l[k]'(by have := HL.out; omega), List.getElem?_eq_getElem _⟩
      have hkL : k < (⟨l.toArray⟩ : ByteArray).size := by omega
      obtain ⟨z, hz⟩ : ∃ z : Int, (d.toNat : Int) = z := ⟨_, rfl⟩
      have hi := at_z hd hz hkL
      have hne : (z == cz) = false := by
        have hdc : d ≠ c := fun e => HN.out (e ▸ List.mem_of_getElem? hd)
        have hcc := HC.out
        have : d.toNat ≠ c.toNat := fun e => hdc (UInt8.toNat_inj.1 e)
        simp; omega
      clear hd hz
      go_wp2
      go_round
      case rel => exact ⟨k + 1, by go_num, by omega⟩
      case measure => simp [intOf]; omega
    · go_wp2
      go_ret3
      exact ⟨rfl, Below.refl _ _⟩

theorem cut_to (a b : List UInt8) (c : UInt8) : (⟨(a ++ c :: b).toArray⟩ : ByteArray).extract 0 a.length = ⟨a.toArray⟩ := by rw [ByteArray.extract_mk]; simp
theorem cut_from (a b : List UInt8) (c : UInt8) : (⟨(a ++ c :: b).toArray⟩ : ByteArray).extract (a.length + 1) (a.length + 1 + b.length) = ⟨b.toArray⟩ := by
  rw [ByteArray.extract_mk]
  have : a ++ c :: b = (a ++ [c]) ++ b := by simp
  rw [this, List.drop_left' (by simp)]
  congr 2
  apply List.take_of_length_le
  omega

set_option maxHeartbeats 800000 in
theorem rcut_some (a b : List UInt8) (c : UInt8) (cz : Int) (hcz : (c.toNat : Int) = cz) (h : c ∉ a) (hl : (a ++ c :: b).length ≤ 9223372036854775807) (w : World) :
    Calls Tryd.prog 25 #[.string ⟨(a ++ c :: b).toArray⟩, .int .u8 cz] w fun e w' => e = .returned (.tuple #[.string ⟨a.toArray⟩, .string ⟨b.toArray⟩, .bool true]) ∧ Below w.heap.size w w' := by
  have hsz := str_size (a ++ c :: b)
  have x1 := cut_to a b c
  have x2 := cut_from a b c
  have hL : (a ++ c :: b).length = a.length + 1 + b.length := by simp; omega
  rw [hL] at hsz hl
  have HN := Lib.hid h
  have HC := Lib.hid hcz
  have HAT := Lib.hid (fun k (hk : k < a.length) => show (a ++ c :: b)[k]? = some a[k] by rw [List.getElem?_append_left hk]; simp)
  have HAE := Lib.hid (show (a ++ c :: b)[a.length]? = some c by rw [List.getElem?_append_right (Nat.le_refl _)]; simp)
  obtain ⟨l, hll⟩ : ∃ l, a ++ c :: b = l := ⟨_, rfl⟩
  rw [hll] at hsz x1 x2 HAT HAE ⊢
  clear hL h hcz hll
  go_enter Tryd.func25, Tryd.ntmps25
  go_wp2
  go_loop [7] (fun i => ∃ (k : Nat), i = .int .i64 (k : Int) ∧ k ≤ a.length) (fun i => a.length - (intOf i).toNat)
  case atStart => exact ⟨0, rfl, Nat.zero_le _⟩
  case round =>
    obtain ⟨k, rfl, hk⟩ := hrel
    have hkL : k < (⟨l.toArray⟩ : ByteArray).size := by omega
    by_cases hlt : k < a.length
    · have hd := HAT.out k hlt
      obtain ⟨d, hdd⟩ : ∃ d, d = a[k] := ⟨_, rfl⟩
      rw [← hdd] at hd
      obtain ⟨z, hz⟩ : ∃ z : Int, (d.toNat : Int) = z := ⟨_, rfl⟩
      have hi := at_z hd hz hkL
      have hne : (z == cz) = false := by
        have hdc : d ≠ c := fun e => HN.out (by rw [← e, hdd]; exact List.getElem_mem ..)
        have hcc := HC.out
        have : d.toNat ≠ c.toNat := fun e => hdc (UInt8.toNat_inj.1 e)
        simp; omega
      have g0 : (k : Int) < (a.length : Int) + 1 + (b.length : Int) := by omega
      clear hd hz hdd
      go_wp2
      go_round
      case rel => exact ⟨k + 1, by go_num, by omega⟩
      case measure => simp [intOf]; omega
    · obtain rfl : k = a.length := by omega
      have hi := at_z HAE.out HC.out hkL
      have hne : (cz == cz) = true := by simp
      have g0 : (a.length : Int) < (a.length : Int) + 1 + (b.length : Int) := by omega
      have c1 : (0 : Int) ≤ (a.length : Int) := by omega
      have c2 : (a.length : Int) ≤ ((⟨l.toArray⟩ : ByteArray).size : Int) := by omega
      have c4 : (a.length : Int) + 1 ≤ ((⟨l.toArray⟩ : ByteArray).size : Int) := by omega
      go_wp2
      go_region
      all_goals
        go_wp2
        go_ret3
        exact ⟨rfl, below_drew _⟩

/-- Where unescaping stands: k bytes are read, these have been told. -/
def U (l : List UInt8) (k : Nat) (done : List UInt8) : Prop := D.une l = (D.une (l.drop k)).map (done ++ ·)
theorem drop_at {l : List UInt8} {k : Nat} {c : UInt8} (h : l[k]? = some c) : l.drop k = c :: l.drop (k + 1) := by
  have hk : k < l.length := (List.getElem?_eq_some_iff.1 h).1
  rw [List.drop_eq_getElem_cons hk]
  rw [List.getElem?_eq_getElem hk] at h
  rw [Option.some.inj h]
theorem map_map (o : Option (List UInt8)) (done : List UInt8) (c : UInt8) : (o.map (c :: ·)).map (done ++ ·) = o.map ((done ++ [c]) ++ ·) := by
  cases o <;> simp
theorem U.start (l : List UInt8) : U l 0 [] := by unfold U; simp
theorem U.other {l : List UInt8} {k : Nat} {done : List UInt8} {c : UInt8} (h : U l k done) (hc : l[k]? = some c) (hne : c ≠ 37) : U l (k + 1) (done ++ [c]) := by
  unfold U at h ⊢
  rw [h, drop_at hc, D.une_other hne, map_map]
theorem U.short {l : List UInt8} {k : Nat} {done : List UInt8} (h : U l k done) (hc : l[k]? = some 37) (hl : l.length < k + 3) : D.une l = none := by
  unfold U at h
  rw [h, drop_at hc, D.une_short _ (by rw [List.length_drop]; omega)]; rfl
theorem U.esc {l : List UInt8} {k : Nat} {done : List UInt8} {x y : UInt8} (h : U l k done) (hc : l[k]? = some 37) (hx : l[k + 1]? = some x) (hy : l[k + 2]? = some y) (h1 : 0 ≤ D.hexv x) (h2 : 0 ≤ D.hexv y) :
    U l (k + 3) (done ++ [UInt8.ofNat (16 * D.hexv x + D.hexv y).toNat]) := by
  unfold U at h ⊢
  rw [h, drop_at hc, drop_at hx, drop_at hy, D.une_esc, if_pos ⟨h1, h2⟩, map_map]
theorem U.bad {l : List UInt8} {k : Nat} {done : List UInt8} {x y : UInt8} (h : U l k done) (hc : l[k]? = some 37) (hx : l[k + 1]? = some x) (hy : l[k + 2]? = some y) (hn : ¬ (0 ≤ D.hexv x ∧ 0 ≤ D.hexv y)) : D.une l = none := by
  unfold U at h
  rw [h, drop_at hc, drop_at hx, drop_at hy, D.une_esc, if_neg hn]; rfl
theorem U.stop {l : List UInt8} {k : Nat} {done : List UInt8} (h : U l k done) (hl : l.length ≤ k) : D.une l = some done := by
  unfold U at h
  rw [h, List.drop_eq_nil_of_le hl, D.une_nil]; simp
def uneS (l : List UInt8) : List UInt8 := (D.une l).getD []
def uneB (l : List UInt8) : Bool := (D.une l).isSome

/-- strings.Cut at one byte. -/
theorem scut_any (l : List UInt8) (c : UInt8) (hl : l.length < 4294967281) (w : World) (hm : MaxIs w) :
    Calls Tryd.prog 40 #[.string ⟨l.toArray⟩, .string ⟨#[c]⟩] w fun e w' => e = .returned (.tuple #[.string ⟨(Lib.cut l [c]).1.toArray⟩, .string ⟨(Lib.cut l [c]).2.1.toArray⟩, .bool (Lib.cut l [c]).2.2]) ∧ Below w.heap.size w w' := by
  obtain ⟨m, hm⟩ := hm
  refine (Tryd.strings_Cut ⟨l.toArray⟩ ⟨#[c]⟩ m w (by rw [str_size]; exact hl) hm).mono ?_
  rintro e w' ⟨rfl, n, rfl⟩
  exact ⟨rfl, below_drewN _ _⟩
end Go.Proofs.YtepnjhhpnabpnaaDoor
