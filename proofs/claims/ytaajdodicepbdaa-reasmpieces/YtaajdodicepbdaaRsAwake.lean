/- What the document fixes of frames out of pieces: the walk of awake; the weighing. -/
import Derived.Test.YtaajdodicepbdaaRsF
import Derived.Lib.SlBytesConst
namespace Go.Proofs.Ytaajdodicepbdaa
open Go.RowKit

theorem Rows.below {w w' : World} {base : Nat} {r e : TypeId} {vl v : Value} {L : List (List UInt8)} (h : Rows w base r e vl L v) (hb : Below w.heap.size w w') : Rows w' base r e vl L v := by
  obtain ⟨vs, h1, h2, h3⟩ := h
  exact ⟨vs, h1.below hb, h2.below hb, h3⟩
theorem Rows.base {w : World} {base base' : Nat} {r e : TypeId} {vl v : Value} {L : List (List UInt8)} (h : Rows w base r e vl L v) (hb : base' ≤ base) : Rows w base' r e vl L v := by
  obtain ⟨vs, h1, h2, h3⟩ := h
  exact ⟨vs, h1.base hb, ⟨h2.1, fun j u bs h4 h5 => (h2.2 j u bs h4 h5).base hb⟩, h3⟩
/-- Rows that were handed over stand behind a Feed. -/
theorem feed_keeps {w w' : World} {B p base : Nat} {m : Int} {v v' vl : Value} {ws : List UInt8} {off : Bool} {L : List (List UInt8)} (hR : Rows w base 28 5 vl L v) (h : Rd w B p m v ws off) (hk : Kb w w' (some p) v.ownBlock) (hn : Near w v v') :
    Rows w' base 28 5 vl L v' := by
  obtain ⟨vs, h1, h2, h3⟩ := hR
  refine ⟨vs, h1.kb hk (.inr (h.2.1.apart h1 (by decide))) (h1.apart h.2.2 (by decide)), h2.kb hk (fun u hu => .inr (h.2.1.apart (h2.mem hu).choose_spec (by decide))) h3, fun u hu => ?_⟩
  exact hn.apart (h2.mem hu).choose_spec (h3 u hu)
theorem kb_below {w w' : World} {B p : Nat} {m : Int} {v : Value} {ws : List UInt8} {off : Bool} (h : Rd w B p m v ws off) (hB : B ≤ w.heap.size) (hk : Kb w w' (some p) v.ownBlock) : Below B w w' :=
  hk.below hB (fun g hg => by obtain rfl := Option.some.inj hg; exact h.1) (fun g hg => (h.2.2.lt hg).1)

theorem q_most9 : F.most 9 = 9 := by decide
theorem q_feed1 : F.feed (F.most 9) [] false [2] = ([], 0, [2], false) := by
  have n1 : F.next [2] 9 = ([], 0, 3) := by decide
  have a1 : F.all ([] ++ [2]) 9 = ([], 0, 3) := by rw [List.nil_append, F.all_wrong (by simp) (by rw [n1]; decide), n1]
  rw [q_most9, F.feed_go (by rw [a1]; simp), a1]; rfl
theorem q_feed2 : F.feed (F.most 9) [2] false [97] = ([], 0, [2, 97], false) := by
  have n1 : F.next [2, 97] 9 = ([], 0, 3) := by decide
  have a1 : F.all ([2] ++ [97]) 9 = ([], 0, 3) := by
    show F.all [2, 97] 9 = _
    rw [F.all_wrong (by simp) (by rw [n1]; decide), n1]
  rw [q_most9, F.feed_go (by rw [a1]; simp), a1]; rfl
theorem q_feed3 : F.feed (F.most 9) [2, 97] false [98, 1] = ([[97, 98]], 0, [1], false) := by
  have n1 : F.next [2, 97, 98, 1] 9 = ([97, 98], 3, 0) := by decide
  have n2 : F.next [1] 9 = ([], 0, 3) := by decide
  have a2 : F.all [1] 9 = ([], 0, 3) := by rw [F.all_wrong (by simp) (by rw [n2]; decide), n2]
  have a1 : F.all ([2, 97] ++ [98, 1]) 9 = ([[97, 98]], 3, 3) := by
    show F.all [2, 97, 98, 1] 9 = _
    rw [F.all_step (by simp) (by rw [n1]), n1]
    show ([97, 98] :: (F.all [1] 9).1, 3 + (F.all [1] 9).2.1, (F.all [1] 9).2.2) = _
    rw [a2]
    rfl
  rw [q_most9, F.feed_go (by rw [a1]; simp), a1]; rfl
theorem q_feed4 : F.feed (F.most 9) [1] false [120, 99] = ([[120]], 4, [], true) := by
  have n1 : F.next [1, 120, 99] 9 = ([120], 2, 0) := by decide
  have n2 : F.next [99] 9 = ([], 0, 4) := by decide
  have a2 : F.all [99] 9 = ([], 0, 4) := by rw [F.all_wrong (by simp) (by rw [n2]; decide), n2]
  have a1 : F.all ([1] ++ [120, 99]) 9 = ([[120]], 2, 4) := by
    show F.all [1, 120, 99] 9 = _
    rw [F.all_step (by simp) (by rw [n1]), n1]
    show ([120] :: (F.all [99] 9).1, 2 + (F.all [99] 9).2.1, (F.all [99] 9).2.2) = _
    rw [a2]
    rfl
  rw [q_most9, F.feed_bad (by rw [a1]; simp), a1]

theorem rows_nil {w : World} {base : Nat} {r e : TypeId} {vl v : Value} (h : Rows w base r e vl [] v) : ∃ ao cap, vl = .slice ao 0 cap := by
  obtain ⟨ao, cap, h1, _⟩ := h.own.rd.slice
  exact ⟨ao, cap, h1⟩

/-- What a Feed of known bytes comes to, where the reader is all that there is. -/
def Step (w : World) (p : Nat) (m : Int) (v : Value) (L : List (List UInt8)) (E : Nat) (ws' : List UInt8) (off' : Bool) (e : Ending) (w' : World) : Prop :=
  ∃ vl v', e = .returned (.tuple #[vl, .int .i64 (E : Int)]) ∧ Rd w' p p m v' ws' off' ∧ Rows w' p 28 5 vl L v' ∧ Below p w w' ∧ ∀ vl0 L0, Rows w p 28 5 vl0 L0 v → Rows w' p 28 5 vl0 L0 v'
theorem feed_step {w w0 : World} {p : Nat} {m : Int} {v vb : Value} {ws : List UInt8} {off : Bool} (h : Rd w p p m v ws off) (hb0 : Below w.heap.size w w0) (bs : List UInt8) {L : List (List UInt8)} {E : Nat} {ws' : List UInt8} {off' : Bool} (hq : F.feed (F.most m) ws off bs = (L, E, ws', off')) (hlen : ws.length + bs.length < 1099511627776) (hr : Rdv w0 vb (bv bs)) :
    Calls Try.prog 9 #[.pointer (some ⟨p, 0, none⟩), vb] w0 (Step w p m v L E ws' off') := by
  have hp : p ≤ w0.heap.size := Nat.le_trans (Nat.le_of_lt h.2.1.lt) hb0.size
  refine (feed_any (h.below hb0) hr hlen hp).mono ?_
  unfold Fed Step
  rw [hq]
  rintro e w2 ⟨vl, v2, rfl, rd2, rows2, kb2, near2⟩
  exact ⟨vl, v2, rfl, rd2, rows2.base hp, (hb0.mono (Nat.le_of_lt h.2.1.lt)).trans (kb_below (h.below hb0) hp kb2), fun vl0 L0 hR => feed_keeps (hR.below hb0) (h.below hb0) kb2 near2⟩

set_option maxRecDepth 100000 in
set_option maxHeartbeats 2000000 in
theorem awake4_any (w : World) :
    Calls Try.prog 7 #[] w fun e w' => e = .returned (.bool true) ∧ Below w.heap.size w w' := by
  go_enter Try.func7, Try.ntmps7
  go_wp2_with fail
  refine (new_any 9 w).mono ?_
  rintro e w1 ⟨rfl, hw⟩
  have R1 : Hid (Rd w1 w.heap.size w.heap.size 9 (.slice none 0 0) [] false) := by rw [hw]; exact Rd.new w 9 (Nat.le_refl _)
  have B1 : Hid (Below w.heap.size w w1) := by rw [hw]; exact below_alloc _ _
  clear hw
  obtain ⟨p, hp⟩ : ∃ p, Hid (p = w.heap.size) := ⟨_, rfl⟩
  rw [← hp.out] at R1 B1 ⊢
  go_wp2_with fail
  refine (feed_step R1.out (below_alloc w1 _) [2] q_feed1 (by simp) (lit_rd [2] (by simp [maxLen]))).mono ?_
  rintro e w2 ⟨va, v2, rfl, rd2, rows2, b2, -⟩
  obtain ⟨aa, ca, rfl⟩ := rows_nil rows2
  have R2 := Lib.hid rd2
  have B2 := Lib.hid (B1.out.trans b2)
  clear rd2 rows2 b2 B1 R1
  go_wp2_with fail
  refine (feed_step R2.out (below_alloc w2 _) [97] q_feed2 (by simp) (lit_rd [97] (by simp [maxLen]))).mono ?_
  rintro e w3 ⟨vb, v3, rfl, rd3, rows3, b3, -⟩
  obtain ⟨ab, cb, rfl⟩ := rows_nil rows3
  have R3 := Lib.hid rd3
  have B3 := Lib.hid (B2.out.trans b3)
  clear rd3 rows3 b3 B2 R2
  go_wp2_with fail
  refine (feed_step R3.out (below_alloc w3 _) [98, 1] q_feed3 (by simp) (lit_rd [98, 1] (by simp [maxLen]))).mono ?_
  rintro e w4 ⟨vc, v4, rfl, rd4, rows4, b4, -⟩
  obtain ⟨ac, cc, hvc, -⟩ := rows4.own.rd.slice
  subst hvc
  have C4 := Lib.hid rows4
  have R4 := Lib.hid rd4
  have B4 := Lib.hid (B3.out.trans b4)
  clear rd4 rows4 b4 B3 R3
  go_wp2_with fail
  refine (wait_any R4.out).mono ?_
  rintro e w4' ⟨rfl, rfl⟩
  go_wp2_with fail
  refine (feed_step R4.out (below_alloc w4 _) [120, 99] q_feed4 (by simp) (lit_rd [120, 99] (by simp [maxLen]))).mono ?_
  rintro e w5 ⟨vd, v5, rfl, rd5, rows5, b5, keep5⟩
  have C5 := Lib.hid (keep5 _ _ C4.out)
  have R5 := Lib.hid rd5
  have B5 := Lib.hid (B4.out.trans b5)
  clear rd5 rows5 b5 B4 R4 keep5 C4
  go_wp2_with fail
  refine (feed_step R5.out (Below.refl _ _) [] (F.feed_off _ _ _) (by simp) (Rdv.nil _)).mono ?_
  rintro e w6 ⟨ve, v6, rfl, rd6, rows6, b6, keep6⟩
  have C6 := Lib.hid (keep6 _ _ C5.out)
  have R6 := Lib.hid rd6
  have B6 := Lib.hid (B5.out.trans b6)
  clear rd6 rows6 b6 B5 R5 keep6 C5
  go_wp2_with fail
  refine (feed_nil _ _).mono ?_
  rintro e w6' ⟨rfl, rfl⟩
  obtain ⟨b, off, cap, ao, c, hv4, hbl, hcell, hrd⟩ := C6.out.own.rd.at (j := 0) (by simp)
  have hrd' : Rdv w6 (.slice ao 2 c) (bv [97, 98]) := hrd
  have hc1 : w6.cell? ⟨b, off + 0, none⟩ = some (.slice ao 2 c) := hcell
  have cs := run_string_rd (P := Try.prog) 28 5 9 Try.underlying28 Try.underlying5 Try.underlying9 hrd'
  obtain ⟨rfl, rfl⟩ : ac = some ⟨b, off, none⟩ ∧ cc = cap := by simpa using hv4
  clear hv4 hcell hrd hrd' C6
  rw [Nat.add_zero] at hc1
  go_wp2_with fail
  refine (off_any R6.out).mono ?_
  rintro e w' ⟨rfl, rfl⟩
  go_wp2_with fail
  refine (wait_any R6.out).mono ?_
  rintro e w' ⟨rfl, rfl⟩
  go_wp2_with fail
  refine (off_nil _).mono ?_
  rintro e w' ⟨rfl, rfl⟩
  go_wp2_with fail
  refine (wait_nil _).mono ?_
  rintro e w' ⟨rfl, rfl⟩
  go_wp2
  go_ret
  exact ⟨rfl, by rw [← hp.out]; exact B6.out⟩

/-- The weighing: where it says no more than 5000, the rows are few and short. -/
theorem weight4_go {l : List (List UInt8)} {X n x : Nat} (hlt : n < l.length) (hx : x = l[n].length) (HX : l.length ≤ X ∧ (X ≤ 5000 → ∀ y ∈ l.take n, y.length ≤ 5000)) : l.length ≤ X + min x 5001 ∧ (X + min x 5001 ≤ 5000 → ∀ y ∈ l.take (n + 1), y.length ≤ 5000) := by
  refine ⟨by omega, fun h y hy => ?_⟩
  rw [List.take_succ_eq_append_getElem hlt] at hy
  rcases List.mem_append.1 hy with hy | hy
  · exact HX.2 (by omega) y hy
  · obtain rfl : y = l[n] := by simpa using hy
    omega
set_option maxHeartbeats 800000 in
theorem weight4_any (v : Value) (l : List (List UInt8)) (w : World) (hr : Rdl w v l) :
    Calls Try.prog 6 #[v] w fun e w' => (∃ n : Int, e = .returned (.int .i64 n) ∧ (n ≤ 5000 → l.length ≤ 5000 ∧ ∀ y ∈ l, y.length ≤ 5000)) ∧ w = w' := by
  have HR := Lib.hid hr
  obtain ⟨ao, cap, rfl, g1, g2⟩ := hr.slice
  unfold maxLen at g2
  clear hr
  go_enter Try.func6, Try.ntmps6
  go_wp2_with fail
  go_loop [3, 4] (fun x i => ∃ (X n : Nat), x = .int .i64 (X : Int) ∧ i = .int .i64 (n : Int) ∧ X < 9223372036854775808 ∧ n ≤ l.length ∧ Hid (l.length ≤ X ∧ (X ≤ 5000 → ∀ y ∈ l.take n, y.length ≤ 5000))) (fun _ i => l.length - (intOf i).toNat)
  case atStart => exact ⟨l.length, 0, rfl, rfl, by omega, by omega, by omega, by simp⟩
  case round =>
    obtain ⟨X, n, rfl, rfl, hX, hn, HX⟩ := hrel
    by_cases hlt : n < l.length
    · obtain ⟨b1, o1, c1, a1, d1, e1, l1, cell1, r1⟩ := HR.out.at hlt
      obtain ⟨rfl, rfl⟩ : ao = some ⟨b1, o1, none⟩ ∧ cap = c1 := by simpa using e1
      have HS := Lib.hid (fun x hx => weight4_go (x := x) hlt hx HX.out)
      have hm := r1.len_le
      rw [bv_len] at hm
      unfold maxLen at hm
      clear e1 r1
      obtain ⟨x, hx⟩ : ∃ x, x = l[n].length := ⟨_, rfl⟩
      have HS2 := Lib.hid (HS.out x hx)
      rw [← hx] at cell1 hm
      clear hx HS
      by_cases hX2 : X ≤ 5000
      · have hX3 : (X : Int) ≤ 5000 := by omega
        by_cases hx2 : x ≤ 5001
        · have hx3 : (x : Int) ≤ 5001 := by omega
          go_wp2
          go_round
          case rel => exact ⟨X + min x 5001, n + 1, by rw [Nat.min_eq_left hx2]; go_num, by go_num, by omega, by omega, HS2.out⟩
          case measure => simp [intOf]; omega
        · have hx3 : (5001 : Int) < (x : Int) := by omega
          go_wp2
          go_round
          case rel => exact ⟨X + min x 5001, n + 1, by rw [Nat.min_eq_right (by omega)]; go_num, by go_num, by omega, by omega, HS2.out⟩
          case measure => simp [intOf]; omega
      · have hX3 : (5000 : Int) < (X : Int) := by omega
        go_wp2
        go_ret
        exact ⟨⟨_, rfl, fun h => absurd h (by omega)⟩, rfl⟩
    · obtain rfl : n = l.length := by omega
      have HX2 := Lib.hid (fun (h : (X : Int) ≤ 5000) => (⟨by have := HX.out.1; omega, fun y hy => HX.out.2 (by omega) y (by rw [List.take_length]; exact hy)⟩ : l.length ≤ 5000 ∧ ∀ y ∈ l, y.length ≤ 5000))
      go_wp2
      all_goals go_ret
      all_goals exact ⟨⟨_, rfl, HX2.out⟩, rfl⟩
end Go.Proofs.Ytaajdodicepbdaa
