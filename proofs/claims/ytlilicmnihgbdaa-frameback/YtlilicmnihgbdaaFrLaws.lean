/- The four laws of frame: the walks. -/
import Derived.Test.YtlilicmnihgbdaaFrAwake
namespace Go.Proofs.Ytlilicmnihgbdaa
open Go.RowKit

set_option maxHeartbeats 400000 in
theorem fnext_law (v : Value) (bs : List UInt8) (m : Int) (w : World) (hr : Rdv w v (bv bs)) (_ : bs.length ≤ 140737488351232) :
    Calls Try.prog 4 #[v, .int .i64 m] w fun e w' => e = .returned (.bool true) ∧ Below w.heap.size w w' := by
  have HR := Lib.hid hr
  clear hr
  have N1 := Lib.hid (fun w h => next_any v bs m w h)
  have N2 := Lib.hid (fun w h => rnext_any v bs m w h)
  obtain ⟨r, hr⟩ : ∃ r, r = F.next bs (F.most m) := ⟨_, rfl⟩
  rw [← hr] at N1 N2
  clear hr
  obtain ⟨X, k, e⟩ := r
  simp only at N1 N2
  go_enter Try.func4, Try.ntmps4
  go_wp2_with (first
    | (go_at_call 12; refine (N1.out _ HR.out).mono ?_; rintro e w1 ⟨v1, rfl, ho1, hb1⟩)
    | (go_at_call 13; refine (N2.out _ (HR.out.below hb1)).mono ?_; rintro e w2 ⟨v2, rfl, ho2, hb2⟩)
    | (go_at_call 14; refine (rbytes_true (ho1.rd.below hb2) ho2.rd rfl).mono ?_; rintro e w3 ⟨rfl, rfl⟩)
    | (go_at_call 8; refine (awake3_any _).mono ?_; rintro e w4 ⟨rfl, hb4⟩))
  go_ret
  exact ⟨rfl, below_tr (below_tr hb1 hb2) hb4⟩

set_option maxHeartbeats 400000 in
theorem fall_law (v : Value) (bs : List UInt8) (m : Int) (w : World) (hr : Rdv w v (bv bs)) (_ : bs.length ≤ 140737488351232) :
    Calls Try.prog 5 #[v, .int .i64 m] w fun e w' => e = .returned (.bool true) ∧ Below w.heap.size w w' := by
  have HR := Lib.hid hr
  obtain ⟨ao, cap, rfl, -⟩ := hr
  simp only [bv_len] at HR ⊢
  go_enter Try.func5, Try.ntmps5
  by_cases hbig : (5000 : Int) < (bs.length : Int)
  · go_wp2_with (go_at_call 8; refine (awake3_any _).mono ?_; rintro e w4 ⟨rfl, hb4⟩)
    go_ret
    exact ⟨rfl, hb4⟩
  · have N1 := Lib.hid (fun w h => all_any (.slice ao bs.length cap) bs m w h (by omega))
    have N2 := Lib.hid (fun w h => rall_any (.slice ao bs.length cap) bs m w h (by omega))
    obtain ⟨r, hr⟩ : ∃ r, r = F.all bs (F.most m) := ⟨_, rfl⟩
    rw [← hr] at N1 N2
    clear hr
    obtain ⟨X, k, e⟩ := r
    simp only at N1 N2
    go_wp2_with (first
      | (go_at_call 10; refine (N1.out _ HR.out).mono ?_; rintro e w1 ⟨v1, rfl, ho1, hb1⟩)
      | (go_at_call 15; refine (N2.out _ (HR.out.below hb1)).mono ?_; rintro e w2 ⟨v2, rfl, ho2, hb2⟩)
      | (go_at_call 11; refine (rrows_true _ _ X _ (ho1.rd.below hb2) ho2.rd).mono ?_; rintro e w3 ⟨rfl, hb3⟩)
      | (go_at_call 8; refine (awake3_any _).mono ?_; rintro e w4 ⟨rfl, hb4⟩))
    go_ret
    exact ⟨rfl, below_tr (below_tr (below_tr hb1 hb2) hb3) hb4⟩

theorem frames_go {l : List (List UInt8)} {n : Nat} (h : n < l.length) : F.frames (l.take n) ++ F.put l[n] = F.frames (l.take (n + 1)) := by
  rw [List.take_succ_eq_append_getElem h, F.frames_app, F.frames_cons, F.frames_nil, List.append_nil]
theorem long_go {l : List (List UInt8)} {n G G' : Nat} (h : n < l.length) (H : ∀ x ∈ l.take n, x.length ≤ G) (h1 : G ≤ G') (h2 : l[n].length ≤ G') : ∀ x ∈ l.take (n + 1), x.length ≤ G' := by
  intro x hx
  rw [List.take_succ_eq_append_getElem h] at hx
  rcases List.mem_append.1 hx with hx | hx
  · have := H x hx; omega
  · obtain rfl : x = l[n] := by simpa using hx
    exact h2
theorem back_all {l : List (List UInt8)} {G : Nat} (hG : G ≤ 20000) (H : ∀ x ∈ l.take l.length, x.length ≤ G) {m : Int} (hm : (G : Int) ≤ m) : F.all (F.frames l) (F.most m) = (l, (F.frames l).length, 0) := by
  rw [List.take_length] at H
  have hle := F.most_le m
  refine F.all_back l (fun x hx => ?_) (by omega)
  have := H x hx
  unfold F.most at hle ⊢
  omega
theorem frames_le {l : List (List UInt8)} {n N : Nat} (h : (F.frames l).length ≤ N) : (F.frames (l.take n)).length ≤ N := by
  by_cases hn : n ≤ l.length
  · have := F.frames_mono (l := l) hn
    rw [List.take_length] at this
    omega
  · rw [List.take_of_length_le (by omega)]; exact h

set_option maxHeartbeats 2000000 in
theorem fback_law (v : Value) (l : List (List UInt8)) (m : Int) (w : World) (hr : Rdl w v l) :
    Calls Try.prog 3 #[v, .int .i64 m] w fun e w' => e = .returned (.bool true) ∧ Below w.heap.size w w' := by
  have HR := Lib.hid hr
  obtain ⟨ao, cap, rfl, g1, g2⟩ := hr.slice
  unfold maxLen at g2
  clear hr
  go_enter Try.func3, Try.ntmps3
  go_wp2_with fail
  refine (weight_any _ l _ HR.out).mono ?_
  rintro e w' ⟨⟨n, rfl, hn⟩, rfl⟩
  by_cases hbig : (20000 : Int) < n
  · clear hn
    go_wp2_with (go_at_call 8; refine (awake3_any _).mono ?_; rintro e w4 ⟨rfl, hb4⟩)
    go_ret
    exact ⟨rfl, hb4⟩
  · have hW := hn (by omega)
    obtain ⟨w1, w2, w3⟩ := F.weigh_all (l := l) (B := 20000) (by omega) (by omega)
    have HX := Lib.hid w2
    clear hW hn w2
    go_wp2_with fail
    go_loopw [5, 6, 7] (fun b lg i wr => ∃ (n G : Nat), lg = .int .i64 (G : Int) ∧ i = .int .i64 (n : Int) ∧ n ≤ l.length ∧ G ≤ 20000 ∧ Hid (∀ x ∈ l.take n, x.length ≤ G) ∧ Hid (Own wr w.heap.size 5 b (bv (F.frames (l.take n)))) ∧ Hid (Below w.heap.size w wr)) (fun _ _ i _ => l.length - (intOf i).toNat)
    case atStart => exact ⟨0, 0, rfl, rfl, by omega, by omega, by show ∀ x ∈ _, _; simp, by show Own _ _ _ _ _; simpa [F.frames_nil, bv] using Own.nil w w.heap.size _, Below.refl _ _⟩
    case round =>
      obtain ⟨n, G, rfl, rfl, hn, hG, HL, HO, HB⟩ := hrel
      by_cases hlt : n < l.length
      · obtain ⟨b1, o1, c1, a1, d1, e1, l1, cell1, r1⟩ := (HR.out.below HB.out).at hlt
        obtain ⟨rfl, rfl⟩ : ao = some ⟨b1, o1, none⟩ ∧ cap = c1 := by simpa using e1
        clear e1
        have hx := HX.out l[n] (List.getElem_mem hlt)
        have FP := Lib.hid (fput_any _ _ _ _ _ HO.out.rd r1 (by have := frames_le (n := n) w3; omega))
        rw [frames_go hlt] at FP
        have LG := Lib.hid (fun G' h1 h2 => long_go (G' := G') hlt HL.out h1 h2)
        clear r1 HO HL
        obtain ⟨x, hxe⟩ : ∃ x, x = l[n].length := ⟨_, rfl⟩
        rw [← hxe] at cell1 LG hx FP
        clear hxe
        by_cases hGx : G < x
        · have hGx' : (G : Int) < (x : Int) := by omega
          go_wp2_with (first
            | (go_at_call 9; refine FP.out.mono ?_; rintro e w1 ⟨v1, rfl, ho1, hb1⟩; have cell2 := (hb1.cell l1).trans cell1))
          go_roundw
          case rel => exact ⟨n + 1, x, by go_num, by go_num, by omega, by omega, LG.out x (by omega) (by omega), ho1.base HB.out.size, HB.out.trans (hb1.mono HB.out.size)⟩
          case measure => simp [intOf]; omega
        · have hGx' : (x : Int) ≤ (G : Int) := by omega
          go_wp2_with (first
            | (go_at_call 9; refine FP.out.mono ?_; rintro e w1 ⟨v1, rfl, ho1, hb1⟩; have cell2 := (hb1.cell l1).trans cell1))
          go_roundw
          case rel => exact ⟨n + 1, G, by go_num, by go_num, by omega, by omega, LG.out G (by omega) (by omega), ho1.base HB.out.size, HB.out.trans (hb1.mono HB.out.size)⟩
          case measure => simp [intOf]; omega
      · obtain rfl : n = l.length := by omega
        rw [List.take_length] at HO
        have HRB := Lib.hid HO.out.rd
        obtain ⟨a5, c5, h5, -⟩ := id HRB.out
        rw [bv_len] at h5
        subst h5
        clear HO
        obtain ⟨M, hM⟩ : ∃ M, M = (F.frames l).length := ⟨_, rfl⟩
        by_cases hmG : m < (G : Int)
        · have E := Lib.hid (back_all hG HL.out (Int.le_refl (G : Int)))
          have AL := Lib.hid (all_any _ (F.frames l) (G : Int) wr HRB.out (by omega))
          rw [E.out] at AL
          simp only at AL
          rw [← hM] at AL ⊢
          clear E HL hM HRB
          go_wp2_with (first
            | (go_at_call 10; refine AL.out.mono ?_; rintro e w1 ⟨v1, rfl, ho1, hb1⟩)
            | (go_at_call 11; refine (rrows_true _ _ l _ ho1.rd ((HR.out.below HB.out).below hb1)).mono ?_; rintro e w3 ⟨rfl, hb3⟩)
            | (go_at_call 8; refine (awake3_any _).mono ?_; rintro e w4 ⟨rfl, hb4⟩))
          go_ret
          exact ⟨rfl, below_tr (below_tr (below_tr HB.out hb1) hb3) hb4⟩
        · have E := Lib.hid (back_all hG HL.out (m := m) (by omega))
          have AL := Lib.hid (all_any _ (F.frames l) m wr HRB.out (by omega))
          rw [E.out] at AL
          simp only at AL
          rw [← hM] at AL ⊢
          clear E HL hM HRB
          go_wp2_with (first
            | (go_at_call 10; refine AL.out.mono ?_; rintro e w1 ⟨v1, rfl, ho1, hb1⟩)
            | (go_at_call 11; refine (rrows_true _ _ l _ ho1.rd ((HR.out.below HB.out).below hb1)).mono ?_; rintro e w3 ⟨rfl, hb3⟩)
            | (go_at_call 8; refine (awake3_any _).mono ?_; rintro e w4 ⟨rfl, hb4⟩))
          go_ret
          exact ⟨rfl, below_tr (below_tr (below_tr HB.out hb1) hb3) hb4⟩
end Go.Proofs.Ytlilicmnihgbdaa
