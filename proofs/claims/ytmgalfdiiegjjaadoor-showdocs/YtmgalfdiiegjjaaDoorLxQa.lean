/- The walk of the document's own quote. -/
import Derived.Test.YtmgalfdiiegjjaaDoorSeg11
import Derived.Deep.RegionLaw
namespace Go.Proofs.YtmgalfdiiegjjaaDoor
open Go.RowKit

theorem two_rd {w : World} {e : TypeId} {A B : Int} {a b : UInt8} (h1 : A = (a.toNat : Int)) (h2 : B = (b.toNat : Int)) : Rdv (w.alloc (.cells #[.int .u8 A, .int .u8 B] e)) (.slice (some ⟨w.heap.size, 0, none⟩) 2 2) (bv [a, b]) := by
  subst h1 h2
  exact lit_rd [a, b] (by simp [maxLen])
theorem four_rd {w : World} {e : TypeId} {A B C D : Int} {a b c d : UInt8} (h1 : A = (a.toNat : Int)) (h2 : B = (b.toNat : Int)) (h3 : C = (c.toNat : Int)) (h4 : D = (d.toNat : Int)) : Rdv (w.alloc (.cells #[.int .u8 A, .int .u8 B, .int .u8 C, .int .u8 D] e)) (.slice (some ⟨w.heap.size, 0, none⟩) 4 4) (bv [a, b, c, d]) := by
  subst h1 h2 h3 h4
  exact lit_rd [a, b, c, d] (by simp [maxLen])
/-- What is written of the first bytes. -/
def quf (s : List UInt8) (k : Nat) : List UInt8 := 34 :: (s.take k).flatMap LX.q1
theorem quf_next {s : List UInt8} {k : Nat} {c : UInt8} (h : s[k]? = some c) : quf s (k + 1) = quf s k ++ LX.q1 c := by
  have h' := List.getElem?_eq_some_iff.1 h
  unfold quf
  rw [List.take_succ_eq_append_getElem h'.1, h'.2, List.flatMap_append]
  simp
theorem quf_len (s : List UInt8) (k : Nat) : (quf s k).length ≤ 4 * k + 1 := by
  have h1 := LX.flat_len (fun c => (LX.q1_len c).2) (s.take k)
  have h2 : (s.take k).length ≤ k := by rw [List.length_take]; omega
  simp only [quf, List.length_cons]
  omega
theorem quf_end (s : List UInt8) {n : Nat} (h : s.length = n) : quf s n ++ [34] = LX.quo s := by
  unfold quf LX.quo
  rw [List.take_of_length_le (by omega)]
  rfl

set_option maxRecDepth 10000 in
set_option maxHeartbeats 16000000 in
theorem quote_any (S : List UInt8) (w : World) (hl : S.length ≤ 5000) :
    Calls Tryd.prog 23 #[.string ⟨S.toArray⟩] w fun e w' => ∃ v, e = .returned v ∧ Own w' w.heap.size 5 v (bv (LX.quo S)) ∧ Below w.heap.size w w' := by
  have hsz := str_size S
  obtain ⟨n, hn⟩ : ∃ n, S.length = n := ⟨_, rfl⟩
  have HN := Lib.hid hn
  rw [hn] at hsz hl
  have HS : Hid (Own (w.alloc (.cells #[.int .u8 34] 5)) w.heap.size 5 (.slice (some ⟨w.heap.size, 0, none⟩) 1 1) (bv (quf S 0))) := by
    show Own _ _ _ _ _
    exact Own.lit w (bv [34]) (Nat.le_refl _) (by simp [bv, maxLen])
  have HB := Lib.hid (below_alloc w (.cells #[.int .u8 34] 5))
  clear hn
  go_enter Tryd.func23, Tryd.ntmps23
  go_wp2
  generalize w.alloc (.cells #[.int .u8 34] 5) = w0 at *
  go_loopg [3, 4] n (fun g s3 s4 wx => ∃ (i : Nat) (v : Value), i + g = n ∧ s4 = .int .i64 (i : Int) ∧ v = s3 ∧ Hid (Below w.heap.size w wx) ∧ Hid (Own wx w.heap.size 5 v (bv (quf S i))))
  case atStart => exact ⟨0, _, by omega, rfl, rfl, HB, HS⟩
  case round =>
    clear HS HB
    obtain ⟨i, v, hi, rfl, rfl, HW, HO⟩ := hrel
    have HQL := Lib.hid (quf_len S i)
    cases gk with
    | zero =>
      obtain rfl : i = n := by omega
      have E := Lib.hid (quf_end S HN.out)
      go_wp2_with (at_builtin; refine wpList_append_bytes rfl (.tmp 59) (.tmp 60) 27 rfl w.heap.size 5 Tryd.underlying27 Tryd.linfo_u8 (by rfl) (HO.out.alloc _) (by rfl) (one_rd (b := 34) rfl) (by have := HQL.out; simp; omega) (by have := HW.out.size; rw [bx_size]; omega) ?_; intro v3 w3 ho3 hg3 hb3; have O3 := Lib.hid ho3; have B3 := Lib.hid (HW.out.trans (((Below.refl _ _).alloc HW.out.size _).trans hb3)); clear ho3 hg3 hb3)
      go_ret
      refine ⟨_, rfl, ?_, B3.out⟩
      rw [← E.out]; exact O3.out
    | succ g =>
      have hin : (i : Int) < (n : Int) := by omega
      obtain ⟨c, hc⟩ : ∃ c, S[i]? = some c := ⟨S[i]'(by have := HN.out; omega), List.getElem?_eq_getElem _⟩
      have HC := Lib.hid hc
      have hil : i < (⟨S.toArray⟩ : ByteArray).size := by omega
      have hub := c.toNat_lt
      obtain ⟨z, hz⟩ : ∃ z : Int, (c.toNat : Int) = z := ⟨_, rfl⟩
      have hiz := at_z hc hz hil
      have hz0 : 0 ≤ z := by omega
      have hz1 : z < 256 := by omega
      have HZ := Lib.hid hz
      clear hz hub hc
      by_cases h92 : c = 92
      · subst h92
        obtain rfl : z = 92 := HZ.out.symm
        have E : Hid (quf S (i + 1) = quf S i ++ _) := (quf_next HC.out).trans (congrArg (quf S i ++ ·) (show LX.q1 92 = [92, 92] from rfl))
        clear HC
        go_wp2_with (at_builtin; refine wpList_append_bytes rfl (.tmp 27) (.tmp 29) 27 rfl w.heap.size 5 Tryd.underlying27 Tryd.linfo_u8 (by rfl) (HO.out.alloc _) (by rfl) (two_rd (a := 92) (b := 92) rfl rfl) (by have := HQL.out; simp; omega) (by have := HW.out.size; rw [bx_size]; omega) ?_; intro v3 w3 ho3 hg3 hb3; have O3 := Lib.hid ho3; have B3 := Lib.hid (HW.out.trans (((Below.refl _ _).alloc HW.out.size _).trans hb3)); clear ho3 hg3 hb3)
        go_roundg g
        case rel =>
          refine ⟨i + 1, _, by omega, by first | rfl | (simp; done), rfl, B3, ?_⟩
          show Own _ _ _ _ _
          rw [E.out]; exact O3.out
        case measure => omega
      have q92 : (z == 92) = false := zne HZ.out 92 (by decide) h92
      have q92' : ¬ z = 92 := beq_eq_false_iff_ne.1 q92
      by_cases h34 : c = 34
      · subst h34
        obtain rfl : z = 34 := HZ.out.symm
        have E : Hid (quf S (i + 1) = quf S i ++ _) := (quf_next HC.out).trans (congrArg (quf S i ++ ·) (show LX.q1 34 = [92, 34] from rfl))
        clear HC
        go_wp2_with (at_builtin; refine wpList_append_bytes rfl (.tmp 27) (.tmp 29) 27 rfl w.heap.size 5 Tryd.underlying27 Tryd.linfo_u8 (by rfl) (HO.out.alloc _) (by rfl) (two_rd (a := 92) (b := 34) rfl rfl) (by have := HQL.out; simp; omega) (by have := HW.out.size; rw [bx_size]; omega) ?_; intro v3 w3 ho3 hg3 hb3; have O3 := Lib.hid ho3; have B3 := Lib.hid (HW.out.trans (((Below.refl _ _).alloc HW.out.size _).trans hb3)); clear ho3 hg3 hb3)
        go_roundg g
        case rel =>
          refine ⟨i + 1, _, by omega, by first | rfl | (simp; done), rfl, B3, ?_⟩
          show Own _ _ _ _ _
          rw [E.out]; exact O3.out
        case measure => omega
      have q34 : (z == 34) = false := zne HZ.out 34 (by decide) h34
      have q34' : ¬ z = 34 := beq_eq_false_iff_ne.1 q34
      by_cases h10 : c = 10
      · subst h10
        obtain rfl : z = 10 := HZ.out.symm
        have E : Hid (quf S (i + 1) = quf S i ++ _) := (quf_next HC.out).trans (congrArg (quf S i ++ ·) (show LX.q1 10 = [92, 110] from rfl))
        clear HC
        go_wp2_with (at_builtin; refine wpList_append_bytes rfl (.tmp 34) (.tmp 35) 27 rfl w.heap.size 5 Tryd.underlying27 Tryd.linfo_u8 (by rfl) (HO.out.alloc _) (by rfl) (two_rd (a := 92) (b := 110) rfl rfl) (by have := HQL.out; simp; omega) (by have := HW.out.size; rw [bx_size]; omega) ?_; intro v3 w3 ho3 hg3 hb3; have O3 := Lib.hid ho3; have B3 := Lib.hid (HW.out.trans (((Below.refl _ _).alloc HW.out.size _).trans hb3)); clear ho3 hg3 hb3)
        go_roundg g
        case rel =>
          refine ⟨i + 1, _, by omega, by first | rfl | (simp; done), rfl, B3, ?_⟩
          show Own _ _ _ _ _
          rw [E.out]; exact O3.out
        case measure => omega
      have q10 : (z == 10) = false := zne HZ.out 10 (by decide) h10
      have q10' : ¬ z = 10 := beq_eq_false_iff_ne.1 q10
      by_cases h9 : c = 9
      · subst h9
        obtain rfl : z = 9 := HZ.out.symm
        have E : Hid (quf S (i + 1) = quf S i ++ _) := (quf_next HC.out).trans (congrArg (quf S i ++ ·) (show LX.q1 9 = [92, 116] from rfl))
        clear HC
        go_wp2_with (at_builtin; refine wpList_append_bytes rfl (.tmp 40) (.tmp 41) 27 rfl w.heap.size 5 Tryd.underlying27 Tryd.linfo_u8 (by rfl) (HO.out.alloc _) (by rfl) (two_rd (a := 92) (b := 116) rfl rfl) (by have := HQL.out; simp; omega) (by have := HW.out.size; rw [bx_size]; omega) ?_; intro v3 w3 ho3 hg3 hb3; have O3 := Lib.hid ho3; have B3 := Lib.hid (HW.out.trans (((Below.refl _ _).alloc HW.out.size _).trans hb3)); clear ho3 hg3 hb3)
        go_roundg g
        case rel =>
          refine ⟨i + 1, _, by omega, by first | rfl | (simp; done), rfl, B3, ?_⟩
          show Own _ _ _ _ _
          rw [E.out]; exact O3.out
        case measure => omega
      have q9 : (z == 9) = false := zne HZ.out 9 (by decide) h9
      have q9' : ¬ z = 9 := beq_eq_false_iff_ne.1 q9
      by_cases hlow : c.toNat < 32 ∨ c = 127
      · have HE : Hid (quf S (i + 1) = quf S i ++ _) := (quf_next HC.out).trans (congrArg (quf S i ++ ·) (LX.q1_hex h92 h34 h10 h9 hlow))
        have hc256 := c.toNat_lt
        obtain ⟨x, hx⟩ : ∃ x, c.toNat / 16 = x := ⟨_, rfl⟩
        obtain ⟨y, hy⟩ : ∃ y, c.toNat % 16 = y := ⟨_, rfl⟩
        have hx16 : x < 16 := by omega
        have hy16 : y < 16 := by omega
        have HX := Lib.hid (LX.hexs_at ⟨x, hx16⟩)
        have HY := Lib.hid (LX.hexs_at ⟨y, hy16⟩)
        rw [hx, hy] at HE
        simp only at HX HY
        obtain ⟨a, ha⟩ : ∃ a, LX.hexd x = a := ⟨_, rfl⟩
        obtain ⟨b, hb⟩ : ∃ b, LX.hexd y = b := ⟨_, rfl⟩
        rw [ha] at HX HE
        rw [hb] at HY HE
        have hs16 := str_size LX.hexs
        have e16 : LX.hexs.length = 16 := rfl
        rw [e16] at hs16
        have hlx : x < (⟨LX.hexs.toArray⟩ : ByteArray).size := by omega
        have hly : y < (⟨LX.hexs.toArray⟩ : ByteArray).size := by omega
        obtain ⟨za, hza⟩ : ∃ za : Int, (a.toNat : Int) = za := ⟨_, rfl⟩
        obtain ⟨zb, hzb⟩ : ∃ zb : Int, (b.toNat : Int) = zb := ⟨_, rfl⟩
        have ia := at_z HX.out hza hlx
        have ib := at_z HY.out hzb hly
        have dx : z.tdiv 16 = (x : Int) := by rw [Int.tdiv_eq_ediv_of_nonneg hz0]; have := HZ.out; omega
        have dy : z.tmod 16 = (y : Int) := by rw [Int.tmod_eq_emod_of_nonneg hz0]; have := HZ.out; omega
        have wx : IntKind.u8.wrap (x : Int) = (x : Int) := lwrap8_small (by omega) (by omega)
        have wy : IntKind.u8.wrap (y : Int) = (y : Int) := lwrap8_small (by omega) (by omega)
        have HZA := Lib.hid hza
        have HZB := Lib.hid hzb
        have a0 : 0 ≤ za := by omega
        have b0 : 0 ≤ zb := by omega
        have x0 : (x : Int) < 16 := by omega
        have y0 : (y : Int) < 16 := by omega
        unfold LX.hexs at ia ib hlx hly hs16
        clear hza hzb ha hb hx hy hc256 HX HY e16 HC
        by_cases h32 : z < 32
        · go_wp2
          go_region_law (refine step_append_bytes (news := [92, 120, a, b]) (by rfl) (.tmp 50) (.tmp 57) 27 (by rfl) w.heap.size 5 Tryd.underlying27 Tryd.linfo_u8 (by rfl) (HO.out.below (below_trans (below_alloc _ _) (below_drew _))) (by rfl) ((four_rd (a := 92) (b := 120) rfl rfl HZA.out.symm HZB.out.symm).below (below_drew _)) (by simp) (by have := HQL.out; simp; omega) (by exact (HW.out.trans ((below_trans (below_alloc _ _) (below_drew _)).mono HW.out.size)).size) ?_; intro g3 cap3 w3 ho3 hb3; have O3 := Lib.hid ho3; have B3 := Lib.hid ((HW.out.trans ((below_trans (below_alloc _ _) (below_drew _)).mono HW.out.size)).trans hb3); clear ho3 hb3)
          all_goals
            go_wp2
            go_roundg g
            case rel =>
              refine ⟨i + 1, _, by omega, by first | rfl | (simp; done), rfl, B3, ?_⟩
              show Own _ _ _ _ _
              rw [HE.out]; exact O3.out
            case measure => omega
        · obtain rfl : c = 127 := hlow.elim (fun h => absurd (by have := HZ.out; omega) h32) id
          obtain rfl : z = 127 := HZ.out.symm
          go_wp2
          go_region_law (refine step_append_bytes (news := [92, 120, a, b]) (by rfl) (.tmp 50) (.tmp 57) 27 (by rfl) w.heap.size 5 Tryd.underlying27 Tryd.linfo_u8 (by rfl) (HO.out.below (below_trans (below_alloc _ _) (below_drew _))) (by rfl) ((four_rd (a := 92) (b := 120) rfl rfl HZA.out.symm HZB.out.symm).below (below_drew _)) (by simp) (by have := HQL.out; simp; omega) (by exact (HW.out.trans ((below_trans (below_alloc _ _) (below_drew _)).mono HW.out.size)).size) ?_; intro g3 cap3 w3 ho3 hb3; have O3 := Lib.hid ho3; have B3 := Lib.hid ((HW.out.trans ((below_trans (below_alloc _ _) (below_drew _)).mono HW.out.size)).trans hb3); clear ho3 hb3)
          all_goals
            go_wp2
            go_roundg g
            case rel =>
              refine ⟨i + 1, _, by omega, by first | rfl | (simp; done), rfl, B3, ?_⟩
              show Own _ _ _ _ _
              rw [HE.out]; exact O3.out
            case measure => omega
      · have h32 : ¬ z < 32 := by have := HZ.out; omega
        have q127 : (z == 127) = false := zne HZ.out 127 (by decide) (fun h => hlow (.inr h))
        have q127' : ¬ z = 127 := beq_eq_false_iff_ne.1 q127
        have E : Hid (quf S (i + 1) = quf S i ++ _) := (quf_next HC.out).trans (congrArg (quf S i ++ ·) (LX.q1_self h92 h34 h10 h9 hlow))
        clear HC
        go_wp2_with (at_builtin; refine wpList_append_bytes rfl (.tmp 16) (.tmp 18) 27 rfl w.heap.size 5 Tryd.underlying27 Tryd.linfo_u8 (by rfl) (HO.out.alloc _) (by rfl) (one_rd (b := c) HZ.out.symm) (by have := HQL.out; simp; omega) (by have := HW.out.size; rw [bx_size]; omega) ?_; intro v3 w3 ho3 hg3 hb3; have O3 := Lib.hid ho3; have B3 := Lib.hid (HW.out.trans (((Below.refl _ _).alloc HW.out.size _).trans hb3)); clear ho3 hg3 hb3)
        go_roundg g
        case rel =>
          refine ⟨i + 1, _, by omega, by first | rfl | (simp; done), rfl, B3, ?_⟩
          show Own _ _ _ _ _
          rw [E.out]; exact O3.out
        case measure => omega
end Go.Proofs.YtmgalfdiiegjjaaDoor
