/- Several texts in one. -/
import Derived.Test.YtmgalfdiiegjjaaGreatDoorSeg06
import Derived.Deep.RegionLaw
import Derived.Test.YtmgalfdiiegjjaaGreatDoorSeg00
namespace Go.Proofs.YtmgalfdiiegjjaaGreatDoor
open Go.RowKit

theorem two_rd {w : World} {e : TypeId} {A B : Int} {a b : UInt8} (h1 : A = (a.toNat : Int)) (h2 : B = (b.toNat : Int)) : Rdv (w.alloc (.cells #[.int .u8 A, .int .u8 B] e)) (.slice (some ⟨w.heap.size, 0, none⟩) 2 2) (bv [a, b]) := by
  subst h1 h2
  exact lit_rd [a, b] (by simp [maxLen])
theorem four_rd {w : World} {e : TypeId} {A B C D : Int} {a b c d : UInt8} (h1 : A = (a.toNat : Int)) (h2 : B = (b.toNat : Int)) (h3 : C = (c.toNat : Int)) (h4 : D = (d.toNat : Int)) : Rdv (w.alloc (.cells #[.int .u8 A, .int .u8 B, .int .u8 C, .int .u8 D] e)) (.slice (some ⟨w.heap.size, 0, none⟩) 4 4) (bv [a, b, c, d]) := by
  subst h1 h2 h3 h4
  exact lit_rd [a, b, c, d] (by simp [maxLen])
/-- What is written of the first bytes. -/
def quf (s : List UInt8) (k : Nat) : List UInt8 := 34 :: (s.take k).flatMap LX.q1
theorem quf_next {s : List UInt8} {k : Nat} {c : UInt8} (h : s[k]? = some c) : quf s (k + 1) = quf s k ++ LX.q1 c := by
  have h' := List.getElem?_eq_some_iff.1 h
  unfold quf
  rw [List.take_succ_eq_append_getElem h'.1, h'.2, List.flatMap_append]
  simp
theorem quf_len (s : List UInt8) (k : Nat) : (quf s k).length ≤ 4 * k + 1 := by
  have h1 := LX.flat_len (fun c => (LX.q1_len c).2) (s.take k)
  have h2 : (s.take k).length ≤ k := by rw [List.length_take]; omega
  simp only [quf, List.length_cons]
  omega
theorem quf_end (s : List UInt8) {n : Nat} (h : s.length = n) : quf s n ++ [34] = LX.quo s := by
  unfold quf LX.quo
  rw [List.take_of_length_le (by omega)]
  rfl

set_option maxRecDepth 10000 in
set_option maxHeartbeats 16000000 in
theorem quote_any (S : List UInt8) (w : World) (hl : S.length ≤ 5000) :
    Calls Tryz.prog 55 #[.string ⟨S.toArray⟩] w fun e w' => ∃ v, e = .returned v ∧ Own w' w.heap.size 5 v (bv (LX.quo S)) ∧ Below w.heap.size w w' := by
  have hsz := str_size S
  obtain ⟨n, hn⟩ : ∃ n, S.length = n := ⟨_, rfl⟩
  have HN := Lib.hid hn
  rw [hn] at hsz hl
  have HS : Hid (Own (w.alloc (.cells #[.int .u8 34] 5)) w.heap.size 5 (.slice (some ⟨w.heap.size, 0, none⟩) 1 1) (bv (quf S 0))) := by
    show Own _ _ _ _ _
    exact Own.lit w (bv [34]) (Nat.le_refl _) (by simp [bv, maxLen])
  have HB := Lib.hid (below_alloc w (.cells #[.int .u8 34] 5))
  clear hn
  go_enter Tryz.func55, Tryz.ntmps55
  go_wp2
  generalize w.alloc (.cells #[.int .u8 34] 5) = w0 at *
  go_loopg [3, 4] n (fun g s3 s4 wx => ∃ (i : Nat) (v : Value), i + g = n ∧ s4 = .int .i64 (i : Int) ∧ v = s3 ∧ Hid (Below w.heap.size w wx) ∧ Hid (Own wx w.heap.size 5 v (bv (quf S i))))
  case atStart => exact ⟨0, _, by omega, rfl, rfl, HB, HS⟩
  case round =>
    clear HS HB
    obtain ⟨i, v, hi, rfl, rfl, HW, HO⟩ := hrel
    have HQL := Lib.hid (quf_len S i)
    cases gk with
    | zero =>
      obtain rfl : i = n := by omega
      have E := Lib.hid (quf_end S HN.out)
      go_wp2_with (at_builtin; refine wpList_append_bytes rfl (.tmp 59) (.tmp 60) 35 rfl w.heap.size 5 Tryz.underlying35 Tryz.linfo_u8 (by rfl) (HO.out.alloc _) (by rfl) (one_rd (b := 34) rfl) (by have := HQL.out; simp; omega) (by have := HW.out.size; rw [bx_size]; omega) ?_; intro v3 w3 ho3 hg3 hb3; have O3 := Lib.hid ho3; have B3 := Lib.hid (HW.out.trans (((Below.refl _ _).alloc HW.out.size _).trans hb3)); clear ho3 hg3 hb3)
      go_ret
      refine ⟨_, rfl, ?_, B3.out⟩
      rw [← E.out]; exact O3.out
    | succ g =>
      have hin : (i : Int) < (n : Int) := by omega
      obtain ⟨c, hc⟩ : ∃ c, S[i]? = some c := ⟨S[i]'(by have := HN.out; omega), List.getElem?_eq_getElem _⟩
      have HC := Lib.hid hc
      have hil : i < (⟨S.toArray⟩ : ByteArray).size := by omega
      have hub := c.toNat_lt
      obtain ⟨z, hz⟩ : ∃ z : Int, (c.toNat : Int) = z := ⟨_, rfl⟩
      have hiz := at_z hc hz hil
      have hz0 : 0 ≤ z := by omega
      have hz1 : z < 256 := by omega
      have HZ := Lib.hid hz
      clear hz hub hc
      by_cases h92 : c = 92
      · subst h92
        obtain rfl : z = 92 := HZ.out.symm
        have E : Hid (quf S (i + 1) = quf S i ++ _) := (quf_next HC.out).trans (congrArg (quf S i ++ ·) (show LX.q1 92 = [92, 92] from rfl))
        clear HC
        go_wp2_with (at_builtin; refine wpList_append_bytes rfl (.tmp 27) (.tmp 29) 35 rfl w.heap.size 5 Tryz.underlying35 Tryz.linfo_u8 (by rfl) (HO.out.alloc _) (by rfl) (two_rd (a := 92) (b := 92) rfl rfl) (by have := HQL.out; simp; omega) (by have := HW.out.size; rw [bx_size]; omega) ?_; intro v3 w3 ho3 hg3 hb3; have O3 := Lib.hid ho3; have B3 := Lib.hid (HW.out.trans (((Below.refl _ _).alloc HW.out.size _).trans hb3)); clear ho3 hg3 hb3)
        go_roundg g
        case rel =>
          refine ⟨i + 1, _, by omega, by first | rfl | (simp; done), rfl, B3, ?_⟩
          show Own _ _ _ _ _
          rw [E.out]; exact O3.out
        case measure => omega
      have q92 : (z == 92) = false := zne HZ.out 92 (by decide) h92
      have q92' : ¬ z = 92 := beq_eq_false_iff_ne.1 q92
      by_cases h34 : c = 34
      · subst h34
        obtain rfl : z = 34 := HZ.out.symm
        have E : Hid (quf S (i + 1) = quf S i ++ _) := (quf_next HC.out).trans (congrArg (quf S i ++ ·) (show LX.q1 34 = [92, 34] from rfl))
        clear HC
        go_wp2_with (at_builtin; refine wpList_append_bytes rfl (.tmp 27) (.tmp 29) 35 rfl w.heap.size 5 Tryz.underlying35 Tryz.linfo_u8 (by rfl) (HO.out.alloc _) (by rfl) (two_rd (a := 92) (b := 34) rfl rfl) (by have := HQL.out; simp; omega) (by have := HW.out.size; rw [bx_size]; omega) ?_; intro v3 w3 ho3 hg3 hb3; have O3 := Lib.hid ho3; have B3 := Lib.hid (HW.out.trans (((Below.refl _ _).alloc HW.out.size _).trans hb3)); clear ho3 hg3 hb3)
        go_roundg g
        case rel =>
          refine ⟨i + 1, _, by omega, by first | rfl | (simp; done), rfl, B3, ?_⟩
          show Own _ _ _ _ _
          rw [E.out]; exact O3.out
        case measure => omega
      have q34 : (z == 34) = false := zne HZ.out 34 (by decide) h34
      have q34' : ¬ z = 34 := beq_eq_false_iff_ne.1 q34
      by_cases h10 : c = 10
      · subst h10
        obtain rfl : z = 10 := HZ.out.symm
        have E : Hid (quf S (i + 1) = quf S i ++ _) := (quf_next HC.out).trans (congrArg (quf S i ++ ·) (show LX.q1 10 = [92, 110] from rfl))
        clear HC
        go_wp2_with (at_builtin; refine wpList_append_bytes rfl (.tmp 34) (.tmp 35) 35 rfl w.heap.size 5 Tryz.underlying35 Tryz.linfo_u8 (by rfl) (HO.out.alloc _) (by rfl) (two_rd (a := 92) (b := 110) rfl rfl) (by have := HQL.out; simp; omega) (by have := HW.out.size; rw [bx_size]; omega) ?_; intro v3 w3 ho3 hg3 hb3; have O3 := Lib.hid ho3; have B3 := Lib.hid (HW.out.trans (((Below.refl _ _).alloc HW.out.size _).trans hb3)); clear ho3 hg3 hb3)
        go_roundg g
        case rel =>
          refine ⟨i + 1, _, by omega, by first | rfl | (simp; done), rfl, B3, ?_⟩
          show Own _ _ _ _ _
          rw [E.out]; exact O3.out
        case measure => omega
      have q10 : (z == 10) = false := zne HZ.out 10 (by decide) h10
      have q10' : ¬ z = 10 := beq_eq_false_iff_ne.1 q10
      by_cases h9 : c = 9
      · subst h9
        obtain rfl : z = 9 := HZ.out.symm
        have E : Hid (quf S (i + 1) = quf S i ++ _) := (quf_next HC.out).trans (congrArg (quf S i ++ ·) (show LX.q1 9 = [92, 116] from rfl))
        clear HC
        go_wp2_with (at_builtin; refine wpList_append_bytes rfl (.tmp 40) (.tmp 41) 35 rfl w.heap.size 5 Tryz.underlying35 Tryz.linfo_u8 (by rfl) (HO.out.alloc _) (by rfl) (two_rd (a := 92) (b := 116) rfl rfl) (by have := HQL.out; simp; omega) (by have := HW.out.size; rw [bx_size]; omega) ?_; intro v3 w3 ho3 hg3 hb3; have O3 := Lib.hid ho3; have B3 := Lib.hid (HW.out.trans (((Below.refl _ _).alloc HW.out.size _).trans hb3)); clear ho3 hg3 hb3)
        go_roundg g
        case rel =>
          refine ⟨i + 1, _, by omega, by first | rfl | (simp; done), rfl, B3, ?_⟩
          show Own _ _ _ _ _
          rw [E.out]; exact O3.out
        case measure => omega
      have q9 : (z == 9) = false := zne HZ.out 9 (by decide) h9
      have q9' : ¬ z = 9 := beq_eq_false_iff_ne.1 q9
      by_cases hlow : c.toNat < 32 ∨ c = 127
      · have HE : Hid (quf S (i + 1) = quf S i ++ _) := (quf_next HC.out).trans (congrArg (quf S i ++ ·) (LX.q1_hex h92 h34 h10 h9 hlow))
        have hc256 := c.toNat_lt
        obtain ⟨x, hx⟩ : ∃ x, c.toNat / 16 = x := ⟨_, rfl⟩
        obtain ⟨y, hy⟩ : ∃ y, c.toNat % 16 = y := ⟨_, rfl⟩
        have hx16 : x < 16 := by omega
        have hy16 : y < 16 := by omega
        have HX := Lib.hid (LX.hexs_at ⟨x, hx16⟩)
        have HY := Lib.hid (LX.hexs_at ⟨y, hy16⟩)
        rw [hx, hy] at HE
        simp only at HX HY
        obtain ⟨a, ha⟩ : ∃ a, LX.hexd x = a := ⟨_, rfl⟩
        obtain ⟨b, hb⟩ : ∃ b, LX.hexd y = b := ⟨_, rfl⟩
        rw [ha] at HX HE
        rw [hb] at HY HE
        have hs16 := str_size LX.hexs
        have e16 : LX.hexs.length = 16 := rfl
        rw [e16] at hs16
        have hlx : x < (⟨LX.hexs.toArray⟩ : ByteArray).size := by omega
        have hly : y < (⟨LX.hexs.toArray⟩ : ByteArray).size := by omega
        obtain ⟨za, hza⟩ : ∃ za : Int, (a.toNat : Int) = za := ⟨_, rfl⟩
        obtain ⟨zb, hzb⟩ : ∃ zb : Int, (b.toNat : Int) = zb := ⟨_, rfl⟩
        have ia := at_z HX.out hza hlx
        have ib := at_z HY.out hzb hly
        have dx : z.tdiv 16 = (x : Int) := by rw [Int.tdiv_eq_ediv_of_nonneg hz0]; have := HZ.out; omega
        have dy : z.tmod 16 = (y : Int) := by rw [Int.tmod_eq_emod_of_nonneg hz0]; have := HZ.out; omega
        have wx : IntKind.u8.wrap (x : Int) = (x : Int) := lwrap8_small (by omega) (by omega)
        have wy : IntKind.u8.wrap (y : Int) = (y : Int) := lwrap8_small (by omega) (by omega)
        have HZA := Lib.hid hza
        have HZB := Lib.hid hzb
        have a0 : 0 ≤ za := by omega
        have b0 : 0 ≤ zb := by omega
        have x0 : (x : Int) < 16 := by omega
        have y0 : (y : Int) < 16 := by omega
        unfold LX.hexs at ia ib hlx hly hs16
        clear hza hzb ha hb hx hy hc256 HX HY e16 HC
        by_cases h32 : z < 32
        · go_wp2
          go_region_law (refine step_append_bytes (news := [92, 120, a, b]) (by rfl) (.tmp 50) (.tmp 57) 35 (by rfl) w.heap.size 5 Tryz.underlying35 Tryz.linfo_u8 (by rfl) (HO.out.below (below_trans (below_alloc _ _) (below_drew _))) (by rfl) ((four_rd (a := 92) (b := 120) rfl rfl HZA.out.symm HZB.out.symm).below (below_drew _)) (by simp) (by have := HQL.out; simp; omega) (by exact (HW.out.trans ((below_trans (below_alloc _ _) (below_drew _)).mono HW.out.size)).size) ?_; intro g3 cap3 w3 ho3 hb3; have O3 := Lib.hid ho3; have B3 := Lib.hid ((HW.out.trans ((below_trans (below_alloc _ _) (below_drew _)).mono HW.out.size)).trans hb3); clear ho3 hb3)
          all_goals
            go_wp2
            go_roundg g
            case rel =>
              refine ⟨i + 1, _, by omega, by first | rfl | (simp; done), rfl, B3, ?_⟩
              show Own _ _ _ _ _
              rw [HE.out]; exact O3.out
            case measure => omega
        · obtain rfl : c = 127 := hlow.elim (fun h => absurd (by have := HZ.out; omega) h32) id
          obtain rfl : z = 127 := HZ.out.symm
          go_wp2
          go_region_law (refine step_append_bytes (news := [92, 120, a, b]) (by rfl) (.tmp 50) (.tmp 57) 35 (by rfl) w.heap.size 5 Tryz.underlying35 Tryz.linfo_u8 (by rfl) (HO.out.below (below_trans (below_alloc _ _) (below_drew _))) (by rfl) ((four_rd (a := 92) (b := 120) rfl rfl HZA.out.symm HZB.out.symm).below (below_drew _)) (by simp) (by have := HQL.out; simp; omega) (by exact (HW.out.trans ((below_trans (below_alloc _ _) (below_drew _)).mono HW.out.size)).size) ?_; intro g3 cap3 w3 ho3 hb3; have O3 := Lib.hid ho3; have B3 := Lib.hid ((HW.out.trans ((below_trans (below_alloc _ _) (below_drew _)).mono HW.out.size)).trans hb3); clear ho3 hb3)
          all_goals
            go_wp2
            go_roundg g
            case rel =>
              refine ⟨i + 1, _, by omega, by first | rfl | (simp; done), rfl, B3, ?_⟩
              show Own _ _ _ _ _
              rw [HE.out]; exact O3.out
            case measure => omega
      · have h32 : ¬ z < 32 := by have := HZ.out; omega
        have q127 : (z == 127) = false := zne HZ.out 127 (by decide) (fun h => hlow (.inr h))
        have q127' : ¬ z = 127 := beq_eq_false_iff_ne.1 q127
        have E : Hid (quf S (i + 1) = quf S i ++ _) := (quf_next HC.out).trans (congrArg (quf S i ++ ·) (LX.q1_self h92 h34 h10 h9 hlow))
        clear HC
        go_wp2_with (at_builtin; refine wpList_append_bytes rfl (.tmp 16) (.tmp 18) 35 rfl w.heap.size 5 Tryz.underlying35 Tryz.linfo_u8 (by rfl) (HO.out.alloc _) (by rfl) (one_rd (b := c) HZ.out.symm) (by have := HQL.out; simp; omega) (by have := HW.out.size; rw [bx_size]; omega) ?_; intro v3 w3 ho3 hg3 hb3; have O3 := Lib.hid ho3; have B3 := Lib.hid (HW.out.trans (((Below.refl _ _).alloc HW.out.size _).trans hb3)); clear ho3 hg3 hb3)
        go_roundg g
        case rel =>
          refine ⟨i + 1, _, by omega, by first | rfl | (simp; done), rfl, B3, ?_⟩
          show Own _ _ _ _ _
          rw [E.out]; exact O3.out
        case measure => omega
end Go.Proofs.YtmgalfdiiegjjaaGreatDoor

/- Documents over lists: blocks, items, what is wrong. No program is named here. -/
namespace Go.Proofs.YtmgalfdiiegjjaaGreatDoor
namespace DC
open LX (B Pc)

/-- A node: its kind, line, text, whether it is quoted, its keys, its kids. -/
structure Nd where
  kind : Int
  line : Int
  text : B
  quoted : Bool
  keys : List B
  kids : List Nat
  deriving DecidableEq
/-- What is wrong, and where; or an answer. -/
inductive Out (α : Type) where
  | bad (k n : Int)
  | ok (a : α)
  deriving DecidableEq
def Out.bind {α β : Type} (o : Out α) (f : α → Out β) : Out β := match o with
  | .bad k n => .bad k n
  | .ok a => f a
abbrev BR := Out (List Nd × List Pc)
abbrev IR := Out (List B × List Nat × List Nd × List Pc)
/-- Is no piece left, or the next one's column not above c? -/
def low (c : Int) : List Pc → Bool
  | [] => true
  | q :: _ => decide (q.2.2.1 ≤ c)
def comes (k c : Int) : List Pc → Bool
  | [] => false
  | p :: _ => decide (p.1 = k) && decide (p.2.2.1 = c)
def leaf (p : Pc) : Nd := ⟨1, p.2.1, p.2.2.2.1, p.2.2.2.2, [], []⟩
def nk (k : Int) : Int := if k = 1 then 2 else if k = 2 then 3 else if k = 3 then 1 else 0
/-- Keys, blocks and nodes that were told ahead of others. -/
def plus (ks : List B) (is : List Nat) (ns : List Nd) (o : IR) : IR := o.bind fun a => .ok (ks ++ a.1, is ++ a.2.1, ns ++ a.2.2.1, a.2.2.2)
mutual
/-- The block that begins with the first piece, d deep, N nodes ahead of it: its nodes, and what is left. -/
def blk : Nat → Nat → Nat → List Pc → BR
  | 0, _, _, _ => .bad 10 0
  | _ + 1, _, _, [] => .bad 10 0
  | f + 1, d, N, p :: l =>
    if nk p.1 = 0 then .bad 6 p.2.1
    else if 24 < d then .bad 8 p.2.1
    else if 2000 ≤ N then .bad 9 p.2.1
    else if p.1 = 3 then .ok ([leaf p], l)
    else (itm f p.1 p.2.2.1 (d + 1) (N + 1) [] (p :: l)).bind fun a => .ok (⟨nk p.1, p.2.1, [], false, a.1, a.2.1⟩ :: a.2.2.1, a.2.2.2)
/-- Items of a column, or keys, from here on: the keys, the blocks' numbers, the nodes, and what is left. -/
def itm : Nat → Int → Int → Nat → Nat → List B → List Pc → IR
  | 0, _, _, _, _, _, _ => .bad 10 0
  | _ + 1, _, _, _, _, _, [] => .ok ([], [], [], [])
  | f + 1, k, c, d, N, has, p :: l =>
    if comes k c (p :: l) then
      if k = 2 ∧ p.2.2.2.1 ∈ has then .bad 7 p.2.1
      else if low p.2.2.1 l then .bad 10 p.2.1
      else (blk f d N l).bind fun a =>
        plus (if k = 2 then [p.2.2.2.1] else []) [N] a.1 (itm f k c d (N + a.1.length) (if k = 2 then has ++ [p.2.2.2.1] else has) a.2)
    else .ok ([], [], [], p :: l)
end
/-- The block of a piece of line n, column c. -/
def und (f : Nat) (n c : Int) (d N : Nat) (l : List Pc) : BR := if low c l then .bad 10 n else blk f d N l
def fuel (l : List Pc) : Nat := 2 * l.length + 2
/-- A document's nodes, or what is wrong. -/
def doc (l : List Pc) : Out (List Nd) :=
  if l = [] then .bad 10 1
  else (blk (fuel l) 1 0 l).bind fun a => match a.2 with
    | [] => .ok a.1
    | q :: _ => .bad 6 q.2.1
def nodes (l : List Pc) : List Nd := match doc l with
  | .ok a => a
  | .bad _ _ => []
def fault (l : List Pc) : Int × Int := match doc l with
  | .ok _ => (0, 0)
  | .bad k n => (k, n)

theorem plus_nil (o : IR) : plus [] [] [] o = o := by cases o <;> simp [plus, Out.bind]
theorem plus_plus (k1 : List B) (i1 : List Nat) (n1 : List Nd) (k2 : List B) (i2 : List Nat) (n2 : List Nd) (o : IR) : plus k1 i1 n1 (plus k2 i2 n2 o) = plus (k1 ++ k2) (i1 ++ i2) (n1 ++ n2) o := by
  cases o <;> simp [plus, Out.bind]
theorem plus_ok {ks : List B} {is : List Nat} {ns : List Nd} {o : IR} {a : List B × List Nat × List Nd × List Pc} (h : plus ks is ns o = .ok a) : ∃ b, o = .ok b ∧ a = (ks ++ b.1, is ++ b.2.1, ns ++ b.2.2.1, b.2.2.2) := by
  cases o with
  | bad k n => simp [plus, Out.bind] at h
  | ok b => exact ⟨b, rfl, by simpa [plus, Out.bind] using h.symm⟩
theorem bind_ok {α β : Type} {o : Out α} {f : α → Out β} {b : β} (h : o.bind f = .ok b) : ∃ a, o = .ok a ∧ f a = .ok b := by
  cases o with
  | bad k n => simp [Out.bind] at h
  | ok a => exact ⟨a, rfl, h⟩
theorem bind_bad {α β : Type} {o : Out α} {f : α → Out β} {k n : Int} (h : o.bind f = .bad k n) : o = .bad k n ∨ ∃ a, o = .ok a ∧ f a = .bad k n := by
  cases o with
  | bad k' n' => simp only [Out.bind, Out.bad.injEq] at h; obtain ⟨rfl, rfl⟩ := h; exact .inl rfl
  | ok a => exact .inr ⟨a, rfl, h⟩
theorem nk_three {k : Int} (h : nk k ≠ 0) : k = 1 ∨ k = 2 ∨ k = 3 := by
  unfold nk at h
  split at h
  · exact .inl ‹_›
  split at h
  · exact .inr (.inl ‹_›)
  split at h
  · exact .inr (.inr ‹_›)
  exact absurd rfl h
theorem comes_iff {k c : Int} {p : Pc} {l : List Pc} : comes k c (p :: l) = true ↔ p.1 = k ∧ p.2.2.1 = c := by simp [comes]

/-- What is left is no more than there was; there are nodes, never more than 2000; a block has one, at the least. -/
structure Fine (N : Nat) (l : List Pc) (ns : List Nd) (r : List Pc) : Prop where
  suf : ∃ t, l = t ++ r
  many : N + ns.length ≤ 2000
theorem Fine.len {N : Nat} {l : List Pc} {ns : List Nd} {r : List Pc} (h : Fine N l ns r) : r.length ≤ l.length := by
  obtain ⟨t, rfl⟩ := h.suf; simp
theorem both_fine : ∀ f, (∀ d N l a, blk f d N l = .ok a → Fine N l a.1 a.2 ∧ 1 ≤ a.1.length ∧ a.2.length < l.length) ∧
    (∀ k c d N has l a, N ≤ 2000 → itm f k c d N has l = .ok a → Fine N l a.2.2.1 a.2.2.2 ∧ a.2.1.length ≤ a.2.2.1.length ∧ a.1.length ≤ a.2.1.length ∧ (comes k c l = true → a.2.2.2.length < l.length))
  | 0 => ⟨by simp [blk], by simp [itm]⟩
  | f + 1 => by
    obtain ⟨hb, hi⟩ := both_fine f
    constructor
    · intro d N l a h
      cases l with
      | nil => simp [blk] at h
      | cons p l =>
        rw [blk] at h
        split at h
        · cases h
        rename_i hk
        split at h
        · cases h
        split at h
        · cases h
        rename_i hN
        split at h
        · simp only [Out.ok.injEq] at h
          subst h
          exact ⟨⟨⟨[p], rfl⟩, by simp; omega⟩, by simp, by simp⟩
        · obtain ⟨b, hb1, hb2⟩ := bind_ok h
          obtain ⟨⟨hs, hm⟩, h2, h3, h4⟩ := hi _ _ _ _ _ _ _ (by omega) hb1
          simp only [Out.ok.injEq] at hb2
          subst hb2
          have := h4 (by simp [comes])
          exact ⟨⟨hs, by simp; omega⟩, by simp, this⟩
    · intro k c d N has l a hN h
      cases l with
      | nil =>
        simp only [itm, Out.ok.injEq] at h
        subst h
        exact ⟨⟨⟨[], rfl⟩, by simpa using hN⟩, by simp, by simp, by simp [comes]⟩
      | cons p l =>
        rw [itm] at h
        split at h
        · rename_i hc
          split at h
          · cases h
          split at h
          · cases h
          obtain ⟨b, hb1, hb2⟩ := bind_ok h
          obtain ⟨q, hq1, rfl⟩ := plus_ok hb2
          obtain ⟨⟨⟨t, ht⟩, hm⟩, h2, h3⟩ := hb _ _ _ _ hb1
          obtain ⟨⟨⟨t', ht'⟩, hm'⟩, h2', h3', h4'⟩ := hi _ _ _ _ _ _ _ (by omega) hq1
          refine ⟨⟨⟨p :: (t ++ t'), by rw [ht, ht']; simp⟩, ?_⟩, ?_, ?_, ?_⟩
          · simp only [List.length_append]; omega
          · simp only [List.length_append, List.length_cons, List.length_nil]; omega
          · simp only [List.length_append, List.length_cons, List.length_nil]; split <;> simp <;> omega
          · intro _
            have : q.2.2.2.length ≤ b.2.length := by rw [ht']; simp
            simp only [List.length_cons]; omega
        · rename_i hc
          simp only [Out.ok.injEq] at h
          subst h
          exact ⟨⟨⟨[], rfl⟩, by simpa using hN⟩, by simp, by simp, fun h => absurd h hc⟩
theorem blk_fine {f d N : Nat} {l : List Pc} {ns : List Nd} {r : List Pc} (h : blk f d N l = .ok (ns, r)) : Fine N l ns r ∧ 1 ≤ ns.length ∧ r.length < l.length := (both_fine f).1 _ _ _ _ h
theorem itm_fine {f : Nat} {k c : Int} {d N : Nat} {has : List B} {l : List Pc} {ks : List B} {is : List Nat} {ns : List Nd} {r : List Pc} (hN : N ≤ 2000) (h : itm f k c d N has l = .ok (ks, is, ns, r)) : Fine N l ns r ∧ is.length ≤ ns.length ∧ ks.length ≤ is.length := by
  obtain ⟨h1, h2, h3, _⟩ := (both_fine f).2 _ _ _ _ _ _ _ hN h
  exact ⟨h1, h2, h3⟩
/-- What is wrong has a kind. -/
theorem both_bad : ∀ f, (∀ d N l k n, blk f d N l = .bad k n → k ≠ 0) ∧ (∀ k' c d N has l k n, itm f k' c d N has l = .bad k n → k ≠ 0)
  | 0 => ⟨by intro d N l k n h; simp only [blk, Out.bad.injEq] at h; omega, by intro k' c d N has l k n h; simp only [itm, Out.bad.injEq] at h; omega⟩
  | f + 1 => by
    obtain ⟨hb, hi⟩ := both_bad f
    constructor
    · intro d N l k n h
      cases l with
      | nil => simp only [blk, Out.bad.injEq] at h; omega
      | cons p l =>
        rw [blk] at h
        split at h
        · simp only [Out.bad.injEq] at h; omega
        split at h
        · simp only [Out.bad.injEq] at h; omega
        split at h
        · simp only [Out.bad.injEq] at h; omega
        split at h
        · cases h
        rcases bind_bad h with h | ⟨b, _, h⟩
        · exact hi _ _ _ _ _ _ _ _ h
        · cases h
    · intro k' c d N has l k n h
      cases l with
      | nil => simp [itm] at h
      | cons p l =>
        rw [itm] at h
        split at h
        · split at h
          · simp only [Out.bad.injEq] at h; omega
          split at h
          · simp only [Out.bad.injEq] at h; omega
          rcases bind_bad h with h | ⟨b, _, h⟩
          · exact hb _ _ _ _ _ h
          · rcases bind_bad h with h | ⟨b, _, h⟩
            · exact hi _ _ _ _ _ _ _ _ h
            · cases h
        · cases h
theorem blk_bad {f d N : Nat} {l : List Pc} {k n : Int} (h : blk f d N l = .bad k n) : k ≠ 0 := (both_bad f).1 _ _ _ _ _ h
theorem und_bad {f d N : Nat} {m c : Int} {l : List Pc} {k n : Int} (h : und f m c d N l = .bad k n) : k ≠ 0 := by
  unfold und at h
  split at h
  · simp only [Out.bad.injEq] at h; omega
  · exact blk_bad h
theorem und_fine {f d N : Nat} {m c : Int} {l : List Pc} {ns : List Nd} {r : List Pc} (h : und f m c d N l = .ok (ns, r)) : Fine N l ns r ∧ 1 ≤ ns.length ∧ r.length < l.length := by
  unfold und at h
  split at h
  · cases h
  · exact blk_fine h

/-- A list has no keys. -/
theorem dash_keys : ∀ {f : Nat} {c : Int} {d N : Nat} {has : List B} {l : List Pc} {a : List B × List Nat × List Nd × List Pc}, itm f 1 c d N has l = .ok a → a.1 = []
  | 0, _, _, _, _, _, _, h => by simp [itm] at h
  | f + 1, c, d, N, has, l, a, h => by
    cases l with
    | nil =>
      simp only [itm, Out.ok.injEq] at h
      rw [← h]
    | cons p l =>
      rw [itm] at h
      split at h
      · split at h
        · cases h
        split at h
        · cases h
        obtain ⟨b, _, hb2⟩ := bind_ok h
        obtain ⟨q, hq1, rfl⟩ := plus_ok hb2
        have := dash_keys hq1
        simp [this]
      · simp only [Out.ok.injEq] at h
        rw [← h]
/-! ### A block, by its ways -/
section
variable {f d N : Nat} {p : Pc} {l : List Pc}
theorem blk_kind (h : nk p.1 = 0) : blk (f + 1) d N (p :: l) = .bad 6 p.2.1 := by rw [blk, if_pos h]
theorem blk_deep (h : nk p.1 ≠ 0) (h1 : 24 < d) : blk (f + 1) d N (p :: l) = .bad 8 p.2.1 := by rw [blk, if_neg h, if_pos h1]
theorem blk_many (h : nk p.1 ≠ 0) (h1 : ¬ 24 < d) (h2 : 2000 ≤ N) : blk (f + 1) d N (p :: l) = .bad 9 p.2.1 := by rw [blk, if_neg h, if_neg h1, if_pos h2]
theorem blk_text (h : p.1 = 3) (h1 : ¬ 24 < d) (h2 : ¬ 2000 ≤ N) : blk (f + 1) d N (p :: l) = .ok ([leaf p], l) := by rw [blk, if_neg (by rw [h]; decide), if_neg h1, if_neg h2, if_pos h]
theorem blk_in (h : p.1 = 1 ∨ p.1 = 2) (h1 : ¬ 24 < d) (h2 : ¬ 2000 ≤ N) : blk (f + 1) d N (p :: l) = (itm f p.1 p.2.2.1 (d + 1) (N + 1) [] (p :: l)).bind fun a => .ok (⟨nk p.1, p.2.1, [], false, a.1, a.2.1⟩ :: a.2.2.1, a.2.2.2) := by
  rw [blk, if_neg, if_neg h1, if_neg h2, if_neg]
  · rcases h with h | h <;> rw [h] <;> decide
  · rcases h with h | h <;> rw [h] <;> decide
variable {k c : Int} {has : List B}
theorem itm_end (h : comes k c l = false) : itm (f + 1) k c d N has l = .ok ([], [], [], l) := by
  cases l with
  | nil => rw [itm]
  | cons p l => rw [itm, if_neg (by simp [h])]
theorem itm_twice (h : comes k c (p :: l) = true) (h1 : k = 2 ∧ p.2.2.2.1 ∈ has) : itm (f + 1) k c d N has (p :: l) = .bad 7 p.2.1 := by rw [itm, if_pos h, if_pos h1]
theorem itm_no (h : comes k c (p :: l) = true) (h1 : ¬ (k = 2 ∧ p.2.2.2.1 ∈ has)) {m n : Int} (h2 : und f p.2.1 p.2.2.1 d N l = .bad m n) : itm (f + 1) k c d N has (p :: l) = .bad m n := by
  rw [itm, if_pos h, if_neg h1]
  unfold und at h2
  split at h2
  · rename_i hl; simp only [Out.bad.injEq] at h2; rw [if_pos hl, h2.1, h2.2]
  · rename_i hl; rw [if_neg hl, h2]; rfl
theorem itm_go (h : comes k c (p :: l) = true) (h1 : ¬ (k = 2 ∧ p.2.2.2.1 ∈ has)) {ns : List Nd} {r : List Pc} (h2 : und f p.2.1 p.2.2.1 d N l = .ok (ns, r)) : itm (f + 1) k c d N has (p :: l) = plus (if k = 2 then [p.2.2.2.1] else []) [N] ns (itm f k c d (N + ns.length) (if k = 2 then has ++ [p.2.2.2.1] else has) r) := by
  rw [itm, if_pos h, if_neg h1]
  unfold und at h2
  split at h2
  · cases h2
  · rename_i hl; rw [if_neg hl, h2]; rfl
end
end DC
end Go.Proofs.YtmgalfdiiegjjaaGreatDoor

/- Trees of documents over lists: their nodes in a row, their pieces, and that the pieces are read as the nodes. No program is named here. -/
namespace Go.Proofs.YtmgalfdiiegjjaaGreatDoor
namespace SH
open LX (B Pc)
open DC (Nd blk itm)

mutual
inductive Tr where
  | text (t : B) (q : Bool)
  | list (k : Fo)
  | map (k : Fo)
inductive Fo where
  | nil
  | cons (key : B) (t : Tr) (r : Fo)
end
mutual
def sizeT : Tr → Nat
  | .text _ _ => 1
  | .list k => sizeF k + 1
  | .map k => sizeF k + 1
def sizeF : Fo → Nat
  | .nil => 0
  | .cons _ t r => sizeT t + sizeF r
end
def keysF : Fo → List B
  | .nil => []
  | .cons key _ r => key :: keysF r
def kidsF : Fo → Nat → List Nat
  | .nil, _ => []
  | .cons _ t r, N => N :: kidsF r (N + sizeT t)
mutual
/-- The nodes, the first of number N, all in line 0. -/
def flatT : Tr → Nat → List Nd
  | .text t q, _ => [⟨1, 0, t, q, [], []⟩]
  | .list k, N => ⟨2, 0, [], false, [], kidsF k (N + 1)⟩ :: flatF k (N + 1)
  | .map k, N => ⟨3, 0, [], false, keysF k, kidsF k (N + 1)⟩ :: flatF k (N + 1)
def flatF : Fo → Nat → List Nd
  | .nil, _ => []
  | .cons _ t r, N => flatT t N ++ flatF r (N + sizeT t)
end
mutual
theorem flatT_len : ∀ (t : Tr) (N : Nat), (flatT t N).length = sizeT t
  | .text _ _, _ => rfl
  | .list k, N => by rw [flatT, List.length_cons, flatF_len k, sizeT]
  | .map k, N => by rw [flatT, List.length_cons, flatF_len k, sizeT]
theorem flatF_len : ∀ (k : Fo) (N : Nat), (flatF k N).length = sizeF k
  | .nil, _ => rfl
  | .cons _ t r, N => by rw [flatF, List.length_append, flatT_len t, flatF_len r, sizeF]
end
mutual
/-- So deep that all under it may stand. -/
def depT : Tr → Nat → Prop
  | .text _ _, d => d ≤ 24
  | .list k, d => d ≤ 24 ∧ depF k (d + 1)
  | .map k, d => d ≤ 24 ∧ depF k (d + 1)
def depF : Fo → Nat → Prop
  | .nil, _ => True
  | .cons _ t r, d => depT t d ∧ depF r d
end
mutual
/-- Lists and maps have kids; a map's keys are unlike. -/
def okT : Tr → Prop
  | .text _ _ => True
  | .list k => k ≠ .nil ∧ (∀ x ∈ keysF k, x = []) ∧ okF k
  | .map k => k ≠ .nil ∧ (keysF k).Nodup ∧ okF k
def okF : Fo → Prop
  | .nil => True
  | .cons _ t r => okT t ∧ okF r
end
mutual
/-- Those are its pieces, at that column, in whatever lines. -/
def ShT : Tr → Int → List Pc → Prop
  | .text t q, c, l => ∃ no, l = [(3, no, c, t, q)]
  | .list k, c, l => ShF k 1 c l
  | .map k, c, l => ShF k 2 c l
def ShF : Fo → Int → Int → List Pc → Prop
  | .nil, _, _, l => l = []
  | .cons key t r, k, c, l => ∃ no c' a b, c < c' ∧ l = (k, no, c, key, false) :: (a ++ b) ∧ ShT t c' a ∧ ShF r k c b
end
def z (n : Nd) : Nd := { n with line := 0 }
/-- What stands behind is further out. -/
def Out (c : Int) (l : List Pc) : Prop := ∀ q m, l = q :: m → q.2.2.1 < c
theorem Out.comes {c k : Int} {l : List Pc} (h : Out c l) : DC.comes k c l = false := by
  cases l with
  | nil => rfl
  | cons q m =>
    have := h q m rfl
    unfold DC.comes
    rw [Bool.and_eq_false_iff]
    exact .inr (decide_eq_false (by omega))
theorem shF_out {r : Fo} {k c c' : Int} {b rest : List Pc} (h : ShF r k c b) (hc : c < c') (ho : Out c rest) : Out c' (b ++ rest) := by
  cases r with
  | nil =>
    rw [ShF] at h
    subst h
    intro q m e
    have := ho q m e
    omega
  | cons key t r =>
    rw [ShF] at h
    obtain ⟨no, c2, a, b2, _, rfl, _⟩ := h
    intro q m e
    rw [List.cons_append] at e
    obtain ⟨rfl, -⟩ := List.cons.inj e
    exact hc
theorem shT_head : ∀ (t : Tr) {c : Int} {l : List Pc}, okT t → ShT t c l → ∃ q m, l = q :: m ∧ q.2.2.1 = c ∧ (q.1 = 1 ∨ q.1 = 2 ∨ q.1 = 3)
  | .text t q, c, l, _, h => by
    rw [ShT] at h
    obtain ⟨no, rfl⟩ := h
    exact ⟨_, _, rfl, rfl, .inr (.inr rfl)⟩
  | .list k, c, l, ho, h => by
    rw [okT] at ho
    rw [ShT] at h
    cases k with
    | nil => exact absurd rfl ho.1
    | cons key t r =>
      rw [ShF] at h
      obtain ⟨no, c2, a, b2, _, rfl, _⟩ := h
      exact ⟨_, _, rfl, rfl, .inl rfl⟩
  | .map k, c, l, ho, h => by
    rw [okT] at ho
    rw [ShT] at h
    cases k with
    | nil => exact absurd rfl ho.1
    | cons key t r =>
      rw [ShF] at h
      obtain ⟨no, c2, a, b2, _, rfl, _⟩ := h
      exact ⟨_, _, rfl, rfl, .inr (.inl rfl)⟩
mutual
/-- A tree's pieces are read as its nodes. -/
theorem blk_flat : ∀ (t : Tr) {c : Int} {l : List Pc} (f d N : Nat) {rest : List Pc}, ShT t c l → okT t → depT t d → N + sizeT t ≤ 2000 → 2 * (l ++ rest).length + 2 ≤ f → Out c rest →
    ∃ ms, blk f d N (l ++ rest) = .ok (ms, rest) ∧ ms.map z = flatT t N
  | .text t q, c, l, f, d, N, rest, hs, ho, hd, hN, hf, hr => by
    rw [ShT] at hs
    obtain ⟨no, rfl⟩ := hs
    rw [depT] at hd
    rw [sizeT] at hN
    obtain ⟨f, rfl⟩ : ∃ g, f = g + 1 := ⟨f - 1, by omega⟩
    exact ⟨_, DC.blk_text rfl (by omega) (by omega), rfl⟩
  | .list k, c, l, f, d, N, rest, hs, ho, hd, hN, hf, hr => by
    rw [okT] at ho
    rw [depT] at hd
    rw [sizeT] at hN
    rw [ShT] at hs
    obtain ⟨f, rfl⟩ : ∃ g, f = g + 1 := ⟨f - 1, by omega⟩
    obtain ⟨ms, h1, h2⟩ := itm_flat k 1 f (d + 1) (N + 1) [] hs (.inl rfl) ho.2.2 hd.2 (by omega) (by omega) (by simp) hr
    cases k with
    | nil => exact absurd rfl ho.1
    | cons key t r =>
      rw [ShF] at hs
      obtain ⟨no, c2, a, b2, _, rfl, _⟩ := hs
      rw [List.cons_append] at h1 ⊢
      refine ⟨⟨2, no, [], false, [], kidsF (.cons key t r) (N + 1)⟩ :: ms, ?_, ?_⟩
      · rw [DC.blk_in (.inl rfl) (by omega) (by omega)]
        simp only
        rw [h1]
        simp only [DC.Out.bind]
        rfl
      · rw [List.map_cons, h2, flatT]; rfl
  | .map k, c, l, f, d, N, rest, hs, ho, hd, hN, hf, hr => by
    rw [okT] at ho
    rw [depT] at hd
    rw [sizeT] at hN
    rw [ShT] at hs
    obtain ⟨f, rfl⟩ : ∃ g, f = g + 1 := ⟨f - 1, by omega⟩
    obtain ⟨ms, h1, h2⟩ := itm_flat k 2 f (d + 1) (N + 1) [] hs (.inr rfl) ho.2.2 hd.2 (by omega) (by omega) (fun _ => ⟨ho.2.1, by simp⟩) hr
    cases k with
    | nil => exact absurd rfl ho.1
    | cons key t r =>
      rw [ShF] at hs
      obtain ⟨no, c2, a, b2, _, rfl, _⟩ := hs
      rw [List.cons_append] at h1 ⊢
      refine ⟨⟨3, no, [], false, keysF (.cons key t r), kidsF (.cons key t r) (N + 1)⟩ :: ms, ?_, ?_⟩
      · rw [DC.blk_in (.inr rfl) (by omega) (by omega)]
        simp only
        rw [h1]
        rfl
      · rw [List.map_cons, h2, flatT]; rfl
theorem itm_flat : ∀ (r : Fo) (k : Int) {c : Int} {l : List Pc} (f d N : Nat) (has : List B) {rest : List Pc}, ShF r k c l → (k = 1 ∨ k = 2) → okF r → depF r d → N + sizeF r ≤ 2000 → 2 * (l ++ rest).length + 1 ≤ f → (k = 2 → (keysF r).Nodup ∧ ∀ x ∈ keysF r, x ∉ has) → Out c rest →
    ∃ ms, itm f k c d N has (l ++ rest) = .ok (if k = 2 then keysF r else [], kidsF r N, ms, rest) ∧ ms.map z = flatF r N
  | .nil, k, c, l, f, d, N, has, rest, hs, hk, ho, hd, hN, hf, hh, hr => by
    rw [ShF] at hs
    subst hs
    obtain ⟨f, rfl⟩ : ∃ g, f = g + 1 := ⟨f - 1, by omega⟩
    refine ⟨[], ?_, rfl⟩
    rw [List.nil_append, DC.itm_end hr.comes]
    simp [keysF, kidsF]
  | .cons key t r, k, c, l, f, d, N, has, rest, hs, hk, ho, hd, hN, hf, hh, hr => by
    rw [ShF] at hs
    obtain ⟨no, c', a, b, hc, rfl, ha, hb⟩ := hs
    rw [okF] at ho
    rw [depF] at hd
    rw [sizeF] at hN
    obtain ⟨f, rfl⟩ : ∃ g, f = g + 1 := ⟨f - 1, by omega⟩
    simp only [List.length_append, List.length_cons] at hf
    obtain ⟨ms, h1, h2⟩ := blk_flat t f d N ha ho.1 hd.1 (by omega) (by simp only [List.length_append]; omega) (shF_out hb hc hr)
    obtain ⟨ns, h3, h4⟩ := itm_flat r k f d (N + sizeT t) (if k = 2 then has ++ [key] else has) hb hk ho.2 hd.2 (by omega) (by simp only [List.length_append]; omega) (fun e => by
      obtain ⟨n1, n2⟩ := hh e
      rw [keysF, List.nodup_cons] at n1
      refine ⟨n1.2, fun x hx => ?_⟩
      rw [if_pos e, List.mem_append, List.mem_singleton]
      rintro (h | h)
      · exact n2 x (by rw [keysF]; exact List.mem_cons_of_mem _ hx) h
      · exact n1.1 (h ▸ hx)) hr
    obtain ⟨q, m, hq, hqc, _⟩ := shT_head t ho.1 ha
    have hu : DC.und f no c d N ((a ++ b) ++ rest) = .ok (ms, b ++ rest) := by
      unfold DC.und
      rw [if_neg, List.append_assoc, h1]
      rw [hq]
      simp only [List.cons_append, DC.low, decide_eq_true_eq]
      omega
    have hl : ms.length = sizeT t := by rw [← flatT_len t N, ← h2, List.length_map]
    refine ⟨ms ++ ns, ?_, ?_⟩
    · rw [List.cons_append, DC.itm_go (p := (k, no, c, key, false)) (by simp [DC.comes]) (fun h => (hh h.1).2 key (by rw [keysF]; simp) h.2) hu, hl]
      simp only
      rw [h3]
      rcases hk with rfl | rfl
      · simp [DC.plus, DC.Out.bind, kidsF]
      · simp [DC.plus, DC.Out.bind, kidsF, keysF]
    · rw [List.map_append, h2, h4, flatF]
end
/-- A whole document. -/
theorem doc_flat (t : Tr) {c : Int} {l : List Pc} (hs : ShT t c l) (ho : okT t) (hd : depT t 1) (hN : sizeT t ≤ 2000) : ∃ ms, DC.doc l = .ok ms ∧ ms.map z = flatT t 0 := by
  obtain ⟨q, m, hq, _⟩ := shT_head t ho hs
  obtain ⟨ms, h1, h2⟩ := blk_flat t (DC.fuel l) 1 0 (rest := []) hs ho hd (by omega) (by rw [List.append_nil]; unfold DC.fuel; omega) (by intro q m e; cases e)
  rw [List.append_nil] at h1
  refine ⟨ms, ?_, h2⟩
  unfold DC.doc
  rw [if_neg (by rw [hq]; simp), h1]
  rfl
end SH
end Go.Proofs.YtmgalfdiiegjjaaGreatDoor
