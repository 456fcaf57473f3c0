/- A part of the proof. -/
import Derived.Test.YtgfhabofhefaaaaGreatDoorSA48
import Derived.Test.YtgfhabofhefaaaaGreatDoorSA18
namespace Go.Proofs.YtgfhabofhefaaaaGreatDoor
open Go.RowKit
namespace LN
def seg (bs : List UInt8) (a e : Nat) : List UInt8 := (bs.drop a).take (e - a)
theorem seg_self (bs : List UInt8) (a : Nat) : seg bs a a = [] := by simp [seg]
theorem seg_next {bs : List UInt8} {a e : Nat} {c : UInt8} (h : bs[e]? = some c) (ha : a ≤ e) : seg bs a (e + 1) = seg bs a e ++ [c] := by
  have he : e < bs.length := (List.getElem?_eq_some_iff.1 h).1
  unfold seg
  rw [show e + 1 - a = (e - a) + 1 by omega, List.take_succ_eq_append_getElem (by rw [List.length_drop]; omega)]
  congr 2
  rw [List.getElem_drop]
  rw [List.getElem?_eq_getElem he] at h
  have := Option.some.inj h
  rw [← this]
  congr 1; omega
theorem seg_len {bs : List UInt8} {a e : Nat} (h : e ≤ bs.length) : (seg bs a e).length = e - a := by
  unfold seg; simp; omega
theorem seg_at {bs : List UInt8} {a e j : Nat} (h : a + j < e) : (seg bs a e)[j]? = bs[a + j]? := by
  unfold seg
  rw [List.getElem?_take_of_lt (by omega), List.getElem?_drop]
theorem seg_cut {bs : List UInt8} {a m e : Nat} (_h : a + m ≤ e) (_he : e ≤ bs.length) : (bs.take e).drop (a + m) = (seg bs a e).drop m := by
  unfold seg
  rw [List.drop_take, List.drop_take, List.drop_drop]
  congr 1; omega
def RS (bs : List UInt8) (a : Nat) : List (List UInt8) := if a ≤ bs.length then rows (bs.drop a) else []
theorem RS_zero (bs : List UInt8) : RS bs 0 = rows bs := by simp [RS]
theorem RS_next {bs : List UInt8} {a e : Nat} (ha : a ≤ e) (he : e ≤ bs.length) (hn : 10 ∉ seg bs a e) (hc : e = bs.length ∨ bs[e]? = some 10) : RS bs a = seg bs a e :: RS bs (e + 1) := by
  unfold RS
  rw [if_pos (by omega)]
  rcases hc with rfl | hc
  · have : seg bs a bs.length = bs.drop a := by unfold seg; rw [List.take_of_length_le (by simp)]
    rw [this] at hn ⊢
    rw [rows_one hn, if_neg (by omega)]
  · have hlt := (List.getElem?_eq_some_iff.1 hc).1
    have hd : bs.drop a = seg bs a e ++ 10 :: bs.drop (e + 1) := by
      unfold seg
      conv => lhs; rw [← List.take_append_drop (e - a) (bs.drop a)]
      rw [List.drop_drop, show a + (e - a) = e by omega, drop_of hc]
    rw [if_pos (by omega)]
    conv => lhs; rw [hd, rows_app, rows_one hn]
    rfl
theorem RS_end {bs : List UInt8} {a no : Nat} (h : bs.length ≤ a) : flt no (RS bs a) = (0, 0) ∧ lns no (RS bs a) = [] := by
  unfold RS
  split
  · rw [List.drop_eq_nil_of_le h]
    have h1 : kind [] = 0 := by decide
    have h2 : said [] = [] := by decide
    simp [rows, flt, lns, h1, h2]
  · exact ⟨rfl, rfl⟩
theorem tl_drop {r : List UInt8} {m : Nat} (hm : m ≤ r.length) (h1 : ∀ j, j < m → r[j]? = some 32) (h2 : ∀ c, r[m]? = some c → c ≠ 32) : tl r = r.drop m := by
  unfold tl
  exact Lib.trimLeftB_drop r 32 m hm (fun j b hj hb => by rw [h1 j hj] at hb; exact (Option.some.inj hb).symm) h2
end LN
structure LJ (w wr : World) (s4 : Value) (acc : List LN.Ln) : Prop where
  bl : Below (w.heap.size + 1) (w.alloc (.cells #[.int .i64 0, .int .i64 0] 39)) wr
  own : Ownn wr (w.heap.size + 1) s4 acc
theorem LJ.big {w wr : World} {s4 : Value} {acc : List LN.Ln} (h : LJ w wr s4 acc) : w.heap.size + 1 ≤ wr.heap.size := by
  have := h.bl.size
  rwa [bx_size] at this
theorem LJ.calm {w wr w' : World} {s4 : Value} {acc : List LN.Ln} (h : LJ w wr s4 acc) (hb : Below wr.heap.size wr w') : LJ w w' s4 acc := ⟨h.bl.trans (hb.mono h.big), h.own.below hb⟩
theorem LJ.grown {w wr w' : World} {s4 s4' : Value} {acc acc' : List LN.Ln} (h : LJ w wr s4 acc) (hg : wr.grownBy w' s4.ownBlock) (ho : Ownn w' (w.heap.size + 1) s4' acc') : LJ w w' s4' acc' :=
  ⟨h.bl.grown hg h.big (fun _ hk => (h.own.ownBlock hk).2.1), ho⟩
theorem LJ.st {w wr : World} {s4 : Value} {acc : List LN.Ln} (h : LJ w wr s4 acc) : Str wr w.heap.size 39 #[.int .i64 0, .int .i64 0] := by
  have hb := h.bl
  rw [← bx_size w (.cells #[.int .i64 0, .int .i64 0] 39)] at hb
  exact (Str.new w 39 #[.int .i64 0, .int .i64 0]).below hb
theorem LJ.old {w wr : World} {s4 : Value} {acc : List LN.Ln} (h : LJ w wr s4 acc) : Below w.heap.size w wr := (below_alloc w _).trans (h.bl.mono (Nat.le_succ _))
theorem bad_next {s : List UInt8} {c : UInt8} {b : Bool} (hb : b = LN.bad s) : LN.bad (s ++ [c]) = (b || wrongB c) := by
  unfold LN.bad at *
  rw [List.any_append, ← hb]
  simp [wrongB]
theorem kind3 {r R : List UInt8} (hb : LN.bad r = false) (ht : LN.tl r = R) (hs : stB R = false) : LN.kind r = 3 := by
  unfold LN.kind
  rw [if_neg (by rw [hb]; simp), ht]
  unfold stB at hs
  rw [if_pos (by simpa using hs)]
theorem kind0 {r R : List UInt8} (hb : LN.bad r = false) (ht : LN.tl r = R) (hs : stB R = true) : LN.kind r = 0 := by
  unfold LN.kind
  rw [if_neg (by rw [hb]; simp), ht]
  unfold stB at hs
  rw [if_neg (by intro e; rw [e] at hs; cases hs)]
theorem said_of {r R S : List UInt8} (ht : LN.tl r = R) (hS : S = stS R) : LN.said r = S := by
  unfold LN.said
  rw [ht, hS]; rfl
theorem ind_of {r R : List UInt8} {m : Nat} (ht : LN.tl r = R) (hR : R = r.drop m) (hm : m ≤ r.length) : LN.ind r = m := by
  unfold LN.ind
  rw [ht, hR, List.length_drop]; omega
theorem flt_head {no K : Nat} {r : List UInt8} {rs : List (List UInt8)} (h : LN.kind r = K) (hK : K ≠ 0) : LN.flt no (r :: rs) = (K, no) := by
  rw [LN.flt, if_neg (by rw [h]; exact hK), h]
theorem flt_tail {no : Nat} {r : List UInt8} {rs : List (List UInt8)} (h : LN.kind r = 0) : LN.flt no (r :: rs) = LN.flt (no + 1) rs := by
  rw [LN.flt, if_pos h]
theorem lns_none {no : Nat} {r S : List UInt8} {rs : List (List UInt8)} (h : LN.said r = S) (hS : S = []) : LN.lns no (r :: rs) = LN.lns (no + 1) rs := by
  rw [LN.lns, if_pos (by rw [h]; exact hS)]
theorem lns_some {no m : Nat} {r S : List UInt8} {rs : List (List UInt8)} (h : LN.said r = S) (hi : LN.ind r = m) (hS : ¬ S = []) : LN.lns no (r :: rs) = (no, m, S) :: LN.lns (no + 1) rs := by
  rw [LN.lns, if_neg (by rw [h]; exact hS), h, hi]
theorem empty_rd (w : World) (x : Addr) (c : Nat) (hc : c ≤ maxLen) : Rdv w (.slice (some x) 0 c) (bv []) := ⟨some x, c, rfl, Nat.zero_le _, hc, (by intro h; cases h), by simp [bv]⟩
def Blk (r : List UInt8) (m : Nat) : Prop := ∀ j, j < m → r[j]? = some 32
def Cellz (w : World) (b off : Nat) (bs : List UInt8) : Prop := ∀ i c, bs[i]? = some c → w.cell? ⟨b, off + i, none⟩ = some (.int .u8 (c.toNat : Int))
set_option maxHeartbeats 4000000 in
set_option maxRecDepth 4000 in
theorem rlines_any (v : Value) (bs : List UInt8) (w : World) (hr : Rdv w v (bv bs)) :
    Calls Tryz.prog 32 #[v] w (LinE w bs) := by
  by_cases hbig : 16384 < bs.length
  · have HB := Lib.hid hbig
    have hln := hr.len_le
    obtain ⟨ao, cap, rfl, -⟩ := hr
    rw [bv_len] at hln ⊢
    obtain ⟨n, hn⟩ : ∃ n, bs.length = n := ⟨_, rfl⟩
    rw [hn] at hbig hln ⊢
    unfold maxLen at hln
    have hb2 : (16384 : Int) < (n : Int) := by omega
    clear hn
    go_enter Tryz.func32, Tryz.ntmps32
    go_wp2
    (try simp only [Exit.inBlock, Exit.then])
    refine bodyPost_ret (ret_bc rfl rfl rfl (Str.new w _ _) Tryz.underlying39 rfl fault_size) rfl ?_
    exact lin_big HB.out (below_alloc w _)
  · have HR := Lib.hid hr
    have HBG := Lib.hid hbig
    obtain ⟨ao, cap, rfl, hcap1, hcap2, -⟩ := hr
    rw [bv_len] at HR hcap1 ⊢
    unfold maxLen at hcap2
    obtain ⟨n, hn⟩ : ∃ n, bs.length = n := ⟨_, rfl⟩
    rw [hn] at hbig HR hcap1 ⊢
    have hb2 : ¬ (16384 : Int) < (n : Int) := by omega
    have hn9 : n ≤ 16384 := by omega
    have HN := Lib.hid hn
    have H0 := Lib.hid (show LJ w (w.alloc (.cells #[.int .i64 0, .int .i64 0] 39)) (.slice none 0 0) [] from ⟨Below.refl _ _, Ownn.nil _ _⟩)
    clear hn
    go_enter Tryz.func32, Tryz.ntmps32
    go_wp2
    go_loopg [4, 5, 6] (n + 1) (fun g s4 s5 s6 wr => ∃ (at0 no : Nat) (acc : List LN.Ln) (a4 : Option Addr) (c4 : Nat), at0 + g = n + 1 ∧ no ≤ at0 + 1 ∧ acc.length ≤ no ∧ s4 = .slice a4 acc.length c4 ∧ s5 = .int .i64 (at0 : Int) ∧ s6 = .int .i64 (no : Int) ∧ Hid (LJ w wr (.slice a4 acc.length c4) acc) ∧ Hid (LN.flt 1 (LN.rows bs) = LN.flt no (LN.RS bs at0)) ∧ Hid (LN.lns 1 (LN.rows bs) = acc ++ LN.lns no (LN.RS bs at0)))
    case atStart => exact ⟨0, 1, [], none, 0, by omega, by omega, by simp, rfl, rfl, rfl, H0, by rw [LN.RS_zero]; rfl, by rw [LN.RS_zero]; rfl⟩
    case round =>
      obtain ⟨at0, no, acc, a4, c4, hg, hno, hac, rfl, rfl, rfl, HJ, HF, HG⟩ := hrel
      by_cases hlt : at0 < n
      · have hlt' : (at0 : Int) < (n : Int) := by omega
        obtain ⟨b, off, cp, e1, hb, hcells⟩ := (HR.out.below HJ.out.old).at (j := at0) (by have := HN.out; omega)
        obtain ⟨rfl, rfl⟩ : ao = some ⟨b, off, none⟩ ∧ cap = cp := by
          simp at e1
          exact ⟨e1.1, e1.2.2⟩
        have HC := Lib.hid (show Cellz wr b off bs from fun i c hc => by
          have hi := (List.getElem?_eq_some_iff.1 hc).1
          rw [hcells i hi]
          rw [List.getElem?_eq_getElem hi] at hc
          rw [Option.some.inj hc])
        clear e1 hcells hb
        go_wp2
        go_loopg [7, 8] (n - at0) (fun g2 s7 s8 wx => ∃ (e : Nat) (bb : Bool), e + g2 = n ∧ at0 ≤ e ∧ s7 = .int .i64 (e : Int) ∧ s8 = .bool bb ∧ wx = wr ∧ Hid (bb = LN.bad (LN.seg bs at0 e)) ∧ Hid (10 ∉ LN.seg bs at0 e))
        case atStart => exact ⟨at0, false, by omega, Nat.le_refl _, rfl, rfl, rfl, by rw [LN.seg_self]; rfl, by rw [LN.seg_self]; exact Lib.hid (by simp)⟩
        case round =>
          obtain ⟨e, bb, hg2, hae, rfl, rfl, rfl, HBB, HT⟩ := hrel
          by_cases hen : e < n
          · have hen' : (e : Int) < (n : Int) := by omega
            obtain ⟨c, hc⟩ : ∃ c, bs[e]? = some c := ⟨bs[e]'(by have := HN.out; omega), List.getElem?_eq_getElem _⟩
            have hcell := HC.out e c hc
            by_cases hc10 : c = 10
            · subst hc10
              have hcell : wr.cell? ⟨b, off + e, none⟩ = some (.int .u8 10) := hcell
              have HRS := Lib.hid (LN.RS_next hae (by have := HN.out; omega) HT.out (.inr hc))
              clear hc HT
              cases bb
              · have HBF := Lib.hid HBB.out.symm
                clear HBB
                go_wp2
                go_loopg [9] (e - at0) (fun g3 s9 wx => ∃ m : Nat, m + g3 = e - at0 ∧ s9 = .int .i64 (m : Int) ∧ wx = wr ∧ Hid (Blk (LN.seg bs at0 e) m))
                case atStart => exact ⟨0, by omega, rfl, rfl, Lib.hid fun j h => absurd h (by omega)⟩
                case round =>
                  obtain ⟨m, hm, rfl, rfl, HM⟩ := hrel
                  obtain ⟨q, hq⟩ : ∃ q, q = at0 + m := ⟨_, rfl⟩
                  have hqi : (at0 : Int) + (m : Int) = (q : Int) := by omega
                  have HQ := Lib.hid hq
                  have hqle : q ≤ e := by omega
                  have hqa : at0 ≤ q := by omega
                  clear hq
                  by_cases hqe : q < e
                  · have hqe' : (q : Int) < (e : Int) := by omega
                    obtain ⟨y, hy⟩ : ∃ y, bs[q]? = some y := ⟨bs[q]'(by have := HN.out; omega), List.getElem?_eq_getElem _⟩
                    have hcellq := HC.out q y hy
                    by_cases hy32 : y = 32
                    · subst hy32
                      have hcellq : wr.cell? ⟨b, off + q, none⟩ = some (.int .u8 32) := hcellq
                      have HM1 := Lib.hid (show Blk (LN.seg bs at0 e) (m + 1) from fun j hj => by
                        have hq := HQ.out
                        rcases Nat.lt_or_ge j m with h | h
                        · exact HM.out j h
                        · obtain rfl : j = m := by omega
                          rw [LN.seg_at (by omega), ← HQ.out]; exact hy)
                      have hm1 : m + 1 + (gk - 1) = e - at0 := by have := HQ.out; omega
                      clear hy
                      go_wp2
                      go_roundg (gk - 1)
                      case rel => exact ⟨m + 1, hm1, rfl, rfl, HM1⟩
                      case measure => have := HQ.out; omega
                    · obtain ⟨u, hu⟩ : ∃ u : Int, (y.toNat : Int) = u := ⟨_, rfl⟩
                      rw [hu] at hcellq
                      have q32 := ne_z hu 32 (by decide) hy32
                      have hmr : m ≤ (LN.seg bs at0 e).length := by rw [LN.seg_len (by have := HN.out; omega)]; omega
                      obtain ⟨R, hR⟩ : ∃ R, R = (LN.seg bs at0 e).drop m := ⟨_, rfl⟩
                      have HRD := Lib.hid hR
                      have HTL := Lib.hid (show LN.tl (LN.seg bs at0 e) = R by
                        rw [hR]
                        refine LN.tl_drop hmr HM.out (fun c hc => ?_)
                        rw [LN.seg_at (by have := HQ.out; omega), ← HQ.out, hy] at hc
                        rw [← Option.some.inj hc]; exact hy32)
                      have hcut := (Rdv.cut2 (w := wr) (ao := some ⟨b, off, none⟩) (cap := cap) (bs := bs) (by have := HR.out.below HJ.out.old; rw [HN.out]; exact this) (l := q) (k := e - q) (by have := HN.out; omega)).1 (by omega)
                      rw [show q + (e - q) = e by omega, HQ.out, LN.seg_cut (by have := HQ.out; omega) (by have := HN.out; omega), ← hR, ← HQ.out] at hcut
                      have hcs := run_string_rd (P := Tryz.prog) 35 5 9 Tryz.underlying35 Tryz.underlying5 Tryz.underlying9 hcut
                      rw [Option.map_some, Addr.add_lit] at hcs
                      clear hy hu hy32 hmr hR hcut
                      obtain ⟨S, hS⟩ : ∃ S, S = stS R := ⟨_, rfl⟩
                      have hRl : R.length ≤ 20000 := by
                        have h1 := congrArg List.length HRD.out
                        have h2 := LN.seg_len (a := at0) (e := e) (bs := bs) (by have := HN.out; omega)
                        rw [List.length_drop, h2] at h1
                        omega
                      have HP := Lib.hid (show ∀ x : World, Calls Tryz.prog 60 #[.string ⟨R.toArray⟩] x fun e w' => e = .returned (.tuple #[.string ⟨S.toArray⟩, .bool (stB R)]) ∧ w' = x from fun x => by rw [hS]; exact rstrip_any R hRl x)
                      have HSD := Lib.hid (said_of HTL.out hS)
                      have HIN := Lib.hid (ind_of (m := m) HTL.out HRD.out (by rw [LN.seg_len (by have := HN.out; omega)]; omega))
                      clear hS hRl HM HRD
                      cases hst : stB R with
                      | false =>
                        have E := Lib.hid (show LN.flt 1 (LN.rows bs) = (3, no) by rw [HF.out, HRS.out]; exact flt_head (kind3 HBF.out HTL.out hst) (by decide))
                        rw [hst] at HP
                        have HSr := Lib.hid HJ.out.st
                        have hpw : w.heap.size < wr.heap.size := HSr.out.lt
                        obtain ⟨c0, c1⟩ := HSr.out.cells2
                        obtain ⟨f0, f1, -⟩ := HSr.out.frozen4
                        clear hst HF HG
                        go_wp2_with (go_at_call 60; refine (HP.out _).mono ?_; rintro e2 w' ⟨rfl, hw'⟩; replace hw' := hw'.symm; subst hw')
                        (try simp only [Exit.inBlock, Exit.then])
                        refine bodyPost_ret (ret_bc rfl rfl rfl (HSr.out.two' _ _) Tryz.underlying39 rfl fault_size) rfl ?_
                        have kb := (Kb.set wr w.heap.size 0 (.int .i64 ((3 : Nat) : Int)) none).trans (Kb.set _ w.heap.size 1 (.int .i64 (no : Int)) none)
                        exact lin_bad HBG.out E.out (by decide) (HJ.out.old.trans (kb.below (by omega) (fun g hg => by have := Option.some.inj hg; omega) (fun g hg => by cases hg)))
                      | true =>
                        have HF1 := Lib.hid (show LN.flt 1 (LN.rows bs) = LN.flt (no + 1) (LN.RS bs (e + 1)) by rw [HF.out, HRS.out]; exact flt_tail (kind0 HBF.out HTL.out hst))
                        rw [hst] at HP
                        clear hst HF
                        by_cases hse : S = []
                        · have HG1 := Lib.hid (show LN.lns 1 (LN.rows bs) = acc ++ LN.lns (no + 1) (LN.RS bs (e + 1)) by rw [HG.out, HRS.out, lns_none HSD.out hse])
                          subst hse
                          clear HG
                          go_wp2_with (go_at_call 60; refine (HP.out _).mono ?_; rintro e2 w' ⟨rfl, hw'⟩; replace hw' := hw'.symm; subst hw')
                          go_roundg (n - e)
                          case rel => exact ⟨e + 1, no + 1, acc, a4, c4, by omega, by omega, by omega, rfl, rfl, rfl, HJ, HF1, HG1⟩
                          case measure => omega
                        · have HG1 := Lib.hid (show LN.lns 1 (LN.rows bs) = (acc ++ [(no, m, S)]) ++ LN.lns (no + 1) (LN.RS bs (e + 1)) by rw [HG.out, HRS.out, lns_some HSD.out HIN.out hse]; simp)
                          have hse2 : S.isEmpty = false := by
                            cases S with
                            | nil => exact absurd rfl hse
                            | cons => rfl
                          have HJ4 := Lib.hid (HJ.out.calm (below_alloc wr (.cells #[.int .i64 (no : Int), .int .i64 (m : Int), .string ⟨S.toArray⟩] 105)))
                          have HL4 := Lib.hid (Str.new wr 105 (lc (no, m, S))).at3
                          clear HG
                          go_wp2_with (first
                            | (go_at_call 60; refine (HP.out _).mono ?_; rintro e2 w' ⟨rfl, hw'⟩; replace hw' := hw'.symm; subst hw')
                            | (at_builtin; refine wpList_append_line rfl (.tmp 87) (.tmp 92) rfl (w.heap.size + 1) (by rfl) HJ4.out.own (by rfl) HL4.out (by omega) HJ4.out.big ?_; intro g5 cap5 w5 ho5 hg5; have HJ5 := Lib.hid (HJ4.out.grown hg5 ho5); clear ho5 hg5))
                          go_roundg (n - e)
                          case rel => exact ⟨e + 1, no + 1, acc ++ [(no, m, S)], some ⟨g5, 0, none⟩, cap5, by omega, by omega, by simp; omega, by simp, rfl, rfl, by rw [List.length_append]; exact HJ5, HF1, HG1⟩
                          case measure => omega
                  · have hqE : q = e := by omega
                    subst hqE
                    obtain ⟨R, hR⟩ : ∃ R, R = (LN.seg bs at0 q).drop m := ⟨_, rfl⟩
                    have hRe : R = [] := by rw [hR]; exact List.drop_eq_nil_of_le (by rw [LN.seg_len (by have := HN.out; omega)]; have := HQ.out; omega)
                    have HRD := Lib.hid hR
                    have HTL := Lib.hid (show LN.tl (LN.seg bs at0 q) = R by
                      rw [hR]
                      have hl := LN.seg_len (bs := bs) (a := at0) (e := q) (by have := HN.out; omega)
                      refine LN.tl_drop (by rw [hl]; have := HQ.out; omega) HM.out (fun c hc => ?_)
                      rw [List.getElem?_eq_none (by rw [hl]; have := HQ.out; omega)] at hc
                      cases hc)
                    subst hRe
                    clear hR
                    have hce : ¬ cap = q := by omega
                    have hcs := run_string_rd (P := Tryz.prog) 35 5 9 Tryz.underlying35 Tryz.underlying5 Tryz.underlying9 (empty_rd wr ⟨b, off + q, none⟩ (cap - q) (by unfold maxLen; omega))
                    obtain ⟨S, hS⟩ : ∃ S, S = stS [] := ⟨_, rfl⟩
                    have hRl : ([] : List UInt8).length ≤ 20000 := by
                      have h1 := congrArg List.length HRD.out
                      have h2 := LN.seg_len (a := at0) (e := q) (bs := bs) (by have := HN.out; omega)
                      rw [List.length_drop, h2] at h1
                      omega
                    have HP := Lib.hid (show ∀ x : World, Calls Tryz.prog 60 #[.string ⟨([] : List UInt8).toArray⟩] x fun e w' => e = .returned (.tuple #[.string ⟨S.toArray⟩, .bool (stB [])]) ∧ w' = x from fun x => by rw [hS]; exact rstrip_any [] hRl x)
                    have HSD := Lib.hid (said_of HTL.out hS)
                    have HIN := Lib.hid (ind_of (m := m) HTL.out HRD.out (by rw [LN.seg_len (by have := HN.out; omega)]; omega))
                    clear hS hRl HM HRD
                    cases hst : stB [] with
                    | false =>
                      have E := Lib.hid (show LN.flt 1 (LN.rows bs) = (3, no) by rw [HF.out, HRS.out]; exact flt_head (kind3 HBF.out HTL.out hst) (by decide))
                      rw [hst] at HP
                      have HSr := Lib.hid HJ.out.st
                      have hpw : w.heap.size < wr.heap.size := HSr.out.lt
                      obtain ⟨c0, c1⟩ := HSr.out.cells2
                      obtain ⟨f0, f1, -⟩ := HSr.out.frozen4
                      clear hst HF HG
                      go_wp2_with (go_at_call 60; refine (HP.out _).mono ?_; rintro e2 w' ⟨rfl, hw'⟩; replace hw' := hw'.symm; subst hw')
                      (try simp only [Exit.inBlock, Exit.then])
                      refine bodyPost_ret (ret_bc rfl rfl rfl (HSr.out.two' _ _) Tryz.underlying39 rfl fault_size) rfl ?_
                      have kb := (Kb.set wr w.heap.size 0 (.int .i64 ((3 : Nat) : Int)) none).trans (Kb.set _ w.heap.size 1 (.int .i64 (no : Int)) none)
                      exact lin_bad HBG.out E.out (by decide) (HJ.out.old.trans (kb.below (by omega) (fun g hg => by have := Option.some.inj hg; omega) (fun g hg => by cases hg)))
                    | true =>
                      have HF1 := Lib.hid (show LN.flt 1 (LN.rows bs) = LN.flt (no + 1) (LN.RS bs (q + 1)) by rw [HF.out, HRS.out]; exact flt_tail (kind0 HBF.out HTL.out hst))
                      rw [hst] at HP
                      clear hst HF
                      by_cases hse : S = []
                      · have HG1 := Lib.hid (show LN.lns 1 (LN.rows bs) = acc ++ LN.lns (no + 1) (LN.RS bs (q + 1)) by rw [HG.out, HRS.out, lns_none HSD.out hse])
                        subst hse
                        clear HG
                        go_wp2_with (go_at_call 60; refine (HP.out _).mono ?_; rintro e2 w' ⟨rfl, hw'⟩; replace hw' := hw'.symm; subst hw')
                        go_roundg (n - q)
                        case rel => exact ⟨q + 1, no + 1, acc, a4, c4, by omega, by omega, by omega, rfl, rfl, rfl, HJ, HF1, HG1⟩
                        case measure => omega
                      · have HG1 := Lib.hid (show LN.lns 1 (LN.rows bs) = (acc ++ [(no, m, S)]) ++ LN.lns (no + 1) (LN.RS bs (q + 1)) by rw [HG.out, HRS.out, lns_some HSD.out HIN.out hse]; simp)
                        have hse2 : S.isEmpty = false := by
                          cases S with
                          | nil => exact absurd rfl hse
                          | cons => rfl
                        have HJ4 := Lib.hid (HJ.out.calm (below_alloc wr (.cells #[.int .i64 (no : Int), .int .i64 (m : Int), .string ⟨S.toArray⟩] 105)))
                        have HL4 := Lib.hid (Str.new wr 105 (lc (no, m, S))).at3
                        clear HG
                        go_wp2_with (first
                          | (go_at_call 60; refine (HP.out _).mono ?_; rintro e2 w' ⟨rfl, hw'⟩; replace hw' := hw'.symm; subst hw')
                          | (at_builtin; refine wpList_append_line rfl (.tmp 87) (.tmp 92) rfl (w.heap.size + 1) (by rfl) HJ4.out.own (by rfl) HL4.out (by omega) HJ4.out.big ?_; intro g5 cap5 w5 ho5 hg5; have HJ5 := Lib.hid (HJ4.out.grown hg5 ho5); clear ho5 hg5))
                        go_roundg (n - q)
                        case rel => exact ⟨q + 1, no + 1, acc ++ [(no, m, S)], some ⟨g5, 0, none⟩, cap5, by omega, by omega, by simp; omega, by simp, rfl, rfl, by rw [List.length_append]; exact HJ5, HF1, HG1⟩
                        case measure => omega
              · have E := Lib.hid (show LN.flt 1 (LN.rows bs) = (2, no) by rw [HF.out, HRS.out]; exact flt_head (by unfold LN.kind; rw [if_pos HBB.out.symm]) (by decide))
                have HSr := Lib.hid HJ.out.st
                have hpw : w.heap.size < wr.heap.size := HSr.out.lt
                obtain ⟨c0, c1⟩ := HSr.out.cells2
                obtain ⟨f0, f1, -⟩ := HSr.out.frozen4
                clear HF HG HBB
                go_wp2
                (try simp only [Exit.inBlock, Exit.then])
                refine bodyPost_ret (ret_bc rfl rfl rfl (HSr.out.two' _ _) Tryz.underlying39 rfl fault_size) rfl ?_
                have kb := (Kb.set wr w.heap.size 0 (.int .i64 ((2 : Nat) : Int)) none).trans (Kb.set _ w.heap.size 1 (.int .i64 (no : Int)) none)
                exact lin_bad HBG.out E.out (by decide) (HJ.out.old.trans (kb.below (by omega) (fun g hg => by have := Option.some.inj hg; omega) (fun g hg => by cases hg)))
            · obtain ⟨z, hz⟩ : ∃ z : Int, (c.toNat : Int) = z := ⟨_, rfl⟩
              rw [hz] at hcell
              have q10 := ne_z hz 10 (by decide) hc10
              have hub := c.toNat_lt
              have hz0 : 0 ≤ z := by omega
              have hz1 : z < 256 := by omega
              have HBN := Lib.hid (bad_next (c := c) HBB.out)
              rw [← LN.seg_next hc hae] at HBN
              have HTN := Lib.hid (show 10 ∉ LN.seg bs at0 (e + 1) by
                rw [LN.seg_next hc hae, List.mem_append]
                rintro (h | h)
                · exact HT.out h
                · exact hc10 (List.mem_singleton.1 h).symm)
              have hw := wrongB_cases c hz
              clear hc hz hub hc10 HBB HT
              cases bb
              · rcases hw with ⟨h1, h2⟩ | ⟨h1, rfl, h2⟩ | ⟨h1, h3, h2⟩
                · rw [h2] at HBN
                  clear h2
                  go_wp2
                  go_roundg (gk - 1)
                  case rel => exact ⟨e + 1, true, by omega, by omega, rfl, rfl, rfl, HBN.out.symm, HTN⟩
                  case measure => omega
                · rw [h2] at HBN
                  clear h2
                  go_wp2
                  go_roundg (gk - 1)
                  case rel => exact ⟨e + 1, true, by omega, by omega, rfl, rfl, rfl, HBN.out.symm, HTN⟩
                  case measure => omega
                · rw [h2] at HBN
                  clear h2
                  have b127 : (z == 127) = false := beq_eq_false_iff_ne.2 h3
                  go_wp2
                  go_roundg (gk - 1)
                  case rel => exact ⟨e + 1, false, by omega, by omega, rfl, by simp, rfl, HBN.out.symm, HTN⟩
                  case measure => omega
              · clear hw
                go_wp2
                go_roundg (gk - 1)
                case rel => exact ⟨e + 1, true, by omega, by omega, rfl, rfl, rfl, by rw [HBN.out]; rfl, HTN⟩
                case measure => omega
          · obtain rfl : e = n := by omega
            have HRS := Lib.hid (LN.RS_next hae (by have := HN.out; omega) HT.out (.inl HN.out.symm))
            clear HT
            cases bb
            · have HBF := Lib.hid HBB.out.symm
              clear HBB
              go_wp2
              go_loopg [9] (e - at0) (fun g3 s9 wx => ∃ m : Nat, m + g3 = e - at0 ∧ s9 = .int .i64 (m : Int) ∧ wx = wr ∧ Hid (Blk (LN.seg bs at0 e) m))
              case atStart => exact ⟨0, by omega, rfl, rfl, Lib.hid fun j h => absurd h (by omega)⟩
              case round =>
                obtain ⟨m, hm, rfl, rfl, HM⟩ := hrel
                obtain ⟨q, hq⟩ : ∃ q, q = at0 + m := ⟨_, rfl⟩
                have hqi : (at0 : Int) + (m : Int) = (q : Int) := by omega
                have HQ := Lib.hid hq
                have hqle : q ≤ e := by omega
                have hqa : at0 ≤ q := by omega
                clear hq
                by_cases hqe : q < e
                · have hqe' : (q : Int) < (e : Int) := by omega
                  obtain ⟨y, hy⟩ : ∃ y, bs[q]? = some y := ⟨bs[q]'(by have := HN.out; omega), List.getElem?_eq_getElem _⟩
                  have hcellq := HC.out q y hy
                  by_cases hy32 : y = 32
                  · subst hy32
                    have hcellq : wr.cell? ⟨b, off + q, none⟩ = some (.int .u8 32) := hcellq
                    have HM1 := Lib.hid (show Blk (LN.seg bs at0 e) (m + 1) from fun j hj => by
                      have hq := HQ.out
                      rcases Nat.lt_or_ge j m with h | h
                      · exact HM.out j h
                      · obtain rfl : j = m := by omega
                        rw [LN.seg_at (by omega), ← HQ.out]; exact hy)
                    have hm1 : m + 1 + (gk - 1) = e - at0 := by have := HQ.out; omega
                    clear hy
                    go_wp2
                    go_roundg (gk - 1)
                    case rel => exact ⟨m + 1, hm1, rfl, rfl, HM1⟩
                    case measure => have := HQ.out; omega
                  · obtain ⟨u, hu⟩ : ∃ u : Int, (y.toNat : Int) = u := ⟨_, rfl⟩
                    rw [hu] at hcellq
                    have q32 := ne_z hu 32 (by decide) hy32
                    have hmr : m ≤ (LN.seg bs at0 e).length := by rw [LN.seg_len (by have := HN.out; omega)]; omega
                    obtain ⟨R, hR⟩ : ∃ R, R = (LN.seg bs at0 e).drop m := ⟨_, rfl⟩
                    have HRD := Lib.hid hR
                    have HTL := Lib.hid (show LN.tl (LN.seg bs at0 e) = R by
                      rw [hR]
                      refine LN.tl_drop hmr HM.out (fun c hc => ?_)
                      rw [LN.seg_at (by have := HQ.out; omega), ← HQ.out, hy] at hc
                      rw [← Option.some.inj hc]; exact hy32)
                    have hcut := (Rdv.cut2 (w := wr) (ao := some ⟨b, off, none⟩) (cap := cap) (bs := bs) (by have := HR.out.below HJ.out.old; rw [HN.out]; exact this) (l := q) (k := e - q) (by have := HN.out; omega)).1 (by omega)
                    rw [show q + (e - q) = e by omega, HQ.out, LN.seg_cut (by have := HQ.out; omega) (by have := HN.out; omega), ← hR, ← HQ.out] at hcut
                    have hcs := run_string_rd (P := Tryz.prog) 35 5 9 Tryz.underlying35 Tryz.underlying5 Tryz.underlying9 hcut
                    rw [Option.map_some, Addr.add_lit] at hcs
                    clear hy hu hy32 hmr hR hcut
                    obtain ⟨S, hS⟩ : ∃ S, S = stS R := ⟨_, rfl⟩
                    have hRl : R.length ≤ 20000 := by
                      have h1 := congrArg List.length HRD.out
                      have h2 := LN.seg_len (a := at0) (e := e) (bs := bs) (by have := HN.out; omega)
                      rw [List.length_drop, h2] at h1
                      omega
                    have HP := Lib.hid (show ∀ x : World, Calls Tryz.prog 60 #[.string ⟨R.toArray⟩] x fun e w' => e = .returned (.tuple #[.string ⟨S.toArray⟩, .bool (stB R)]) ∧ w' = x from fun x => by rw [hS]; exact rstrip_any R hRl x)
                    have HSD := Lib.hid (said_of HTL.out hS)
                    have HIN := Lib.hid (ind_of (m := m) HTL.out HRD.out (by rw [LN.seg_len (by have := HN.out; omega)]; omega))
                    clear hS hRl HM HRD
                    cases hst : stB R with
                    | false =>
                      have E := Lib.hid (show LN.flt 1 (LN.rows bs) = (3, no) by rw [HF.out, HRS.out]; exact flt_head (kind3 HBF.out HTL.out hst) (by decide))
                      rw [hst] at HP
                      have HSr := Lib.hid HJ.out.st
                      have hpw : w.heap.size < wr.heap.size := HSr.out.lt
                      obtain ⟨c0, c1⟩ := HSr.out.cells2
                      obtain ⟨f0, f1, -⟩ := HSr.out.frozen4
                      clear hst HF HG
                      go_wp2_with (go_at_call 60; refine (HP.out _).mono ?_; rintro e2 w' ⟨rfl, hw'⟩; replace hw' := hw'.symm; subst hw')
                      (try simp only [Exit.inBlock, Exit.then])
                      refine bodyPost_ret (ret_bc rfl rfl rfl (HSr.out.two' _ _) Tryz.underlying39 rfl fault_size) rfl ?_
                      have kb := (Kb.set wr w.heap.size 0 (.int .i64 ((3 : Nat) : Int)) none).trans (Kb.set _ w.heap.size 1 (.int .i64 (no : Int)) none)
                      exact lin_bad HBG.out E.out (by decide) (HJ.out.old.trans (kb.below (by omega) (fun g hg => by have := Option.some.inj hg; omega) (fun g hg => by cases hg)))
                    | true =>
                      have HF1 := Lib.hid (show LN.flt 1 (LN.rows bs) = LN.flt (no + 1) (LN.RS bs (e + 1)) by rw [HF.out, HRS.out]; exact flt_tail (kind0 HBF.out HTL.out hst))
                      rw [hst] at HP
                      clear hst HF
                      by_cases hse : S = []
                      · have HG1 := Lib.hid (show LN.lns 1 (LN.rows bs) = acc ++ LN.lns (no + 1) (LN.RS bs (e + 1)) by rw [HG.out, HRS.out, lns_none HSD.out hse])
                        subst hse
                        clear HG
                        go_wp2_with (go_at_call 60; refine (HP.out _).mono ?_; rintro e2 w' ⟨rfl, hw'⟩; replace hw' := hw'.symm; subst hw')
                        go_roundg (e - e)
                        case rel => exact ⟨e + 1, no + 1, acc, a4, c4, by omega, by omega, by omega, rfl, rfl, rfl, HJ, HF1, HG1⟩
                        case measure => omega
                      · have HG1 := Lib.hid (show LN.lns 1 (LN.rows bs) = (acc ++ [(no, m, S)]) ++ LN.lns (no + 1) (LN.RS bs (e + 1)) by rw [HG.out, HRS.out, lns_some HSD.out HIN.out hse]; simp)
                        have hse2 : S.isEmpty = false := by
                          cases S with
                          | nil => exact absurd rfl hse
                          | cons => rfl
                        have HJ4 := Lib.hid (HJ.out.calm (below_alloc wr (.cells #[.int .i64 (no : Int), .int .i64 (m : Int), .string ⟨S.toArray⟩] 105)))
                        have HL4 := Lib.hid (Str.new wr 105 (lc (no, m, S))).at3
                        clear HG
                        go_wp2_with (first
                          | (go_at_call 60; refine (HP.out _).mono ?_; rintro e2 w' ⟨rfl, hw'⟩; replace hw' := hw'.symm; subst hw')
                          | (at_builtin; refine wpList_append_line rfl (.tmp 87) (.tmp 92) rfl (w.heap.size + 1) (by rfl) HJ4.out.own (by rfl) HL4.out (by omega) HJ4.out.big ?_; intro g5 cap5 w5 ho5 hg5; have HJ5 := Lib.hid (HJ4.out.grown hg5 ho5); clear ho5 hg5))
                        go_roundg (e - e)
                        case rel => exact ⟨e + 1, no + 1, acc ++ [(no, m, S)], some ⟨g5, 0, none⟩, cap5, by omega, by omega, by simp; omega, by simp, rfl, rfl, by rw [List.length_append]; exact HJ5, HF1, HG1⟩
                        case measure => omega
                · have hqE : q = e := by omega
                  subst hqE
                  obtain ⟨R, hR⟩ : ∃ R, R = (LN.seg bs at0 q).drop m := ⟨_, rfl⟩
                  have hRe : R = [] := by rw [hR]; exact List.drop_eq_nil_of_le (by rw [LN.seg_len (by have := HN.out; omega)]; have := HQ.out; omega)
                  have HRD := Lib.hid hR
                  have HTL := Lib.hid (show LN.tl (LN.seg bs at0 q) = R by
                    rw [hR]
                    have hl := LN.seg_len (bs := bs) (a := at0) (e := q) (by have := HN.out; omega)
                    refine LN.tl_drop (by rw [hl]; have := HQ.out; omega) HM.out (fun c hc => ?_)
                    rw [List.getElem?_eq_none (by rw [hl]; have := HQ.out; omega)] at hc
                    cases hc)
                  subst hRe
                  clear hR
                  by_cases hce : cap = q
                  · have hcs := run_string_rd (P := Tryz.prog) 35 5 9 Tryz.underlying35 Tryz.underlying5 Tryz.underlying9 (empty_rd wr ⟨b, off, none⟩ 0 (by unfold maxLen; omega))
                    replace hce := hce.symm; subst hce
                    obtain ⟨S, hS⟩ : ∃ S, S = stS [] := ⟨_, rfl⟩
                    have hRl : ([] : List UInt8).length ≤ 20000 := by
                      have h1 := congrArg List.length HRD.out
                      have h2 := LN.seg_len (a := at0) (e := q) (bs := bs) (by have := HN.out; omega)
                      rw [List.length_drop, h2] at h1
                      omega
                    have HP := Lib.hid (show ∀ x : World, Calls Tryz.prog 60 #[.string ⟨([] : List UInt8).toArray⟩] x fun e w' => e = .returned (.tuple #[.string ⟨S.toArray⟩, .bool (stB [])]) ∧ w' = x from fun x => by rw [hS]; exact rstrip_any [] hRl x)
                    have HSD := Lib.hid (said_of HTL.out hS)
                    have HIN := Lib.hid (ind_of (m := m) HTL.out HRD.out (by rw [LN.seg_len (by have := HN.out; omega)]; omega))
                    clear hS hRl HM HRD
                    cases hst : stB [] with
                    | false =>
                      have E := Lib.hid (show LN.flt 1 (LN.rows bs) = (3, no) by rw [HF.out, HRS.out]; exact flt_head (kind3 HBF.out HTL.out hst) (by decide))
                      rw [hst] at HP
                      have HSr := Lib.hid HJ.out.st
                      have hpw : w.heap.size < wr.heap.size := HSr.out.lt
                      obtain ⟨c0, c1⟩ := HSr.out.cells2
                      obtain ⟨f0, f1, -⟩ := HSr.out.frozen4
                      clear hst HF HG
                      go_wp2_with (go_at_call 60; refine (HP.out _).mono ?_; rintro e2 w' ⟨rfl, hw'⟩; replace hw' := hw'.symm; subst hw')
                      (try simp only [Exit.inBlock, Exit.then])
                      refine bodyPost_ret (ret_bc rfl rfl rfl (HSr.out.two' _ _) Tryz.underlying39 rfl fault_size) rfl ?_
                      have kb := (Kb.set wr w.heap.size 0 (.int .i64 ((3 : Nat) : Int)) none).trans (Kb.set _ w.heap.size 1 (.int .i64 (no : Int)) none)
                      exact lin_bad HBG.out E.out (by decide) (HJ.out.old.trans (kb.below (by omega) (fun g hg => by have := Option.some.inj hg; omega) (fun g hg => by cases hg)))
                    | true =>
                      have HF1 := Lib.hid (show LN.flt 1 (LN.rows bs) = LN.flt (no + 1) (LN.RS bs (q + 1)) by rw [HF.out, HRS.out]; exact flt_tail (kind0 HBF.out HTL.out hst))
                      rw [hst] at HP
                      clear hst HF
                      by_cases hse : S = []
                      · have HG1 := Lib.hid (show LN.lns 1 (LN.rows bs) = acc ++ LN.lns (no + 1) (LN.RS bs (q + 1)) by rw [HG.out, HRS.out, lns_none HSD.out hse])
                        subst hse
                        clear HG
                        go_wp2_with (go_at_call 60; refine (HP.out _).mono ?_; rintro e2 w' ⟨rfl, hw'⟩; replace hw' := hw'.symm; subst hw')
                        go_roundg (q - q)
                        case rel => exact ⟨q + 1, no + 1, acc, a4, c4, by omega, by omega, by omega, rfl, rfl, rfl, HJ, HF1, HG1⟩
                        case measure => omega
                      · have HG1 := Lib.hid (show LN.lns 1 (LN.rows bs) = (acc ++ [(no, m, S)]) ++ LN.lns (no + 1) (LN.RS bs (q + 1)) by rw [HG.out, HRS.out, lns_some HSD.out HIN.out hse]; simp)
                        have hse2 : S.isEmpty = false := by
                          cases S with
                          | nil => exact absurd rfl hse
                          | cons => rfl
                        have HJ4 := Lib.hid (HJ.out.calm (below_alloc wr (.cells #[.int .i64 (no : Int), .int .i64 (m : Int), .string ⟨S.toArray⟩] 105)))
                        have HL4 := Lib.hid (Str.new wr 105 (lc (no, m, S))).at3
                        clear HG
                        go_wp2_with (first
                          | (go_at_call 60; refine (HP.out _).mono ?_; rintro e2 w' ⟨rfl, hw'⟩; replace hw' := hw'.symm; subst hw')
                          | (at_builtin; refine wpList_append_line rfl (.tmp 87) (.tmp 92) rfl (w.heap.size + 1) (by rfl) HJ4.out.own (by rfl) HL4.out (by omega) HJ4.out.big ?_; intro g5 cap5 w5 ho5 hg5; have HJ5 := Lib.hid (HJ4.out.grown hg5 ho5); clear ho5 hg5))
                        go_roundg (q - q)
                        case rel => exact ⟨q + 1, no + 1, acc ++ [(no, m, S)], some ⟨g5, 0, none⟩, cap5, by omega, by omega, by simp; omega, by simp, rfl, rfl, by rw [List.length_append]; exact HJ5, HF1, HG1⟩
                        case measure => omega
                  · have hcs := run_string_rd (P := Tryz.prog) 35 5 9 Tryz.underlying35 Tryz.underlying5 Tryz.underlying9 (empty_rd wr ⟨b, off + q, none⟩ (cap - q) (by unfold maxLen; omega))
                    obtain ⟨S, hS⟩ : ∃ S, S = stS [] := ⟨_, rfl⟩
                    have hRl : ([] : List UInt8).length ≤ 20000 := by
                      have h1 := congrArg List.length HRD.out
                      have h2 := LN.seg_len (a := at0) (e := q) (bs := bs) (by have := HN.out; omega)
                      rw [List.length_drop, h2] at h1
                      omega
                    have HP := Lib.hid (show ∀ x : World, Calls Tryz.prog 60 #[.string ⟨([] : List UInt8).toArray⟩] x fun e w' => e = .returned (.tuple #[.string ⟨S.toArray⟩, .bool (stB [])]) ∧ w' = x from fun x => by rw [hS]; exact rstrip_any [] hRl x)
                    have HSD := Lib.hid (said_of HTL.out hS)
                    have HIN := Lib.hid (ind_of (m := m) HTL.out HRD.out (by rw [LN.seg_len (by have := HN.out; omega)]; omega))
                    clear hS hRl HM HRD
                    cases hst : stB [] with
                    | false =>
                      have E := Lib.hid (show LN.flt 1 (LN.rows bs) = (3, no) by rw [HF.out, HRS.out]; exact flt_head (kind3 HBF.out HTL.out hst) (by decide))
                      rw [hst] at HP
                      have HSr := Lib.hid HJ.out.st
                      have hpw : w.heap.size < wr.heap.size := HSr.out.lt
                      obtain ⟨c0, c1⟩ := HSr.out.cells2
                      obtain ⟨f0, f1, -⟩ := HSr.out.frozen4
                      clear hst HF HG
                      go_wp2_with (go_at_call 60; refine (HP.out _).mono ?_; rintro e2 w' ⟨rfl, hw'⟩; replace hw' := hw'.symm; subst hw')
                      (try simp only [Exit.inBlock, Exit.then])
                      refine bodyPost_ret (ret_bc rfl rfl rfl (HSr.out.two' _ _) Tryz.underlying39 rfl fault_size) rfl ?_
                      have kb := (Kb.set wr w.heap.size 0 (.int .i64 ((3 : Nat) : Int)) none).trans (Kb.set _ w.heap.size 1 (.int .i64 (no : Int)) none)
                      exact lin_bad HBG.out E.out (by decide) (HJ.out.old.trans (kb.below (by omega) (fun g hg => by have := Option.some.inj hg; omega) (fun g hg => by cases hg)))
                    | true =>
                      have HF1 := Lib.hid (show LN.flt 1 (LN.rows bs) = LN.flt (no + 1) (LN.RS bs (q + 1)) by rw [HF.out, HRS.out]; exact flt_tail (kind0 HBF.out HTL.out hst))
                      rw [hst] at HP
                      clear hst HF
                      by_cases hse : S = []
                      · have HG1 := Lib.hid (show LN.lns 1 (LN.rows bs) = acc ++ LN.lns (no + 1) (LN.RS bs (q + 1)) by rw [HG.out, HRS.out, lns_none HSD.out hse])
                        subst hse
                        clear HG
                        go_wp2_with (go_at_call 60; refine (HP.out _).mono ?_; rintro e2 w' ⟨rfl, hw'⟩; replace hw' := hw'.symm; subst hw')
                        go_roundg (q - q)
                        case rel => exact ⟨q + 1, no + 1, acc, a4, c4, by omega, by omega, by omega, rfl, rfl, rfl, HJ, HF1, HG1⟩
                        case measure => omega
                      · have HG1 := Lib.hid (show LN.lns 1 (LN.rows bs) = (acc ++ [(no, m, S)]) ++ LN.lns (no + 1) (LN.RS bs (q + 1)) by rw [HG.out, HRS.out, lns_some HSD.out HIN.out hse]; simp)
                        have hse2 : S.isEmpty = false := by
                          cases S with
                          | nil => exact absurd rfl hse
                          | cons => rfl
                        have HJ4 := Lib.hid (HJ.out.calm (below_alloc wr (.cells #[.int .i64 (no : Int), .int .i64 (m : Int), .string ⟨S.toArray⟩] 105)))
                        have HL4 := Lib.hid (Str.new wr 105 (lc (no, m, S))).at3
                        clear HG
                        go_wp2_with (first
                          | (go_at_call 60; refine (HP.out _).mono ?_; rintro e2 w' ⟨rfl, hw'⟩; replace hw' := hw'.symm; subst hw')
                          | (at_builtin; refine wpList_append_line rfl (.tmp 87) (.tmp 92) rfl (w.heap.size + 1) (by rfl) HJ4.out.own (by rfl) HL4.out (by omega) HJ4.out.big ?_; intro g5 cap5 w5 ho5 hg5; have HJ5 := Lib.hid (HJ4.out.grown hg5 ho5); clear ho5 hg5))
                        go_roundg (q - q)
                        case rel => exact ⟨q + 1, no + 1, acc ++ [(no, m, S)], some ⟨g5, 0, none⟩, cap5, by omega, by omega, by simp; omega, by simp, rfl, rfl, by rw [List.length_append]; exact HJ5, HF1, HG1⟩
                        case measure => omega
            · have E := Lib.hid (show LN.flt 1 (LN.rows bs) = (2, no) by rw [HF.out, HRS.out]; exact flt_head (by unfold LN.kind; rw [if_pos HBB.out.symm]) (by decide))
              have HSr := Lib.hid HJ.out.st
              have hpw : w.heap.size < wr.heap.size := HSr.out.lt
              obtain ⟨c0, c1⟩ := HSr.out.cells2
              obtain ⟨f0, f1, -⟩ := HSr.out.frozen4
              clear HF HG HBB
              go_wp2
              (try simp only [Exit.inBlock, Exit.then])
              refine bodyPost_ret (ret_bc rfl rfl rfl (HSr.out.two' _ _) Tryz.underlying39 rfl fault_size) rfl ?_
              have kb := (Kb.set wr w.heap.size 0 (.int .i64 ((2 : Nat) : Int)) none).trans (Kb.set _ w.heap.size 1 (.int .i64 (no : Int)) none)
              exact lin_bad HBG.out E.out (by decide) (HJ.out.old.trans (kb.below (by omega) (fun g hg => by have := Option.some.inj hg; omega) (fun g hg => by cases hg)))
      · have E1 := LN.RS_end (bs := bs) (a := at0) (no := no) (by have := HN.out; omega)
        have HF' := Lib.hid (show LN.flt 1 (LN.rows bs) = (0, 0) by rw [HF.out, E1.1])
        have HG' := Lib.hid (show LN.lns 1 (LN.rows bs) = acc by rw [HG.out, E1.2, List.append_nil])
        have HSr := Lib.hid HJ.out.st
        have hpw : w.heap.size < wr.heap.size := HSr.out.lt
        obtain ⟨c0, c1⟩ := HSr.out.cells2
        obtain ⟨f0, f1, -⟩ := HSr.out.frozen4
        have hlt' : ¬ (at0 : Int) < (n : Int) := by omega
        clear E1 HF HG
        go_wp2
        (try simp only [Exit.inBlock, Exit.then])
        refine bodyPost_ret (ret_bc rfl rfl rfl (HSr.out.two' _ _) Tryz.underlying39 rfl fault_size) rfl ?_
        have kb := (Kb.set wr w.heap.size 0 (.int .i64 0) none).trans (Kb.set _ w.heap.size 1 (.int .i64 0) none)
        exact lin_good HBG.out HF'.out HG'.out ((HJ.out.own.kb kb (HJ.out.own.off HSr.out (by decide)) no_or).base (by omega)) (HJ.out.old.trans (kb.below (by omega) (fun g hg => by have := Option.some.inj hg; omega) (fun g hg => by cases hg)))
end Go.Proofs.YtgfhabofhefaaaaGreatDoor
