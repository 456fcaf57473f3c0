/- A part of the proof. -/
import Derived.Test.YtgfhabofhefaaaaGreatDoorSB45
import Derived.Test.YtgfhabofhefaaaaGreatDoorSB16
import Derived.Test.YtgfhabofhefaaaaGreatDoorSB15
import Derived.Test.YtgfhabofhefaaaaGreatDoorSB01
import Derived.Test.YtgfhabofhefaaaaGreatDoorSB03
import Derived.Test.YtgfhabofhefaaaaGreatDoorSB43
namespace Go.Proofs.YtgfhabofhefaaaaGreatDoor
open Go.RowKit
def LinE (w : World) (bs : List UInt8) (e : Ending) (w' : World) : Prop :=
  ∃ v, e = .returned (.tuple #[v, .agg #[.int .i64 ((LN.outF bs).1 : Int), .int .i64 ((LN.outF bs).2 : Int)]]) ∧ Ownn w' w.heap.size v (LN.outL bs) ∧ Below w.heap.size w w'
structure LI (w2 wr : World) (x : Value) (vs : List Value) (s4 : Value) (acc : List LN.Ln) : Prop where
  bl : Below w2.heap.size w2 wr
  pc : Own wr w2.heap.size 35 x vs
  own : Ownn wr w2.heap.size s4 acc
theorem LI.calm {w2 wr w' : World} {x s4 : Value} {vs : List Value} {acc : List LN.Ln} (h : LI w2 wr x vs s4 acc) (hb : Below wr.heap.size wr w') : LI w2 w' x vs s4 acc := ⟨below_tr h.bl hb, h.pc.below hb, h.own.below hb⟩
theorem LI.grown {w2 wr w' : World} {x s4 s4' : Value} {vs : List Value} {acc acc' : List LN.Ln} (h : LI w2 wr x vs s4 acc) (hg : wr.grownBy w' s4.ownBlock) (ho : Ownn w' w2.heap.size s4' acc') : LI w2 w' x vs s4' acc' := by
  refine ⟨h.bl.grown hg h.bl.size (fun k hk => (h.own.ownBlock hk).2.1), h.pc.kb (Kb.of_grown hg none) no_or ?_, ho⟩
  cases hh : x.ownBlock with
  | none => exact .inl rfl
  | some g =>
    right
    intro e
    obtain ⟨cur, hc⟩ := h.pc.block hh
    obtain ⟨⟨cur', hc'⟩, _⟩ := h.own.ownBlock e.symm
    rw [hc] at hc'
    simp at hc'
theorem line_lit (w : World) (o : Obj) (l : LN.Ln) : At3 ((w.alloc o).alloc (.cells (lc l) 105)) (w.heap.size + 1) 0 l := by
  have := Str.new (w.alloc o) 105 (lc l)
  rw [bx_size] at this
  exact this.at3
theorem lin_big {w : World} {bs : List UInt8} {w' : World} (h : 16384 < bs.length) (hb : Below w.heap.size w w') : LinE w bs (.returned (.tuple #[.slice none 0 0, .agg #[.int .i64 1, .int .i64 1]])) w' := by
  have hF : LN.outF bs = (1, 1) := by unfold LN.outF; rw [if_pos h]
  have hL : LN.outL bs = [] := by unfold LN.outL; rw [hF, if_neg (by decide)]
  refine ⟨_, by rw [hF]; rfl, by rw [hL]; exact Ownn.nil _ _, hb⟩
theorem lin_bad {w : World} {bs : List UInt8} {w' : World} {K L : Nat} (h : ¬ 16384 < bs.length) (hf : LN.flt 1 (LN.rows bs) = (K, L)) (hK : K ≠ 0) (hb : Below w.heap.size w w') : LinE w bs (.returned (.tuple #[.slice none 0 0, .agg #[.int .i64 (K : Int), .int .i64 (L : Int)]])) w' := by
  have hF : LN.outF bs = (K, L) := by unfold LN.outF; rw [if_neg h, hf]
  have hL : LN.outL bs = [] := by unfold LN.outL; rw [hF, if_neg (by intro e; exact hK (congrArg Prod.fst e))]
  refine ⟨_, by rw [hF], by rw [hL]; exact Ownn.nil _ _, hb⟩
theorem lin_good {w : World} {bs : List UInt8} {w' : World} {v : Value} {acc : List LN.Ln} (h : ¬ 16384 < bs.length) (hf : LN.flt 1 (LN.rows bs) = (0, 0)) (hl : LN.lns 1 (LN.rows bs) = acc) (ho : Ownn w' w.heap.size v acc) (hb : Below w.heap.size w w') : LinE w bs (.returned (.tuple #[v, .agg #[.int .i64 0, .int .i64 0]])) w' := by
  have hF : LN.outF bs = (0, 0) := by unfold LN.outF; rw [if_neg h, hf]
  have hL : LN.outL bs = acc := by unfold LN.outL; rw [hF, if_pos rfl, hl]
  refine ⟨_, by rw [hF]; rfl, by rw [hL]; exact ho, hb⟩
set_option maxHeartbeats 4000000 in
theorem lines_any (v : Value) (bs : List UInt8) (w : World) (hr : Rdv w v (bv bs)) (hm : MaxIs w) :
    Calls Tryz.prog 29 #[v] w (LinE w bs) := by
  by_cases hbig : 16384 < bs.length
  · have HB := Lib.hid hbig
    have hln := hr.len_le
    obtain ⟨ao, cap, rfl, -⟩ := hr
    rw [bv_len] at hln ⊢
    obtain ⟨n, hn⟩ : ∃ n, bs.length = n := ⟨_, rfl⟩
    rw [hn] at hbig hln ⊢
    unfold maxLen at hln
    have hb2 : (16384 : Int) < (n : Int) := by omega
    clear hn
    go_enter Tryz.func29, Tryz.ntmps29
    go_wp2
    (try simp only [Exit.inBlock, Exit.then])
    refine bodyPost_ret (ret_bc rfl rfl rfl (Str.new w _ _) Tryz.underlying39 rfl fault_size) rfl ?_
    exact lin_big HB.out (below_alloc w _)
  · have B1 := below_alloc w (.cells #[.int .i64 0, .int .i64 0] 39)
    have B2 := below_tr B1 (below_alloc _ (.cells #[.int .u8 10] 5))
    have HS := Lib.hid ((Str.new w 39 #[.int .i64 0, .int .i64 0]).below (below_alloc _ (.cells #[.int .u8 10] 5)))
    have g1 := (Str.new (w.alloc (.cells #[.int .i64 0, .int .i64 0] 39)) 5 #[.int .u8 10]).cell 0
    rw [bx_size] at g1
    have HT := Lib.hid (split_any v bs (w.heap.size + 1) _ (hr.below B2) (by omega) g1 (hm.below B2))
    have HB2 := Lib.hid B2
    have HBG := Lib.hid hbig
    have HLE := Lib.hid (LN.rows_le bs)
    obtain ⟨rs, hrs⟩ : ∃ rs, LN.rows bs = rs := ⟨_, rfl⟩
    have HRS := Lib.hid hrs
    have hN : rs.length ≤ 16385 := by
      rw [← hrs, LN.rows_len]
      have := List.count_le_length (a := (10 : UInt8)) (l := bs)
      omega
    rw [hrs] at HT HLE
    obtain ⟨ao, cap, rfl, -⟩ := hr
    rw [bv_len] at HT ⊢
    obtain ⟨n, hn⟩ : ∃ n, bs.length = n := ⟨_, rfl⟩
    rw [hn] at hbig HT ⊢
    have hb2 : ¬ (16384 : Int) < (n : Int) := by omega
    have hn9 : n ≤ 16384 := by omega
    have HNN := Lib.hid hn
    clear hn B1 B2 g1 hrs hm
    obtain ⟨N, hNN⟩ : ∃ N, rs.length = N := ⟨_, rfl⟩
    rw [hNN] at hN
    have HNL := Lib.hid hNN
    clear hNN
    go_enter Tryz.func29, Tryz.ntmps29
    go_wp2_with fail
    refine HT.out.mono ?_
    rintro e w3 ⟨x, vs, rfl, ho, hra, hbl⟩
    clear HT
    have H0 := Lib.hid (LI.mk hbl ho (Ownn.nil _ _))
    have HRA := Lib.hid hra
    have hvl : vs.length = N := by rw [hra.1]; exact HNL.out
    clear ho hra hbl
    obtain ⟨ax, cx, rfl⟩ : ∃ ao c, x = .slice ao N c := by
      obtain ⟨ao, c, hv, _⟩ := H0.out.pc.rd
      exact ⟨ao, c, by rw [hv, hvl]⟩
    generalize (w.alloc (.cells #[.int .i64 0, .int .i64 0] 39)).alloc (.cells #[.int .u8 10] 5) = w2 at *
    go_wp2
    go_loopg [4, 17] N (fun g s4 s17 wr => ∃ (k : Nat) (acc : List LN.Ln) (a4 : Option Addr) (c4 : Nat), k + g = N ∧ s4 = .slice a4 acc.length c4 ∧ s17 = .int .i64 (k : Int) ∧ acc.length ≤ k ∧ Hid (LI w2 wr (.slice ax N cx) vs (.slice a4 acc.length c4) acc) ∧ Hid (LN.flt 1 rs = LN.flt (k + 1) (rs.drop k)) ∧ Hid (LN.lns 1 rs = acc ++ LN.lns (k + 1) (rs.drop k)))
    case atStart => exact ⟨0, [], none, 0, by omega, rfl, rfl, by simp, H0, rfl, rfl⟩
    case round =>
      obtain ⟨k, acc, a4, c4, hk, rfl, rfl, hac, HI, HF, HG⟩ := hrel
      have HSr := Lib.hid (HS.out.below HI.out.bl)
      have hpw : w.heap.size < wr.heap.size := HSr.out.lt
      cases gk with
      | zero =>
        obtain rfl : k = N := by omega
        have hdr : rs.drop k = [] := List.drop_eq_nil_of_le (by have := HNL.out; omega)
        have HF' := Lib.hid (show LN.flt 1 (LN.rows bs) = (0, 0) by rw [HRS.out, HF.out, hdr]; rfl)
        have HG' := Lib.hid (show LN.lns 1 (LN.rows bs) = acc by rw [HRS.out, HG.out, hdr]; simp [LN.lns])
        obtain ⟨c0, c1⟩ := HSr.out.cells2
        obtain ⟨f0, f1, -⟩ := HSr.out.frozen4
        clear hdr HF HG
        go_wp2
        (try simp only [Exit.inBlock, Exit.then])
        refine bodyPost_ret (ret_bc rfl rfl rfl (HSr.out.two' _ _) Tryz.underlying39 rfl fault_size) rfl ?_
        have kb := (Kb.set wr w.heap.size 0 (.int .i64 0) none).trans (Kb.set _ w.heap.size 1 (.int .i64 0) none)
        exact lin_good HBG.out HF'.out HG'.out ((HI.out.own.kb kb (HI.out.own.off HSr.out (by decide)) no_or).base HB2.out.size) ((below_tr HB2.out HI.out.bl).trans (kb.below (by omega) (fun g hg => by have := Option.some.inj hg; omega) (fun g hg => by cases hg)))
      | succ g =>
        have hkN : (k : Int) < (N : Int) := by omega
        have hkr : k < rs.length := by have := HNL.out; omega
        obtain ⟨b, off, cp, ar, cr, e1, hb, hcell, hrd⟩ := (show Rdl wr (.slice ax N cx) rs from ⟨vs, HI.out.pc.rd, HRA.out.below HI.out.bl⟩).at hkr
        obtain ⟨rfl, rfl⟩ : ax = some ⟨b, off, none⟩ ∧ cx = cp := by
          simp at e1
          exact ⟨e1.1, e1.2.2⟩
        obtain ⟨r, hrk⟩ : ∃ r, rs[k]? = some r := ⟨rs[k], List.getElem?_eq_getElem hkr⟩
        have hrr : rs[k] = r := by
          rw [List.getElem?_eq_getElem hkr] at hrk
          exact Option.some.inj hrk
        rw [hrr] at hcell hrd
        have hrl : r.length ≤ 16384 := by
          have := HLE.out r (List.mem_of_getElem? hrk)
          have := HNN.out
          omega
        have hfs := LN.flt_step hrk
        have hls := LN.lns_step hrk
        clear e1 hkr hrr hb
        by_cases hkd : LN.kind r = 0
        · have HO := Lib.hid (one_good (k + 1) (by omega) _ r wr hrd hrl hkd)
          rw [if_pos hkd] at hfs
          have HF1 := Lib.hid (HF.out.trans hfs)
          have hrr9 : r.length ≤ 16384 := hrl
          obtain ⟨m, hm⟩ : ∃ m, r.length = m := ⟨_, rfl⟩
          rw [hm] at hcell HO
          clear hfs hrd hrl hkd HF hrk hm hrr9
          by_cases hsd : LN.said r = []
          · rw [if_pos hsd] at hls
            have HG1 := Lib.hid (HG.out.trans (by rw [hls]))
            rw [hsd] at HO
            clear hls hsd HG
            go_wp2_with (go_at_call 55; refine HO.out.mono ?_; rintro e w4 ⟨rfl, hb4⟩; have HI4 := Lib.hid ((HI.out.calm hb4).calm (below_alloc w4 (.cells #[.int .i64 ((k + 1 : Nat) : Int), .int .i64 (LN.ind r : Int), .string ⟨#[]⟩] 105))); clear hb4)
            go_roundg g
            case rel => exact ⟨k + 1, acc, a4, c4, by omega, rfl, rfl, by omega, HI4, HF1, HG1⟩
            case measure => omega
          · rw [if_neg hsd] at hls
            obtain ⟨S, hS⟩ : ∃ S, LN.said r = S := ⟨_, rfl⟩
            obtain ⟨i, hi⟩ : ∃ i, LN.ind r = i := ⟨_, rfl⟩
            rw [hS] at hsd hls HO
            rw [hi] at hls HO
            have HG1 := Lib.hid (show LN.lns 1 rs = (acc ++ [(k + 1, i, S)]) ++ LN.lns (k + 2) (rs.drop (k + 1)) by rw [HG.out, hls]; simp)
            have hse : S.isEmpty = false := by
              cases S with
              | nil => exact absurd rfl hsd
              | cons => rfl
            clear hls hS hi HG
            go_wp2_with (first
              | (go_at_call 55; refine HO.out.mono ?_; rintro e w4 ⟨rfl, hb4⟩; have HI4 := Lib.hid (((HI.out.calm hb4).calm (below_alloc w4 (.cells #[.int .i64 ((k + 1 : Nat) : Int), .int .i64 (i : Int), .string ⟨S.toArray⟩] 105))).calm (below_alloc _ (.cells #[.int .i64 ((k + 1 : Nat) : Int), .int .i64 (i : Int), .string ⟨S.toArray⟩] 105))); have HL4 := Lib.hid (line_lit w4 (.cells #[.int .i64 ((k + 1 : Nat) : Int), .int .i64 (i : Int), .string ⟨S.toArray⟩] 105) (k + 1, i, S)); clear hb4)
              | (at_builtin; refine wpList_append_line rfl (.tmp 38) (.tmp 40) rfl w2.heap.size (by rfl) HI4.out.own (by rfl) HL4.out (by omega) HI4.out.bl.size ?_; intro g5 cap5 w5 ho5 hg5; have HI5 := Lib.hid (HI4.out.grown hg5 ho5); clear ho5 hg5))
            go_roundg g
            case rel => exact ⟨k + 1, acc ++ [(k + 1, i, S)], some ⟨g5, 0, none⟩, cap5, by omega, by simp, rfl, by simp; omega, by rw [List.length_append]; exact HI5, HF1, HG1⟩
            case measure => omega
        · obtain ⟨K, hK⟩ : ∃ K, LN.kind r = K := ⟨_, rfl⟩
          have HO := Lib.hid (one_wrong (k + 1) (by omega) _ r wr hrd hrl hkd)
          have hK4 := LN.kind_lt r
          rw [if_neg hkd] at hfs
          rw [hK] at HO hkd hfs hK4
          have HF1 := Lib.hid (show LN.flt 1 (LN.rows bs) = (K, k + 1) by rw [HRS.out, HF.out, hfs])
          have HKN := Lib.hid hkd
          obtain ⟨m, hm⟩ : ∃ m, r.length = m := ⟨_, rfl⟩
          rw [hm] at hcell HO
          have hK0 : ¬ (K : Int) = 0 := by omega
          clear hfs hrd hrl hkd HF HG hrk hm hls hK
          go_wp2_with (go_at_call 55; refine HO.out.mono ?_; rintro e w4 ⟨rfl, hb4⟩; have HI4 := Lib.hid ((HI.out.calm hb4).calm (below_alloc w4 (.cells #[.int .i64 0, .int .i64 0, .string ⟨#[]⟩] 105))); have HS4 := Lib.hid (HS.out.below HI4.out.bl); obtain ⟨c0, c1⟩ := HS4.out.cells2; obtain ⟨f0, f1, -⟩ := HS4.out.frozen4; clear hb4)
          (try simp only [Exit.inBlock, Exit.then])
          refine bodyPost_ret (ret_bc rfl rfl rfl (HS4.out.two' _ _) Tryz.underlying39 rfl fault_size) rfl ?_
          have kb := (Kb.set (w4.alloc (.cells #[.int .i64 0, .int .i64 0, .string ⟨#[]⟩] 105)) w.heap.size 0 (.int .i64 (K : Int)) none).trans (Kb.set _ w.heap.size 1 (.int .i64 ((k + 1 : Nat) : Int)) none)
          exact lin_bad HBG.out HF1.out HKN.out ((below_tr HB2.out HI4.out.bl).trans (kb.below (by have := HS4.out.lt; omega) (fun g hg => by have := Option.some.inj hg; omega) (fun g hg => by cases hg)))
end Go.Proofs.YtgfhabofhefaaaaGreatDoor
namespace Go.Proofs.YtgfhabofhefaaaaGreatDoor
open Go.RowKit
def AllE (w : World) (ls : List LX.Lz) (e : Ending) (w' : World) : Prop :=
  Below w.heap.size w w' ∧ ∃ v, e = .returned (.tuple #[v, .agg #[.int .i64 (LX.all ls).1.1, .int .i64 (LX.all ls).2]]) ∧ Ownp w' w.heap.size v (LX.all ls).1.2
structure AW (w wr : World) (v : Value) (acc : List LX.Pc) : Prop where
  bl : Below w.heap.size w wr
  big : w.heap.size + 1 ≤ wr.heap.size
  c : Str wr w.heap.size 39 #[.int .i64 0, .int .i64 0]
  own : Ownp wr (w.heap.size + 1) v acc
theorem AW.calm {w wr w' : World} {v : Value} {acc : List LX.Pc} (h : AW w wr v acc) (hb : Below wr.heap.size wr w') : AW w w' v acc :=
  ⟨h.bl.trans (hb.mono h.bl.size), Nat.le_trans h.big hb.size, h.c.below hb, h.own.below hb⟩
theorem AW.grown {w wr w' : World} {v v' : Value} {acc acc' : List LX.Pc} (h : AW w wr v acc) (hg : wr.grownBy w' v.ownBlock) (ho : Ownp w' (w.heap.size + 1) v' acc') : AW w w' v' acc' := by
  have far : ∀ k, k < w.heap.size + 1 → w'.heap[k]? = wr.heap[k]? := fun k hk => hg.block k (Nat.lt_of_lt_of_le hk h.big) (by
    intro e
    have := (h.own.ownBlock e.symm).2.1
    omega)
  have hb : Below (w.heap.size + 1) wr w' := ⟨hg.os, hg.tape, hg.output, hg.size, far⟩
  exact ⟨h.bl.trans (hb.mono (by omega)), Nat.le_trans h.big hg.size, (far _ (by omega)).trans h.c, ho⟩
theorem AW.start (w : World) : AW w (w.alloc (.cells #[.int .i64 0, .int .i64 0] 39)) (.slice none 0 0) [] :=
  ⟨below_alloc _ _, by rw [bx_size]; exact Nat.le_refl _, Str.new w 39 #[.int .i64 0, .int .i64 0], Ownp.nil _ _⟩
theorem AW.fault {w wr : World} {v : Value} {acc : List LX.Pc} (h : AW w wr v acc) (f g : Value) :
    Str ((wr.setCell ⟨w.heap.size, 0, none⟩ f).setCell ⟨w.heap.size, 1, none⟩ g) w.heap.size 39 #[f, g] ∧ Below w.heap.size w ((wr.setCell ⟨w.heap.size, 0, none⟩ f).setCell ⟨w.heap.size, 1, none⟩ g) ∧ Ownp ((wr.setCell ⟨w.heap.size, 0, none⟩ f).setCell ⟨w.heap.size, 1, none⟩ g) w.heap.size v acc := by
  have kb := (Kb.set wr w.heap.size 0 f none).trans (Kb.set _ w.heap.size 1 g none)
  exact ⟨h.c.two' f g, h.bl.trans (kb.below h.bl.size (fun g hg => by have := Option.some.inj hg; omega) (fun g hg => by cases hg)), (h.own.base (by omega)).kb kb (h.own.off h.c (by decide)) no_or⟩
theorem alle_no {w w' : World} {ls : List LX.Lz} {k n : Int} {A : LX.R × Int} (hA : A = LX.all ls) (h : A = ((k, []), n)) (hb : Below w.heap.size w w') : AllE w ls (.returned (.tuple #[.slice none 0 0, .agg #[.int .i64 k, .int .i64 n]])) w' := by
  have e := hA.symm.trans h
  refine ⟨hb, .slice none 0 0, ?_, ?_⟩
  · rw [e]
  · rw [e]; exact Ownp.nil _ _
theorem alle_yes {w w' : World} {ls : List LX.Lz} {A : LX.R × Int} {acc : List LX.Pc} {v : Value} (hA : A = LX.all ls) (h : A = ((0, acc), 0)) (ho : Ownp w' w.heap.size v acc) (hb : Below w.heap.size w w') : AllE w ls (.returned (.tuple #[v, .agg #[.int .i64 0, .int .i64 0]])) w' := by
  have e := hA.symm.trans h
  refine ⟨hb, v, ?_, ?_⟩
  · rw [e]
  · rw [e]; exact ho
theorem rowe_ok {w : World} {x : LX.Lz} {P : List LX.Pc} {e : Ending} {w' : World} (hk : LX.row x = (0, P)) (h : RowE w x e w') : ∃ v, e = .returned (.tuple #[v, .agg #[.int .i64 0, .int .i64 0]]) ∧ Ownp w' w.heap.size v P ∧ Below w.heap.size w w' := by
  obtain ⟨hb, v, he, ho⟩ := h
  rw [hk] at he ho
  exact ⟨v, he, ho, hb⟩
theorem rowe_bad {w : World} {x : LX.Lz} {k : Int} {P : List LX.Pc} {e : Ending} {w' : World} (hk : LX.row x = (k, P)) (h0 : k ≠ 0) (h : RowE w x e w') : ∃ v, e = .returned (.tuple #[v, .agg #[.int .i64 k, .int .i64 x.1]]) ∧ Ownp w' w.heap.size v P ∧ Below w.heap.size w w' := by
  obtain ⟨hb, v, he, ho⟩ := h
  rw [hk] at he ho
  rw [if_neg h0] at he
  exact ⟨v, he, ho, hb⟩
theorem drop_z {l : List LX.Lz} {i : Nat} {c : LX.Lz} (h : l[i]? = some c) : l.drop i = c :: l.drop (i + 1) := by
  obtain ⟨hi, rfl⟩ := List.getElem?_eq_some_iff.1 h
  exact List.drop_eq_getElem_cons hi
set_option maxRecDepth 10000 in
set_option maxHeartbeats 16000000 in
theorem lall_any (v0 : Value) (ls : List LX.Lz) (w : World) (hr : Rdz w v0 ls) (hls : ∀ x ∈ ls, x.2.2.length ≤ 17000) (hwt : LX.wt ls ≤ 900000) (hm : MaxIs w) :
    Calls Tryz.prog 30 #[v0] w (AllE w ls) := by
  obtain ⟨ao, cap, rfl, h1, h2, h3, h4⟩ := hr
  have HS0 := Lib.hid (AW.start w)
  obtain ⟨A, HF⟩ : ∃ A, Hid (A = LX.all ls) := ⟨_, Lib.hid rfl⟩
  obtain ⟨n, hn⟩ : ∃ n, ls.length = n := ⟨_, rfl⟩
  have HN := Lib.hid hn
  have H4 := Lib.hid h4
  have HLS := Lib.hid hls
  have HWT := Lib.hid hwt
  have HM := Lib.hid hm
  rw [hn] at h1 ⊢
  unfold maxLen at h2
  have hnn : n ≤ 9223372036854775807 := by omega
  clear h1 h2 h3 h4 hls hwt hn hm
  go_enter Tryz.func30, Tryz.ntmps30
  go_wp2
  generalize w.alloc (.cells #[.int .i64 0, .int .i64 0] 39) = w0 at *
  go_loopg [4, 11] n (fun g s4 s6 wx => ∃ (i : Nat) (acc : List LX.Pc) (v : Value), i + g = n ∧ s6 = .int .i64 (i : Int) ∧ v = s4 ∧ Hid (AW w wx v acc) ∧ Hid (acc.length + LX.wt (ls.drop i) ≤ 900000) ∧ Hid (A = LX.plus acc (LX.all (ls.drop i))))
  case atStart =>
    refine ⟨0, [], _, by omega, rfl, rfl, HS0, ?_, ?_⟩
    · show _ ≤ _; have := HWT.out; simpa using this
    · show _ = _; rw [HF.out, List.drop_zero, LX.plus_nil]
  case round =>
    clear HS0 HWT
    obtain ⟨i, acc, v, hi, rfl, rfl, HW, HAL, HE⟩ := hrel
    have f0 : wr.cell? ⟨w.heap.size, 0, none⟩ = some (.int .i64 0) := HW.out.c.cell 0
    have f1 : wr.cell? ⟨w.heap.size, 1, none⟩ = some (.int .i64 0) := HW.out.c.cell 1
    have ff0 : wr.frozen? ⟨w.heap.size, 0, none⟩ = false := HW.out.c.frozen 0
    have ff1 : wr.frozen? ⟨w.heap.size, 1, none⟩ = false := HW.out.c.frozen 1
    cases gk with
    | zero =>
      obtain rfl : i = n := by omega
      have E := Lib.hid (show A = ((0, acc), 0) by rw [HE.out, List.drop_eq_nil_of_le (by have := HN.out; omega), LX.plus_end])
      have HQ := Lib.hid (HW.out.fault (.int .i64 0) (.int .i64 0))
      go_wp2
      try rw [Exit.noGoto_ret]
      (try simp only [Exit.inBlock, Exit.then])
      refine bodyPost_ret (ret_bc rfl rfl rfl HQ.out.1 Tryz.underlying39 rfl fault_size) rfl ?_
      exact alle_yes HF.out E.out HQ.out.2.2 HQ.out.2.1
    | succ g =>
      have hin : (i : Int) < (n : Int) := by omega
      obtain ⟨x, hx⟩ : ∃ x, ls[i]? = some x := ⟨ls[i]'(by have := HN.out; omega), List.getElem?_eq_getElem _⟩
      have hlx := HLS.out x (List.mem_of_getElem? hx)
      have HD := Lib.hid (drop_z hx)
      obtain ⟨b, off, rfl, c⟩ := H4.out i x hx
      obtain ⟨d0, d1, d2⟩ := c.below HW.out.bl
      obtain ⟨no, ind, tx⟩ := x
      simp only at hlx d0 d1 d2
      obtain ⟨k, P, hkP⟩ : ∃ k P, LX.row (no, ind, tx) = (k, P) := ⟨_, _, rfl⟩
      have HPL : Hid (P.length ≤ tx.length) := by show _ ≤ _; have := LX.row_len (no, ind, tx); rw [hkP] at this; exact this
      have BX := below_alloc wr (.cells #[.int .i64 no, .int .i64 ind, .string ⟨tx.toArray⟩] 105)
      have HWB := Lib.hid (HW.out.calm BX)
      have HR := Lib.hid (lexRow_any (no, ind, tx) (wr.alloc (.cells #[.int .i64 no, .int .i64 ind, .string ⟨tx.toArray⟩] 105)) hlx ((HM.out.below HW.out.bl).below BX))
      clear hx c BX HW
      by_cases hk0 : k = 0
      · subst hk0
        have E := Lib.hid (show A = LX.plus (acc ++ P) (LX.all (ls.drop (i + 1))) by rw [HE.out, HD.out, LX.all_ok hkP, LX.plus_plus])
        have HOK := Lib.hid (fun (e : Ending) (w' : World) (h : RowE (wr.alloc (.cells #[.int .i64 no, .int .i64 ind, .string ⟨tx.toArray⟩] 105)) (no, ind, tx) e w') => rowe_ok hkP h)
        clear hkP
        go_wp2_with fail
        refine HR.out.mono ?_
        rintro e w2 he
        obtain ⟨v1, rfl, ho, hb⟩ := HOK.out _ _ he
        have B3 := below_alloc w2 (.cells #[.int .i64 0, .int .i64 0] 39)
        have HW3 := Lib.hid ((HWB.out.calm hb).calm B3)
        have HP3 := Lib.hid (ho.below B3).rd
        clear he ho hb B3 HR HOK HWB
        go_wp2_with (at_builtin; refine wpList_append_pieces rfl (.tmp 24) (.tmp 25) rfl (w.heap.size + 1) (by rfl) HW3.out.own (by rfl) HP3.out (by have := HAL.out; have := HPL.out; rw [HD.out, LX.wt_cons] at *; simp only at *; omega) HW3.out.big ?_; intro v4 w4 ho4 hg4; have HW4 := Lib.hid (HW3.out.grown hg4 ho4); clear ho4 hg4)
        go_roundg g
        case rel =>
          refine ⟨i + 1, acc ++ P, _, by omega, by first | rfl | (simp; done), rfl, HW4, ?_, E⟩
          show _ ≤ _
          have h1 := HAL.out
          have h2 := HPL.out
          rw [HD.out, LX.wt_cons] at h1
          rw [List.length_append]
          simp only at h1
          omega
        case measure => omega
      · have E := Lib.hid (show A = ((k, []), no) by rw [HE.out, HD.out, LX.all_no hkP hk0, LX.plus_no hk0])
        have HOK := Lib.hid (fun (e : Ending) (w' : World) (h : RowE (wr.alloc (.cells #[.int .i64 no, .int .i64 ind, .string ⟨tx.toArray⟩] 105)) (no, ind, tx) e w') => rowe_bad hkP hk0 h)
        clear hkP
        go_wp2_with fail
        refine HR.out.mono ?_
        rintro e w2 he
        obtain ⟨v1, rfl, ho, hb⟩ := HOK.out _ _ he
        simp only
        have B3 := below_alloc w2 (.cells #[.int .i64 k, .int .i64 no] 39)
        have HW3 := Lib.hid ((HWB.out.calm hb).calm B3)
        have a0 : (w2.alloc (.cells #[.int .i64 k, .int .i64 no] 39)).cell? ⟨w.heap.size, 0, none⟩ = some (.int .i64 0) := HW3.out.c.cell 0
        have a1 : (w2.alloc (.cells #[.int .i64 k, .int .i64 no] 39)).cell? ⟨w.heap.size, 1, none⟩ = some (.int .i64 0) := HW3.out.c.cell 1
        have aa0 : (w2.alloc (.cells #[.int .i64 k, .int .i64 no] 39)).frozen? ⟨w.heap.size, 0, none⟩ = false := HW3.out.c.frozen 0
        have aa1 : (w2.alloc (.cells #[.int .i64 k, .int .i64 no] 39)).frozen? ⟨w.heap.size, 1, none⟩ = false := HW3.out.c.frozen 1
        have HQ := Lib.hid (HW3.out.fault (.int .i64 k) (.int .i64 no))
        clear he ho hb B3 HR HOK HWB HW3
        go_wp2
        go_region
        go_wp2
        try rw [Exit.noGoto_ret]
        (try simp only [Exit.inBlock, Exit.then])
        refine bodyPost_ret (ret_bc rfl rfl rfl (HQ.out.1.below (below_drew _)) Tryz.underlying39 rfl fault_size) rfl ?_
        exact alle_no HF.out E.out (HQ.out.2.1.drew)
end Go.Proofs.YtgfhabofhefaaaaGreatDoor
namespace Go.Proofs.YtgfhabofhefaaaaGreatDoor
open Go.RowKit
def ParE (w : World) (o : DC.Out (List DC.Nd)) (e : Ending) (w' : World) : Prop :=
  Below w.heap.size w w' ∧ ∃ v, e = .returned (.tuple #[.agg #[v], .agg #[.int .i64 (DC.wrong o).1, .int .i64 (DC.wrong o).2]]) ∧ Rdoc w' v (DC.told o)
theorem Ownn.rdz {w : World} {base : Nat} {v : Value} {ls : List LN.Ln} (h : Ownn w base v ls) : Rdz w v (ls.map DC.zl) := by
  obtain ⟨ao, cap, e, h1, h2, h3, h4⟩ := h.rd
  refine ⟨ao, cap, by rw [List.length_map]; exact e, by rw [List.length_map]; exact h1, h2, h3, fun j x hx => ?_⟩
  rw [List.getElem?_map] at hx
  obtain ⟨y, hy, rfl⟩ := Option.map_eq_some_iff.1 hx
  obtain ⟨b, off, e1, c⟩ := h4 j y hy
  exact ⟨b, off, e1, c.c0, c.c1, c.c2⟩
structure PaS (w wr : World) (x y z f g : Value) : Prop where
  dd : DoD w wr x y z
  fl : Str wr (w.heap.size + 2) 39 #[f, g]
theorem parse_ret {tmps : Array Value} {w : World} {p q : Nat} {x y z : Value} (hp : tmps.getD 2 undef = .pointer (some ⟨p, 0, none⟩)) (hq : tmps.getD 3 undef = .pointer (some ⟨q, 0, none⟩)) (h1 : Str w p 26 #[x]) (h2 : Str w q 39 #[y, z]) :
    (results Tryz.f9 tmps).run Tryz.prog w = .ok (.tuple #[.agg #[x], .agg #[y, z]]) w := by
  have hs' : w.heap[q]? = some (.cells #[y, z] 39 (0, 0)) := h2
  have hs1 : w.heap[p]? = some (.cells #[x] 26 (0, 0)) := h1
  have l2 := run_loadVar_row (P := Tryz.prog) w q 39 39 #[y, z] (0, 0) _ hs' Tryz.underlying39 rfl fault_size
  have l1 := run_loadVar_row (P := Tryz.prog) w p 26 26 #[x] (0, 0) _ hs1 Tryz.underlying26 rfl doc_size
  have hp' : (asAddr (tmps.getD 2 undef)).run Tryz.prog w = .ok ⟨p, 0, none⟩ w := by rw [hp]; simp [asAddr]
  have hq' : (asAddr (tmps.getD 3 undef)).run Tryz.prog w = .ok ⟨q, 0, none⟩ w := by rw [hq]; simp [asAddr]
  simp only [Array.getD_eq_getD_getElem?] at hp' hq'
  simp only [results, Tryz.results9]
  simp [Sem.run_bind, Result.andThen, hp', hq', l1, l2]
theorem pars_start (w : World) : DoD w ((w.alloc (.cells #[.slice none 0 0] 26)).alloc (.cells #[.int .i64 0, .int .i64 0] 39)) (.slice none 0 0) (.int .i64 0) (.int .i64 0) := by
  have b1 := below_alloc w (.cells #[.slice none 0 0] 26)
  have b2 := below_alloc (w.alloc (.cells #[.slice none 0 0] 26)) (.cells #[.int .i64 0, .int .i64 0] 39)
  have s2 := Str.new (w.alloc (.cells #[.slice none 0 0] 26)) 39 #[.int .i64 0, .int .i64 0]
  rw [bx_size] at s2
  exact ⟨below_trans b1 b2, (Str.new w 26 #[.slice none 0 0]).below b2, s2⟩
theorem DoD.calm {w wr w' : World} {x y z : Value} (h : DoD w wr x y z) (hb : Below wr.heap.size wr w') : DoD w w' x y z := ⟨below_trans h.bl hb, h.b.below hb, h.c.below hb⟩
theorem DoD.turn {w wr : World} {x y z f g : Value} {q : Nat} (h : DoD w wr x y z) (_hf : Str wr q 39 #[f, g]) (hq : w.heap.size + 2 ≤ q) (f' g' : Value) :
    DoD w ((wr.setCell ⟨q, 0, none⟩ f').setCell ⟨q, 1, none⟩ g') x y z ∧ Kb wr ((wr.setCell ⟨q, 0, none⟩ f').setCell ⟨q, 1, none⟩ g') (some q) none := by
  have kb := (Kb.set wr q 0 f' none).trans (Kb.set _ q 1 g' none)
  refine ⟨⟨h.bl.trans (kb.below h.bl.size (fun g hg => by have := Option.some.inj hg; omega) (by simp)), h.b.kb kb (by simp; omega) (by simp), h.c.kb kb (by simp; omega) (by simp)⟩, kb⟩
set_option maxRecDepth 10000 in
set_option maxHeartbeats 8000000 in
theorem parse_any (v : Value) (bs : List UInt8) (w : World) (hr : Rdv w v (bv bs)) (hm : MaxIs w) :
    Calls Tryz.prog 9 #[v] w (ParE w (DC.parse bs)) := by
  have HD0 := Lib.hid (pars_start w)
  have HLI := Lib.hid (lines_any v bs _ (hr.below HD0.out.bl) (hm.below HD0.out.bl))
  have HM := Lib.hid hm
  obtain ⟨A, HA⟩ : ∃ A, Hid (A = DC.parse bs) := ⟨_, Lib.hid rfl⟩
  rw [show DC.parse bs = A from HA.out.symm]
  obtain ⟨K, hK⟩ : ∃ K, (LN.outF bs).1 = K := ⟨_, rfl⟩
  obtain ⟨L, hL⟩ : ∃ L, (LN.outF bs).2 = L := ⟨_, rfl⟩
  have HK := Lib.hid hK
  have HL := Lib.hid hL
  obtain ⟨ls, hls⟩ : ∃ ls, LN.outL bs = ls := ⟨_, rfl⟩
  have HLS := Lib.hid hls
  have HLO := Lib.hid (fun (u : World) (e : Ending) (w' : World) (h : LinE u bs e w') => (show ∃ x, e = .returned (.tuple #[x, .agg #[.int .i64 (K : Int), .int .i64 (L : Int)]]) ∧ Ownn w' u.heap.size x ls ∧ Below u.heap.size u w' by rw [← hK, ← hL, ← hls]; exact h))
  clear hr hm hK hL hls
  go_enter Tryz.func9, Tryz.ntmps9
  go_wp2_with fail
  refine HLI.out.mono ?_
  rintro e w1 he
  obtain ⟨x, rfl, ho, hb⟩ := HLO.out _ _ _ he
  clear he
  obtain ⟨q, hq⟩ : ∃ q, w1.heap.size = q := ⟨_, rfl⟩
  have BX := below_alloc w1 (.cells #[.int .i64 (K : Int), .int .i64 (L : Int)] 39)
  have HD1 := Lib.hid ((HD0.out.calm hb).calm BX)
  have HF1 : Hid (Str (w1.alloc (.cells #[.int .i64 (K : Int), .int .i64 (L : Int)] 39)) q 39 #[.int .i64 (K : Int), .int .i64 (L : Int)]) := by
    rw [← hq]; exact Lib.hid (Str.new w1 _ _)
  have HZ1 := Lib.hid ((ho.below BX).rdz)
  have HM1 := Lib.hid (HM.out.below HD1.out.bl)
  have HQ2 : Hid (w.heap.size + 2 ≤ q) := by
    show _ ≤ _
    have := (HD0.out.calm hb).c.lt
    omega
  clear ho hb BX HLI HLO HD0
  by_cases hk : K = 0
  · have E0 := Lib.hid (show A = if (LX.all (ls.map DC.zl)).1.1 ≠ 0 then .bad (LX.all (ls.map DC.zl)).1.1 (LX.all (ls.map DC.zl)).2 else DC.doc (LX.all (ls.map DC.zl)).1.2 by rw [HA.out, DC.parse, if_neg (by rw [HK.out]; simpa using hk), HLS.out])
    have h0 : (K : Int) = 0 := by omega
    have hK0 : (LN.outF bs).1 = 0 := by rw [HK.out]; exact hk
    have HALL := Lib.hid (lall_any x (ls.map DC.zl) _ HZ1.out (by rw [← HLS.out]; exact DC.outL_text hK0) (by rw [← HLS.out]; exact Nat.le_trans (DC.outL_wt bs) (by have := DC.outF_small hK0; omega)) HM1.out)
    have HSH := Lib.hid (LX.all_short (ls.map DC.zl))
    obtain ⟨a, ha⟩ : ∃ a, (LX.all (ls.map DC.zl)).1.1 = a := ⟨_, rfl⟩
    obtain ⟨b, hb⟩ : ∃ b, (LX.all (ls.map DC.zl)).2 = b := ⟨_, rfl⟩
    obtain ⟨PP, hP⟩ : ∃ PP, (LX.all (ls.map DC.zl)).1.2 = PP := ⟨_, rfl⟩
    have HAO := Lib.hid (fun (u : World) (e : Ending) (w' : World) (h : AllE u (ls.map DC.zl) e w') => (show ∃ v3, e = .returned (.tuple #[v3, .agg #[.int .i64 a, .int .i64 b]]) ∧ Ownp w' u.heap.size v3 PP ∧ Below u.heap.size u w' by
      obtain ⟨h1, v3, h2, h3⟩ := h
      rw [ha, hb] at h2
      rw [hP] at h3
      exact ⟨v3, h2, h3, h1⟩))
    rw [ha, hb, hP] at E0
    rw [hP] at HSH
    clear ha hb hP hK0 hk HLS HK HL HA HZ1
    simp only [h0] at HD1 HF1 HM1 HALL ⊢
    clear h0
    have hzz : ((0 : Int) != 0) = false := rfl
    go_upto_region 2 with (rw [hq])
    generalize w1.alloc (.cells #[.int .i64 0, .int .i64 (L : Int)] 39) = w2 at *
    have r0 : w2.cell? ⟨q, 0, none⟩ = some (.int .i64 0) := HF1.out.cell 0
    have ARM : True := trivial
    by_cases ha : a = 0
    · subst ha
      have E := Lib.hid (show A = DC.doc PP by rw [E0.out, if_neg (by simp)])
      clear E0 ARM
      go_upto_region 7 with (go_at_call 30; refine HALL.out.mono ?_; rintro e w3 he; obtain ⟨v3, rfl, ho3, hb3⟩ := HAO.out _ _ _ he; have HP3 := Lib.hid ho3; have HB3 := Lib.hid hb3; have HD3 := Lib.hid (HD1.out.calm hb3); have HF3 := Lib.hid (HF1.out.below hb3); have s0 : w3.cell? ⟨q, 0, none⟩ = some (.int .i64 0) := HF3.out.cell 0; have s1 : w3.cell? ⟨q, 1, none⟩ = some (.int .i64 (L : Int)) := HF3.out.cell 1; have sf0 := HF3.out.frozen 0; have sf1 := HF3.out.frozen 1; clear he ho3 hb3)
      have HF4 := Lib.hid (HF3.out.two' (.int .i64 0) (.int .i64 b))
      have hd4 := HD3.out.turn HF3.out HQ2.out (.int .i64 0) (.int .i64 b)
      have HD4 := Lib.hid hd4.1
      have HP4 := Lib.hid (HP3.out.kb hd4.2 (HP3.out.off HF3.out (by decide)) no_or)
      clear hd4
      generalize World.setCell (World.setCell _ _ _) _ _ = w4 at *
      clear s0 s1 sf0 sf1 r0
      have HOF := Lib.hid (of_any v3 PP w4 HP4.out.rd (fun x hx => by have := HSH.out x hx; omega))
      go_wp2_with fail
      refine HOF.out.mono ?_
      rintro e w5 ⟨hb5, v5, S5, rfl, hn5⟩
      have HD5 := Lib.hid (HD4.out.calm hb5)
      obtain ⟨a5, c5, rfl⟩ := hn5.slice
      obtain ⟨F, hFF⟩ : ∃ F, (DC.fault PP).1 = F := ⟨_, rfl⟩
      obtain ⟨G, hGG⟩ : ∃ G, (DC.fault PP).2 = G := ⟨_, rfl⟩
      have hz := HD5.out.laid (.slice a5 (DC.nodes PP).length c5) (.int .i64 F) (.int .i64 G)
      have d0 : w5.cell? ⟨w.heap.size, 0, none⟩ = some (.slice none 0 0) := HD5.out.b.cell 0
      have df := HD5.out.b.frozen 0
      have sc : Str (w5.setCell ⟨w.heap.size, 0, none⟩ (.slice a5 (DC.nodes PP).length c5)) (w.heap.size + 1) 39 #[.int .i64 0, .int .i64 0] := HD5.out.c.kb (Kb.set w5 w.heap.size 0 _ none) (by simp) (by simp)
      have c0 : (w5.setCell ⟨w.heap.size, 0, none⟩ (.slice a5 (DC.nodes PP).length c5)).cell? ⟨w.heap.size + 1, 0, none⟩ = some (.int .i64 0) := sc.cell 0
      have c1 : (w5.setCell ⟨w.heap.size, 0, none⟩ (.slice a5 (DC.nodes PP).length c5)).cell? ⟨w.heap.size + 1, 1, none⟩ = some (.int .i64 0) := sc.cell 1
      have cf0 := sc.frozen 0
      have cf1 := sc.frozen 1
      have HR5 := Lib.hid (hn5.kb hz.2 (Far.str HD5.out.b (by decide) (by decide)) (Far.str HD5.out.c (by decide) (by decide)) (hn5.off HD5.out.b (by decide)) (hn5.off HD5.out.c (by decide))).rd
      have HZ := Lib.hid hz.1
      have HFG := Lib.hid (And.intro hFF hGG)
      rw [hFF, hGG]
      obtain ⟨NL, hNL⟩ : ∃ NL, (DC.nodes PP).length = NL := ⟨_, rfl⟩
      rw [hNL] at HZ HR5 c0 c1 cf0 cf1 ⊢
      clear hb5 hn5 hz sc hFF hGG hNL
      go_wp2
      try rw [Exit.noGoto_ret]
      (try simp only [Exit.inBlock, Exit.then])
      refine bodyPost_ret (parse_ret rfl rfl HZ.out.b HZ.out.c) rfl ?_
      rw [E.out]
      refine ⟨HZ.out.bl, _, ?_, HR5.out⟩
      obtain ⟨h1, h2⟩ := HFG.out
      rw [← h1, ← h2]
      unfold DC.fault DC.wrong
      cases DC.doc PP <;> rfl
    · have E := Lib.hid (show A = .bad a b by rw [E0.out, if_pos ha])
      have hab : (a != 0) = true := by simpa using ha
      clear E0 ARM
      go_upto_region 6 with (go_at_call 30; refine HALL.out.mono ?_; rintro e w3 he; obtain ⟨v3, rfl, ho3, hb3⟩ := HAO.out _ _ _ he; have HP3 := Lib.hid ho3; have HB3 := Lib.hid hb3; have HD3 := Lib.hid (HD1.out.calm hb3); have HF3 := Lib.hid (HF1.out.below hb3); have s0 : w3.cell? ⟨q, 0, none⟩ = some (.int .i64 0) := HF3.out.cell 0; have s1 : w3.cell? ⟨q, 1, none⟩ = some (.int .i64 (L : Int)) := HF3.out.cell 1; have sf0 := HF3.out.frozen 0; have sf1 := HF3.out.frozen 1; clear he ho3 hb3)
      have HF4 := Lib.hid (HF3.out.two' (.int .i64 a) (.int .i64 b))
      have HD4 := Lib.hid (HD3.out.turn HF3.out HQ2.out (.int .i64 a) (.int .i64 b)).1
      generalize World.setCell (World.setCell _ _ _) _ _ = w4 at *
      clear s0 s1 sf0 sf1 r0
      have HQ := Lib.hid (HD4.out.laid (.slice none 0 0) (.int .i64 a) (.int .i64 b))
      have r0 : w4.cell? ⟨q, 0, none⟩ = some (.int .i64 a) := HF4.out.cell 0
      have r1 : w4.cell? ⟨q, 1, none⟩ = some (.int .i64 b) := HF4.out.cell 1
      have d0 : w4.cell? ⟨w.heap.size, 0, none⟩ = some (.slice none 0 0) := HD4.out.b.cell 0
      have df := HD4.out.b.frozen 0
      have c0 : w4.cell? ⟨w.heap.size + 1, 0, none⟩ = some (.int .i64 0) := HD4.out.c.cell 0
      have c1 : w4.cell? ⟨w.heap.size + 1, 1, none⟩ = some (.int .i64 0) := HD4.out.c.cell 1
      have cf0 := HD4.out.c.frozen 0
      have cf1 := HD4.out.c.frozen 1
      have kb := Kb.set w4 w.heap.size 0 (.slice none 0 0) none
      have hqd : q ≠ w.heap.size := HF4.out.apart_str HD4.out.b (by decide)
      have S1 := HF4.out.kb kb (fun e => hqd (Option.some.inj e)) (by simp)
      have S2 : Str (w4.setCell ⟨w.heap.size, 0, none⟩ (.slice none 0 0)) (w.heap.size + 1) 39 #[.int .i64 0, .int .i64 0] := HD4.out.c.kb kb (by simp) (by simp)
      have r0' : (w4.setCell ⟨w.heap.size, 0, none⟩ (.slice none 0 0)).cell? ⟨q, 0, none⟩ = some (.int .i64 a) := S1.cell 0
      have r1' : (w4.setCell ⟨w.heap.size, 0, none⟩ (.slice none 0 0)).cell? ⟨q, 1, none⟩ = some (.int .i64 b) := S1.cell 1
      have c0' : (w4.setCell ⟨w.heap.size, 0, none⟩ (.slice none 0 0)).cell? ⟨w.heap.size + 1, 0, none⟩ = some (.int .i64 0) := S2.cell 0
      have c1' : (w4.setCell ⟨w.heap.size, 0, none⟩ (.slice none 0 0)).cell? ⟨w.heap.size + 1, 1, none⟩ = some (.int .i64 0) := S2.cell 1
      have cf0' := S2.frozen 0
      have cf1' := S2.frozen 1
      clear kb S1 S2 hqd
      go_wp2
      go_region
      go_wp2
      try rw [Exit.noGoto_ret]
      (try simp only [Exit.inBlock, Exit.then])
      refine bodyPost_ret (parse_ret rfl rfl (HQ.out.1.b.below (below_drew _)) (HQ.out.1.c.below (below_drew _))) rfl ?_
      rw [E.out]
      exact ⟨below_trans HQ.out.1.bl (below_drew _), _, rfl, Rdoc.nil _⟩
  · have E := Lib.hid (show A = .bad (K : Int) (L : Int) by rw [HA.out, DC.parse, if_pos (by rw [HK.out]; exact hk), HK.out, HL.out])
    have hkb : ((K : Int) != 0) = true := by simp; omega
    go_upto_region 2 with (rw [hq])
    generalize w1.alloc (.cells #[.int .i64 (K : Int), .int .i64 (L : Int)] 39) = w2 at *
    have HQ := Lib.hid (HD1.out.laid (.slice none 0 0) (.int .i64 (K : Int)) (.int .i64 (L : Int)))
    have r0 : w2.cell? ⟨q, 0, none⟩ = some (.int .i64 (K : Int)) := HF1.out.cell 0
    have r1 : w2.cell? ⟨q, 1, none⟩ = some (.int .i64 (L : Int)) := HF1.out.cell 1
    have d0 : w2.cell? ⟨w.heap.size, 0, none⟩ = some (.slice none 0 0) := HD1.out.b.cell 0
    have df := HD1.out.b.frozen 0
    have c0 : w2.cell? ⟨w.heap.size + 1, 0, none⟩ = some (.int .i64 0) := HD1.out.c.cell 0
    have c1 : w2.cell? ⟨w.heap.size + 1, 1, none⟩ = some (.int .i64 0) := HD1.out.c.cell 1
    have cf0 := HD1.out.c.frozen 0
    have cf1 := HD1.out.c.frozen 1
    have kb := Kb.set w2 w.heap.size 0 (.slice none 0 0) none
    have hqd : q ≠ w.heap.size := HF1.out.apart_str HD1.out.b (by decide)
    have S1 := HF1.out.kb kb (fun e => hqd (Option.some.inj e)) (by simp)
    have S2 : Str (w2.setCell ⟨w.heap.size, 0, none⟩ (.slice none 0 0)) (w.heap.size + 1) 39 #[.int .i64 0, .int .i64 0] := HD1.out.c.kb kb (by simp) (by simp)
    have r0' : (w2.setCell ⟨w.heap.size, 0, none⟩ (.slice none 0 0)).cell? ⟨q, 0, none⟩ = some (.int .i64 (K : Int)) := S1.cell 0
    have r1' : (w2.setCell ⟨w.heap.size, 0, none⟩ (.slice none 0 0)).cell? ⟨q, 1, none⟩ = some (.int .i64 (L : Int)) := S1.cell 1
    have c0' : (w2.setCell ⟨w.heap.size, 0, none⟩ (.slice none 0 0)).cell? ⟨w.heap.size + 1, 0, none⟩ = some (.int .i64 0) := S2.cell 0
    have c1' : (w2.setCell ⟨w.heap.size, 0, none⟩ (.slice none 0 0)).cell? ⟨w.heap.size + 1, 1, none⟩ = some (.int .i64 0) := S2.cell 1
    have cf0' := S2.frozen 0
    have cf1' := S2.frozen 1
    clear kb S1 S2 hqd
    go_wp2
    go_region
    go_wp2
    try rw [Exit.noGoto_ret]
    (try simp only [Exit.inBlock, Exit.then])
    refine bodyPost_ret (parse_ret rfl rfl (HQ.out.1.b.below (below_drew _)) (HQ.out.1.c.below (below_drew _))) rfl ?_
    rw [E.out]
    exact ⟨below_trans HQ.out.1.bl (below_drew _), _, rfl, Rdoc.nil _⟩
end Go.Proofs.YtgfhabofhefaaaaGreatDoor
namespace Go.Proofs.YtgfhabofhefaaaaGreatDoor
open Go.RowKit
section
variable {l : List LX.Pc} (h0 : l ≠ [])
include h0
end
end Go.Proofs.YtgfhabofhefaaaaGreatDoor
