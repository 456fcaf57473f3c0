/- Walk of LineRemarks. -/
import Derived.Test.YtcpmjbfpnlmjmaaDoorLnV
import Derived.Test.YtcpmjbfpnlmjmaaDoorLnLaw
import Derived.Laws.OwnMore
import Derived.Deep.DeepCutAuto
import Derived.Deep.CutBlock
namespace Go.Proofs.YtcpmjbfpnlmjmaaDoor
open Go.RowKit

theorem Tryd.info_u8' : (Tryd.prog.info? 5).map (fun i => (i.zero, i.size, i.bytes)) = some (some (.int .u8 0), 1, 1) := by kernel_rfl
/-- 'make([]byte, n)'. -/
theorem make_bytes (w : World) (n : Nat) (hn : n ≤ 50) : ∃ w', (Instr.makeSlice 26 (.int .i64 (n : Int)) (.int .i64 (n : Int))).run Tryd.prog w = .ok (.slice (some ⟨w.heap.size, 0, none⟩) n n) w' ∧ Own w' w.heap.size 5 (.slice (some ⟨w.heap.size, 0, none⟩) n n) (bv (List.replicate n 0)) ∧ Below w.heap.size w w' := by
  obtain ⟨i, hi, hz0, hz1, hz2⟩ := infoparts Tryd.info_u8'
  obtain ⟨w', h1, h2, h3⟩ := run_make_full (P := Tryd.prog) w w.heap.size 26 5 i (.int .u8 0) 1 Tryd.underlying26 hi hz0 hz1 .i64 .i64 n (by rw [hz2]; omega) (by unfold maxLen; omega) (Nat.le_refl _)
  refine ⟨w', h1, ?_, (Below.refl _ w).grown h3 (Nat.le_refl _) (fun k hk => by cases hk)⟩
  have e : (madeCells (Value.int .u8 0).cells (n * 1)).toList = bv (List.replicate n 0) := by
    show (madeCells #[Value.int .u8 0] (n * 1)).toList = _
    rw [toList_madeCells_one, Nat.mul_one, bv, List.map_replicate]; rfl
  rw [e] at h2
  show w'.ownsRow w.heap.size 5 1 _ (bv (List.replicate n 0)).length _
  rw [bv_len, List.length_replicate]
  exact h2
/-- Blanks up to a place. -/
def fillb (n j : Nat) : List UInt8 := List.replicate j 32 ++ List.replicate (n - j) 0
theorem fillb_len {n j : Nat} (h : j ≤ n) : (fillb n j).length = n := by simp [fillb]; omega
theorem fill_next {n j : Nat} (h : j < n) : (bv (fillb n j)).set j (.int .u8 32) = bv (fillb n (j + 1)) := by
  unfold fillb bv
  rw [show n - j = (n - (j + 1)) + 1 by omega, List.replicate_succ, List.map_append, List.map_append, List.map_cons, List.set_append_right _ _ (by simp), List.length_map, List.length_replicate, Nat.sub_self, List.set_cons_zero, List.replicate_succ']
  simp
theorem fill_at {n j : Nat} (h : j < n) : (bv (fillb n j))[j]? = some (.int .u8 0) := by
  unfold fillb bv
  rw [List.map_append, List.getElem?_append_right (by simp), show n - j = (n - (j + 1)) + 1 by omega, List.replicate_succ]
  simp
/-- Where the line that is put in is made. -/
structure RK (w wr : World) (v : Value) (m : List UInt8) : Prop where
  bl : Below w.heap.size w wr
  own : Own wr w.heap.size 5 v (bv m)
theorem RK.store {w wr : World} {B n j : Nat} (h : RK w wr (.slice (some ⟨B, 0, none⟩) n n) (fillb n j)) (hj : j < n) : RK w (wr.setCell ⟨B, j, none⟩ (.int .u8 32)) (.slice (some ⟨B, 0, none⟩) n n) (fillb n (j + 1)) := by
  have ho : wr.ownsRow w.heap.size 5 1 (.slice (some ⟨B, 0, none⟩) n n) n (bv (fillb n j)) := by
    have := h.own
    unfold Own at this
    rwa [bv_len, fillb_len (by omega)] at this
  obtain ⟨h1, h2⟩ := World.ownsRow.stored ho j (.int .u8 32)
  refine ⟨h.bl.grown h2 h.bl.size (fun _ hk => (h.own.lt (by rw [← hk]; rfl)).1), ?_⟩
  show World.ownsRow _ _ _ 1 _ (bv (fillb n (j + 1))).length _
  rw [bv_len, fillb_len (by omega), ← fill_next hj]
  exact h1
theorem RK.cell {w wr : World} {B n j : Nat} (h : RK w wr (.slice (some ⟨B, 0, none⟩) n n) (fillb n j)) (hj : j < n) : wr.cell? ⟨B, j, none⟩ = some (.int .u8 0) ∧ wr.frozen? ⟨B, j, none⟩ = false := by
  have ho : wr.ownsRow w.heap.size 5 1 (.slice (some ⟨B, 0, none⟩) n n) n (bv (fillb n j)) := by
    have := h.own
    unfold Own at this
    rwa [bv_len, fillb_len (by omega)] at this
  refine ⟨?_, World.ownsRow.frozenAt ho j⟩
  have := World.ownsRow.cells h.own rfl j _ (fill_at hj)
  rwa [Addr.add_lit, Nat.zero_add] at this
theorem RK.calm {w wr w' : World} {v : Value} {m : List UInt8} (h : RK w wr v m) (hb : Below wr.heap.size wr w') : RK w w' v m := ⟨below_tr h.bl hb, h.own.below hb⟩

theorem count_next {bs : List UInt8} {k : Nat} {c : UInt8} (h : bs[k]? = some c) : (bs.take (k + 1)).count 10 = (bs.take k).count 10 + if c = 10 then 1 else 0 := by
  have hk := (List.getElem?_eq_some_iff.1 h).1
  rw [List.take_succ_eq_append_getElem hk]
  rw [List.getElem?_eq_getElem hk] at h
  rw [Option.some.inj h, List.count_append]
  congr 1
  by_cases hc : c = 10
  · subst hc; simp
  · rw [if_neg hc, List.count_cons_of_ne (by simpa using hc)]; rfl
theorem RK.append {w wr w' : World} {v v' : Value} {m m' : List UInt8} (h : RK w wr v m) (hg : wr.grownBy w' v.ownBlock) (ho : Own w' w.heap.size 5 v' (bv m')) : RK w w' v' m' := ⟨h.bl.grown hg h.bl.size (fun _ hk => (h.own.lt hk).1), ho⟩
theorem RK.slice {w wr : World} {v : Value} {m : List UInt8} (h : RK w wr v m) : ∃ ao c, v = .slice ao m.length c := by
  obtain ⟨ao, c, hv, _⟩ := h.own.rd
  exact ⟨ao, c, by rw [hv, bv_len]⟩

theorem RK.slice3 {w wr : World} {v : Value} {m : List UInt8} (h : RK w wr v m) : ∃ ao n c, v = .slice ao n c := by
  obtain ⟨ao, c, hv⟩ := h.slice
  exact ⟨ao, _, c, hv⟩
/-- 'append(s, x...)' of bytes at a step of a region that draws, s the call's own, x whatever reads; and where it lies. -/
theorem step_append_near {P : Program} {w : World} {ops : Array Oper} {o : Oper} {a : Act} {K : Act → World → Prop} {Q : Exit → Act → World → Prop} {E : Prop} (hgd : o.guard = none) (s x : Operand) (t : TypeId)
    (ho : o.op = .call { callee := .builtin .append, args := #[s, x], argTypes := #[t, t] })
    (base : Nat) (e : TypeId) (ht : P.underlying t = some (.slice e)) (hinfo : (P.info? e).map (fun i => (i.zero, i.size, i.bytes)) = some (some (.int .u8 0), 1, 1))
    {v vx : Value} {xs news : List UInt8} (hs : a.eval s = v) (hown : Own w base e v (bv xs)) (hx : a.eval x = vx) (hrd : Rdv w vx (bv news))
    (hlen : xs.length + news.length ≤ 140737488355328) (hbase : base ≤ w.heap.size)
    (h : ∀ v' w', Own w' base e v' (bv (xs ++ news)) → w.grownBy w' v.ownBlock → Near w v v' → K (a.put o.dst v') w') :
    if Region.wanted o (yielded ops a.tmps) = true then Oper.wp P o a w K Q else E := by
  have hw : Region.wanted o (yielded ops a.tmps) = true := by simp [Region.wanted, hgd]
  rw [if_pos hw]
  obtain ⟨i, hi, hz0, hz1, hz2⟩ := infoparts hinfo
  obtain ⟨ao, cap, rfl, h1', h2, h3, h4⟩ := hrd
  cases ao with
  | none =>
    have hc := h3 rfl
    have hn : news = [] := List.length_eq_zero_iff.1 (by rw [bv_len] at h1'; omega)
    subst hn
    subst hc
    have hrun := run_append_owned_none (P := P) (w := w) base t o.type e i 1 ht hi v (bv xs).length (bv xs) hown
    have hx' : a.eval x = .slice none 0 0 := hx
    unfold Oper.wp
    simp [execOp, ho, resolve, invoke, builtin, hs, hx', hrun, Result.andThen]
    exact h v w (by simpa using hown) (World.grownBy.refl _ _) (.inl rfl)
  | some ad =>
    obtain ⟨v', w', hr, h2', h3', _, h5⟩ := run_append_own_at (P := P) w base t o.type e i (.int .u8 0) 1 1 ht hi hz0 hz1 hz2 rfl (by decide) v (bv xs).length (bv xs) hown ad (bv news).length cap (bv news) (by simp) (fun j u hu => by
      obtain ⟨y, hy, hc⟩ := h4 j u hu
      obtain rfl := Option.some.inj hy
      exact hc) bv_one (by rw [bv_len, bv_len]; unfold maxLen; omega) (by rw [bv_len, bv_len]; omega) hbase
    unfold Oper.wp execOp
    simp only [ho, resolve, invoke, builtin, Sem.run_bind, Sem.run_pure, Result.andThen_ok, List.map_toArray, List.map_cons, List.map_nil, hs, hx, hr]
    refine h v' w' ?_ h3' (h5.imp id fun e g hg => ?_)
    · show w'.ownsRow base e 1 v' (bv (xs ++ news)).length (bv (xs ++ news))
      rw [bv_app, List.length_append]; exact h2'
    · rw [e] at hg
      have := Option.some.inj hg
      omega
/-- The byte 10 lies in a row of its own, apart from v. -/
def LT (x : World) (v : Value) (p : Nat) : Prop := Str x p 5 #[.int .u8 10] ∧ v.ownBlock ≠ some p
theorem LT.grow {x x' : World} {v v' : Value} {p : Nat} (h : LT x v p) (hg : x.grownBy x' v.ownBlock) (hn : Near x v v') : LT x' v' p := by
  have hlt := h.1.lt
  refine ⟨h.1.kb (Kb.of_grown hg none) (by simp) (fun e => h.2 e.symm), fun e => ?_⟩
  rcases hn with hn | hn
  · rw [hn] at e; exact h.2 e
  · have := hn p e
    omega
theorem LT.rd {x : World} {v : Value} {p : Nat} (h : LT x v p) : Rdv x (.slice (some ⟨p, 0, none⟩) 1 1) (bv [10]) := by
  refine ⟨some ⟨p, 0, none⟩, 1, rfl, by simp [bv], by decide, (by intro h; cases h), fun j u hu => ⟨_, rfl, ?_⟩⟩
  rw [Addr.add_lit, Nat.zero_add, h.1.cell j]
  simpa [bv] using hu
theorem LT.new {W x : World} {v : Value} {xs : List UInt8} (h : RK W x v xs) : LT (x.alloc (.cells #[.int .u8 10] 5)) v x.heap.size :=
  ⟨Str.new x _ _, fun e => by have := (h.own.lt e).2; omega⟩

theorem RK.drew {w wr : World} {v : Value} {m : List UInt8} (h : RK w wr v m) : RK w wr.drew v m := h.calm (below_drew wr)
theorem LT.drew {x : World} {v : Value} {p : Nat} (h : LT x v p) : LT x.drew v p := ⟨h.1.below (below_drew x), h.2⟩
theorem region_starts (wr : World) :
    RK wr (wr.alloc (.cells #[] 5)).drew (.slice (some ⟨wr.heap.size, 0, none⟩) 0 0) [] ∧
    RK wr ((wr.alloc (.cells #[] 5)).alloc (.cells #[.int .u8 10] 5)).drew (.slice (some ⟨wr.heap.size, 0, none⟩) 0 0) [] ∧
    LT ((wr.alloc (.cells #[] 5)).alloc (.cells #[.int .u8 10] 5)).drew (.slice (some ⟨wr.heap.size, 0, none⟩) 0 0) (wr.heap.size + 1) ∧
    RK wr ((wr.alloc (.cells #[.int .u8 10] 5)).alloc (.cells #[] 5)).drew (.slice (some ⟨wr.heap.size + 1, 0, none⟩) 0 0) [] ∧
    LT ((wr.alloc (.cells #[.int .u8 10] 5)).alloc (.cells #[] 5)).drew (.slice (some ⟨wr.heap.size + 1, 0, none⟩) 0 0) wr.heap.size := by
  have k1 : RK wr (wr.alloc (.cells #[] 5)) (.slice (some ⟨wr.heap.size, 0, none⟩) 0 0) [] := ⟨below_alloc _ _, Own.lit wr [] (Nat.le_refl _) (by simp [maxLen])⟩
  have e1 := bx_size wr (.cells #[] 5)
  have e2 := bx_size wr (.cells #[.int .u8 10] 5)
  have l3 := LT.new k1
  rw [e1] at l3
  have o4 : Own ((wr.alloc (.cells #[.int .u8 10] 5)).alloc (.cells #[] 5)) wr.heap.size 5 (.slice (some ⟨wr.heap.size + 1, 0, none⟩) 0 0) (bv []) := by
    have := Own.lit (base := wr.heap.size) (e := 5) (wr.alloc (.cells #[.int .u8 10] 5)) [] (by rw [e2]; omega) (by simp [maxLen])
    rw [e2] at this
    exact this
  refine ⟨k1.drew, (k1.calm (below_alloc _ _)).drew, l3.drew, RK.drew ⟨below_tr (below_alloc _ _) (below_alloc _ _), o4⟩, LT.drew ⟨(Str.new wr _ _).below (below_alloc _ _), ?_⟩⟩
  intro e
  have : wr.heap.size + 1 = wr.heap.size := Option.some.inj e
  omega

/-- Where the lines that are wanted are made. -/
structure LW (W wr : World) (v : Value) (acc : List LN.Ln) : Prop where
  bl : Below W.heap.size W wr
  own : Ownn wr W.heap.size v acc
theorem LW.calm {W wr w' : World} {v : Value} {acc : List LN.Ln} (h : LW W wr v acc) (hb : Below wr.heap.size wr w') : LW W w' v acc := ⟨below_tr h.bl hb, h.own.below hb⟩
theorem LW.grown {W wr w' : World} {v v' : Value} {acc acc' : List LN.Ln} (h : LW W wr v acc) (hg : wr.grownBy w' v.ownBlock) (ho : Ownn w' W.heap.size v' acc') : LW W w' v' acc' := ⟨h.bl.grown hg h.bl.size (fun _ hk => (h.own.ownBlock hk).2.1), ho⟩
theorem up_next {ls : List LN.Ln} {i no : Nat} {x : LN.Ln} (h : ls[i]? = some x) : (ls.take (i + 1)).map (LN.up no) = (ls.take i).map (LN.up no) ++ [LN.up no x] := by
  have hi := (List.getElem?_eq_some_iff.1 h).1
  rw [List.take_succ_eq_append_getElem hi]
  rw [List.getElem?_eq_getElem hi] at h
  rw [Option.some.inj h, List.map_append]; rfl
theorem Rdn.at {w : World} {a : Option Addr} {n c : Nat} {ls : List LN.Ln} (h : Rdn w (.slice a n c) ls) {i : Nat} {x : LN.Ln} (hx : ls[i]? = some x) : ∃ b off, a = some ⟨b, off, none⟩ ∧ At3 w b (off + i * 3) x := by
  obtain ⟨ao, cap, hv, _, _, _, h4⟩ := h
  obtain ⟨b, off, hb, hc⟩ := h4 i x hx
  have : a = ao := by simp at hv; exact hv.1
  exact ⟨b, off, by rw [this, hb], hc⟩

set_option maxHeartbeats 8000000 in
set_option maxRecDepth 4000 in
theorem remarks_main (v0 v3 : Value) (bs rm : List UInt8) (at1 : Int) (n : Nat) (w : World) (hr0 : Rdv w v0 (bv bs)) (hr3 : Rdv w v3 (bv rm)) (hb : bs.length ≤ 5000) (hn : n ≤ 50) (hrm : rm.length ≤ 200) (hm : MaxIs w) :
    Calls Tryd.prog 6 #[v0, .int .i64 at1, .int .i64 (n : Int), v3] w fun e w' => e = .returned (.bool true) ∧ Below w.heap.size w w' := by
  have HR0 := Lib.hid hr0
  have HR3 := Lib.hid hr3
  have HM := Lib.hid hm
  have HBB := Lib.hid hb
  have HRR := Lib.hid hrm
  obtain ⟨a0, cap0, rfl, hc01, hc02, -⟩ := hr0
  obtain ⟨a3, cap3, rfl, hc31, hc32, -⟩ := hr3
  rw [bv_len] at HR0 HR3 hc01 hc31 ⊢
  rw [bv_len]
  unfold maxLen at hc02 hc32
  obtain ⟨N, hN⟩ : ∃ N, bs.length = N := ⟨_, rfl⟩
  obtain ⟨M, hM⟩ : ∃ M, rm.length = M := ⟨_, rfl⟩
  have HN := Lib.hid hN
  have HMM := Lib.hid hM
  rw [hN] at HR0 hb hc01 ⊢
  rw [hM] at HR3 hrm hc31 ⊢
  have t1 : ¬ (5000 : Int) < (N : Int) := by omega
  have t2 : ¬ (n : Int) < 0 := by omega
  have t3 : ¬ (50 : Int) < (n : Int) := by omega
  have t4 : ¬ (200 : Int) < (M : Int) := by omega
  obtain ⟨w1, hmk, ho1, hb1⟩ := make_bytes w n hn
  have H1 := Lib.hid (show RK w w1 (.slice (some ⟨w.heap.size, 0, none⟩) n n) (fillb n 0) from ⟨hb1, by unfold fillb; simpa using ho1⟩)
  clear hN hM hm ho1 hb1
  go_enter Tryd.func6, Tryd.ntmps6
  go_wp2
  clear hmk
  go_loopg [10] n (fun g s10 wr => ∃ j : Nat, j + g = n ∧ s10 = .int .i64 (j : Int) ∧ Hid (RK w wr (.slice (some ⟨w.heap.size, 0, none⟩) n n) (fillb n j)))
  case atStart => exact ⟨0, by omega, rfl, H1⟩
  case round =>
    obtain ⟨j, hj, rfl, HK⟩ := hrel
    cases gk with
    | succ g =>
      have hjn : (j : Int) < (n : Int) := by omega
      obtain ⟨c0, f0⟩ := HK.out.cell (by omega)
      have HK1 := Lib.hid (HK.out.store (by omega))
      go_wp2
      go_roundg g
      case rel => exact ⟨j + 1, by omega, rfl, HK1⟩
      case measure => omega
    | zero =>
      obtain rfl : j = n := by omega
      have hf : fillb j j = List.replicate j 32 := by simp [fillb]
      rw [hf] at HK
      clear hf H1
      obtain ⟨m2, hm2⟩ : ∃ m2 : List UInt8, m2 = List.replicate j 32 ++ (if rm = [] then [] else [35]) := ⟨_, rfl⟩
      have hl2 : m2.length ≤ 51 := by rw [hm2, List.length_append, List.length_replicate]; split <;> simp <;> omega
      have HM2 := Lib.hid hm2
      clear hm2
      go_upto_if 51 with fail
      go_cut [9] (fun s9 wx => ∃ (a9 : Option Addr) (c9 : Nat), s9 = .slice a9 m2.length c9 ∧ Hid (RK w wx (.slice a9 m2.length c9) m2))
      case first =>
        by_cases hM0 : M = 0
        · have e2 : m2 = List.replicate j 32 := by rw [HM2.out, if_pos (List.length_eq_zero_iff.1 (by have := HMM.out; omega))]; simp
          have hM0' : ¬ (0 : Int) < (M : Int) := by omega
          have L2 : m2.length = j := by rw [e2]; simp
          rw [← e2] at HK
          have HK2 := Lib.hid HK.out
          rw [← L2] at HK2
          clear hM0
          go_wp2
          go_meet
          case rel => exact ⟨some ⟨w.heap.size, 0, none⟩, j, by rw [L2], by rw [L2]; exact HK⟩
        · have e2 : m2 = List.replicate j 32 ++ [35] := by rw [HM2.out, if_neg (fun e => hM0 (by rw [← HMM.out, e]; rfl))]
          have hM0' : (0 : Int) < (M : Int) := by omega
          have HKA := Lib.hid (HK.out.calm (below_alloc wr (.cells #[.int .u8 35] 5)))
          clear hM0
          go_wp2_with (at_builtin; refine wpList_append_bytes rfl (.tmp 52) (.tmp 53) 26 rfl w.heap.size 5 Tryd.underlying26 Tryd.info_u8' (by rfl) HKA.out.own (by rfl) (one_rd (b := 35) rfl) (by simp; omega) HKA.out.bl.size ?_; intro v3 w3 ho3 hg3 hb3; rw [← e2] at ho3; have HK3 := Lib.hid (HKA.out.append hg3 ho3); clear ho3 hg3 hb3)
          go_meet
          case rel =>
            obtain ⟨a9, c9, rfl⟩ := HK3.out.slice
            exact ⟨a9, c9, rfl, HK3⟩
      case rest =>
        obtain ⟨a9, c9, rfl, HK9⟩ := hcut
        clear HK
        go_wp2
        go_loopg [9, 11] M (fun g s9 s11 wr => ∃ (k : Nat) (a9 : Option Addr) (c9 : Nat) (mm : List UInt8), k + g = M ∧ s9 = .slice a9 mm.length c9 ∧ s11 = .int .i64 (k : Int) ∧ mm.length ≤ 51 + k ∧ Hid (mm = m2 ++ LN.kept (rm.take k)) ∧ Hid (RK w wr (.slice a9 mm.length c9) mm))
        case atStart => exact ⟨0, a9, c9, m2, by omega, rfl, rfl, by omega, by show m2 = _; simp [LN.kept], HK9⟩
        case round =>
          obtain ⟨k, a9, c9, mm, hk, rfl, rfl, hmm, HMM2, HKR⟩ := hrel
          cases gk with
          | succ g =>
            have hkM : (k : Int) < (M : Int) := by omega
            obtain ⟨b, off, cp, e1, hbb, hcells⟩ := (HR3.out.below HKR.out.bl).at (j := k) (by have := HMM.out; omega)
            obtain ⟨rfl, rfl⟩ : a3 = some ⟨b, off, none⟩ ∧ cap3 = cp := by
              simp at e1
              exact ⟨e1.1, e1.2.2⟩
            obtain ⟨c, hc⟩ : ∃ c, rm[k]? = some c := ⟨rm[k]'(by have := HMM.out; omega), List.getElem?_eq_getElem _⟩
            have hcell := hcells k (by have := HMM.out; omega)
            have hcc : rm[k]'(by have := HMM.out; omega) = c := by
              rw [List.getElem?_eq_getElem (by have := HMM.out; omega)] at hc
              exact Option.some.inj hc
            rw [hcc] at hcell
            obtain ⟨z, hz⟩ : ∃ z : Int, (c.toNat : Int) = z := ⟨_, rfl⟩
            rw [hz] at hcell
            have hub := c.toNat_lt
            have hz0 : 0 ≤ z := by omega
            have hz1 : z < 256 := by omega
            have hkn := LN.kept_next hc
            have hw := wrongB_cases c hz
            have HZ := Lib.hid hz
            clear hcells e1 hc hcc hz hub hbb
            rcases hw with ⟨h1, h2⟩ | ⟨h1, rfl, h2⟩ | ⟨h1, h3, h2⟩
            · rw [if_pos h2] at hkn
              have E := Lib.hid (show mm = m2 ++ LN.kept (rm.take (k + 1)) by rw [hkn]; exact HMM2.out)
              clear h2 hkn
              go_wp2
              go_roundg g
              case rel => exact ⟨k + 1, a9, c9, mm, by omega, rfl, rfl, by omega, E, HKR⟩
              case measure => omega
            · rw [if_pos h2] at hkn
              have E := Lib.hid (show mm = m2 ++ LN.kept (rm.take (k + 1)) by rw [hkn]; exact HMM2.out)
              clear h2 hkn
              go_wp2
              go_roundg g
              case rel => exact ⟨k + 1, a9, c9, mm, by omega, rfl, rfl, by omega, E, HKR⟩
              case measure => omega
            · rw [if_neg (by rw [h2]; simp)] at hkn
              have E := Lib.hid (show mm ++ [c] = m2 ++ LN.kept (rm.take (k + 1)) by rw [hkn, ← List.append_assoc, ← HMM2.out])
              have h32 : 32 ≤ z := by omega
              have b127 : (z == 127) = false := beq_eq_false_iff_ne.2 h3
              have HKA := Lib.hid (HKR.out.calm (below_alloc wr (.cells #[.int .u8 z] 5)))
              clear h2 hkn
              go_wp2_with (at_builtin; refine wpList_append_bytes rfl (.tmp 73) (.tmp 78) 26 rfl w.heap.size 5 Tryd.underlying26 Tryd.info_u8' (by rfl) HKA.out.own (by rfl) (one_rd (b := c) HZ.out.symm) (by simp; omega) HKA.out.bl.size ?_; intro v3 w3 ho3 hg3 hb3; have HK3 := Lib.hid (HKA.out.append hg3 ho3); clear ho3 hg3 hb3)
              go_roundg g
              case rel =>
                obtain ⟨a9, c9, rfl⟩ := HK3.out.slice
                exact ⟨k + 1, a9, c9, mm ++ [c], by omega, rfl, rfl, by simp; omega, E, HK3⟩
              case measure => omega
          | zero =>
            obtain rfl : k = M := by omega
            have HE : Hid (mm = LN.more j rm) := by
              have := HMM2.out
              rw [List.take_of_length_le (by have := HMM.out; omega), HM2.out] at this
              exact this
            have hml : mm.length ≤ 251 := by omega
            clear HMM2
            go_upto_block 4 with fail
            go_cut [12, 13] (fun s12 s13 wx => ∃ no k : Nat, s12 = .int .i64 (no : Int) ∧ s13 = .int .i64 (k : Int) ∧ no ≤ k ∧ k ≤ N ∧ wx = wr ∧ Hid (no = (bs.take k).count 10) ∧ Hid (k = N ∨ k = 0 ∨ bs[k - 1]? = some 10))
            case first =>
              as_aux_lemma =>
                go_wp2_with fail
                go_loopg [12, 13] N (fun g s12 s13 wx => ∃ k no : Nat, k + g = N ∧ no ≤ k ∧ s12 = .int .i64 (no : Int) ∧ s13 = .int .i64 (k : Int) ∧ wx = wr ∧ Hid (no = (bs.take k).count 10))
                case atStart => exact ⟨0, 0, by omega, by omega, rfl, rfl, rfl, by show 0 = _; simp⟩
                case round =>
                  obtain ⟨k, no, hkg, hnk, rfl, rfl, rfl, HNO⟩ := hrel
                  by_cases hkN : k < N
                  · have hkN' : (k : Int) < (N : Int) := by omega
                    obtain ⟨b, off, cp, e1, hbb, hcells⟩ := (HR0.out.below HKR.out.bl).at (j := k) (by have := HN.out; omega)
                    obtain ⟨rfl, rfl⟩ : a0 = some ⟨b, off, none⟩ ∧ cap0 = cp := by
                      simp at e1
                      exact ⟨e1.1, e1.2.2⟩
                    have HC := Lib.hid (show Cellz wr b off bs from fun i c hc => by
                      have hi := (List.getElem?_eq_some_iff.1 hc).1
                      rw [hcells i hi]
                      rw [List.getElem?_eq_getElem hi] at hc
                      rw [Option.some.inj hc])
                    obtain ⟨c, hc⟩ : ∃ c, bs[k]? = some c := ⟨bs[k]'(by have := HN.out; omega), List.getElem?_eq_getElem _⟩
                    have HCK := Lib.hid hc
                    clear hcells e1 hbb hc
                    by_cases hat : (k : Int) < at1
                    · have hck := HC.out k c HCK.out
                      by_cases hc10 : c = 10
                      · subst hc10
                        have hck : wr.cell? ⟨b, off + k, none⟩ = some (.int .u8 10) := hck
                        have E := Lib.hid (show no + 1 = (bs.take (k + 1)).count 10 by rw [count_next HCK.out, HNO.out]; simp)
                        go_wp2
                        go_roundg (gk - 1)
                        case rel => exact ⟨k + 1, no + 1, by omega, by omega, rfl, rfl, rfl, E⟩
                        case measure => omega
                      · obtain ⟨z, hz⟩ : ∃ z : Int, (c.toNat : Int) = z := ⟨_, rfl⟩
                        rw [hz] at hck
                        have q10 := ne_z hz 10 (by decide) hc10
                        have E := Lib.hid (show no = (bs.take (k + 1)).count 10 by rw [count_next HCK.out, HNO.out, if_neg hc10]; rfl)
                        clear hz hc10
                        go_wp2
                        go_roundg (gk - 1)
                        case rel => exact ⟨k + 1, no, by omega, by omega, rfl, rfl, rfl, E⟩
                        case measure => omega
                    · by_cases hk0 : k = 0
                      · subst hk0
                        go_wp2
                        go_meet
                        case rel => exact ⟨no, 0, rfl, rfl, by omega, by omega, rfl, HNO, Lib.hid (.inr (.inl rfl))⟩
                      · obtain ⟨p, hp⟩ : ∃ p, p = k - 1 := ⟨_, rfl⟩
                        have hkp1 : (k : Int) - 1 = (p : Int) := by omega
                        have hk1 : 0 < (k : Int) := by omega
                        obtain ⟨y, hy⟩ : ∃ y, bs[p]? = some y := ⟨bs[p]'(by have := HN.out; omega), List.getElem?_eq_getElem _⟩
                        have hcy := HC.out p y hy
                        have HP := Lib.hid (show bs[k - 1]? = some y by rw [← hp]; exact hy)
                        clear hp hy
                        by_cases hy10 : y = 10
                        · subst hy10
                          have hcy : wr.cell? ⟨b, off + p, none⟩ = some (.int .u8 10) := hcy
                          go_wp2
                          go_meet
                          case rel => exact ⟨no, k, rfl, rfl, by omega, by omega, rfl, HNO, Lib.hid (.inr (.inr HP.out))⟩
                        · obtain ⟨u, hu⟩ : ∃ u : Int, (y.toNat : Int) = u := ⟨_, rfl⟩
                          rw [hu] at hcy
                          have r10 := ne_z hu 10 (by decide) hy10
                          clear hu hy10
                          have hck := HC.out k c HCK.out
                          by_cases hc10 : c = 10
                          · subst hc10
                            have hck : wr.cell? ⟨b, off + k, none⟩ = some (.int .u8 10) := hck
                            have E := Lib.hid (show no + 1 = (bs.take (k + 1)).count 10 by rw [count_next HCK.out, HNO.out]; simp)
                            go_wp2
                            go_roundg (gk - 1)
                            case rel => exact ⟨k + 1, no + 1, by omega, by omega, rfl, rfl, rfl, E⟩
                            case measure => omega
                          · obtain ⟨z, hz⟩ : ∃ z : Int, (c.toNat : Int) = z := ⟨_, rfl⟩
                            rw [hz] at hck
                            have q10 := ne_z hz 10 (by decide) hc10
                            have E := Lib.hid (show no = (bs.take (k + 1)).count 10 by rw [count_next HCK.out, HNO.out, if_neg hc10]; rfl)
                            clear hz hc10
                            go_wp2
                            go_roundg (gk - 1)
                            case rel => exact ⟨k + 1, no, by omega, by omega, rfl, rfl, rfl, E⟩
                            case measure => omega
                  · obtain rfl : k = N := by omega
                    have hkk : ¬ (k : Int) < (k : Int) := by omega
                    go_wp2
                    go_meet
                    case rel => exact ⟨no, k, rfl, rfl, by omega, by omega, rfl, HNO, Lib.hid (.inl rfl)⟩
            case rest =>
              obtain ⟨no, k, rfl, rfl, hnk, hkN, hwc, HNO, HEX⟩ := hcut
              replace hwc := hwc.symm
              subst hwc
              have HL0 := Lib.hid (HR0.out.below HKR.out.bl)
              by_cases hgood : k = 0 ∨ bs[k - 1]? = some 10
              · have HGD := Lib.hid hgood
                go_upto_region 20 with fail
                go_cut [125] (fun s wx => s = .bool false ∧ wx = wr)
                case first =>
                  by_cases hkN2 : k = N
                  · subst hkN2
                    rcases hgood with rfl | hy
                    · go_wp2
                      go_meet
                      case rel => exact ⟨rfl, rfl⟩
                    · by_cases hk0 : k = 0
                      · subst hk0
                        go_wp2
                        go_meet
                        case rel => exact ⟨rfl, rfl⟩
                      · obtain ⟨p, hp⟩ : ∃ p, p = k - 1 := ⟨_, rfl⟩
                        have hkp1 : (k : Int) - 1 = (p : Int) := by omega
                        have hk1 : 0 < (k : Int) := by omega
                        obtain ⟨b, off, cp, e1, hbb, hcells⟩ := HL0.out.at (j := p) (by have := HN.out; omega)
                        obtain ⟨rfl, rfl⟩ : a0 = some ⟨b, off, none⟩ ∧ cap0 = cp := by
                          simp at e1
                          exact ⟨e1.1, e1.2.2⟩
                        have hcy := hcells p (by have := HN.out; omega)
                        have hcc : bs[p]'(by have := HN.out; omega) = 10 := by
                          rw [← hp, List.getElem?_eq_getElem (by have := HN.out; omega)] at hy
                          exact Option.some.inj hy
                        rw [hcc] at hcy
                        have hcy : wr.cell? ⟨b, off + p, none⟩ = some (.int .u8 10) := hcy
                        clear hcells e1 hbb hp hy hcc
                        go_wp2
                        go_meet
                        case rel => exact ⟨rfl, rfl⟩
                  · have hkb : ((k : Int) == (N : Int)) = false := beq_eq_false_iff_ne.2 (by omega)
                    go_wp2
                    go_meet
                    case rel => exact ⟨rfl, rfl⟩
                case rest =>
                  obtain ⟨rfl, hwc⟩ := hcut
                  replace hwc := hwc.symm
                  subst hwc
                  clear hgood
                  go_upto_region 22 with fail
                  go_cut [14] (fun s14 wx => ∃ (a14 : Option Addr) (n14 c14 : Nat), s14 = .slice a14 n14 c14 ∧ Hid (Rdv wx (.slice a14 n14 c14) (bv (LN.with1 bs k mm))) ∧ Hid (Below w.heap.size w wx))
                  case first =>
                    have HTK := Lib.hid (Rdv.take (L := k) (by have := HL0.out; rw [HN.out]; exact this) (by have := HN.out; omega))
                    have HMO := Lib.hid (HKR.out.own.rd)
                    by_cases hcap : cap0 = k
                    · as_aux_lemma =>
                        have hcap' : k = cap0 := hcap.symm
                        subst hcap'
                        have hNk : k = N := by omega
                        subst hNk
                        have HDR := Lib.hid ((Rdv.rest (bs := bs) (by have := HL0.out; rw [HN.out]; exact this) (l := k) (by have := HN.out; omega)).2 rfl)
                        rw [HN.out, Nat.sub_self] at HDR
                        have KA := region_starts wr
                        have K1 := Lib.hid KA.1
                        have K3 := Lib.hid KA.2.1
                        have L3 := Lib.hid KA.2.2.1
                        have K4 := Lib.hid KA.2.2.2.1
                        have L4 := Lib.hid KA.2.2.2.2
                        clear KA
                        have q1 : (k : Int) ≤ (k : Int) := by omega
                        have q2 : (k : Int) ≤ (k : Int) := by omega
                        have q3 : (k : Int) ≤ (k : Int) := by omega
                        have q4 : (0 : Int) ≤ (k : Int) := by omega
                        have q5 : k ≤ k := by omega
                        have hkb : k ≤ 5000 := by omega
                        have HWW := Lib.hid HKR.out.bl
                        refine wp_region_any (by kernel_rfl) ?_
                        change wpAny _ _ _ _ _ _ _ (World.drew _)
                        refine wpAny_take (i := 1) (v := ?v1x5) rfl (by kernel_rfl) (by kernel_rfl) (by kernel_rfl) (fun _ _ _ h => h) (Or.inl ⟨by rfl, ?h1x5⟩) ?r1x5
                        case h1x5 => intro w; go_simp; with_reducible rfl
                        (try simp only [List.getElem_toArray, List.getElem_cons_zero, List.getElem_cons_succ, Act.put, List.setIfInBounds_toArray, List.set_cons_zero, List.set_cons_succ])
                        refine wpAny_take (i := 2) (v := ?v2x6) rfl (by kernel_rfl) (by kernel_rfl) (by kernel_rfl) (fun _ _ _ h => h) (Or.inl ⟨by rfl, ?h2x6⟩) ?r2x6
                        case h2x6 => intro w; go_simp; with_reducible rfl
                        (try simp only [List.getElem_toArray, List.getElem_cons_zero, List.getElem_cons_succ, Act.put, List.setIfInBounds_toArray, List.set_cons_zero, List.set_cons_succ])
                        refine wpAny_take (i := 3) (v := ?v3x7) rfl (by kernel_rfl) (by kernel_rfl) (by kernel_rfl) (fun _ _ _ h => h) (Or.inl ⟨by rfl, ?h3x7⟩) ?r3x7
                        case h3x7 => intro w; go_simp; with_reducible rfl
                        (try simp only [List.getElem_toArray, List.getElem_cons_zero, List.getElem_cons_succ, Act.put, List.setIfInBounds_toArray, List.set_cons_zero, List.set_cons_succ])
                        refine wpAny_take (i := 5) (v := ?v5x8) rfl (by kernel_rfl) (by kernel_rfl) (by kernel_rfl) (fun _ _ _ h => h) (Or.inl ⟨by rfl, ?h5x8⟩) ?r5x8
                        case h5x8 => intro w; go_simp; with_reducible rfl
                        (try simp only [List.getElem_toArray, List.getElem_cons_zero, List.getElem_cons_succ, Act.put, List.setIfInBounds_toArray, List.set_cons_zero, List.set_cons_succ])
                        refine wpAny_take (i := 9) (v := ?v9x9) rfl (by kernel_rfl) (by kernel_rfl) (by kernel_rfl) (fun _ _ _ h => h) (Or.inl ⟨by rfl, ?h9x9⟩) ?r9x9
                        case h9x9 => intro w; go_simp; with_reducible rfl
                        (try simp only [List.getElem_toArray, List.getElem_cons_zero, List.getElem_cons_succ, Act.put, List.setIfInBounds_toArray, List.set_cons_zero, List.set_cons_succ])
                        refine wpAny_take (i := 10) (v := ?v10x10) rfl (by kernel_rfl) (by kernel_rfl) (by kernel_rfl) (fun _ _ _ h => h) (Or.inl ⟨by rfl, ?h10x10⟩) ?r10x10
                        case h10x10 => intro w; go_simp; with_reducible rfl
                        (try simp only [List.getElem_toArray, List.getElem_cons_zero, List.getElem_cons_succ, Act.put, List.setIfInBounds_toArray, List.set_cons_zero, List.set_cons_succ])
                        refine wpAny_take (i := 11) (v := ?v11x11) rfl (by kernel_rfl) (by kernel_rfl) (by kernel_rfl) (fun _ _ _ h => h) (Or.inl ⟨by rfl, ?h11x11⟩) ?r11x11
                        case h11x11 => intro w; go_simp; with_reducible rfl
                        (try simp only [List.getElem_toArray, List.getElem_cons_zero, List.getElem_cons_succ, Act.put, List.setIfInBounds_toArray, List.set_cons_zero, List.set_cons_succ])
                        refine wpAny_ready (rs := [0, 7]) (by kernel_rfl) (by simp) ?_
                        refine AllReady.cons rfl (fun K hK => ?_) ?_
                        · go_simp
                          refine hK _ _ ?_
                          clear hK K
                          (try simp only [List.getElem_toArray, List.getElem_cons_zero, List.getElem_cons_succ, Act.put, List.setIfInBounds_toArray, List.set_cons_zero, List.set_cons_succ])
                          refine wpAny_ready (rs := [4, 7]) (by kernel_rfl) (by simp) ?_
                          refine AllReady.cons rfl (fun K hK => ?_) ?_
                          · refine step_append_near (by rfl) (.tmp 127) (.tmp 130) 26 (by rfl) wr.heap.size 5 Tryd.underlying26 Tryd.info_u8' (by rfl) (K1.out).own (by first | rfl | (show Value.slice _ _ _ = Value.slice _ _ _; simp)) (HTK.out.below (K1.out).bl) (by have h0 := HBB.out; first | (simp; omega) | simp) (K1.out).bl.size ?_
                            intro v1 w1 ho hg hn
                            have HK1 := Lib.hid ((K1.out).append hg ho)
                            clear ho hg hn
                            refine hK _ _ ?_
                            clear hK K
                            (try simp only [List.getElem_toArray, List.getElem_cons_zero, List.getElem_cons_succ, Act.put, List.setIfInBounds_toArray, List.set_cons_zero, List.set_cons_succ])
                            refine wpAny_ready (rs := [6, 7]) (by kernel_rfl) (by simp) ?_
                            refine AllReady.cons rfl (fun K hK => ?_) ?_
                            · refine step_append_near (by rfl) (.tmp 131) (.tmp 132) 26 (by rfl) wr.heap.size 5 Tryd.underlying26 Tryd.info_u8' (by rfl) (HK1.out).own (by first | rfl | (show Value.slice _ _ _ = Value.slice _ _ _; simp)) (HMO.out.below (HK1.out).bl) (by have h0 := HBB.out; first | (simp; omega) | simp) (HK1.out).bl.size ?_
                              intro v2 w2 ho hg hn
                              have HK2 := Lib.hid ((HK1.out).append hg ho)
                              clear ho hg hn
                              refine hK _ _ ?_
                              clear hK K
                              (try simp only [List.getElem_toArray, List.getElem_cons_zero, List.getElem_cons_succ, Act.put, List.setIfInBounds_toArray, List.set_cons_zero, List.set_cons_succ])
                              refine wpAny_ready (rs := [7]) (by kernel_rfl) (by simp) ?_
                              refine AllReady.cons rfl (fun K hK => ?_) AllReady.nil
                              go_simp
                              refine hK _ _ ?_
                              clear hK K
                              (try simp only [List.getElem_toArray, List.getElem_cons_zero, List.getElem_cons_succ, Act.put, List.setIfInBounds_toArray, List.set_cons_zero, List.set_cons_succ])
                              refine wpAny_ready (rs := [8]) (by kernel_rfl) (by simp) ?_
                              refine AllReady.cons rfl (fun K hK => ?_) AllReady.nil
                              refine step_append_near (by rfl) (.tmp 133) (.tmp 134) 26 (by rfl) wr.heap.size 5 Tryd.underlying26 Tryd.info_u8' (by rfl) (HK2.out.calm (below_alloc w2 (.cells #[.int .u8 10] 5))).own (by first | rfl | (show Value.slice _ _ _ = Value.slice _ _ _; simp)) ((LT.new HK2.out).rd) (by have h0 := HBB.out; first | (simp; omega) | simp) (HK2.out.calm (below_alloc w2 (.cells #[.int .u8 10] 5))).bl.size ?_
                              intro v3 w3 ho hg hn
                              have HK3 := Lib.hid ((HK2.out.calm (below_alloc w2 (.cells #[.int .u8 10] 5))).append hg ho)
                              clear ho hg hn
                              refine hK _ _ ?_
                              clear hK K
                              (try simp only [List.getElem_toArray, List.getElem_cons_zero, List.getElem_cons_succ, Act.put, List.setIfInBounds_toArray, List.set_cons_zero, List.set_cons_succ])
                              refine wpAny_ready (rs := [12]) (by kernel_rfl) (by simp) ?_
                              refine AllReady.cons rfl (fun K hK => ?_) AllReady.nil
                              refine step_append_near (by rfl) (.tmp 135) (.tmp 138) 26 (by rfl) wr.heap.size 5 Tryd.underlying26 Tryd.info_u8' (by rfl) (HK3.out).own (by first | rfl | (show Value.slice _ _ _ = Value.slice _ _ _; simp)) (HDR.out.below HK3.out.bl) (by have h0 := HBB.out; first | (simp; omega) | simp) (HK3.out).bl.size ?_
                              intro v4 w4 ho hg hn
                              have HK4 := Lib.hid (HK3.out.append hg ho)
                              obtain ⟨a4, n4, c4, rfl⟩ := HK4.out.slice3
                              clear ho hg hn
                              refine hK _ _ ?_
                              clear hK K
                              (try simp only [List.getElem_toArray, List.getElem_cons_zero, List.getElem_cons_succ, Act.put, List.setIfInBounds_toArray, List.set_cons_zero, List.set_cons_succ])
                              refine wpAny_take (i := 13) (v := ?v13x1) rfl (by kernel_rfl) (by kernel_rfl) (by kernel_rfl) (fun _ _ _ h => h) (Or.inl ⟨by rfl, ?h13x1⟩) ?r13x1
                              case h13x1 => intro w; go_simp; with_reducible rfl
                              (try simp only [List.getElem_toArray, List.getElem_cons_zero, List.getElem_cons_succ, Act.put, List.setIfInBounds_toArray, List.set_cons_zero, List.set_cons_succ])
                              refine wpAny_done (by kernel_rfl) ?_ _
                              go_wp2_with fail
                              go_meet
                              case rel => exact ⟨a4, n4, c4, rfl, Lib.hid (by have := HK4.out.own.rd; rwa [List.nil_append] at this), Lib.hid (below_tr HWW.out HK4.out.bl)⟩
                            · refine AllReady.cons rfl (fun K hK => ?_) AllReady.nil
                              go_simp
                              refine hK _ _ ?_
                              clear hK K
                              (try simp only [List.getElem_toArray, List.getElem_cons_zero, List.getElem_cons_succ, Act.put, List.setIfInBounds_toArray, List.set_cons_zero, List.set_cons_succ])
                              refine wpAny_ready (rs := [6]) (by kernel_rfl) (by simp) ?_
                              refine AllReady.cons rfl (fun K hK => ?_) AllReady.nil
                              refine step_append_near (by rfl) (.tmp 131) (.tmp 132) 26 (by rfl) wr.heap.size 5 Tryd.underlying26 Tryd.info_u8' (by rfl) (HK1.out.calm (below_alloc w1 (.cells #[.int .u8 10] 5))).own (by first | rfl | (show Value.slice _ _ _ = Value.slice _ _ _; simp)) (HMO.out.below (HK1.out.calm (below_alloc w1 (.cells #[.int .u8 10] 5))).bl) (by have h0 := HBB.out; first | (simp; omega) | simp) (HK1.out.calm (below_alloc w1 (.cells #[.int .u8 10] 5))).bl.size ?_
                              intro v2 w2 ho hg hn
                              have HK2 := Lib.hid ((HK1.out.calm (below_alloc w1 (.cells #[.int .u8 10] 5))).append hg ho)
                              have HL2 := Lib.hid ((LT.new HK1.out).grow hg hn)
                              clear ho hg hn
                              refine hK _ _ ?_
                              clear hK K
                              (try simp only [List.getElem_toArray, List.getElem_cons_zero, List.getElem_cons_succ, Act.put, List.setIfInBounds_toArray, List.set_cons_zero, List.set_cons_succ])
                              refine wpAny_ready (rs := [8]) (by kernel_rfl) (by simp) ?_
                              refine AllReady.cons rfl (fun K hK => ?_) AllReady.nil
                              refine step_append_near (by rfl) (.tmp 133) (.tmp 134) 26 (by rfl) wr.heap.size 5 Tryd.underlying26 Tryd.info_u8' (by rfl) (HK2.out).own (by first | rfl | (show Value.slice _ _ _ = Value.slice _ _ _; simp)) (HL2.out.rd) (by have h0 := HBB.out; first | (simp; omega) | simp) (HK2.out).bl.size ?_
                              intro v3 w3 ho hg hn
                              have HK3 := Lib.hid ((HK2.out).append hg ho)
                              clear ho hg hn
                              refine hK _ _ ?_
                              clear hK K
                              (try simp only [List.getElem_toArray, List.getElem_cons_zero, List.getElem_cons_succ, Act.put, List.setIfInBounds_toArray, List.set_cons_zero, List.set_cons_succ])
                              refine wpAny_ready (rs := [12]) (by kernel_rfl) (by simp) ?_
                              refine AllReady.cons rfl (fun K hK => ?_) AllReady.nil
                              refine step_append_near (by rfl) (.tmp 135) (.tmp 138) 26 (by rfl) wr.heap.size 5 Tryd.underlying26 Tryd.info_u8' (by rfl) (HK3.out).own (by first | rfl | (show Value.slice _ _ _ = Value.slice _ _ _; simp)) (HDR.out.below HK3.out.bl) (by have h0 := HBB.out; first | (simp; omega) | simp) (HK3.out).bl.size ?_
                              intro v4 w4 ho hg hn
                              have HK4 := Lib.hid (HK3.out.append hg ho)
                              obtain ⟨a4, n4, c4, rfl⟩ := HK4.out.slice3
                              clear ho hg hn
                              refine hK _ _ ?_
                              clear hK K
                              (try simp only [List.getElem_toArray, List.getElem_cons_zero, List.getElem_cons_succ, Act.put, List.setIfInBounds_toArray, List.set_cons_zero, List.set_cons_succ])
                              refine wpAny_take (i := 13) (v := ?v13x2) rfl (by kernel_rfl) (by kernel_rfl) (by kernel_rfl) (fun _ _ _ h => h) (Or.inl ⟨by rfl, ?h13x2⟩) ?r13x2
                              case h13x2 => intro w; go_simp; with_reducible rfl
                              (try simp only [List.getElem_toArray, List.getElem_cons_zero, List.getElem_cons_succ, Act.put, List.setIfInBounds_toArray, List.set_cons_zero, List.set_cons_succ])
                              refine wpAny_done (by kernel_rfl) ?_ _
                              go_wp2_with fail
                              go_meet
                              case rel => exact ⟨a4, n4, c4, rfl, Lib.hid (by have := HK4.out.own.rd; rwa [List.nil_append] at this), Lib.hid (below_tr HWW.out HK4.out.bl)⟩
                          · refine AllReady.cons rfl (fun K hK => ?_) AllReady.nil
                            go_simp
                            refine hK _ _ ?_
                            clear hK K
                            (try simp only [List.getElem_toArray, List.getElem_cons_zero, List.getElem_cons_succ, Act.put, List.setIfInBounds_toArray, List.set_cons_zero, List.set_cons_succ])
                            refine wpAny_ready (rs := [4]) (by kernel_rfl) (by simp) ?_
                            refine AllReady.cons rfl (fun K hK => ?_) AllReady.nil
                            refine step_append_near (by rfl) (.tmp 127) (.tmp 130) 26 (by rfl) wr.heap.size 5 Tryd.underlying26 Tryd.info_u8' (by rfl) (K3.out).own (by first | rfl | (show Value.slice _ _ _ = Value.slice _ _ _; simp)) (HTK.out.below (K3.out).bl) (by have h0 := HBB.out; first | (simp; omega) | simp) (K3.out).bl.size ?_
                            intro v1 w1 ho hg hn
                            have HK1 := Lib.hid ((K3.out).append hg ho)
                            have HL1 := Lib.hid (L3.out.grow hg hn)
                            clear ho hg hn
                            refine hK _ _ ?_
                            clear hK K
                            (try simp only [List.getElem_toArray, List.getElem_cons_zero, List.getElem_cons_succ, Act.put, List.setIfInBounds_toArray, List.set_cons_zero, List.set_cons_succ])
                            refine wpAny_ready (rs := [6]) (by kernel_rfl) (by simp) ?_
                            refine AllReady.cons rfl (fun K hK => ?_) AllReady.nil
                            refine step_append_near (by rfl) (.tmp 131) (.tmp 132) 26 (by rfl) wr.heap.size 5 Tryd.underlying26 Tryd.info_u8' (by rfl) (HK1.out).own (by first | rfl | (show Value.slice _ _ _ = Value.slice _ _ _; simp)) (HMO.out.below (HK1.out).bl) (by have h0 := HBB.out; first | (simp; omega) | simp) (HK1.out).bl.size ?_
                            intro v2 w2 ho hg hn
                            have HK2 := Lib.hid ((HK1.out).append hg ho)
                            have HL2 := Lib.hid (HL1.out.grow hg hn)
                            clear ho hg hn
                            refine hK _ _ ?_
                            clear hK K
                            (try simp only [List.getElem_toArray, List.getElem_cons_zero, List.getElem_cons_succ, Act.put, List.setIfInBounds_toArray, List.set_cons_zero, List.set_cons_succ])
                            refine wpAny_ready (rs := [8]) (by kernel_rfl) (by simp) ?_
                            refine AllReady.cons rfl (fun K hK => ?_) AllReady.nil
                            refine step_append_near (by rfl) (.tmp 133) (.tmp 134) 26 (by rfl) wr.heap.size 5 Tryd.underlying26 Tryd.info_u8' (by rfl) (HK2.out).own (by first | rfl | (show Value.slice _ _ _ = Value.slice _ _ _; simp)) (HL2.out.rd) (by have h0 := HBB.out; first | (simp; omega) | simp) (HK2.out).bl.size ?_
                            intro v3 w3 ho hg hn
                            have HK3 := Lib.hid ((HK2.out).append hg ho)
                            clear ho hg hn
                            refine hK _ _ ?_
                            clear hK K
                            (try simp only [List.getElem_toArray, List.getElem_cons_zero, List.getElem_cons_succ, Act.put, List.setIfInBounds_toArray, List.set_cons_zero, List.set_cons_succ])
                            refine wpAny_ready (rs := [12]) (by kernel_rfl) (by simp) ?_
                            refine AllReady.cons rfl (fun K hK => ?_) AllReady.nil
                            refine step_append_near (by rfl) (.tmp 135) (.tmp 138) 26 (by rfl) wr.heap.size 5 Tryd.underlying26 Tryd.info_u8' (by rfl) (HK3.out).own (by first | rfl | (show Value.slice _ _ _ = Value.slice _ _ _; simp)) (HDR.out.below HK3.out.bl) (by have h0 := HBB.out; first | (simp; omega) | simp) (HK3.out).bl.size ?_
                            intro v4 w4 ho hg hn
                            have HK4 := Lib.hid (HK3.out.append hg ho)
                            obtain ⟨a4, n4, c4, rfl⟩ := HK4.out.slice3
                            clear ho hg hn
                            refine hK _ _ ?_
                            clear hK K
                            (try simp only [List.getElem_toArray, List.getElem_cons_zero, List.getElem_cons_succ, Act.put, List.setIfInBounds_toArray, List.set_cons_zero, List.set_cons_succ])
                            refine wpAny_take (i := 13) (v := ?v13x3) rfl (by kernel_rfl) (by kernel_rfl) (by kernel_rfl) (fun _ _ _ h => h) (Or.inl ⟨by rfl, ?h13x3⟩) ?r13x3
                            case h13x3 => intro w; go_simp; with_reducible rfl
                            (try simp only [List.getElem_toArray, List.getElem_cons_zero, List.getElem_cons_succ, Act.put, List.setIfInBounds_toArray, List.set_cons_zero, List.set_cons_succ])
                            refine wpAny_done (by kernel_rfl) ?_ _
                            go_wp2_with fail
                            go_meet
                            case rel => exact ⟨a4, n4, c4, rfl, Lib.hid (by have := HK4.out.own.rd; rwa [List.nil_append] at this), Lib.hid (below_tr HWW.out HK4.out.bl)⟩
                        · refine AllReady.cons rfl (fun K hK => ?_) AllReady.nil
                          go_simp
                          refine hK _ _ ?_
                          clear hK K
                          (try simp only [List.getElem_toArray, List.getElem_cons_zero, List.getElem_cons_succ, Act.put, List.setIfInBounds_toArray, List.set_cons_zero, List.set_cons_succ])
                          refine wpAny_ready (rs := [0]) (by kernel_rfl) (by simp) ?_
                          refine AllReady.cons rfl (fun K hK => ?_) AllReady.nil
                          go_simp
                          refine hK _ _ ?_
                          clear hK K
                          (try simp only [List.getElem_toArray, List.getElem_cons_zero, List.getElem_cons_succ, Act.put, List.setIfInBounds_toArray, List.set_cons_zero, List.set_cons_succ])
                          refine wpAny_ready (rs := [4]) (by kernel_rfl) (by simp) ?_
                          refine AllReady.cons rfl (fun K hK => ?_) AllReady.nil
                          refine step_append_near (by rfl) (.tmp 127) (.tmp 130) 26 (by rfl) wr.heap.size 5 Tryd.underlying26 Tryd.info_u8' (by rfl) (K4.out).own (by first | rfl | (show Value.slice _ _ _ = Value.slice _ _ _; simp)) (HTK.out.below (K4.out).bl) (by have h0 := HBB.out; first | (simp; omega) | simp) (K4.out).bl.size ?_
                          intro v1 w1 ho hg hn
                          have HK1 := Lib.hid ((K4.out).append hg ho)
                          have HL1 := Lib.hid (L4.out.grow hg hn)
                          clear ho hg hn
                          refine hK _ _ ?_
                          clear hK K
                          (try simp only [List.getElem_toArray, List.getElem_cons_zero, List.getElem_cons_succ, Act.put, List.setIfInBounds_toArray, List.set_cons_zero, List.set_cons_succ])
                          refine wpAny_ready (rs := [6]) (by kernel_rfl) (by simp) ?_
                          refine AllReady.cons rfl (fun K hK => ?_) AllReady.nil
                          refine step_append_near (by rfl) (.tmp 131) (.tmp 132) 26 (by rfl) wr.heap.size 5 Tryd.underlying26 Tryd.info_u8' (by rfl) (HK1.out).own (by first | rfl | (show Value.slice _ _ _ = Value.slice _ _ _; simp)) (HMO.out.below (HK1.out).bl) (by have h0 := HBB.out; first | (simp; omega) | simp) (HK1.out).bl.size ?_
                          intro v2 w2 ho hg hn
                          have HK2 := Lib.hid ((HK1.out).append hg ho)
                          have HL2 := Lib.hid (HL1.out.grow hg hn)
                          clear ho hg hn
                          refine hK _ _ ?_
                          clear hK K
                          (try simp only [List.getElem_toArray, List.getElem_cons_zero, List.getElem_cons_succ, Act.put, List.setIfInBounds_toArray, List.set_cons_zero, List.set_cons_succ])
                          refine wpAny_ready (rs := [8]) (by kernel_rfl) (by simp) ?_
                          refine AllReady.cons rfl (fun K hK => ?_) AllReady.nil
                          refine step_append_near (by rfl) (.tmp 133) (.tmp 134) 26 (by rfl) wr.heap.size 5 Tryd.underlying26 Tryd.info_u8' (by rfl) (HK2.out).own (by first | rfl | (show Value.slice _ _ _ = Value.slice _ _ _; simp)) (HL2.out.rd) (by have h0 := HBB.out; first | (simp; omega) | simp) (HK2.out).bl.size ?_
                          intro v3 w3 ho hg hn
                          have HK3 := Lib.hid ((HK2.out).append hg ho)
                          clear ho hg hn
                          refine hK _ _ ?_
                          clear hK K
                          (try simp only [List.getElem_toArray, List.getElem_cons_zero, List.getElem_cons_succ, Act.put, List.setIfInBounds_toArray, List.set_cons_zero, List.set_cons_succ])
                          refine wpAny_ready (rs := [12]) (by kernel_rfl) (by simp) ?_
                          refine AllReady.cons rfl (fun K hK => ?_) AllReady.nil
                          refine step_append_near (by rfl) (.tmp 135) (.tmp 138) 26 (by rfl) wr.heap.size 5 Tryd.underlying26 Tryd.info_u8' (by rfl) (HK3.out).own (by first | rfl | (show Value.slice _ _ _ = Value.slice _ _ _; simp)) (HDR.out.below HK3.out.bl) (by have h0 := HBB.out; first | (simp; omega) | simp) (HK3.out).bl.size ?_
                          intro v4 w4 ho hg hn
                          have HK4 := Lib.hid (HK3.out.append hg ho)
                          obtain ⟨a4, n4, c4, rfl⟩ := HK4.out.slice3
                          clear ho hg hn
                          refine hK _ _ ?_
                          clear hK K
                          (try simp only [List.getElem_toArray, List.getElem_cons_zero, List.getElem_cons_succ, Act.put, List.setIfInBounds_toArray, List.set_cons_zero, List.set_cons_succ])
                          refine wpAny_take (i := 13) (v := ?v13x4) rfl (by kernel_rfl) (by kernel_rfl) (by kernel_rfl) (fun _ _ _ h => h) (Or.inl ⟨by rfl, ?h13x4⟩) ?r13x4
                          case h13x4 => intro w; go_simp; with_reducible rfl
                          (try simp only [List.getElem_toArray, List.getElem_cons_zero, List.getElem_cons_succ, Act.put, List.setIfInBounds_toArray, List.set_cons_zero, List.set_cons_succ])
                          refine wpAny_done (by kernel_rfl) ?_ _
                          go_wp2_with fail
                          go_meet
                          case rel => exact ⟨a4, n4, c4, rfl, Lib.hid (by have := HK4.out.own.rd; rwa [List.nil_append] at this), Lib.hid (below_tr HWW.out HK4.out.bl)⟩
                    · as_aux_lemma =>
                        have HDR := Lib.hid ((Rdv.rest (bs := bs) (by have := HL0.out; rw [HN.out]; exact this) (l := k) (by have := HN.out; omega)).1 hcap)
                        rw [HN.out] at HDR
                        have KA := region_starts wr
                        have K1 := Lib.hid KA.1
                        have K3 := Lib.hid KA.2.1
                        have L3 := Lib.hid KA.2.2.1
                        have K4 := Lib.hid KA.2.2.2.1
                        have L4 := Lib.hid KA.2.2.2.2
                        clear KA
                        have q1 : (k : Int) ≤ (N : Int) := by omega
                        have q2 : (k : Int) ≤ (cap0 : Int) := by omega
                        have q3 : (N : Int) ≤ (cap0 : Int) := by omega
                        have q4 : (0 : Int) ≤ (k : Int) := by omega
                        have q5 : k ≤ cap0 := by omega
                        have hkb : k ≤ 5000 := by omega
                        have HWW := Lib.hid HKR.out.bl
                        refine wp_region_any (by kernel_rfl) ?_
                        change wpAny _ _ _ _ _ _ _ (World.drew _)
                        refine wpAny_take (i := 1) (v := ?v1y12) rfl (by kernel_rfl) (by kernel_rfl) (by kernel_rfl) (fun _ _ _ h => h) (Or.inl ⟨by rfl, ?h1y12⟩) ?r1y12
                        case h1y12 => intro w; go_simp; with_reducible rfl
                        (try simp only [List.getElem_toArray, List.getElem_cons_zero, List.getElem_cons_succ, Act.put, List.setIfInBounds_toArray, List.set_cons_zero, List.set_cons_succ])
                        refine wpAny_take (i := 2) (v := ?v2y13) rfl (by kernel_rfl) (by kernel_rfl) (by kernel_rfl) (fun _ _ _ h => h) (Or.inl ⟨by rfl, ?h2y13⟩) ?r2y13
                        case h2y13 => intro w; go_simp; with_reducible rfl
                        (try simp only [List.getElem_toArray, List.getElem_cons_zero, List.getElem_cons_succ, Act.put, List.setIfInBounds_toArray, List.set_cons_zero, List.set_cons_succ])
                        refine wpAny_take (i := 3) (v := ?v3y14) rfl (by kernel_rfl) (by kernel_rfl) (by kernel_rfl) (fun _ _ _ h => h) (Or.inl ⟨by rfl, ?h3y14⟩) ?r3y14
                        case h3y14 => intro w; go_simp; with_reducible rfl
                        (try simp only [List.getElem_toArray, List.getElem_cons_zero, List.getElem_cons_succ, Act.put, List.setIfInBounds_toArray, List.set_cons_zero, List.set_cons_succ])
                        refine wpAny_take (i := 5) (v := ?v5y15) rfl (by kernel_rfl) (by kernel_rfl) (by kernel_rfl) (fun _ _ _ h => h) (Or.inl ⟨by rfl, ?h5y15⟩) ?r5y15
                        case h5y15 => intro w; go_simp; with_reducible rfl
                        (try simp only [List.getElem_toArray, List.getElem_cons_zero, List.getElem_cons_succ, Act.put, List.setIfInBounds_toArray, List.set_cons_zero, List.set_cons_succ])
                        refine wpAny_take (i := 9) (v := ?v9y16) rfl (by kernel_rfl) (by kernel_rfl) (by kernel_rfl) (fun _ _ _ h => h) (Or.inl ⟨by rfl, ?h9y16⟩) ?r9y16
                        case h9y16 => intro w; go_simp; with_reducible rfl
                        (try simp only [List.getElem_toArray, List.getElem_cons_zero, List.getElem_cons_succ, Act.put, List.setIfInBounds_toArray, List.set_cons_zero, List.set_cons_succ])
                        refine wpAny_take (i := 10) (v := ?v10y17) rfl (by kernel_rfl) (by kernel_rfl) (by kernel_rfl) (fun _ _ _ h => h) (Or.inl ⟨by rfl, ?h10y17⟩) ?r10y17
                        case h10y17 => intro w; go_simp; with_reducible rfl
                        (try simp only [List.getElem_toArray, List.getElem_cons_zero, List.getElem_cons_succ, Act.put, List.setIfInBounds_toArray, List.set_cons_zero, List.set_cons_succ])
                        refine wpAny_take (i := 11) (v := ?v11y18) rfl (by kernel_rfl) (by kernel_rfl) (by kernel_rfl) (fun _ _ _ h => h) (Or.inl ⟨by rfl, ?h11y18⟩) ?r11y18
                        case h11y18 => intro w; go_simp; with_reducible rfl
                        (try simp only [List.getElem_toArray, List.getElem_cons_zero, List.getElem_cons_succ, Act.put, List.setIfInBounds_toArray, List.set_cons_zero, List.set_cons_succ])
                        refine wpAny_ready (rs := [0, 7]) (by kernel_rfl) (by simp) ?_
                        refine AllReady.cons rfl (fun K hK => ?_) ?_
                        · go_simp
                          refine hK _ _ ?_
                          clear hK K
                          (try simp only [List.getElem_toArray, List.getElem_cons_zero, List.getElem_cons_succ, Act.put, List.setIfInBounds_toArray, List.set_cons_zero, List.set_cons_succ])
                          refine wpAny_ready (rs := [4, 7]) (by kernel_rfl) (by simp) ?_
                          refine AllReady.cons rfl (fun K hK => ?_) ?_
                          · refine step_append_near (by rfl) (.tmp 127) (.tmp 130) 26 (by rfl) wr.heap.size 5 Tryd.underlying26 Tryd.info_u8' (by rfl) (K1.out).own (by first | rfl | (show Value.slice _ _ _ = Value.slice _ _ _; simp)) (HTK.out.below (K1.out).bl) (by have h0 := HBB.out; first | (simp; omega) | simp) (K1.out).bl.size ?_
                            intro v1 w1 ho hg hn
                            have HK1 := Lib.hid ((K1.out).append hg ho)
                            clear ho hg hn
                            refine hK _ _ ?_
                            clear hK K
                            (try simp only [List.getElem_toArray, List.getElem_cons_zero, List.getElem_cons_succ, Act.put, List.setIfInBounds_toArray, List.set_cons_zero, List.set_cons_succ])
                            refine wpAny_ready (rs := [6, 7]) (by kernel_rfl) (by simp) ?_
                            refine AllReady.cons rfl (fun K hK => ?_) ?_
                            · refine step_append_near (by rfl) (.tmp 131) (.tmp 132) 26 (by rfl) wr.heap.size 5 Tryd.underlying26 Tryd.info_u8' (by rfl) (HK1.out).own (by first | rfl | (show Value.slice _ _ _ = Value.slice _ _ _; simp)) (HMO.out.below (HK1.out).bl) (by have h0 := HBB.out; first | (simp; omega) | simp) (HK1.out).bl.size ?_
                              intro v2 w2 ho hg hn
                              have HK2 := Lib.hid ((HK1.out).append hg ho)
                              clear ho hg hn
                              refine hK _ _ ?_
                              clear hK K
                              (try simp only [List.getElem_toArray, List.getElem_cons_zero, List.getElem_cons_succ, Act.put, List.setIfInBounds_toArray, List.set_cons_zero, List.set_cons_succ])
                              refine wpAny_ready (rs := [7]) (by kernel_rfl) (by simp) ?_
                              refine AllReady.cons rfl (fun K hK => ?_) AllReady.nil
                              go_simp
                              refine hK _ _ ?_
                              clear hK K
                              (try simp only [List.getElem_toArray, List.getElem_cons_zero, List.getElem_cons_succ, Act.put, List.setIfInBounds_toArray, List.set_cons_zero, List.set_cons_succ])
                              refine wpAny_ready (rs := [8]) (by kernel_rfl) (by simp) ?_
                              refine AllReady.cons rfl (fun K hK => ?_) AllReady.nil
                              refine step_append_near (by rfl) (.tmp 133) (.tmp 134) 26 (by rfl) wr.heap.size 5 Tryd.underlying26 Tryd.info_u8' (by rfl) (HK2.out.calm (below_alloc w2 (.cells #[.int .u8 10] 5))).own (by first | rfl | (show Value.slice _ _ _ = Value.slice _ _ _; simp)) ((LT.new HK2.out).rd) (by have h0 := HBB.out; first | (simp; omega) | simp) (HK2.out.calm (below_alloc w2 (.cells #[.int .u8 10] 5))).bl.size ?_
                              intro v3 w3 ho hg hn
                              have HK3 := Lib.hid ((HK2.out.calm (below_alloc w2 (.cells #[.int .u8 10] 5))).append hg ho)
                              clear ho hg hn
                              refine hK _ _ ?_
                              clear hK K
                              (try simp only [List.getElem_toArray, List.getElem_cons_zero, List.getElem_cons_succ, Act.put, List.setIfInBounds_toArray, List.set_cons_zero, List.set_cons_succ])
                              refine wpAny_ready (rs := [12]) (by kernel_rfl) (by simp) ?_
                              refine AllReady.cons rfl (fun K hK => ?_) AllReady.nil
                              refine step_append_near (by rfl) (.tmp 135) (.tmp 138) 26 (by rfl) wr.heap.size 5 Tryd.underlying26 Tryd.info_u8' (by rfl) (HK3.out).own (by first | rfl | (show Value.slice _ _ _ = Value.slice _ _ _; simp)) (HDR.out.below HK3.out.bl) (by have h0 := HBB.out; first | (simp; omega) | simp) (HK3.out).bl.size ?_
                              intro v4 w4 ho hg hn
                              have HK4 := Lib.hid (HK3.out.append hg ho)
                              obtain ⟨a4, n4, c4, rfl⟩ := HK4.out.slice3
                              clear ho hg hn
                              refine hK _ _ ?_
                              clear hK K
                              (try simp only [List.getElem_toArray, List.getElem_cons_zero, List.getElem_cons_succ, Act.put, List.setIfInBounds_toArray, List.set_cons_zero, List.set_cons_succ])
                              refine wpAny_take (i := 13) (v := ?v13y1) rfl (by kernel_rfl) (by kernel_rfl) (by kernel_rfl) (fun _ _ _ h => h) (Or.inl ⟨by rfl, ?h13y1⟩) ?r13y1
                              case h13y1 => intro w; go_simp; with_reducible rfl
                              (try simp only [List.getElem_toArray, List.getElem_cons_zero, List.getElem_cons_succ, Act.put, List.setIfInBounds_toArray, List.set_cons_zero, List.set_cons_succ])
                              refine wpAny_done (by kernel_rfl) ?_ _
                              go_wp2_with fail
                              go_meet
                              case rel => exact ⟨a4, n4, c4, rfl, Lib.hid (by have := HK4.out.own.rd; rwa [List.nil_append] at this), Lib.hid (below_tr HWW.out HK4.out.bl)⟩
                            · refine AllReady.cons rfl (fun K hK => ?_) AllReady.nil
                              go_simp
                              refine hK _ _ ?_
                              clear hK K
                              (try simp only [List.getElem_toArray, List.getElem_cons_zero, List.getElem_cons_succ, Act.put, List.setIfInBounds_toArray, List.set_cons_zero, List.set_cons_succ])
                              refine wpAny_ready (rs := [6]) (by kernel_rfl) (by simp) ?_
                              refine AllReady.cons rfl (fun K hK => ?_) AllReady.nil
                              refine step_append_near (by rfl) (.tmp 131) (.tmp 132) 26 (by rfl) wr.heap.size 5 Tryd.underlying26 Tryd.info_u8' (by rfl) (HK1.out.calm (below_alloc w1 (.cells #[.int .u8 10] 5))).own (by first | rfl | (show Value.slice _ _ _ = Value.slice _ _ _; simp)) (HMO.out.below (HK1.out.calm (below_alloc w1 (.cells #[.int .u8 10] 5))).bl) (by have h0 := HBB.out; first | (simp; omega) | simp) (HK1.out.calm (below_alloc w1 (.cells #[.int .u8 10] 5))).bl.size ?_
                              intro v2 w2 ho hg hn
                              have HK2 := Lib.hid ((HK1.out.calm (below_alloc w1 (.cells #[.int .u8 10] 5))).append hg ho)
                              have HL2 := Lib.hid ((LT.new HK1.out).grow hg hn)
                              clear ho hg hn
                              refine hK _ _ ?_
                              clear hK K
                              (try simp only [List.getElem_toArray, List.getElem_cons_zero, List.getElem_cons_succ, Act.put, List.setIfInBounds_toArray, List.set_cons_zero, List.set_cons_succ])
                              refine wpAny_ready (rs := [8]) (by kernel_rfl) (by simp) ?_
                              refine AllReady.cons rfl (fun K hK => ?_) AllReady.nil
                              refine step_append_near (by rfl) (.tmp 133) (.tmp 134) 26 (by rfl) wr.heap.size 5 Tryd.underlying26 Tryd.info_u8' (by rfl) (HK2.out).own (by first | rfl | (show Value.slice _ _ _ = Value.slice _ _ _; simp)) (HL2.out.rd) (by have h0 := HBB.out; first | (simp; omega) | simp) (HK2.out).bl.size ?_
                              intro v3 w3 ho hg hn
                              have HK3 := Lib.hid ((HK2.out).append hg ho)
                              clear ho hg hn
                              refine hK _ _ ?_
                              clear hK K
                              (try simp only [List.getElem_toArray, List.getElem_cons_zero, List.getElem_cons_succ, Act.put, List.setIfInBounds_toArray, List.set_cons_zero, List.set_cons_succ])
                              refine wpAny_ready (rs := [12]) (by kernel_rfl) (by simp) ?_
                              refine AllReady.cons rfl (fun K hK => ?_) AllReady.nil
                              refine step_append_near (by rfl) (.tmp 135) (.tmp 138) 26 (by rfl) wr.heap.size 5 Tryd.underlying26 Tryd.info_u8' (by rfl) (HK3.out).own (by first | rfl | (show Value.slice _ _ _ = Value.slice _ _ _; simp)) (HDR.out.below HK3.out.bl) (by have h0 := HBB.out; first | (simp; omega) | simp) (HK3.out).bl.size ?_
                              intro v4 w4 ho hg hn
                              have HK4 := Lib.hid (HK3.out.append hg ho)
                              obtain ⟨a4, n4, c4, rfl⟩ := HK4.out.slice3
                              clear ho hg hn
                              refine hK _ _ ?_
                              clear hK K
                              (try simp only [List.getElem_toArray, List.getElem_cons_zero, List.getElem_cons_succ, Act.put, List.setIfInBounds_toArray, List.set_cons_zero, List.set_cons_succ])
                              refine wpAny_take (i := 13) (v := ?v13y2) rfl (by kernel_rfl) (by kernel_rfl) (by kernel_rfl) (fun _ _ _ h => h) (Or.inl ⟨by rfl, ?h13y2⟩) ?r13y2
                              case h13y2 => intro w; go_simp; with_reducible rfl
                              (try simp only [List.getElem_toArray, List.getElem_cons_zero, List.getElem_cons_succ, Act.put, List.setIfInBounds_toArray, List.set_cons_zero, List.set_cons_succ])
                              refine wpAny_done (by kernel_rfl) ?_ _
                              go_wp2_with fail
                              go_meet
                              case rel => exact ⟨a4, n4, c4, rfl, Lib.hid (by have := HK4.out.own.rd; rwa [List.nil_append] at this), Lib.hid (below_tr HWW.out HK4.out.bl)⟩
                          · refine AllReady.cons rfl (fun K hK => ?_) AllReady.nil
                            go_simp
                            refine hK _ _ ?_
                            clear hK K
                            (try simp only [List.getElem_toArray, List.getElem_cons_zero, List.getElem_cons_succ, Act.put, List.setIfInBounds_toArray, List.set_cons_zero, List.set_cons_succ])
                            refine wpAny_ready (rs := [4]) (by kernel_rfl) (by simp) ?_
                            refine AllReady.cons rfl (fun K hK => ?_) AllReady.nil
                            refine step_append_near (by rfl) (.tmp 127) (.tmp 130) 26 (by rfl) wr.heap.size 5 Tryd.underlying26 Tryd.info_u8' (by rfl) (K3.out).own (by first | rfl | (show Value.slice _ _ _ = Value.slice _ _ _; simp)) (HTK.out.below (K3.out).bl) (by have h0 := HBB.out; first | (simp; omega) | simp) (K3.out).bl.size ?_
                            intro v1 w1 ho hg hn
                            have HK1 := Lib.hid ((K3.out).append hg ho)
                            have HL1 := Lib.hid (L3.out.grow hg hn)
                            clear ho hg hn
                            refine hK _ _ ?_
                            clear hK K
                            (try simp only [List.getElem_toArray, List.getElem_cons_zero, List.getElem_cons_succ, Act.put, List.setIfInBounds_toArray, List.set_cons_zero, List.set_cons_succ])
                            refine wpAny_ready (rs := [6]) (by kernel_rfl) (by simp) ?_
                            refine AllReady.cons rfl (fun K hK => ?_) AllReady.nil
                            refine step_append_near (by rfl) (.tmp 131) (.tmp 132) 26 (by rfl) wr.heap.size 5 Tryd.underlying26 Tryd.info_u8' (by rfl) (HK1.out).own (by first | rfl | (show Value.slice _ _ _ = Value.slice _ _ _; simp)) (HMO.out.below (HK1.out).bl) (by have h0 := HBB.out; first | (simp; omega) | simp) (HK1.out).bl.size ?_
                            intro v2 w2 ho hg hn
                            have HK2 := Lib.hid ((HK1.out).append hg ho)
                            have HL2 := Lib.hid (HL1.out.grow hg hn)
                            clear ho hg hn
                            refine hK _ _ ?_
                            clear hK K
                            (try simp only [List.getElem_toArray, List.getElem_cons_zero, List.getElem_cons_succ, Act.put, List.setIfInBounds_toArray, List.set_cons_zero, List.set_cons_succ])
                            refine wpAny_ready (rs := [8]) (by kernel_rfl) (by simp) ?_
                            refine AllReady.cons rfl (fun K hK => ?_) AllReady.nil
                            refine step_append_near (by rfl) (.tmp 133) (.tmp 134) 26 (by rfl) wr.heap.size 5 Tryd.underlying26 Tryd.info_u8' (by rfl) (HK2.out).own (by first | rfl | (show Value.slice _ _ _ = Value.slice _ _ _; simp)) (HL2.out.rd) (by have h0 := HBB.out; first | (simp; omega) | simp) (HK2.out).bl.size ?_
                            intro v3 w3 ho hg hn
                            have HK3 := Lib.hid ((HK2.out).append hg ho)
                            clear ho hg hn
                            refine hK _ _ ?_
                            clear hK K
                            (try simp only [List.getElem_toArray, List.getElem_cons_zero, List.getElem_cons_succ, Act.put, List.setIfInBounds_toArray, List.set_cons_zero, List.set_cons_succ])
                            refine wpAny_ready (rs := [12]) (by kernel_rfl) (by simp) ?_
                            refine AllReady.cons rfl (fun K hK => ?_) AllReady.nil
                            refine step_append_near (by rfl) (.tmp 135) (.tmp 138) 26 (by rfl) wr.heap.size 5 Tryd.underlying26 Tryd.info_u8' (by rfl) (HK3.out).own (by first | rfl | (show Value.slice _ _ _ = Value.slice _ _ _; simp)) (HDR.out.below HK3.out.bl) (by have h0 := HBB.out; first | (simp; omega) | simp) (HK3.out).bl.size ?_
                            intro v4 w4 ho hg hn
                            have HK4 := Lib.hid (HK3.out.append hg ho)
                            obtain ⟨a4, n4, c4, rfl⟩ := HK4.out.slice3
                            clear ho hg hn
                            refine hK _ _ ?_
                            clear hK K
                            (try simp only [List.getElem_toArray, List.getElem_cons_zero, List.getElem_cons_succ, Act.put, List.setIfInBounds_toArray, List.set_cons_zero, List.set_cons_succ])
                            refine wpAny_take (i := 13) (v := ?v13y3) rfl (by kernel_rfl) (by kernel_rfl) (by kernel_rfl) (fun _ _ _ h => h) (Or.inl ⟨by rfl, ?h13y3⟩) ?r13y3
                            case h13y3 => intro w; go_simp; with_reducible rfl
                            (try simp only [List.getElem_toArray, List.getElem_cons_zero, List.getElem_cons_succ, Act.put, List.setIfInBounds_toArray, List.set_cons_zero, List.set_cons_succ])
                            refine wpAny_done (by kernel_rfl) ?_ _
                            go_wp2_with fail
                            go_meet
                            case rel => exact ⟨a4, n4, c4, rfl, Lib.hid (by have := HK4.out.own.rd; rwa [List.nil_append] at this), Lib.hid (below_tr HWW.out HK4.out.bl)⟩
                        · refine AllReady.cons rfl (fun K hK => ?_) AllReady.nil
                          go_simp
                          refine hK _ _ ?_
                          clear hK K
                          (try simp only [List.getElem_toArray, List.getElem_cons_zero, List.getElem_cons_succ, Act.put, List.setIfInBounds_toArray, List.set_cons_zero, List.set_cons_succ])
                          refine wpAny_ready (rs := [0]) (by kernel_rfl) (by simp) ?_
                          refine AllReady.cons rfl (fun K hK => ?_) AllReady.nil
                          go_simp
                          refine hK _ _ ?_
                          clear hK K
                          (try simp only [List.getElem_toArray, List.getElem_cons_zero, List.getElem_cons_succ, Act.put, List.setIfInBounds_toArray, List.set_cons_zero, List.set_cons_succ])
                          refine wpAny_ready (rs := [4]) (by kernel_rfl) (by simp) ?_
                          refine AllReady.cons rfl (fun K hK => ?_) AllReady.nil
                          refine step_append_near (by rfl) (.tmp 127) (.tmp 130) 26 (by rfl) wr.heap.size 5 Tryd.underlying26 Tryd.info_u8' (by rfl) (K4.out).own (by first | rfl | (show Value.slice _ _ _ = Value.slice _ _ _; simp)) (HTK.out.below (K4.out).bl) (by have h0 := HBB.out; first | (simp; omega) | simp) (K4.out).bl.size ?_
                          intro v1 w1 ho hg hn
                          have HK1 := Lib.hid ((K4.out).append hg ho)
                          have HL1 := Lib.hid (L4.out.grow hg hn)
                          clear ho hg hn
                          refine hK _ _ ?_
                          clear hK K
                          (try simp only [List.getElem_toArray, List.getElem_cons_zero, List.getElem_cons_succ, Act.put, List.setIfInBounds_toArray, List.set_cons_zero, List.set_cons_succ])
                          refine wpAny_ready (rs := [6]) (by kernel_rfl) (by simp) ?_
                          refine AllReady.cons rfl (fun K hK => ?_) AllReady.nil
                          refine step_append_near (by rfl) (.tmp 131) (.tmp 132) 26 (by rfl) wr.heap.size 5 Tryd.underlying26 Tryd.info_u8' (by rfl) (HK1.out).own (by first | rfl | (show Value.slice _ _ _ = Value.slice _ _ _; simp)) (HMO.out.below (HK1.out).bl) (by have h0 := HBB.out; first | (simp; omega) | simp) (HK1.out).bl.size ?_
                          intro v2 w2 ho hg hn
                          have HK2 := Lib.hid ((HK1.out).append hg ho)
                          have HL2 := Lib.hid (HL1.out.grow hg hn)
                          clear ho hg hn
                          refine hK _ _ ?_
                          clear hK K
                          (try simp only [List.getElem_toArray, List.getElem_cons_zero, List.getElem_cons_succ, Act.put, List.setIfInBounds_toArray, List.set_cons_zero, List.set_cons_succ])
                          refine wpAny_ready (rs := [8]) (by kernel_rfl) (by simp) ?_
                          refine AllReady.cons rfl (fun K hK => ?_) AllReady.nil
                          refine step_append_near (by rfl) (.tmp 133) (.tmp 134) 26 (by rfl) wr.heap.size 5 Tryd.underlying26 Tryd.info_u8' (by rfl) (HK2.out).own (by first | rfl | (show Value.slice _ _ _ = Value.slice _ _ _; simp)) (HL2.out.rd) (by have h0 := HBB.out; first | (simp; omega) | simp) (HK2.out).bl.size ?_
                          intro v3 w3 ho hg hn
                          have HK3 := Lib.hid ((HK2.out).append hg ho)
                          clear ho hg hn
                          refine hK _ _ ?_
                          clear hK K
                          (try simp only [List.getElem_toArray, List.getElem_cons_zero, List.getElem_cons_succ, Act.put, List.setIfInBounds_toArray, List.set_cons_zero, List.set_cons_succ])
                          refine wpAny_ready (rs := [12]) (by kernel_rfl) (by simp) ?_
                          refine AllReady.cons rfl (fun K hK => ?_) AllReady.nil
                          refine step_append_near (by rfl) (.tmp 135) (.tmp 138) 26 (by rfl) wr.heap.size 5 Tryd.underlying26 Tryd.info_u8' (by rfl) (HK3.out).own (by first | rfl | (show Value.slice _ _ _ = Value.slice _ _ _; simp)) (HDR.out.below HK3.out.bl) (by have h0 := HBB.out; first | (simp; omega) | simp) (HK3.out).bl.size ?_
                          intro v4 w4 ho hg hn
                          have HK4 := Lib.hid (HK3.out.append hg ho)
                          obtain ⟨a4, n4, c4, rfl⟩ := HK4.out.slice3
                          clear ho hg hn
                          refine hK _ _ ?_
                          clear hK K
                          (try simp only [List.getElem_toArray, List.getElem_cons_zero, List.getElem_cons_succ, Act.put, List.setIfInBounds_toArray, List.set_cons_zero, List.set_cons_succ])
                          refine wpAny_take (i := 13) (v := ?v13y4) rfl (by kernel_rfl) (by kernel_rfl) (by kernel_rfl) (fun _ _ _ h => h) (Or.inl ⟨by rfl, ?h13y4⟩) ?r13y4
                          case h13y4 => intro w; go_simp; with_reducible rfl
                          (try simp only [List.getElem_toArray, List.getElem_cons_zero, List.getElem_cons_succ, Act.put, List.setIfInBounds_toArray, List.set_cons_zero, List.set_cons_succ])
                          refine wpAny_done (by kernel_rfl) ?_ _
                          go_wp2_with fail
                          go_meet
                          case rel => exact ⟨a4, n4, c4, rfl, Lib.hid (by have := HK4.out.own.rd; rwa [List.nil_append] at this), Lib.hid (below_tr HWW.out HK4.out.bl)⟩
                  case rest =>
                    as_aux_lemma =>
                      obtain ⟨a14, n14, c14, rfl, HALL, HBL⟩ := hcut
                      clear HKR HL0
                      obtain ⟨eF, eL⟩ := LN.remark_math (n := j) (rm := rm) HBB.out (by omega) HRR.out (by have := HN.out; omega) HGD.out HNO.out
                      obtain ⟨s1, s2, s3⟩ := LN.out_small HBB.out
                      rw [← HE.out] at eF eL
                      have HX := Lib.hid (lines_any _ bs wc (HR0.out.below HBL.out) (HM.out.below HBL.out))
                      have HOX := Lib.hid (fun (x : World) (e : Ending) (w' : World) (h : LinE x bs e w') => LinE.open h)
                      have HOY := Lib.hid (fun (x : World) (e : Ending) (w' : World) (h : LinE x (LN.with1 bs k mm) e w') => LinE.open h)
                      have HYY := Lib.hid (fun (x : World) (h : Rdv x (.slice a14 n14 c14) (bv (LN.with1 bs k mm))) (hm : MaxIs x) => lines_any _ _ x h hm)
                      rw [eF, eL] at HOY
                      clear eF eL
                      generalize LN.outL bs = ls at HOX HOY s1 s2
                      generalize LN.outF bs = F at HOX HOY s3
                      obtain ⟨K, L⟩ := F
                      obtain ⟨L2, hL2⟩ : ∃ L2, L2 = if no < L then L + 1 else L := ⟨_, rfl⟩
                      have hUF : LN.upF no (K, L) = (K, L2) := by rw [hL2]; rfl
                      rw [hUF, List.length_map] at HOY
                      have HL2 := Lib.hid hL2
                      have HS2 := Lib.hid s2
                      have s3' : L ≤ 6000 := s3
                      obtain ⟨n1, hn1⟩ : ∃ n1, ls.length = n1 := ⟨_, rfl⟩
                      rw [hn1] at HOX HOY s1
                      have HN1 := Lib.hid hn1
                      clear hUF hL2 s2 s3 hn1
                      have hq := eq_fault (K : Int) (L2 : Int)
                      have hg2 := fault_guard
                      go_wp2_with fail
                      refine HX.out.mono ?_
                      rintro e w2 h2
                      obtain ⟨a15, c15, rfl, o2, b2⟩ := HOX.out _ _ _ h2
                      have hbw2 : w.heap.size ≤ w2.heap.size := Nat.le_trans HBL.out.size b2.size
                      have B2 := below_tr b2 (below_alloc w2 (.cells #[.int .i64 (K : Int), .int .i64 (L : Int)] 29))
                      have HB2 := Lib.hid (below_tr HBL.out B2)
                      have HX2 := Lib.hid (o2.rd.below (below_alloc w2 (.cells #[.int .i64 (K : Int), .int .i64 (L : Int)] 29)))
                      have HS16 := Lib.hid (Str.new w2 29 #[.int .i64 (K : Int), .int .i64 (L : Int)])
                      have HY2 := Lib.hid (HYY.out _ (HALL.out.below B2) (HM.out.below (below_tr HBL.out B2)))
                      clear h2 o2 b2 B2 HX HOX HYY HALL HBL
                      go_wp2_with fail
                      refine HY2.out.mono ?_
                      rintro e w3 h3
                      obtain ⟨a17, c17, rfl, o3, b3⟩ := HOY.out _ _ _ h3
                      have B3 := below_tr b3 (below_alloc w3 (.cells #[.int .i64 (K : Int), .int .i64 (L2 : Int)] 29))
                      have HB3 := Lib.hid (below_tr HB2.out B3)
                      have HX3 := Lib.hid (HX2.out.below B3)
                      have HS16' := Lib.hid (HS16.out.below B3)
                      have HO3 := Lib.hid (o3.below (below_alloc w3 (.cells #[.int .i64 (K : Int), .int .i64 (L2 : Int)] 29)))
                      have HS18 := Lib.hid (Str.new w3 29 #[.int .i64 (K : Int), .int .i64 (L2 : Int)])
                      have h1618 : ¬ w2.heap.size = w3.heap.size := by
                        have h1 := b3.size
                        rw [bx_size] at h1
                        omega
                      clear h3 o3 b3 B3 HY2 HOY HB2 HX2 HS16
                      go_wp2
                      generalize w3.alloc (.cells #[.int .i64 (K : Int), .int .i64 (L2 : Int)] 29) = W at HB3 HX3 HS16' HO3 HS18 ⊢
                      generalize hQ18 : w3.heap.size = p18 at HS18 h1618 ⊢
                      generalize hQ16 : w2.heap.size = p16 at HS16' h1618 hbw2 ⊢
                      clear hQ18 hQ16
                      go_loopg [19, 20] n1 (fun g s19 s20 wr => ∃ (i : Nat) (acc : List LN.Ln) (a19 : Option Addr) (c19 : Nat), i + g = n1 ∧ s19 = .slice a19 acc.length c19 ∧ s20 = .int .i64 (i : Int) ∧ acc.length ≤ i ∧ Hid (acc = (ls.take i).map (LN.up no)) ∧ Hid (LW W wr (.slice a19 acc.length c19) acc))
                      case atStart => exact ⟨0, [], none, 0, by omega, rfl, rfl, by simp, by show [] = _; simp, Lib.hid ⟨Below.refl _ _, Ownn.nil _ _⟩⟩
                      case round =>
                        obtain ⟨i, acc, a19, c19, hi, rfl, rfl, hal, HAC, HLW⟩ := hrel
                        cases gk with
                        | succ g =>
                          have hin : (i : Int) < (n1 : Int) := by omega
                          obtain ⟨x, hx⟩ : ∃ x, ls[i]? = some x := ⟨ls[i]'(by have := HN1.out; omega), List.getElem?_eq_getElem _⟩
                          obtain ⟨b, off, rfl, hat3⟩ := (HX3.out.below HLW.out.bl).at hx
                          obtain ⟨c0, c1, c2⟩ := hat3
                          have hx6 := HS2.out x (List.mem_of_getElem? hx)
                          have hun := up_next (no := no) hx
                          obtain ⟨xn, xi, xt⟩ := x
                          have hx6 : xn ≤ 6000 := hx6
                          have HUN := Lib.hid hun
                          clear hx hun
                          by_cases hgt : no < xn
                          · have hgt' : (no : Int) < (xn : Int) := by omega
                            have E := Lib.hid (show acc ++ [(xn + 1, xi, xt)] = (ls.take (i + 1)).map (LN.up no) by rw [HUN.out, ← HAC.out]; simp [LN.up, hgt])
                            have HLA := Lib.hid ((HLW.out.calm (below_alloc wr (.cells #[.int .i64 ((xn + 1 : Nat) : Int), .int .i64 (xi : Int), .string ⟨xt.toArray⟩] 35))).calm (below_alloc _ (.cells #[.int .i64 ((xn + 1 : Nat) : Int), .int .i64 (xi : Int), .string ⟨xt.toArray⟩] 35)))
                            have HLL := Lib.hid (line_lit wr (.cells #[.int .i64 ((xn + 1 : Nat) : Int), .int .i64 (xi : Int), .string ⟨xt.toArray⟩] 35) (xn + 1, xi, xt))
                            go_wp2_with (at_builtin; refine wpList_append_line rfl (.tmp 168) (.tmp 170) rfl W.heap.size (by rfl) HLA.out.own (by rfl) HLL.out (by omega) HLA.out.bl.size ?_; intro g5 cap5 w5 ho5 hg5; have HL5 := Lib.hid (HLA.out.grown hg5 ho5); clear ho5 hg5)
                            go_roundg g
                            case rel => exact ⟨i + 1, acc ++ [(xn + 1, xi, xt)], some ⟨g5, 0, none⟩, cap5, by omega, by simp, rfl, by simp; omega, E, by rw [List.length_append]; exact HL5⟩
                            case measure => omega
                          · have hgt' : ¬ (no : Int) < (xn : Int) := by omega
                            have E := Lib.hid (show acc ++ [(xn, xi, xt)] = (ls.take (i + 1)).map (LN.up no) by rw [HUN.out, ← HAC.out]; simp [LN.up, hgt])
                            have HLA := Lib.hid ((HLW.out.calm (below_alloc wr (.cells #[.int .i64 (xn : Int), .int .i64 (xi : Int), .string ⟨xt.toArray⟩] 35))).calm (below_alloc _ (.cells #[.int .i64 (xn : Int), .int .i64 (xi : Int), .string ⟨xt.toArray⟩] 35)))
                            have HLL := Lib.hid (line_lit wr (.cells #[.int .i64 (xn : Int), .int .i64 (xi : Int), .string ⟨xt.toArray⟩] 35) (xn, xi, xt))
                            go_wp2_with (at_builtin; refine wpList_append_line rfl (.tmp 168) (.tmp 170) rfl W.heap.size (by rfl) HLA.out.own (by rfl) HLL.out (by omega) HLA.out.bl.size ?_; intro g5 cap5 w5 ho5 hg5; have HL5 := Lib.hid (HLA.out.grown hg5 ho5); clear ho5 hg5)
                            go_roundg g
                            case rel => exact ⟨i + 1, acc ++ [(xn, xi, xt)], some ⟨g5, 0, none⟩, cap5, by omega, by simp, rfl, by simp; omega, E, by rw [List.length_append]; exact HL5⟩
                            case measure => omega
                        | zero =>
                          obtain rfl : i = n1 := by omega
                          have hacc : acc = ls.map (LN.up no) := by
                            have := HAC.out
                            rwa [List.take_of_length_le (by have := HN1.out; omega)] at this
                          have HOY := Lib.hid (HO3.out.below HLW.out.bl)
                          have H16 := Lib.hid (HS16'.out.below HLW.out.bl)
                          have H18 := Lib.hid (HS18.out.below HLW.out.bl)
                          have HBW := Lib.hid (below_tr HB3.out HLW.out.bl)
                          have HOW := Lib.hid HLW.out.own
                          rw [← hacc] at HOY
                          clear hacc HAC HO3 HS16' HS18 HX3 HB3
                          obtain ⟨d0, d1⟩ := H16.out.cells2
                          obtain ⟨f0, f1, -⟩ := H16.out.frozen4
                          by_cases hgt : no < L
                          · have hgt' : (no : Int) < (L : Int) := by omega
                            obtain rfl : L2 = L + 1 := by rw [HL2.out, if_pos hgt]
                            have kb := Kb.set wr p16 1 (.int .i64 ((L + 1 : Nat) : Int)) none
                            have H16s : Str (wr.setCell ⟨p16, 1, none⟩ (.int .i64 ((L + 1 : Nat) : Int))) p16 29 #[.int .i64 (K : Int), .int .i64 ((L + 1 : Nat) : Int)] := by
                              have := H16.out.set 1 (.int .i64 ((L + 1 : Nat) : Int))
                              simpa using this
                            have HY6 := Lib.hid (HOY.out.kb kb (HOY.out.off H16.out (by decide)) no_or)
                            have HW6 := Lib.hid (HOW.out.kb kb (HOW.out.off H16.out (by decide)) no_or)
                            have H18' := Lib.hid (H18.out.kb kb (fun e => h1618 (Option.some.inj e).symm) (by simp))
                            have HC := Lib.hid (alike_any _ _ acc _ HY6.out.rd HW6.out.rd)
                            have HB6 := Lib.hid (HBW.out.trans (kb.below HBW.out.size (fun g hg => by have := Option.some.inj hg; omega) (fun g hg => by cases hg)))
                            have H16' := Lib.hid H16s
                            clear kb H16s HY6 HW6 HOY HOW H18 H16 HBW
                            go_wp2_with fail
                            refine HC.out.mono ?_
                            rintro e w7 ⟨rfl, b7⟩
                            have HB7 := Lib.hid (below_tr HB6.out b7)
                            obtain ⟨x0, x1⟩ := (H16'.out.below b7).cells2
                            obtain ⟨y0, y1⟩ := (H18'.out.below b7).cells2
                            have HA := Lib.hid (awake10 w7 (HM.out.below HB7.out))
                            clear HC b7 HB6 H16' H18' d0 d1 f0 f1
                            go_wp2_with (go_at_call 7; refine HA.out.mono ?_; rintro e w8 ⟨rfl, b8⟩; have B8 := Lib.hid (below_tr HB7.out b8); clear b8)
                            go_ret
                            exact ⟨rfl, B8.out⟩
                          · have hgt' : ¬ (no : Int) < (L : Int) := by omega
                            obtain rfl : L2 = L := by rw [HL2.out, if_neg hgt]
                            have HC := Lib.hid (alike_any _ _ acc _ HOY.out.rd HOW.out.rd)
                            clear HOY HOW
                            go_wp2_with fail
                            refine HC.out.mono ?_
                            rintro e w7 ⟨rfl, b7⟩
                            have HB7 := Lib.hid (below_tr HBW.out b7)
                            obtain ⟨x0, x1⟩ := (H16.out.below b7).cells2
                            obtain ⟨y0, y1⟩ := (H18.out.below b7).cells2
                            have HA := Lib.hid (awake10 w7 (HM.out.below HB7.out))
                            clear HC b7 HBW H16 H18 d0 d1 f0 f1
                            go_wp2_with (go_at_call 7; refine HA.out.mono ?_; rintro e w8 ⟨rfl, b8⟩; have B8 := Lib.hid (below_tr HB7.out b8); clear b8)
                            go_ret
                            exact ⟨rfl, B8.out⟩
              · obtain ⟨hkN2, hk0, y, hy, hy10⟩ : k = N ∧ k ≠ 0 ∧ ∃ y, bs[k - 1]? = some y ∧ y ≠ 10 := by
                  have h1 : ¬ k = 0 := fun e => hgood (.inl e)
                  have h2 : ¬ bs[k - 1]? = some 10 := fun e => hgood (.inr e)
                  have h3 : k = N := by
                    rcases HEX.out with h | h | h
                    · exact h
                    · exact absurd h h1
                    · exact absurd h h2
                  have h4 : k - 1 < bs.length := by have := HN.out; omega
                  exact ⟨h3, h1, bs[k - 1], List.getElem?_eq_getElem h4, fun e => h2 (by rw [List.getElem?_eq_getElem h4, e])⟩
                subst hkN2
                obtain ⟨p, hp⟩ : ∃ p, p = k - 1 := ⟨_, rfl⟩
                have hkp1 : (k : Int) - 1 = (p : Int) := by omega
                have hk1 : 0 < (k : Int) := by omega
                obtain ⟨b, off, cp, e1, hbb, hcells⟩ := HL0.out.at (j := p) (by have := HN.out; omega)
                obtain ⟨rfl, rfl⟩ : a0 = some ⟨b, off, none⟩ ∧ cap0 = cp := by
                  simp at e1
                  exact ⟨e1.1, e1.2.2⟩
                have hcy := hcells p (by have := HN.out; omega)
                have hcc : bs[p]'(by have := HN.out; omega) = y := by
                  rw [← hp, List.getElem?_eq_getElem (by have := HN.out; omega)] at hy
                  exact Option.some.inj hy
                rw [hcc] at hcy
                obtain ⟨u, hu⟩ : ∃ u : Int, (y.toNat : Int) = u := ⟨_, rfl⟩
                rw [hu] at hcy
                have r10 := ne_z hu 10 (by decide) hy10
                have HA := Lib.hid (awake10 wr (HM.out.below HKR.out.bl))
                have HBR := Lib.hid HKR.out.bl
                clear hcells e1 hbb hp hy hcc hu hy10 hgood HNO HEX
                go_wp2_with (go_at_call 7; refine HA.out.mono ?_; rintro e w8 ⟨rfl, b8⟩; have B8 := Lib.hid (below_tr HBR.out b8); clear b8)
                go_ret
                exact ⟨rfl, B8.out⟩
end Go.Proofs.YtcpmjbfpnlmjmaaDoor
