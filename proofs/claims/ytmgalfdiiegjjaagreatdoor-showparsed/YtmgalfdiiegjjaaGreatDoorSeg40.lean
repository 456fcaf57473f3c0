/- Several texts in one. -/
import Derived.Test.YtmgalfdiiegjjaaGreatDoorSeg39
import Derived.Test.YtmgalfdiiegjjaaGreatDoorLnS
namespace Go.Proofs.YtmgalfdiiegjjaaGreatDoor
open Go.RowKit

def wrongB (c : UInt8) : Bool := decide (c.toNat < 32) || decide (c.toNat = 127)
theorem bad_take {bs : List UInt8} {k : Nat} {c : UInt8} (h : bs[k]? = some c) (hk : LN.bad (bs.take k) = false) (hc : wrongB c = false) : LN.bad (bs.take (k + 1)) = false := by
  have hlt := (List.getElem?_eq_some_iff.1 h).1
  have e : bs.take (k + 1) = bs.take k ++ [c] := by
    rw [List.take_succ_eq_append_getElem hlt]
    rw [List.getElem?_eq_getElem hlt] at h
    rw [Option.some.inj h]
  unfold LN.bad at hk ⊢
  rw [e, List.any_append, hk]
  simpa [wrongB] using hc
theorem bad_at {bs : List UInt8} {k : Nat} {c : UInt8} (h : bs[k]? = some c) (hc : wrongB c = true) : LN.bad bs = true := by
  unfold LN.bad
  rw [List.any_eq_true]
  exact ⟨c, List.mem_of_getElem? h, hc⟩
theorem wrongB_cases (c : UInt8) {z : Int} (hz : (c.toNat : Int) = z) : (z < 32 ∧ wrongB c = true) ∨ (¬ z < 32 ∧ z = 127 ∧ wrongB c = true) ∨ (¬ z < 32 ∧ ¬ z = 127 ∧ wrongB c = false) := by
  unfold wrongB
  by_cases h1 : c.toNat < 32
  · exact .inl ⟨by omega, by simp [h1]⟩
  · by_cases h2 : c.toNat = 127
    · exact .inr (.inl ⟨by omega, by omega, by simp [h2]⟩)
    · exact .inr (.inr ⟨by omega, by omega, by simp [h1, h2]⟩)

set_option maxHeartbeats 800000 in
theorem wrong_any (v : Value) (bs : List UInt8) (w : World) (hr : Rdv w v (bv bs)) (hl : bs.length ≤ 20000) :
    Calls Tryz.prog 85 #[v] w fun e w' => e = .returned (.bool (LN.bad bs)) ∧ w' = w := by
  have HR := Lib.hid hr
  obtain ⟨ao, cap, rfl, -⟩ := hr
  rw [bv_len]
  have HN := Lib.hid (HR.out)
  rw [bv_len] at HN
  clear HR
  obtain ⟨n, hn⟩ : ∃ n, bs.length = n := ⟨_, rfl⟩
  have HL := Lib.hid hn
  rw [hn] at HN hl ⊢
  clear hn
  go_enter Tryz.func85, Tryz.ntmps85
  go_wp2
  go_loopg [7] n (fun g s7 wx => ∃ k : Nat, k + g = n ∧ s7 = .int .i64 (k : Int) ∧ wx = w ∧ Hid (LN.bad (bs.take k) = false))
  case atStart => exact ⟨0, by omega, rfl, rfl, by show LN.bad (bs.take 0) = false; simp [LN.bad]⟩
  case round =>
    obtain ⟨k, hk, rfl, rfl, HB⟩ := hrel
    cases gk with
    | zero =>
      obtain rfl : k = n := by omega
      have E := Lib.hid (show LN.bad bs = false by have := HB.out; rwa [List.take_of_length_le (by have := HL.out; omega)] at this)
      go_wp2
      go_ret
      exact ret_b E.out.symm rfl
    | succ g =>
      have hkn : (k : Int) < (n : Int) := by omega
      obtain ⟨b, off, cp, e1, hb, hcells⟩ := HN.out.at (j := k) (by have := HL.out; omega)
      have hcell := hcells k (by have := HL.out; omega)
      obtain ⟨rfl, rfl⟩ : ao = some ⟨b, off, none⟩ ∧ cap = cp := by
        have := e1
        simp at this
        exact ⟨this.1, this.2.2⟩
      obtain ⟨c, hc⟩ : ∃ c, bs[k]? = some c := ⟨bs[k]'(by have := HL.out; omega), List.getElem?_eq_getElem _⟩
      have hcc : bs[k]'(by have := HL.out; omega) = c := by
        rw [List.getElem?_eq_getElem (by have := HL.out; omega)] at hc
        exact Option.some.inj hc
      rw [hcc] at hcell
      obtain ⟨z, hz⟩ : ∃ z : Int, (c.toNat : Int) = z := ⟨_, rfl⟩
      rw [hz] at hcell
      have hub := c.toNat_lt
      have hz0 : 0 ≤ z := by omega
      have hz1 : z < 256 := by omega
      have HC := Lib.hid hc
      have hw := wrongB_cases c hz
      clear hcells e1 hc hcc hz hub hb
      rcases hw with ⟨h1, h2⟩ | ⟨h1, rfl, h2⟩ | ⟨h1, h3, h2⟩
      · have E := Lib.hid (bad_at HC.out h2)
        clear h2
        go_wp2
        go_ret
        exact ret_b E.out.symm rfl
      · have E := Lib.hid (bad_at HC.out h2)
        clear h2
        go_wp2
        go_ret
        exact ret_b E.out.symm rfl
      · have E := Lib.hid (bad_take HC.out HB.out h2)
        clear h2
        go_wp2
        go_roundg g
        case rel => exact ⟨k + 1, by omega, rfl, rfl, E⟩
        case measure => omega

theorem tleft_any (l : List UInt8) (w : World) : Calls Tryz.prog 86 #[.string ⟨l.toArray⟩, .string ⟨#[32]⟩] w fun e w' => e = .returned (.string ⟨(LN.tl l).toArray⟩) ∧ w' = w :=
  Tryz.strings_TrimLeft_one ⟨l.toArray⟩ 32 (by decide) w
theorem tl_len (l : List UInt8) : (LN.tl l).length ≤ l.length := (List.dropWhile_sublist _).length_le

/-- The line that is told of a row: nothing, if something is wrong. -/
def oneC (no : Nat) (r : List UInt8) : Array Value := if LN.kind r = 0 then lc (no, LN.ind r, LN.said r) else #[.int .i64 0, .int .i64 0, .string ⟨#[]⟩]
theorem one_bad {no : Nat} {r : List UInt8} {P : Prop} (h : LN.bad r = true) (hp : P) : Ending.returned (.tuple #[.agg #[.int .i64 0, .int .i64 0, .string ⟨#[]⟩], .int .i64 2]) = .returned (.tuple #[.agg (oneC no r), .int .i64 (LN.kind r : Int)]) ∧ P := by
  have : LN.kind r = 2 := by unfold LN.kind; rw [if_pos h]
  unfold oneC
  rw [this]
  exact ⟨rfl, hp⟩
theorem one_quote {no : Nat} {r R : List UInt8} {P : Prop} (h : LN.bad r = false) (hR : R = LN.tl r) (h2 : stB R = false) (hp : P) : Ending.returned (.tuple #[.agg #[.int .i64 0, .int .i64 0, .string ⟨#[]⟩], .int .i64 3]) = .returned (.tuple #[.agg (oneC no r), .int .i64 (LN.kind r : Int)]) ∧ P := by
  have : LN.kind r = 3 := by
    unfold LN.kind
    rw [if_neg (by rw [h]; simp), ← hR]
    unfold stB at h2
    rw [if_pos (by simpa using h2)]
  unfold oneC
  rw [this]
  exact ⟨rfl, hp⟩
theorem one_ok {no i : Nat} {r R S : List UInt8} {P : Prop} (h : LN.bad r = false) (hR : R = LN.tl r) (h2 : stB R = true) (hS : S = stS R) (hi : i = r.length - R.length) (hp : P) : Ending.returned (.tuple #[.agg #[.int .i64 (no : Int), .int .i64 (i : Int), .string ⟨S.toArray⟩], .int .i64 0]) = .returned (.tuple #[.agg (oneC no r), .int .i64 (LN.kind r : Int)]) ∧ P := by
  have h3 : LN.strip R ≠ none := by
    unfold stB at h2
    intro e
    rw [e] at h2; cases h2
  have : LN.kind r = 0 := by
    unfold LN.kind
    rw [if_neg (by rw [h]; simp), ← hR, if_neg h3]
  unfold oneC
  rw [this, if_pos rfl]
  unfold LN.ind LN.said lc
  rw [← hR, hi, hS]
  exact ⟨rfl, hp⟩

set_option maxHeartbeats 1600000 in
theorem one_any (no : Nat) (_hno : no ≤ 20000) (v : Value) (r : List UInt8) (w : World) (hr : Rdv w v (bv r)) (hl : r.length ≤ 16384) :
    Calls Tryz.prog 58 #[.int .i64 (no : Int), v] w fun e w' => e = .returned (.tuple #[.agg (oneC no r), .int .i64 (LN.kind r : Int)]) ∧ Below w.heap.size w w' := by
  have B0 := below_alloc w (.cells #[.int .i64 0, .int .i64 0, .string ⟨#[]⟩] 106)
  have hr1 := hr.below B0
  have HS := Lib.hid (Str.new w 106 #[.int .i64 0, .int .i64 0, .string ⟨#[]⟩])
  have HB := Lib.hid B0
  have HW := Lib.hid (wrong_any v r _ hr1 (by omega))
  have hcs := run_string_rd (P := Tryz.prog) 35 5 9 Tryz.underlying35 Tryz.underlying5 Tryz.underlying9 hr1
  obtain ⟨ao, cap, rfl, -⟩ := hr
  rw [bv_len] at HW hcs ⊢
  obtain ⟨c0, c1, c2⟩ := HS.out.cells3
  obtain ⟨f0, f1, f2, -⟩ := HS.out.frozen4
  clear hr1 B0
  obtain ⟨R, hR⟩ : ∃ R, R = LN.tl r := ⟨_, rfl⟩
  obtain ⟨S, hSS⟩ : ∃ S, S = stS R := ⟨_, rfl⟩
  obtain ⟨i, hi⟩ : ∃ i, i = r.length - R.length := ⟨_, rfl⟩
  have hRl : R.length ≤ r.length := by rw [hR]; exact tl_len r
  have HT := Lib.hid (show ∀ x : World, Calls Tryz.prog 86 #[.string ⟨r.toArray⟩, .string ⟨#[32]⟩] x fun e w' => e = .returned (.string ⟨R.toArray⟩) ∧ w' = x from fun x => by rw [hR]; exact tleft_any r x)
  have HP := Lib.hid (show ∀ x : World, Calls Tryz.prog 87 #[.string ⟨R.toArray⟩] x fun e w' => e = .returned (.tuple #[.string ⟨S.toArray⟩, .bool (stB R)]) ∧ w' = x from fun x => by rw [hSS]; exact strip_any R (by omega) x)
  have HR := Lib.hid hR
  have HSS := Lib.hid hSS
  have HI := Lib.hid hi
  have hRs := str_size R
  obtain ⟨m, hm⟩ : ∃ m, R.length = m := ⟨_, rfl⟩
  obtain ⟨n, hn⟩ : ∃ n, r.length = n := ⟨_, rfl⟩
  rw [hm] at hRs
  rw [hn] at hcs HW ⊢
  have hin : (n : Int) - (m : Int) = (i : Int) := by omega
  have hn9 : n ≤ 16384 := by omega
  have hm9 : m ≤ n := by omega
  clear hR hSS hi hm hn hl hRl
  go_enter Tryz.func58, Tryz.ntmps58
  cases hbad : LN.bad r with
  | true =>
    have E := Lib.hid hbad
    rw [hbad] at HW
    clear hbad hcs
    go_wp2_with (go_at_call 85; refine HW.out.mono ?_; rintro e w' ⟨rfl, rfl⟩)
    (try simp only [Exit.inBlock, Exit.then])
    refine bodyPost_ret (ret_cb rfl rfl rfl (Str.new w _ _) Tryz.underlying106 rfl line_size) rfl ?_
    exact one_bad E.out (below_alloc w _)
  | false =>
    have E := Lib.hid hbad
    rw [hbad] at HW
    clear hbad
    cases hst : stB R with
    | false =>
      have E2 := Lib.hid hst
      rw [hst] at HP
      clear hst
      go_wp2_with (first
        | (go_at_call 85; refine HW.out.mono ?_; rintro e w' ⟨rfl, rfl⟩)
        | (go_at_call 86; refine (HT.out _).mono ?_; rintro e w' ⟨rfl, rfl⟩)
        | (go_at_call 87; refine (HP.out _).mono ?_; rintro e w' ⟨rfl, rfl⟩))
      (try simp only [Exit.inBlock, Exit.then])
      refine bodyPost_ret (ret_cb rfl rfl rfl (Str.new w _ _) Tryz.underlying106 rfl line_size) rfl ?_
      exact one_quote E.out HR.out E2.out (below_alloc w _)
    | true =>
      have E2 := Lib.hid hst
      rw [hst] at HP
      clear hst
      go_wp2_with (first
        | (go_at_call 85; refine HW.out.mono ?_; rintro e w' ⟨rfl, rfl⟩)
        | (go_at_call 86; refine (HT.out _).mono ?_; rintro e w' ⟨rfl, rfl⟩)
        | (go_at_call 87; refine (HP.out _).mono ?_; rintro e w' ⟨rfl, rfl⟩))
      (try simp only [Exit.inBlock, Exit.then])
      refine bodyPost_ret (ret_cb rfl rfl rfl (Str.new w _ _) Tryz.underlying106 rfl line_size) rfl ?_
      exact one_ok E.out HR.out E2.out HSS.out HI.out (below_alloc w _)
theorem one_good (no : Nat) (hno : no ≤ 20000) (v : Value) (r : List UInt8) (w : World) (hr : Rdv w v (bv r)) (hl : r.length ≤ 16384) (hk : LN.kind r = 0) :
    Calls Tryz.prog 58 #[.int .i64 (no : Int), v] w fun e w' => e = .returned (.tuple #[.agg #[.int .i64 (no : Int), .int .i64 (LN.ind r : Int), .string ⟨(LN.said r).toArray⟩], .int .i64 0]) ∧ Below w.heap.size w w' := by
  have := one_any no hno v r w hr hl
  unfold oneC at this
  rw [hk, if_pos rfl] at this
  exact this
theorem one_wrong (no : Nat) (hno : no ≤ 20000) (v : Value) (r : List UInt8) (w : World) (hr : Rdv w v (bv r)) (hl : r.length ≤ 16384) (hk : ¬ LN.kind r = 0) :
    Calls Tryz.prog 58 #[.int .i64 (no : Int), v] w fun e w' => e = .returned (.tuple #[.agg #[.int .i64 0, .int .i64 0, .string ⟨#[]⟩], .int .i64 (LN.kind r : Int)]) ∧ Below w.heap.size w w' := by
  have := one_any no hno v r w hr hl
  unfold oneC at this
  rw [if_neg hk] at this
  exact this
end Go.Proofs.YtmgalfdiiegjjaaGreatDoor

/- Walk of line.Lines. -/
namespace Go.Proofs.YtmgalfdiiegjjaaGreatDoor
open Go.RowKit

/-- What is told of a text: its lines, the call's own, and what is wrong. -/
def LinE (w : World) (bs : List UInt8) (e : Ending) (w' : World) : Prop :=
  ∃ v, e = .returned (.tuple #[v, .agg #[.int .i64 ((LN.outF bs).1 : Int), .int .i64 ((LN.outF bs).2 : Int)]]) ∧ Ownn w' w.heap.size v (LN.outL bs) ∧ Below w.heap.size w w'
/-- Where a reader of lines stands. -/
structure LI (w2 wr : World) (x : Value) (vs : List Value) (s4 : Value) (acc : List LN.Ln) : Prop where
  bl : Below w2.heap.size w2 wr
  pc : Own wr w2.heap.size 35 x vs
  own : Ownn wr w2.heap.size s4 acc
theorem LI.calm {w2 wr w' : World} {x s4 : Value} {vs : List Value} {acc : List LN.Ln} (h : LI w2 wr x vs s4 acc) (hb : Below wr.heap.size wr w') : LI w2 w' x vs s4 acc := ⟨below_tr h.bl hb, h.pc.below hb, h.own.below hb⟩
theorem LI.grown {w2 wr w' : World} {x s4 s4' : Value} {vs : List Value} {acc acc' : List LN.Ln} (h : LI w2 wr x vs s4 acc) (hg : wr.grownBy w' s4.ownBlock) (ho : Ownn w' w2.heap.size s4' acc') : LI w2 w' x vs s4' acc' := by
  refine ⟨h.bl.grown hg h.bl.size (fun k hk => (h.own.ownBlock hk).2.1), h.pc.kb (Kb.of_grown hg none) no_or ?_, ho⟩
  cases hh : x.ownBlock with
  | none => exact .inl rfl
  | some g =>
    right
    intro e
    obtain ⟨cur, hc⟩ := h.pc.block hh
    obtain ⟨⟨cur', hc'⟩, _⟩ := h.own.ownBlock e.symm
    rw [hc] at hc'
    simp at hc'
theorem line_lit (w : World) (o : Obj) (l : LN.Ln) : At3 ((w.alloc o).alloc (.cells (lc l) 106)) (w.heap.size + 1) 0 l := by
  have := Str.new (w.alloc o) 106 (lc l)
  rw [bx_size] at this
  exact this.at3
theorem lin_big {w : World} {bs : List UInt8} {w' : World} (h : 16384 < bs.length) (hb : Below w.heap.size w w') : LinE w bs (.returned (.tuple #[.slice none 0 0, .agg #[.int .i64 1, .int .i64 1]])) w' := by
  have hF : LN.outF bs = (1, 1) := by unfold LN.outF; rw [if_pos h]
  have hL : LN.outL bs = [] := by unfold LN.outL; rw [hF, if_neg (by decide)]
  refine ⟨_, by rw [hF]; rfl, by rw [hL]; exact Ownn.nil _ _, hb⟩
theorem lin_bad {w : World} {bs : List UInt8} {w' : World} {K L : Nat} (h : ¬ 16384 < bs.length) (hf : LN.flt 1 (LN.rows bs) = (K, L)) (hK : K ≠ 0) (hb : Below w.heap.size w w') : LinE w bs (.returned (.tuple #[.slice none 0 0, .agg #[.int .i64 (K : Int), .int .i64 (L : Int)]])) w' := by
  have hF : LN.outF bs = (K, L) := by unfold LN.outF; rw [if_neg h, hf]
  have hL : LN.outL bs = [] := by unfold LN.outL; rw [hF, if_neg (by intro e; exact hK (congrArg Prod.fst e))]
  refine ⟨_, by rw [hF], by rw [hL]; exact Ownn.nil _ _, hb⟩
theorem lin_good {w : World} {bs : List UInt8} {w' : World} {v : Value} {acc : List LN.Ln} (h : ¬ 16384 < bs.length) (hf : LN.flt 1 (LN.rows bs) = (0, 0)) (hl : LN.lns 1 (LN.rows bs) = acc) (ho : Ownn w' w.heap.size v acc) (hb : Below w.heap.size w w') : LinE w bs (.returned (.tuple #[v, .agg #[.int .i64 0, .int .i64 0]])) w' := by
  have hF : LN.outF bs = (0, 0) := by unfold LN.outF; rw [if_neg h, hf]
  have hL : LN.outL bs = acc := by unfold LN.outL; rw [hF, if_pos rfl, hl]
  refine ⟨_, by rw [hF]; rfl, by rw [hL]; exact ho, hb⟩


set_option maxHeartbeats 4000000 in
theorem lines_any (v : Value) (bs : List UInt8) (w : World) (hr : Rdv w v (bv bs)) (hm : MaxIs w) :
    Calls Tryz.prog 32 #[v] w (LinE w bs) := by
  by_cases hbig : 16384 < bs.length
  · have HB := Lib.hid hbig
    have hln := hr.len_le
    obtain ⟨ao, cap, rfl, -⟩ := hr
    rw [bv_len] at hln ⊢
    obtain ⟨n, hn⟩ : ∃ n, bs.length = n := ⟨_, rfl⟩
    rw [hn] at hbig hln ⊢
    unfold maxLen at hln
    have hb2 : (16384 : Int) < (n : Int) := by omega
    clear hn
    go_enter Tryz.func32, Tryz.ntmps32
    go_wp2
    (try simp only [Exit.inBlock, Exit.then])
    refine bodyPost_ret (ret_bc rfl rfl rfl (Str.new w _ _) Tryz.underlying39 rfl fault_size) rfl ?_
    exact lin_big HB.out (below_alloc w _)
  · have B1 := below_alloc w (.cells #[.int .i64 0, .int .i64 0] 39)
    have B2 := below_tr B1 (below_alloc _ (.cells #[.int .u8 10] 5))
    have HS := Lib.hid ((Str.new w 39 #[.int .i64 0, .int .i64 0]).below (below_alloc _ (.cells #[.int .u8 10] 5)))
    have g1 := (Str.new (w.alloc (.cells #[.int .i64 0, .int .i64 0] 39)) 5 #[.int .u8 10]).cell 0
    rw [bx_size] at g1
    have HT := Lib.hid (split_any v bs (w.heap.size + 1) _ (hr.below B2) (by omega) g1 (hm.below B2))
    have HB2 := Lib.hid B2
    have HBG := Lib.hid hbig
    have HLE := Lib.hid (LN.rows_le bs)
    obtain ⟨rs, hrs⟩ : ∃ rs, LN.rows bs = rs := ⟨_, rfl⟩
    have HRS := Lib.hid hrs
    have hN : rs.length ≤ 16385 := by
      rw [← hrs, LN.rows_len]
      have := List.count_le_length (a := (10 : UInt8)) (l := bs)
      omega
    rw [hrs] at HT HLE
    obtain ⟨ao, cap, rfl, -⟩ := hr
    rw [bv_len] at HT ⊢
    obtain ⟨n, hn⟩ : ∃ n, bs.length = n := ⟨_, rfl⟩
    rw [hn] at hbig HT ⊢
    have hb2 : ¬ (16384 : Int) < (n : Int) := by omega
    have hn9 : n ≤ 16384 := by omega
    have HNN := Lib.hid hn
    clear hn B1 B2 g1 hrs hm
    obtain ⟨N, hNN⟩ : ∃ N, rs.length = N := ⟨_, rfl⟩
    rw [hNN] at hN
    have HNL := Lib.hid hNN
    clear hNN
    go_enter Tryz.func32, Tryz.ntmps32
    go_wp2_with fail
    refine HT.out.mono ?_
    rintro e w3 ⟨x, vs, rfl, ho, hra, hbl⟩
    clear HT
    have H0 := Lib.hid (LI.mk hbl ho (Ownn.nil _ _))
    have HRA := Lib.hid hra
    have hvl : vs.length = N := by rw [hra.1]; exact HNL.out
    clear ho hra hbl
    obtain ⟨ax, cx, rfl⟩ : ∃ ao c, x = .slice ao N c := by
      obtain ⟨ao, c, hv, _⟩ := H0.out.pc.rd
      exact ⟨ao, c, by rw [hv, hvl]⟩
    generalize (w.alloc (.cells #[.int .i64 0, .int .i64 0] 39)).alloc (.cells #[.int .u8 10] 5) = w2 at *
    go_wp2
    go_loopg [4, 17] N (fun g s4 s17 wr => ∃ (k : Nat) (acc : List LN.Ln) (a4 : Option Addr) (c4 : Nat), k + g = N ∧ s4 = .slice a4 acc.length c4 ∧ s17 = .int .i64 (k : Int) ∧ acc.length ≤ k ∧ Hid (LI w2 wr (.slice ax N cx) vs (.slice a4 acc.length c4) acc) ∧ Hid (LN.flt 1 rs = LN.flt (k + 1) (rs.drop k)) ∧ Hid (LN.lns 1 rs = acc ++ LN.lns (k + 1) (rs.drop k)))
    case atStart => exact ⟨0, [], none, 0, by omega, rfl, rfl, by simp, H0, rfl, rfl⟩
    case round =>
      obtain ⟨k, acc, a4, c4, hk, rfl, rfl, hac, HI, HF, HG⟩ := hrel
      have HSr := Lib.hid (HS.out.below HI.out.bl)
      have hpw : w.heap.size < wr.heap.size := HSr.out.lt
      cases gk with
      | zero =>
        obtain rfl : k = N := by omega
        have hdr : rs.drop k = [] := List.drop_eq_nil_of_le (by have := HNL.out; omega)
        have HF' := Lib.hid (show LN.flt 1 (LN.rows bs) = (0, 0) by rw [HRS.out, HF.out, hdr]; rfl)
        have HG' := Lib.hid (show LN.lns 1 (LN.rows bs) = acc by rw [HRS.out, HG.out, hdr]; simp [LN.lns])
        obtain ⟨c0, c1⟩ := HSr.out.cells2
        obtain ⟨f0, f1, -⟩ := HSr.out.frozen4
        clear hdr HF HG
        go_wp2
        (try simp only [Exit.inBlock, Exit.then])
        refine bodyPost_ret (ret_bc rfl rfl rfl (HSr.out.two' _ _) Tryz.underlying39 rfl fault_size) rfl ?_
        have kb := (Kb.set wr w.heap.size 0 (.int .i64 0) none).trans (Kb.set _ w.heap.size 1 (.int .i64 0) none)
        exact lin_good HBG.out HF'.out HG'.out ((HI.out.own.kb kb (HI.out.own.off HSr.out (by decide)) no_or).base HB2.out.size) ((below_tr HB2.out HI.out.bl).trans (kb.below (by omega) (fun g hg => by have := Option.some.inj hg; omega) (fun g hg => by cases hg)))
      | succ g =>
        have hkN : (k : Int) < (N : Int) := by omega
        have hkr : k < rs.length := by have := HNL.out; omega
        obtain ⟨b, off, cp, ar, cr, e1, hb, hcell, hrd⟩ := (show Rdl wr (.slice ax N cx) rs from ⟨vs, HI.out.pc.rd, HRA.out.below HI.out.bl⟩).at hkr
        obtain ⟨rfl, rfl⟩ : ax = some ⟨b, off, none⟩ ∧ cx = cp := by
          simp at e1
          exact ⟨e1.1, e1.2.2⟩
        obtain ⟨r, hrk⟩ : ∃ r, rs[k]? = some r := ⟨rs[k], List.getElem?_eq_getElem hkr⟩
        have hrr : rs[k] = r := by
          rw [List.getElem?_eq_getElem hkr] at hrk
          exact Option.some.inj hrk
        rw [hrr] at hcell hrd
        have hrl : r.length ≤ 16384 := by
          have := HLE.out r (List.mem_of_getElem? hrk)
          have := HNN.out
          omega
        have hfs := LN.flt_step hrk
        have hls := LN.lns_step hrk
        clear e1 hkr hrr hb
        by_cases hkd : LN.kind r = 0
        · have HO := Lib.hid (one_good (k + 1) (by omega) _ r wr hrd hrl hkd)
          rw [if_pos hkd] at hfs
          have HF1 := Lib.hid (HF.out.trans hfs)
          have hrr9 : r.length ≤ 16384 := hrl
          obtain ⟨m, hm⟩ : ∃ m, r.length = m := ⟨_, rfl⟩
          rw [hm] at hcell HO
          clear hfs hrd hrl hkd HF hrk hm hrr9
          by_cases hsd : LN.said r = []
          · rw [if_pos hsd] at hls
            have HG1 := Lib.hid (HG.out.trans (by rw [hls]))
            rw [hsd] at HO
            clear hls hsd HG
            go_wp2_with (go_at_call 58; refine HO.out.mono ?_; rintro e w4 ⟨rfl, hb4⟩; have HI4 := Lib.hid ((HI.out.calm hb4).calm (below_alloc w4 (.cells #[.int .i64 ((k + 1 : Nat) : Int), .int .i64 (LN.ind r : Int), .string ⟨#[]⟩] 106))); clear hb4)
            go_roundg g
            case rel => exact ⟨k + 1, acc, a4, c4, by omega, rfl, rfl, by omega, HI4, HF1, HG1⟩
            case measure => omega
          · rw [if_neg hsd] at hls
            obtain ⟨S, hS⟩ : ∃ S, LN.said r = S := ⟨_, rfl⟩
            obtain ⟨i, hi⟩ : ∃ i, LN.ind r = i := ⟨_, rfl⟩
            rw [hS] at hsd hls HO
            rw [hi] at hls HO
            have HG1 := Lib.hid (show LN.lns 1 rs = (acc ++ [(k + 1, i, S)]) ++ LN.lns (k + 2) (rs.drop (k + 1)) by rw [HG.out, hls]; simp)
            have hse : S.isEmpty = false := by
              cases S with
              | nil => exact absurd rfl hsd
              | cons => rfl
            clear hls hS hi HG
            go_wp2_with (first
              | (go_at_call 58; refine HO.out.mono ?_; rintro e w4 ⟨rfl, hb4⟩; have HI4 := Lib.hid (((HI.out.calm hb4).calm (below_alloc w4 (.cells #[.int .i64 ((k + 1 : Nat) : Int), .int .i64 (i : Int), .string ⟨S.toArray⟩] 106))).calm (below_alloc _ (.cells #[.int .i64 ((k + 1 : Nat) : Int), .int .i64 (i : Int), .string ⟨S.toArray⟩] 106))); have HL4 := Lib.hid (line_lit w4 (.cells #[.int .i64 ((k + 1 : Nat) : Int), .int .i64 (i : Int), .string ⟨S.toArray⟩] 106) (k + 1, i, S)); clear hb4)
              | (at_builtin; refine wpList_append_line rfl (.tmp 38) (.tmp 40) rfl w2.heap.size (by rfl) HI4.out.own (by rfl) HL4.out (by omega) HI4.out.bl.size ?_; intro g5 cap5 w5 ho5 hg5; have HI5 := Lib.hid (HI4.out.grown hg5 ho5); clear ho5 hg5))
            go_roundg g
            case rel => exact ⟨k + 1, acc ++ [(k + 1, i, S)], some ⟨g5, 0, none⟩, cap5, by omega, by simp, rfl, by simp; omega, by rw [List.length_append]; exact HI5, HF1, HG1⟩
            case measure => omega
        · obtain ⟨K, hK⟩ : ∃ K, LN.kind r = K := ⟨_, rfl⟩
          have HO := Lib.hid (one_wrong (k + 1) (by omega) _ r wr hrd hrl hkd)
          have hK4 := LN.kind_lt r
          rw [if_neg hkd] at hfs
          rw [hK] at HO hkd hfs hK4
          have HF1 := Lib.hid (show LN.flt 1 (LN.rows bs) = (K, k + 1) by rw [HRS.out, HF.out, hfs])
          have HKN := Lib.hid hkd
          obtain ⟨m, hm⟩ : ∃ m, r.length = m := ⟨_, rfl⟩
          rw [hm] at hcell HO
          have hK0 : ¬ (K : Int) = 0 := by omega
          clear hfs hrd hrl hkd HF HG hrk hm hls hK
          go_wp2_with (go_at_call 58; refine HO.out.mono ?_; rintro e w4 ⟨rfl, hb4⟩; have HI4 := Lib.hid ((HI.out.calm hb4).calm (below_alloc w4 (.cells #[.int .i64 0, .int .i64 0, .string ⟨#[]⟩] 106))); have HS4 := Lib.hid (HS.out.below HI4.out.bl); obtain ⟨c0, c1⟩ := HS4.out.cells2; obtain ⟨f0, f1, -⟩ := HS4.out.frozen4; clear hb4)
          (try simp only [Exit.inBlock, Exit.then])
          refine bodyPost_ret (ret_bc rfl rfl rfl (HS4.out.two' _ _) Tryz.underlying39 rfl fault_size) rfl ?_
          have kb := (Kb.set (w4.alloc (.cells #[.int .i64 0, .int .i64 0, .string ⟨#[]⟩] 106)) w.heap.size 0 (.int .i64 (K : Int)) none).trans (Kb.set _ w.heap.size 1 (.int .i64 ((k + 1 : Nat) : Int)) none)
          exact lin_bad HBG.out HF1.out HKN.out ((below_tr HB2.out HI4.out.bl).trans (kb.below (by have := HS4.out.lt; omega) (fun g hg => by have := Option.some.inj hg; omega) (fun g hg => by cases hg)))
end Go.Proofs.YtmgalfdiiegjjaaGreatDoor
