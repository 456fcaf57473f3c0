/- A part of the proof. -/
import Derived.Test.YtgfhabofhefaaaaGreatDoorSA06
import Derived.Laws.StructEq
import Derived.Test.YtgfhabofhefaaaaGreatDoorSA10
import Derived.Test.YtgfhabofhefaaaaGreatDoorSA16
import Derived.Test.YtgfhabofhefaaaaGreatDoorSA03
import Derived.BigQuiet
import Derived.Deep.CutBlock
import Derived.Deep.DeepCutAuto
import Derived.Test.YtgfhabofhefaaaaGreatDoorSA11
import Derived.Test.YtgfhabofhefaaaaGreatDoorSA09
import Derived.Maps.OwnOps
import Derived.Maps.Views
import Derived.Test.YtgfhabofhefaaaaGreatDoorSA18
import Derived.Deep.LoopGhost
namespace Go.Proofs.YtgfhabofhefaaaaGreatDoor
open Go.RowKit
theorem fpart0 (x y : Value) (w : World) : (part 3 #[x, y] 0).run Tryz.prog w = .ok x w := by kernel_rfl
theorem fpart1 (x y : Value) (w : World) : (part 3 #[x, y] 1).run Tryz.prog w = .ok y w := by kernel_rfl
theorem fault_under : Tryz.prog.underlying 39 = some (.struct (Tryz.prog.fieldsOf 39)) := by kernel_rfl
theorem fault_held : Tryz.prog.stoodInHeld 39 = false := by kernel_rfl
theorem fault_guard : Tryz.prog.eqGuardType Tryz.prog.depth 39 = false := by kernel_rfl
theorem fault_fields : ∃ f0 f1, (Tryz.prog.fieldsOf 39).toList = [f0, f1] ∧ f0.type = 3 ∧ f1.type = 3 ∧ f0.offset = 0 ∧ f1.offset = 1 ∧ f0.name = "Kind" ∧ f1.name = "Line" := by
  refine ⟨(Tryz.prog.fieldsOf 39).getD 0 default, (Tryz.prog.fieldsOf 39).getD 1 default, ?_, ?_, ?_, ?_, ?_, ?_, ?_⟩ <;> kernel_rfl
theorem eq_fault (a b : Int) (w : World) : (binOp .eql 39 (.agg #[.int .i64 a, .int .i64 b]) (.agg #[.int .i64 a, .int .i64 b])).run Tryz.prog w = .ok (.bool true) w := by
  rw [run_eql_struct, run_equalIn_agg w 9999 _ _ _ fault_under fault_held]
  obtain ⟨f0, f1, hl, t0, t1, o0, o1, n0, n1⟩ := fault_fields
  rw [hl]
  have k0 : f0.name ≠ "_" := by rw [n0]; decide
  have k1 : f1.name ≠ "_" := by rw [n1]; decide
  simp only [Op.eqFields, k0, k1, if_true, ne_eq, not_false_eq_true, t0, t1, o0, o1, Sem.run_bind, fpart0, fpart1, Result.andThen_ok, run_equalIn_int w 9998 _ .i64 _ _ _ Tryz.underlying3, Sem.run_ite, Sem.run_pure]
  simp
end Go.Proofs.YtgfhabofhefaaaaGreatDoor
namespace Go.Proofs.YtgfhabofhefaaaaGreatDoor
open Go.RowKit
theorem ppart0 (a b c d e : Value) (w : World) : (part 3 #[a, b, c, d, e] 0).run Tryz.prog w = .ok a w := by kernel_rfl
theorem ppart1 (a b c d e : Value) (w : World) : (part 3 #[a, b, c, d, e] 1).run Tryz.prog w = .ok b w := by kernel_rfl
theorem ppart2 (a b c d e : Value) (w : World) : (part 3 #[a, b, c, d, e] 2).run Tryz.prog w = .ok c w := by kernel_rfl
theorem ppart3 (a b c d e : Value) (w : World) : (part 9 #[a, b, c, d, e] 3).run Tryz.prog w = .ok d w := by kernel_rfl
theorem ppart4 (a b c d e : Value) (w : World) : (part 4 #[a, b, c, d, e] 4).run Tryz.prog w = .ok e w := by kernel_rfl
theorem piece_under : Tryz.prog.underlying 117 = some (.struct (Tryz.prog.fieldsOf 117)) := by kernel_rfl
theorem piece_held : Tryz.prog.stoodInHeld 117 = false := by kernel_rfl
theorem piece_guard : Tryz.prog.eqGuardType Tryz.prog.depth 117 = false := by kernel_rfl
theorem piece_fields : ∃ f0 f1 f2 f3 f4, (Tryz.prog.fieldsOf 117).toList = [f0, f1, f2, f3, f4] ∧ f0.type = 3 ∧ f1.type = 3 ∧ f2.type = 3 ∧ f3.type = 9 ∧ f4.type = 4 ∧ f0.offset = 0 ∧ f1.offset = 1 ∧ f2.offset = 2 ∧ f3.offset = 3 ∧ f4.offset = 4 ∧ f0.name = "Kind" ∧ f1.name = "Line" ∧ f2.name = "Col" ∧ f3.name = "Text" ∧ f4.name = "Quoted" := by
  refine ⟨(Tryz.prog.fieldsOf 117).getD 0 default, (Tryz.prog.fieldsOf 117).getD 1 default, (Tryz.prog.fieldsOf 117).getD 2 default, (Tryz.prog.fieldsOf 117).getD 3 default, (Tryz.prog.fieldsOf 117).getD 4 default, ?_, ?_, ?_, ?_, ?_, ?_, ?_, ?_, ?_, ?_, ?_, ?_, ?_, ?_, ?_, ?_⟩ <;> kernel_rfl
end Go.Proofs.YtgfhabofhefaaaaGreatDoor
namespace Go.Proofs.YtgfhabofhefaaaaGreatDoor
open Go.RowKit
theorem plist_beq (a b : List UInt8) : ((⟨a.toArray⟩ : ByteArray).toList == (⟨b.toArray⟩ : ByteArray).toList) = decide (a = b) := by
  rw [ByteArray.toList_eq, ByteArray.toList_eq, Bool.eq_iff_iff, beq_iff_eq, decide_eq_true_eq]
theorem eq_piece (a b c : Int) (s : List UInt8) (q : Bool) (a' b' c' : Int) (s' : List UInt8) (q' : Bool) (w : World) : (binOp .eql 117 (.agg #[.int .i64 a, .int .i64 b, .int .i64 c, .string ⟨s.toArray⟩, .bool q]) (.agg #[.int .i64 a', .int .i64 b', .int .i64 c', .string ⟨s'.toArray⟩, .bool q'])).run Tryz.prog w = .ok (.bool (decide ((a, b, c, s, q) = (a', b', c', s', q')))) w := by
  rw [run_eql_struct, run_equalIn_agg w 9999 _ _ _ piece_under piece_held]
  obtain ⟨f0, f1, f2, f3, f4, hl, t0, t1, t2, t3, t4, o0, o1, o2, o3, o4, n0, n1, n2, n3, n4⟩ := piece_fields
  rw [hl]
  have k0 : f0.name ≠ "_" := by rw [n0]; decide
  have k1 : f1.name ≠ "_" := by rw [n1]; decide
  have k2 : f2.name ≠ "_" := by rw [n2]; decide
  have k3 : f3.name ≠ "_" := by rw [n3]; decide
  have k4 : f4.name ≠ "_" := by rw [n4]; decide
  simp only [Op.eqFields, k0, k1, k2, k3, k4, if_true, ne_eq, not_false_eq_true, t0, t1, t2, t3, t4, o0, o1, o2, o3, o4, Sem.run_bind, ppart0, ppart1, ppart2, ppart3, ppart4, Result.andThen_ok, run_equalIn_int w 9998 _ .i64 _ _ _ Tryz.underlying3, run_equalIn_string w 9998 _ _ _ Tryz.underlying9, run_equalIn_bool w 9998 _ _ _ Tryz.underlying4, plist_beq, Sem.run_ite, Sem.run_pure]
  by_cases e1 : a = a' <;> by_cases e2 : b = b' <;> by_cases e3 : c = c' <;> by_cases e4 : s = s' <;> by_cases e5 : q = q' <;> simp [e1, e2, e3, e4, e5]
def rdb (l : LX.B) (p : LX.Pc) : Bool := decide ((LX.row (0, 0, l)).1 = 0) && decide ((LX.row (0, 0, l)).2 = [p])
def esb (z : Int) : Bool := decide (z < 32) || decide (z = 127)
set_option maxHeartbeats 4000000 in
theorem escapes_any (z : Int) (w : World) :
    Calls Tryz.prog 131 #[.int .u8 z] w fun e w' => e = .returned (.bool (esb z)) ∧ w' = w := by
  unfold esb
  by_cases h1 : z < 32
  · rw [decide_eq_true h1, Bool.true_or]
    go_enter Tryz.func131, Tryz.ntmps131
    go_wp2
    go_ret
    exact ⟨rfl, rfl⟩
  · rw [decide_eq_false h1, Bool.false_or]
    by_cases h2 : z = 127
    · subst h2
      go_enter Tryz.func131, Tryz.ntmps131
      go_wp2
      go_ret
      exact ⟨rfl, rfl⟩
    · have h3 : (z == 127) = false := by simpa using h2
      rw [decide_eq_false h2]
      go_enter Tryz.func131, Tryz.ntmps131
      go_wp2
      go_ret
      exact ⟨rfl, rfl⟩
set_option maxRecDepth 10000 in
set_option maxHeartbeats 16000000 in
theorem isRead_any (l : LX.B) (p : LX.Pc) (w : World) (hl : l.length ≤ 16000) (hm : MaxIs w) :
    Calls Tryz.prog 132 #[.string ⟨l.toArray⟩, .agg #[.int .i64 p.1, .int .i64 p.2.1, .int .i64 p.2.2.1, .string ⟨p.2.2.2.1.toArray⟩, .bool p.2.2.2.2]] w fun e w' => e = .returned (.bool (rdb l p)) ∧ Below w.heap.size w w' := by
  obtain ⟨a, b, c, s, q⟩ := p
  obtain ⟨R, hR⟩ : ∃ R, (LX.row (0, 0, l)).1 = R := ⟨_, rfl⟩
  obtain ⟨P, hP⟩ : ∃ P, (LX.row (0, 0, l)).2 = P := ⟨_, rfl⟩
  obtain ⟨K, HK⟩ : ∃ K, Hid (K = rdb l (a, b, c, s, q)) := ⟨_, Lib.hid rfl⟩
  rw [← HK.out]
  have HKD : Hid (K = (decide (R = 0) && decide (P = [(a, b, c, s, q)]))) := by
    show K = _
    rw [HK.out]; unfold rdb; rw [hR, hP]
  have B0 := below_alloc w (.cells #[.int .i64 a, .int .i64 b, .int .i64 c, .string ⟨s.toArray⟩, .bool q] 117)
  have HB0 := Lib.hid B0
  have HS := Lib.hid (Str.new w 117 #[.int .i64 a, .int .i64 b, .int .i64 c, .string ⟨s.toArray⟩, .bool q])
  have HRO := Lib.hid (fun (u : World) (hu : MaxIs u) => show Calls Tryz.prog 56 #[.agg #[.int .i64 0, .int .i64 0, .string ⟨l.toArray⟩]] u (fun e w' => ∃ a c, e = .returned (.tuple #[.slice a P.length c, .agg #[.int .i64 R, .int .i64 0]]) ∧ Rdp w' (.slice a P.length c) P ∧ Below u.heap.size u w') from by
    refine (lexRow_any (0, 0, l) u (by show l.length ≤ _; omega) hu).mono ?_
    rintro e w' ⟨hb, v, rfl, ho⟩
    rw [hP] at ho
    obtain ⟨a, c, rfl⟩ := ho.slice
    refine ⟨a, c, ?_, ho.rd, hb⟩
    rw [hR]
    simp)
  have HM := Lib.hid (hm.below B0)
  clear hR hP hl hm B0 HK
  simp only
  go_enter Tryz.func132, Tryz.ntmps132
  go_upto_region 2 with (first
    | (go_at_call 56; refine (HRO.out _ HM.out).mono ?_; rintro e w2 ⟨a2, c2, rfl, hrd, hb2⟩))
  have BX := below_alloc w2 (.cells #[.int .i64 R, .int .i64 0] 39)
  have HBE := Lib.hid (below_trans (below_trans HB0.out hb2) BX)
  have r0 := (Str.new w2 39 #[.int .i64 R, .int .i64 0]).cell 0
  have HRD := Lib.hid (hrd.below BX)
  have HSX := Lib.hid ((HS.out.below hb2).below BX)
  obtain ⟨qq, hq⟩ : ∃ q, w2.heap.size = q := ⟨_, rfl⟩
  rw [hq] at r0 ⊢
  simp only [List.getElem?_toArray, List.getElem?_cons_zero] at r0
  clear BX hb2 hrd
  generalize w2.alloc (.cells #[.int .i64 R, .int .i64 0] 39) = W at *
  clear hq
  obtain ⟨N, hN⟩ : ∃ N, P.length = N := ⟨_, rfl⟩
  have HN := Lib.hid hN
  rw [hN] at HRD ⊢
  clear hN
  by_cases hR : R = 0
  · subst hR
    by_cases h1 : N = 1
    · subst h1
      obtain ⟨p, hp⟩ : ∃ p, P = [p] := List.length_eq_one_iff.1 HN.out
      subst hp
      obtain ⟨ao, cc, hv, _, _, _, h4⟩ := HRD.out
      obtain ⟨b5, off, rfl, c5⟩ := h4 0 p rfl
      simp only [Value.slice.injEq] at hv
      obtain ⟨rfl, -, -⟩ := hv
      obtain ⟨d0, d1, d2, d3, d4⟩ := c5
      obtain ⟨pk, pn, pc, pt, pq⟩ := p
      simp only [Nat.zero_mul, Nat.add_zero] at d0 d1 d2 d3 d4
      have s0 := HSX.out.cell 0
      have s1 := HSX.out.cell 1
      have s2 := HSX.out.cell 2
      have s3 := HSX.out.cell 3
      have s4 := HSX.out.cell 4
      simp only [List.getElem?_toArray, List.getElem?_cons_zero, List.getElem?_cons_succ] at s0 s1 s2 s3 s4
      have hq := fun u => eq_piece pk pn pc pt pq a b c s q u
      have hg := piece_guard
      have E : decide ((pk, pn, pc, pt, pq) = (a, b, c, s, q)) = K := by
        rw [HKD.out]; simp
      rw [E] at hq
      clear h4 E HKD
      go_quiet (fail)
      go_wp2
      go_ret
      exact ⟨rfl, below_trans HBE.out (below_drewN _ _)⟩
    · have h1b : (N == 1) = false := by simpa using h1
      have h1c : ((N : Int) == 1) = false := by simp; omega
      have h1d : ¬ (N : Int) = 1 := by omega
      have E : K = false := by
        rw [HKD.out]
        rw [decide_eq_false (p := P = _)]
        · simp
        · intro h
          have := HN.out
          rw [h] at this
          exact h1 this.symm
      subst E
      go_quiet (fail)
      go_wp2
      go_ret
      exact ⟨rfl, below_trans HBE.out (below_drewN _ _)⟩
  · have hRb : (R == 0) = false := by simpa using hR
    have E : K = false := by
      rw [HKD.out, decide_eq_false hR]; rfl
    subst E
    go_quiet (fail)
    go_wp2
    go_ret
    exact ⟨rfl, below_trans HBE.out (below_drewN _ _)⟩
end Go.Proofs.YtgfhabofhefaaaaGreatDoor
namespace Go.Proofs.YtgfhabofhefaaaaGreatDoor
open Go.RowKit Go.Maps Go.WideMaps
def seenD (ks : List LX.B) : DataW Unit := ks.foldl (fun D k => D.put (.string k) (.lit (.bool true))) (.map [])
theorem seenD_app (ks : List LX.B) (k : LX.B) : seenD (ks ++ [k]) = (seenD ks).put (.string k) (.lit (.bool true)) := by simp [seenD]
theorem seenD_at_aux : ∀ (ks : List LX.B) (D : DataW Unit) (k : LX.B), IsMap D → (ks.foldl (fun D k => D.put (.string k) (.lit (.bool true))) D).atKey (.string k) (.lit (.bool false)) = if k ∈ ks then .lit (.bool true) else D.atKey (.string k) (.lit (.bool false))
  | [], D, k, _ => by simp
  | x :: ks, D, k, h => by
    rw [List.foldl_cons, seenD_at_aux ks _ k (h.put _ _)]
    by_cases h1 : k ∈ ks
    · rw [if_pos h1, if_pos (List.mem_cons_of_mem _ h1)]
    · rw [if_neg h1]
      by_cases h2 : k = x
      · subst h2
        rw [if_pos (List.mem_cons_self ..), atKey_put_same h (show WideAt.IsKeyLit (.string k) from trivial)]
      · rw [if_neg (by simp [h1, h2]), atKey_put_other (by intro e; exact h2 (by injection e))]
theorem seenD_at (ks : List LX.B) (k : LX.B) : (seenD ks).atKey (.string k) (.lit (.bool false)) = .lit (.bool (decide (k ∈ ks))) := by
  unfold seenD
  rw [seenD_at_aux ks _ k isMap_empty]
  by_cases h : k ∈ ks
  · rw [if_pos h, decide_eq_true h]
  · rw [if_neg h, decide_eq_false h]; rfl
theorem key_law : Keyed Tryz.prog 9 := string_keyed Tryz.underlying9
theorem zero_bool (w : World) : (zeroValue 4).run Tryz.prog w = .ok (.bool false) w := by kernel_rfl
theorem key_of {k : LX.B} (h : k.length ≤ 9223372036854775807) : keyOf Tryz.prog 9 (.string ⟨k.toArray⟩) = some (.string k) := by
  have := keyOf_string_mk (P := Tryz.prog) Tryz.underlying9 (s := ⟨k.toArray⟩) (by rw [str_size]; unfold maxLen; omega)
  simpa using this
def Seen (w : World) (b : Nat) (ks : List LX.B) : Prop := w.ownsMap Tryz.prog 9 (plainElem Tryz.prog 4) b ks.length (seenD ks)
theorem Seen.new (w : World) : Seen (w.alloc (.map #[] 0)) w.heap.size [] := World.ownsMap_made _ _ _ _
theorem Seen.obj {w : World} {b : Nat} {ks : List LX.B} (h : Seen w b ks) : ∃ es clock, w.heap[b]? = some (.map es clock) := by
  obtain ⟨es, clock, hb, _⟩ := h
  exact ⟨es, clock, hb⟩
theorem Seen.lt {w : World} {b : Nat} {ks : List LX.B} (h : Seen w b ks) : b < w.heap.size := World.ownsMap.lt h
theorem Seen.kb {w w' : World} {b : Nat} {ks : List LX.B} {p q : Option Nat} (h : Seen w b ks) (hk : Kb w w' p q) (h1 : some b ≠ p) (h2 : some b ≠ q) : Seen w' b ks := by
  obtain ⟨es, clock, hb, rest⟩ := h
  exact ⟨es, clock, (hk.block b (Array.getElem?_eq_some_iff.1 hb).1 h1 h2).trans hb, rest⟩
theorem Seen.below {w w' : World} {b : Nat} {ks : List LX.B} (h : Seen w b ks) (hb : Below w.heap.size w w') : Seen w' b ks := h.kb (Kb.of_below hb none none) (by simp) (by simp)
theorem Seen.ne_str {w : World} {b p : Nat} {ks : List LX.B} {T : TypeId} {cs : Array Value} (h : Seen w b ks) (hs : Str w p T cs) : b ≠ p := by
  obtain ⟨es, clock, hb⟩ := h.obj
  rintro rfl
  have h' : w.heap[b]? = some (.cells cs T (0, 0)) := hs
  rw [hb] at h'; cases h'
theorem Seen.ne_own {w : World} {b base : Nat} {ks : List LX.B} {e : TypeId} {v : Value} {xs : List Value} (h : Seen w b ks) (ho : Own w base e v xs) : some b ≠ v.ownBlock := by
  obtain ⟨es, clock, hb⟩ := h.obj
  intro e1
  obtain ⟨c, hc⟩ := ho.block e1.symm
  rw [hb] at hc; cases hc
theorem plainElem_bool_inv {H : Type} {P : Program} {e : TypeId} (he : P.underlying e = some .bool) {v : Value} {z : DataW H × List MemPlace} (h : plainElem P e v = some z) : ∃ x, v = .bool x ∧ z = (.lit (.bool x), []) := by
  unfold plainElem at h
  rw [he] at h
  cases v <;> simp at h
  exact ⟨_, rfl, h.symm⟩
theorem Seen.look {w : World} {b : Nat} {ks : List LX.B} (h : Seen w b ks) {k : LX.B} (hk : k.length ≤ 9223372036854775807) : (Instr.lookup 173 (.map (some b)) (.string ⟨k.toArray⟩) false).run Tryz.prog w = .ok (.bool (decide (k ∈ ks))) w := by
  obtain ⟨v, ps, hrun, hv⟩ := World.ownsMap.lookup h key_law Tryz.underlying173 (zero_bool w) (plainElem_bool Tryz.underlying4 false) (key_of hk)
  rw [seenD_at] at hv
  obtain ⟨y, hv1, hv2⟩ := plainElem_bool_inv Tryz.underlying4 hv
  have hb : v = .bool (decide (k ∈ ks)) := by
    simp only [Prod.mk.injEq, DataW.lit.injEq, Lit.bool.injEq] at hv2
    rw [hv1, hv2.1]
  rw [hrun, hb]
theorem wpList_lookup_seen {w : World} {ops : Array Oper} {rest : List Oper} {o : Oper} {a : Act} {Q : Exit → Act → World → Prop} (hg : o.guard = none) (m x : Operand) (hop : o.op = Op.lookup 173 m x false)
    (b : Nat) (ks : List LX.B) (hm : a.eval m = .map (some b)) (hown : Seen w b ks) (k : LX.B) (hx : a.eval x = .string ⟨k.toArray⟩) (hk : k.length ≤ 9223372036854775807) (c : Bool) (hc : decide (k ∈ ks) = c)
    (hK : wpList Tryz.prog ops Q rest (a.put o.dst (.bool c)) w) : wpList Tryz.prog ops Q (o :: rest) a w := by
  refine wpList_plain hg fun K' hK' => ?_
  have hrun := hown.look hk
  rw [hc] at hrun
  unfold Oper.wp
  simp [execOp, hop, hm, hx, hrun, Result.andThen]
  exact hK' _ _ hK
theorem wpList_store_seen {w : World} {ops : Array Oper} {rest : List Oper} {o : Oper} {a : Act} {Q : Exit → Act → World → Prop} (hg : o.guard = none) (m x v : Operand) (hop : o.op = Op.mapUpdate 173 m x v)
    (b : Nat) (ks : List LX.B) (hm : a.eval m = .map (some b)) (hown : Seen w b ks) (k : LX.B) (hx : a.eval x = .string ⟨k.toArray⟩) (hk : k.length ≤ 9223372036854775807) (hn : ks.length ≤ 20000) (hv : a.eval v = .bool true)
    (hK : ∀ w', Seen w' b (ks ++ [k]) → w.grownBy w' (some b) → wpList Tryz.prog ops Q rest (a.put o.dst undef) w') : wpList Tryz.prog ops Q (o :: rest) a w := by
  refine wpList_mapUpdate_own w hg m x v _ hop _ _ key_law Tryz.underlying173 _ b ks.length (seenD ks) hm hown (by unfold maxLen; omega) _ _ (.string k) hx hv (key_of hk) (.lit (.bool true)) [] (plainElem_bool Tryz.underlying4 true) ?_
  intro w' h1 h2
  refine hK w' ?_ h2
  show w'.ownsMap _ _ _ b (ks ++ [k]).length (seenD (ks ++ [k]))
  rw [seenD_app, List.length_append]; exact h1
end Go.Proofs.YtgfhabofhefaaaaGreatDoor
namespace Go.Proofs.YtgfhabofhefaaaaGreatDoor
open Go.RowKit
namespace SH
theorem pl_long {l : LX.B} (h0 : l ≠ []) (h1 : l.length ≤ 200) (h2 : LN.bad l = false) (h3 : LN.strip l = some l) : plainb l = rdb l (3, 0, 0, l, false) := by
  unfold plainb rdb
  rw [decide_eq_true ⟨h0, h1⟩, h2, decide_eq_true h3]; rfl
theorem pl_not {l : LX.B} (h : LN.strip l ≠ some l) : plainb l = false := by
  unfold plainb
  rw [decide_eq_false h]; simp
theorem pl_wrong {l : LX.B} (h : LN.bad l = true) : plainb l = false := by
  unfold plainb
  rw [h]; simp
theorem st_yes {l : LX.B} (hb : stB l = true) (hs : stS l = l) : LN.strip l = some l := by
  unfold stB at hb
  unfold stS at hs
  cases h : LN.strip l with
  | none => rw [h] at hb; cases hb
  | some s => rw [h] at hs; exact congrArg some hs
theorem rd_nil : rdb [] (3, 0, 0, [], false) = false := by decide +kernel
theorem pl_nil : plainb [] = false := rfl
theorem key_rd (k : LX.B) : rdb (k ++ [58]) (2, 0, 0, k, false) = keyb k := by
  cases h : keyb k with
  | true =>
    obtain ⟨h1, h2⟩ := key_row.2 h
    unfold rdb
    rw [decide_eq_true h1, decide_eq_true h2]; rfl
  | false =>
    unfold rdb
    by_cases h1 : (LX.row (0, 0, k ++ [58])).1 = 0
    · by_cases h2 : (LX.row (0, 0, k ++ [58])).2 = [(2, 0, 0, k, false)]
      · rw [key_row.1 ⟨h1, h2⟩] at h; cases h
      · rw [decide_eq_false h2]; simp
    · rw [decide_eq_false h1]; rfl
end SH
theorem esb_bad {c : UInt8} {z : Int} (h : (c.toNat : Int) = z) : LN.bad [c] = esb z := by
  have e1 : decide (c.toNat < 32) = decide (z < 32) := decide_eq_decide.2 (by omega)
  have e2 : decide (c.toNat = 127) = decide (z = 127) := decide_eq_decide.2 (by omega)
  unfold LN.bad esb
  simp only [List.any_cons, List.any_nil, Bool.or_false]
  rw [e1, e2]
set_option maxRecDepth 10000 in
set_option maxHeartbeats 16000000 in
theorem isPlain_any (l : List UInt8) (w : World) (hl : l.length ≤ 200) (hm : MaxIs w) :
    Calls Tryz.prog 97 #[.string ⟨l.toArray⟩] w fun e w' => e = .returned (.bool (SH.plainb l)) ∧ Below w.heap.size w w' := by
  have hsz := str_size l
  have HST := Lib.hid (strip_any l (by omega))
  have HRO := Lib.hid (isRead_any l (3, 0, 0, l, false) w (by omega) hm)
  obtain ⟨n, hn⟩ : ∃ n, l.length = n := ⟨_, rfl⟩
  have HL := Lib.hid hn
  obtain ⟨K, HK⟩ : ∃ K, Hid (K = SH.plainb l) := ⟨_, Lib.hid rfl⟩
  rw [← HK.out]
  obtain ⟨RB, hRB⟩ : ∃ RB, rdb l (3, 0, 0, l, false) = RB := ⟨_, rfl⟩
  rw [hRB] at HRO
  have HRB := Lib.hid hRB
  have H2 := Lib.hid hl
  rw [hn] at hsz hl
  clear hn hRB hm
  simp only at HRO
  go_enter Tryz.func97, Tryz.ntmps97
  go_wp2
  go_loopg [8] n (fun g s8 wx => ∃ k : Nat, k + g = n ∧ s8 = .int .i64 (k : Int) ∧ wx = w ∧ Hid (LN.bad (l.take k) = false))
  case atStart => exact ⟨0, by omega, rfl, rfl, Lib.hid (by simp [LN.bad])⟩
  case round =>
    obtain ⟨k, hk, rfl, rfl, HB⟩ := hrel
    cases gk with
    | succ g =>
      have hlt : (k : Int) < (n : Int) := by omega
      obtain ⟨c, hc⟩ : ∃ c, l[k]? = some c := ⟨l[k]'(by have := HL.out; omega), List.getElem?_eq_getElem _⟩
      have hkl : k < (⟨l.toArray⟩ : ByteArray).size := by omega
      have hub := c.toNat_lt
      obtain ⟨z, hz⟩ : ∃ z : Int, (c.toNat : Int) = z := ⟨_, rfl⟩
      have hi := at_z hc hz hkl
      have HTK : Hid (l.take (k + 1) = l.take k ++ [c]) := by
        show _ = _
        have h1 := List.getElem?_eq_some_iff.1 hc
        rw [List.take_succ_eq_append_getElem h1.1, h1.2]
      have HBL : Hid (LN.bad [c] = true → K = false) := fun hbc => by
        rw [HK.out]
        apply SH.pl_wrong
        rw [← List.take_append_drop (k + 1) l, HTK.out, SH.bad_app, SH.bad_app, hbc]
        simp
      have HBC := Lib.hid (esb_bad hz)
      have HES := Lib.hid (escapes_any z wr)
      clear hc hz hub
      cases hes : esb z with
      | true =>
        have E : K = false := HBL.out (by rw [HBC.out, hes])
        subst E
        rw [hes] at HES
        clear hes
        go_wp2_with (go_at_call 131; refine HES.out.mono ?_; rintro e w1 ⟨rfl, hw1⟩; replace hw1 := hw1.symm; subst hw1)
        go_ret
        exact ⟨rfl, Below.refl _ _⟩
      | false =>
        have E : Hid (LN.bad (l.take (k + 1)) = false) := by
          show _ = _
          rw [HTK.out, SH.bad_app, HB.out, HBC.out, hes]; rfl
        rw [hes] at HES
        clear hes
        go_wp2_with (go_at_call 131; refine HES.out.mono ?_; rintro e w1 ⟨rfl, hw1⟩; replace hw1 := hw1.symm; subst hw1)
        go_roundg g
        case rel => exact ⟨k + 1, by omega, by first | rfl | (simp; done), rfl, E⟩
        case measure => omega
    | zero =>
      obtain rfl : k = n := by omega
      have HBD : Hid (LN.bad l = false) := by
        show _ = _
        have h1 := HB.out
        rwa [List.take_of_length_le (by have := HL.out; omega)] at h1
      obtain ⟨T, hT⟩ : ∃ T, stS l = T := ⟨_, rfl⟩
      obtain ⟨B, hB⟩ : ∃ B, stB l = B := ⟨_, rfl⟩
      rw [hT, hB] at HST
      have HT := Lib.hid hT
      have HBB := Lib.hid hB
      clear hT hB HB hk
      cases B with
      | false =>
        have E : K = false := by
          rw [HK.out]
          apply SH.pl_not
          intro h
          have := HBB.out
          unfold stB at this
          rw [h] at this
          cases this
        subst E
        go_wp2_with (go_at_call 84; refine (HST.out _).mono ?_; rintro e w1 ⟨rfl, hw1⟩; replace hw1 := hw1.symm; subst hw1)
        go_ret
        exact ⟨rfl, Below.refl _ _⟩
      | true =>
        by_cases hTl : T = l
        · subst hTl
          have HSS := Lib.hid (SH.st_yes HBB.out HT.out)
          have E : RB = K := by
            rw [HK.out, ← HRB.out]
            by_cases h0 : T = []
            · subst h0
              rw [SH.rd_nil, SH.pl_nil]
            · exact (SH.pl_long h0 H2.out HBD.out HSS.out).symm
          rw [E] at HRO
          clear E
          go_wp2_with (first
            | (go_at_call 84; refine (HST.out _).mono ?_; rintro e w1 ⟨rfl, hw1⟩; replace hw1 := hw1.symm; subst hw1)
            | (go_at_call 132; refine HRO.out.mono ?_; rintro e w2 ⟨rfl, b2⟩; have B2 := Lib.hid b2; clear b2))
          go_ret
          exact ⟨rfl, B2.out⟩
        · have hTb : (T == l) = false := by simpa using hTl
          have E : K = false := by
            rw [HK.out]
            apply SH.pl_not
            intro h
            apply hTl
            rw [← HT.out]
            unfold stS
            rw [h]; rfl
          subst E
          go_wp2_with (go_at_call 84; refine (HST.out _).mono ?_; rintro e w1 ⟨rfl, hw1⟩; replace hw1 := hw1.symm; subst hw1)
          go_ret
          exact ⟨rfl, Below.refl _ _⟩
end Go.Proofs.YtgfhabofhefaaaaGreatDoor
