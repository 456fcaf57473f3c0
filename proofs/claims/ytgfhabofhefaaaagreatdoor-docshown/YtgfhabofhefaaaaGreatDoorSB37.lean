/- A part of the proof. -/
import Derived.Test.YtgfhabofhefaaaaGreatDoorSB06
import Derived.Laws.StructEq
import Derived.Test.YtgfhabofhefaaaaGreatDoorSB10
import Derived.Test.YtgfhabofhefaaaaGreatDoorSB15
import Derived.Test.YtgfhabofhefaaaaGreatDoorSB03
import Derived.BigQuiet
import Derived.Deep.CutBlock
import Derived.Deep.DeepCutAuto
import Derived.Test.YtgfhabofhefaaaaGreatDoorSB11
import Derived.Test.YtgfhabofhefaaaaGreatDoorSB09
import Derived.Maps.OwnOps
import Derived.Maps.Views
import Derived.Test.YtgfhabofhefaaaaGreatDoorSB17
import Derived.Deep.LoopGhost
import Derived.Test.YtgfhabofhefaaaaGreatDoorSB19
import Derived.Test.YtgfhabofhefaaaaGreatDoorSB13
import Derived.Test.YtgfhabofhefaaaaGreatDoorSB01
import Derived.Deep.RegionLaw
namespace Go.Proofs.YtgfhabofhefaaaaGreatDoor
open Go.RowKit
theorem fpart0 (x y : Value) (w : World) : (part 3 #[x, y] 0).run Tryz.prog w = .ok x w := by kernel_rfl
theorem fpart1 (x y : Value) (w : World) : (part 3 #[x, y] 1).run Tryz.prog w = .ok y w := by kernel_rfl
theorem fault_under : Tryz.prog.underlying 39 = some (.struct (Tryz.prog.fieldsOf 39)) := by kernel_rfl
theorem fault_held : Tryz.prog.stoodInHeld 39 = false := by kernel_rfl
theorem fault_guard : Tryz.prog.eqGuardType Tryz.prog.depth 39 = false := by kernel_rfl
theorem fault_fields : ∃ f0 f1, (Tryz.prog.fieldsOf 39).toList = [f0, f1] ∧ f0.type = 3 ∧ f1.type = 3 ∧ f0.offset = 0 ∧ f1.offset = 1 ∧ f0.name = "Kind" ∧ f1.name = "Line" := by
  refine ⟨(Tryz.prog.fieldsOf 39).getD 0 default, (Tryz.prog.fieldsOf 39).getD 1 default, ?_, ?_, ?_, ?_, ?_, ?_, ?_⟩ <;> kernel_rfl
theorem eq_fault (a b : Int) (w : World) : (binOp .eql 39 (.agg #[.int .i64 a, .int .i64 b]) (.agg #[.int .i64 a, .int .i64 b])).run Tryz.prog w = .ok (.bool true) w := by
  rw [run_eql_struct, run_equalIn_agg w 9999 _ _ _ fault_under fault_held]
  obtain ⟨f0, f1, hl, t0, t1, o0, o1, n0, n1⟩ := fault_fields
  rw [hl]
  have k0 : f0.name ≠ "_" := by rw [n0]; decide
  have k1 : f1.name ≠ "_" := by rw [n1]; decide
  simp only [Op.eqFields, k0, k1, if_true, ne_eq, not_false_eq_true, t0, t1, o0, o1, Sem.run_bind, fpart0, fpart1, Result.andThen_ok, run_equalIn_int w 9998 _ .i64 _ _ _ Tryz.underlying3, Sem.run_ite, Sem.run_pure]
  simp
end Go.Proofs.YtgfhabofhefaaaaGreatDoor
namespace Go.Proofs.YtgfhabofhefaaaaGreatDoor
open Go.RowKit
end Go.Proofs.YtgfhabofhefaaaaGreatDoor
namespace Go.Proofs.YtgfhabofhefaaaaGreatDoor
open Go.RowKit
def rdb (l : LX.B) (p : LX.Pc) : Bool := decide ((LX.row (0, 0, l)).1 = 0) && decide ((LX.row (0, 0, l)).2 = [p])
end Go.Proofs.YtgfhabofhefaaaaGreatDoor
namespace Go.Proofs.YtgfhabofhefaaaaGreatDoor
open Go.RowKit Go.Maps Go.WideMaps
def seenD (ks : List LX.B) : DataW Unit := ks.foldl (fun D k => D.put (.string k) (.lit (.bool true))) (.map [])
theorem seenD_app (ks : List LX.B) (k : LX.B) : seenD (ks ++ [k]) = (seenD ks).put (.string k) (.lit (.bool true)) := by simp [seenD]
theorem seenD_at_aux : ∀ (ks : List LX.B) (D : DataW Unit) (k : LX.B), IsMap D → (ks.foldl (fun D k => D.put (.string k) (.lit (.bool true))) D).atKey (.string k) (.lit (.bool false)) = if k ∈ ks then .lit (.bool true) else D.atKey (.string k) (.lit (.bool false))
  | [], D, k, _ => by simp
  | x :: ks, D, k, h => by
    rw [List.foldl_cons, seenD_at_aux ks _ k (h.put _ _)]
    by_cases h1 : k ∈ ks
    · rw [if_pos h1, if_pos (List.mem_cons_of_mem _ h1)]
    · rw [if_neg h1]
      by_cases h2 : k = x
      · subst h2
        rw [if_pos (List.mem_cons_self ..), atKey_put_same h (show WideAt.IsKeyLit (.string k) from trivial)]
      · rw [if_neg (by simp [h1, h2]), atKey_put_other (by intro e; exact h2 (by injection e))]
theorem seenD_at (ks : List LX.B) (k : LX.B) : (seenD ks).atKey (.string k) (.lit (.bool false)) = .lit (.bool (decide (k ∈ ks))) := by
  unfold seenD
  rw [seenD_at_aux ks _ k isMap_empty]
  by_cases h : k ∈ ks
  · rw [if_pos h, decide_eq_true h]
  · rw [if_neg h, decide_eq_false h]; rfl
theorem key_law : Keyed Tryz.prog 9 := string_keyed Tryz.underlying9
theorem zero_bool (w : World) : (zeroValue 4).run Tryz.prog w = .ok (.bool false) w := by kernel_rfl
theorem key_of {k : LX.B} (h : k.length ≤ 9223372036854775807) : keyOf Tryz.prog 9 (.string ⟨k.toArray⟩) = some (.string k) := by
  have := keyOf_string_mk (P := Tryz.prog) Tryz.underlying9 (s := ⟨k.toArray⟩) (by rw [str_size]; unfold maxLen; omega)
  simpa using this
def Seen (w : World) (b : Nat) (ks : List LX.B) : Prop := w.ownsMap Tryz.prog 9 (plainElem Tryz.prog 4) b ks.length (seenD ks)
theorem Seen.new (w : World) : Seen (w.alloc (.map #[] 0)) w.heap.size [] := World.ownsMap_made _ _ _ _
theorem Seen.obj {w : World} {b : Nat} {ks : List LX.B} (h : Seen w b ks) : ∃ es clock, w.heap[b]? = some (.map es clock) := by
  obtain ⟨es, clock, hb, _⟩ := h
  exact ⟨es, clock, hb⟩
theorem Seen.lt {w : World} {b : Nat} {ks : List LX.B} (h : Seen w b ks) : b < w.heap.size := World.ownsMap.lt h
theorem Seen.kb {w w' : World} {b : Nat} {ks : List LX.B} {p q : Option Nat} (h : Seen w b ks) (hk : Kb w w' p q) (h1 : some b ≠ p) (h2 : some b ≠ q) : Seen w' b ks := by
  obtain ⟨es, clock, hb, rest⟩ := h
  exact ⟨es, clock, (hk.block b (Array.getElem?_eq_some_iff.1 hb).1 h1 h2).trans hb, rest⟩
theorem Seen.below {w w' : World} {b : Nat} {ks : List LX.B} (h : Seen w b ks) (hb : Below w.heap.size w w') : Seen w' b ks := h.kb (Kb.of_below hb none none) (by simp) (by simp)
theorem Seen.ne_str {w : World} {b p : Nat} {ks : List LX.B} {T : TypeId} {cs : Array Value} (h : Seen w b ks) (hs : Str w p T cs) : b ≠ p := by
  obtain ⟨es, clock, hb⟩ := h.obj
  rintro rfl
  have h' : w.heap[b]? = some (.cells cs T (0, 0)) := hs
  rw [hb] at h'; cases h'
theorem Seen.ne_own {w : World} {b base : Nat} {ks : List LX.B} {e : TypeId} {v : Value} {xs : List Value} (h : Seen w b ks) (ho : Own w base e v xs) : some b ≠ v.ownBlock := by
  obtain ⟨es, clock, hb⟩ := h.obj
  intro e1
  obtain ⟨c, hc⟩ := ho.block e1.symm
  rw [hb] at hc; cases hc
theorem plainElem_bool_inv {H : Type} {P : Program} {e : TypeId} (he : P.underlying e = some .bool) {v : Value} {z : DataW H × List MemPlace} (h : plainElem P e v = some z) : ∃ x, v = .bool x ∧ z = (.lit (.bool x), []) := by
  unfold plainElem at h
  rw [he] at h
  cases v <;> simp at h
  exact ⟨_, rfl, h.symm⟩
theorem Seen.look {w : World} {b : Nat} {ks : List LX.B} (h : Seen w b ks) {k : LX.B} (hk : k.length ≤ 9223372036854775807) : (Instr.lookup 173 (.map (some b)) (.string ⟨k.toArray⟩) false).run Tryz.prog w = .ok (.bool (decide (k ∈ ks))) w := by
  obtain ⟨v, ps, hrun, hv⟩ := World.ownsMap.lookup h key_law Tryz.underlying173 (zero_bool w) (plainElem_bool Tryz.underlying4 false) (key_of hk)
  rw [seenD_at] at hv
  obtain ⟨y, hv1, hv2⟩ := plainElem_bool_inv Tryz.underlying4 hv
  have hb : v = .bool (decide (k ∈ ks)) := by
    simp only [Prod.mk.injEq, DataW.lit.injEq, Lit.bool.injEq] at hv2
    rw [hv1, hv2.1]
  rw [hrun, hb]
theorem wpList_lookup_seen {w : World} {ops : Array Oper} {rest : List Oper} {o : Oper} {a : Act} {Q : Exit → Act → World → Prop} (hg : o.guard = none) (m x : Operand) (hop : o.op = Op.lookup 173 m x false)
    (b : Nat) (ks : List LX.B) (hm : a.eval m = .map (some b)) (hown : Seen w b ks) (k : LX.B) (hx : a.eval x = .string ⟨k.toArray⟩) (hk : k.length ≤ 9223372036854775807) (c : Bool) (hc : decide (k ∈ ks) = c)
    (hK : wpList Tryz.prog ops Q rest (a.put o.dst (.bool c)) w) : wpList Tryz.prog ops Q (o :: rest) a w := by
  refine wpList_plain hg fun K' hK' => ?_
  have hrun := hown.look hk
  rw [hc] at hrun
  unfold Oper.wp
  simp [execOp, hop, hm, hx, hrun, Result.andThen]
  exact hK' _ _ hK
theorem wpList_store_seen {w : World} {ops : Array Oper} {rest : List Oper} {o : Oper} {a : Act} {Q : Exit → Act → World → Prop} (hg : o.guard = none) (m x v : Operand) (hop : o.op = Op.mapUpdate 173 m x v)
    (b : Nat) (ks : List LX.B) (hm : a.eval m = .map (some b)) (hown : Seen w b ks) (k : LX.B) (hx : a.eval x = .string ⟨k.toArray⟩) (hk : k.length ≤ 9223372036854775807) (hn : ks.length ≤ 20000) (hv : a.eval v = .bool true)
    (hK : ∀ w', Seen w' b (ks ++ [k]) → w.grownBy w' (some b) → wpList Tryz.prog ops Q rest (a.put o.dst undef) w') : wpList Tryz.prog ops Q (o :: rest) a w := by
  refine wpList_mapUpdate_own w hg m x v _ hop _ _ key_law Tryz.underlying173 _ b ks.length (seenD ks) hm hown (by unfold maxLen; omega) _ _ (.string k) hx hv (key_of hk) (.lit (.bool true)) [] (plainElem_bool Tryz.underlying4 true) ?_
  intro w' h1 h2
  refine hK w' ?_ h2
  show w'.ownsMap _ _ _ b (ks ++ [k]).length (seenD (ks ++ [k]))
  rw [seenD_app, List.length_append]; exact h1
end Go.Proofs.YtgfhabofhefaaaaGreatDoor
namespace Go.Proofs.YtgfhabofhefaaaaGreatDoor
open Go.RowKit
namespace SH
end SH
end Go.Proofs.YtgfhabofhefaaaaGreatDoor
namespace Go.Proofs.YtgfhabofhefaaaaGreatDoor
open Go.RowKit
theorem Below.of_grown {w w' : World} {b base : Nat} (h : w.grownBy w' (some b)) (hb : base ≤ b) (hs : base ≤ w.heap.size) : Below base w w' :=
  (Kb.of_grown h none).below hs (by simp) (by intro g hg; cases hg; exact hb)
end Go.Proofs.YtgfhabofhefaaaaGreatDoor
namespace Go.Proofs.YtgfhabofhefaaaaGreatDoor
open Go.RowKit
end Go.Proofs.YtgfhabofhefaaaaGreatDoor
namespace Go.Proofs.YtgfhabofhefaaaaGreatDoor
open Go.RowKit
def Lens2 (ns : List SH.Ni) : Prop := ∀ x ∈ ns, x.text.length ≤ 9223372036854775807 ∧ (∀ k ∈ x.keys, k.length ≤ 15000) ∧ x.keys.length ≤ 20000
theorem Lens2.one {ns : List SH.Ni} (h : Lens2 ns) : Lens ns := fun x hx => ⟨(h x hx).1, fun k hk => by have := (h x hx).2.1 k hk; omega⟩
structure Wst (w0 w : World) (p : Nat) (v : Value) (m : Int) : Prop where
  bl : Below w0.heap.size w0 w
  st : Str w p 77 #[v, .int .i64 m]
  lo : w0.heap.size ≤ p
theorem Wst.calm {w0 w w' : World} {p : Nat} {v : Value} {m : Int} (h : Wst w0 w p v m) (hb : Below w.heap.size w w') : Wst w0 w' p v m :=
  ⟨h.bl.trans (hb.mono h.bl.size), h.st.below hb, h.lo⟩
theorem Wst.put {w0 w : World} {p : Nat} {v : Value} {m : Int} (h : Wst w0 w p v m) (k : Int) : Wst w0 (w.setCell ⟨p, 1, none⟩ (.int .i64 k)) p v k :=
  ⟨h.bl.trans ((Kb.set w p 1 (.int .i64 k) none).below h.bl.size (by intro g hg; cases hg; exact h.lo) (by simp)), by
    have := h.st.set 1 (.int .i64 k)
    simpa using this, h.lo⟩
def BkE (w0 : World) (p : Nat) (v : Value) (O : Option Nat) (e : Ending) (w' : World) : Prop := ∃ m : Int, e = .returned (.bool O.isSome) ∧ Wst w0 w' p v m ∧ ∀ r : Nat, O = some r → m = (r : Int)
theorem BkE.no {w0 w' : World} {p : Nat} {v : Value} {m : Int} (h : Wst w0 w' p v m) : BkE w0 p v none (.returned (.bool false)) w' := ⟨m, rfl, h, fun r hr => by cases hr⟩
end Go.Proofs.YtgfhabofhefaaaaGreatDoor
namespace Go.Proofs.YtgfhabofhefaaaaGreatDoor
open Go.RowKit
theorem up_lens {t : SH.Tr} {ns : List SH.Ni} (h : SH.Of t ns) : Lens2 ns := fun x hx => by
  obtain ⟨a1, a2, a3⟩ := h.lens x hx
  exact ⟨by omega, fun k hk => by have := a2 k hk; omega, by omega⟩
end Go.Proofs.YtgfhabofhefaaaaGreatDoor
namespace Go.Proofs.YtgfhabofhefaaaaGreatDoor
open Go.RowKit
theorem two_rd {w : World} {e : TypeId} {A B : Int} {a b : UInt8} (h1 : A = (a.toNat : Int)) (h2 : B = (b.toNat : Int)) : Rdv (w.alloc (.cells #[.int .u8 A, .int .u8 B] e)) (.slice (some ⟨w.heap.size, 0, none⟩) 2 2) (bv [a, b]) := by
  subst h1 h2
  exact lit_rd [a, b] (by simp [maxLen])
theorem four_rd {w : World} {e : TypeId} {A B C D : Int} {a b c d : UInt8} (h1 : A = (a.toNat : Int)) (h2 : B = (b.toNat : Int)) (h3 : C = (c.toNat : Int)) (h4 : D = (d.toNat : Int)) : Rdv (w.alloc (.cells #[.int .u8 A, .int .u8 B, .int .u8 C, .int .u8 D] e)) (.slice (some ⟨w.heap.size, 0, none⟩) 4 4) (bv [a, b, c, d]) := by
  subst h1 h2 h3 h4
  exact lit_rd [a, b, c, d] (by simp [maxLen])
def quf (s : List UInt8) (k : Nat) : List UInt8 := 34 :: (s.take k).flatMap LX.q1
theorem quf_next {s : List UInt8} {k : Nat} {c : UInt8} (h : s[k]? = some c) : quf s (k + 1) = quf s k ++ LX.q1 c := by
  have h' := List.getElem?_eq_some_iff.1 h
  unfold quf
  rw [List.take_succ_eq_append_getElem h'.1, h'.2, List.flatMap_append]
  simp
theorem quf_len (s : List UInt8) (k : Nat) : (quf s k).length ≤ 4 * k + 1 := by
  have h1 := LX.flat_len (fun c => (LX.q1_len c).2) (s.take k)
  have h2 : (s.take k).length ≤ k := by rw [List.length_take]; omega
  simp only [quf, List.length_cons]
  omega
theorem quf_end (s : List UInt8) {n : Nat} (h : s.length = n) : quf s n ++ [34] = LX.quo s := by
  unfold quf LX.quo
  rw [List.take_of_length_le (by omega)]
  rfl
set_option maxRecDepth 10000 in
set_option maxHeartbeats 16000000 in
theorem quote_any (S : List UInt8) (w : World) (hl : S.length ≤ 5000) :
    Calls Tryz.prog 52 #[.string ⟨S.toArray⟩] w fun e w' => ∃ v, e = .returned v ∧ Own w' w.heap.size 5 v (bv (LX.quo S)) ∧ Below w.heap.size w w' := by
  have hsz := str_size S
  obtain ⟨n, hn⟩ : ∃ n, S.length = n := ⟨_, rfl⟩
  have HN := Lib.hid hn
  rw [hn] at hsz hl
  have HS : Hid (Own (w.alloc (.cells #[.int .u8 34] 5)) w.heap.size 5 (.slice (some ⟨w.heap.size, 0, none⟩) 1 1) (bv (quf S 0))) := by
    show Own _ _ _ _ _
    exact Own.lit w (bv [34]) (Nat.le_refl _) (by simp [bv, maxLen])
  have HB := Lib.hid (below_alloc w (.cells #[.int .u8 34] 5))
  clear hn
  go_enter Tryz.func52, Tryz.ntmps52
  go_wp2
  generalize w.alloc (.cells #[.int .u8 34] 5) = w0 at *
  go_loopg [3, 4] n (fun g s3 s4 wx => ∃ (i : Nat) (v : Value), i + g = n ∧ s4 = .int .i64 (i : Int) ∧ v = s3 ∧ Hid (Below w.heap.size w wx) ∧ Hid (Own wx w.heap.size 5 v (bv (quf S i))))
  case atStart => exact ⟨0, _, by omega, rfl, rfl, HB, HS⟩
  case round =>
    clear HS HB
    obtain ⟨i, v, hi, rfl, rfl, HW, HO⟩ := hrel
    have HQL := Lib.hid (quf_len S i)
    cases gk with
    | zero =>
      obtain rfl : i = n := by omega
      have E := Lib.hid (quf_end S HN.out)
      go_wp2_with (at_builtin; refine wpList_append_bytes rfl (.tmp 59) (.tmp 60) 35 rfl w.heap.size 5 Tryz.underlying35 Tryz.linfo_u8 (by rfl) (HO.out.alloc _) (by rfl) (one_rd (b := 34) rfl) (by have := HQL.out; simp; omega) (by have := HW.out.size; rw [bx_size]; omega) ?_; intro v3 w3 ho3 hg3 hb3; have O3 := Lib.hid ho3; have B3 := Lib.hid (HW.out.trans (((Below.refl _ _).alloc HW.out.size _).trans hb3)); clear ho3 hg3 hb3)
      go_ret
      refine ⟨_, rfl, ?_, B3.out⟩
      rw [← E.out]; exact O3.out
    | succ g =>
      have hin : (i : Int) < (n : Int) := by omega
      obtain ⟨c, hc⟩ : ∃ c, S[i]? = some c := ⟨S[i]'(by have := HN.out; omega), List.getElem?_eq_getElem _⟩
      have HC := Lib.hid hc
      have hil : i < (⟨S.toArray⟩ : ByteArray).size := by omega
      have hub := c.toNat_lt
      obtain ⟨z, hz⟩ : ∃ z : Int, (c.toNat : Int) = z := ⟨_, rfl⟩
      have hiz := at_z hc hz hil
      have hz0 : 0 ≤ z := by omega
      have hz1 : z < 256 := by omega
      have HZ := Lib.hid hz
      clear hz hub hc
      by_cases h92 : c = 92
      · subst h92
        obtain rfl : z = 92 := HZ.out.symm
        have E : Hid (quf S (i + 1) = quf S i ++ _) := (quf_next HC.out).trans (congrArg (quf S i ++ ·) (show LX.q1 92 = [92, 92] from rfl))
        clear HC
        go_wp2_with (at_builtin; refine wpList_append_bytes rfl (.tmp 27) (.tmp 29) 35 rfl w.heap.size 5 Tryz.underlying35 Tryz.linfo_u8 (by rfl) (HO.out.alloc _) (by rfl) (two_rd (a := 92) (b := 92) rfl rfl) (by have := HQL.out; simp; omega) (by have := HW.out.size; rw [bx_size]; omega) ?_; intro v3 w3 ho3 hg3 hb3; have O3 := Lib.hid ho3; have B3 := Lib.hid (HW.out.trans (((Below.refl _ _).alloc HW.out.size _).trans hb3)); clear ho3 hg3 hb3)
        go_roundg g
        case rel =>
          refine ⟨i + 1, _, by omega, by first | rfl | (simp; done), rfl, B3, ?_⟩
          show Own _ _ _ _ _
          rw [E.out]; exact O3.out
        case measure => omega
      have q92 : (z == 92) = false := zne HZ.out 92 (by decide) h92
      have q92' : ¬ z = 92 := beq_eq_false_iff_ne.1 q92
      by_cases h34 : c = 34
      · subst h34
        obtain rfl : z = 34 := HZ.out.symm
        have E : Hid (quf S (i + 1) = quf S i ++ _) := (quf_next HC.out).trans (congrArg (quf S i ++ ·) (show LX.q1 34 = [92, 34] from rfl))
        clear HC
        go_wp2_with (at_builtin; refine wpList_append_bytes rfl (.tmp 27) (.tmp 29) 35 rfl w.heap.size 5 Tryz.underlying35 Tryz.linfo_u8 (by rfl) (HO.out.alloc _) (by rfl) (two_rd (a := 92) (b := 34) rfl rfl) (by have := HQL.out; simp; omega) (by have := HW.out.size; rw [bx_size]; omega) ?_; intro v3 w3 ho3 hg3 hb3; have O3 := Lib.hid ho3; have B3 := Lib.hid (HW.out.trans (((Below.refl _ _).alloc HW.out.size _).trans hb3)); clear ho3 hg3 hb3)
        go_roundg g
        case rel =>
          refine ⟨i + 1, _, by omega, by first | rfl | (simp; done), rfl, B3, ?_⟩
          show Own _ _ _ _ _
          rw [E.out]; exact O3.out
        case measure => omega
      have q34 : (z == 34) = false := zne HZ.out 34 (by decide) h34
      have q34' : ¬ z = 34 := beq_eq_false_iff_ne.1 q34
      by_cases h10 : c = 10
      · subst h10
        obtain rfl : z = 10 := HZ.out.symm
        have E : Hid (quf S (i + 1) = quf S i ++ _) := (quf_next HC.out).trans (congrArg (quf S i ++ ·) (show LX.q1 10 = [92, 110] from rfl))
        clear HC
        go_wp2_with (at_builtin; refine wpList_append_bytes rfl (.tmp 34) (.tmp 35) 35 rfl w.heap.size 5 Tryz.underlying35 Tryz.linfo_u8 (by rfl) (HO.out.alloc _) (by rfl) (two_rd (a := 92) (b := 110) rfl rfl) (by have := HQL.out; simp; omega) (by have := HW.out.size; rw [bx_size]; omega) ?_; intro v3 w3 ho3 hg3 hb3; have O3 := Lib.hid ho3; have B3 := Lib.hid (HW.out.trans (((Below.refl _ _).alloc HW.out.size _).trans hb3)); clear ho3 hg3 hb3)
        go_roundg g
        case rel =>
          refine ⟨i + 1, _, by omega, by first | rfl | (simp; done), rfl, B3, ?_⟩
          show Own _ _ _ _ _
          rw [E.out]; exact O3.out
        case measure => omega
      have q10 : (z == 10) = false := zne HZ.out 10 (by decide) h10
      have q10' : ¬ z = 10 := beq_eq_false_iff_ne.1 q10
      by_cases h9 : c = 9
      · subst h9
        obtain rfl : z = 9 := HZ.out.symm
        have E : Hid (quf S (i + 1) = quf S i ++ _) := (quf_next HC.out).trans (congrArg (quf S i ++ ·) (show LX.q1 9 = [92, 116] from rfl))
        clear HC
        go_wp2_with (at_builtin; refine wpList_append_bytes rfl (.tmp 40) (.tmp 41) 35 rfl w.heap.size 5 Tryz.underlying35 Tryz.linfo_u8 (by rfl) (HO.out.alloc _) (by rfl) (two_rd (a := 92) (b := 116) rfl rfl) (by have := HQL.out; simp; omega) (by have := HW.out.size; rw [bx_size]; omega) ?_; intro v3 w3 ho3 hg3 hb3; have O3 := Lib.hid ho3; have B3 := Lib.hid (HW.out.trans (((Below.refl _ _).alloc HW.out.size _).trans hb3)); clear ho3 hg3 hb3)
        go_roundg g
        case rel =>
          refine ⟨i + 1, _, by omega, by first | rfl | (simp; done), rfl, B3, ?_⟩
          show Own _ _ _ _ _
          rw [E.out]; exact O3.out
        case measure => omega
      have q9 : (z == 9) = false := zne HZ.out 9 (by decide) h9
      have q9' : ¬ z = 9 := beq_eq_false_iff_ne.1 q9
      by_cases hlow : c.toNat < 32 ∨ c = 127
      · have HE : Hid (quf S (i + 1) = quf S i ++ _) := (quf_next HC.out).trans (congrArg (quf S i ++ ·) (LX.q1_hex h92 h34 h10 h9 hlow))
        have hc256 := c.toNat_lt
        obtain ⟨x, hx⟩ : ∃ x, c.toNat / 16 = x := ⟨_, rfl⟩
        obtain ⟨y, hy⟩ : ∃ y, c.toNat % 16 = y := ⟨_, rfl⟩
        have hx16 : x < 16 := by omega
        have hy16 : y < 16 := by omega
        have HX := Lib.hid (LX.hexs_at ⟨x, hx16⟩)
        have HY := Lib.hid (LX.hexs_at ⟨y, hy16⟩)
        rw [hx, hy] at HE
        simp only at HX HY
        obtain ⟨a, ha⟩ : ∃ a, LX.hexd x = a := ⟨_, rfl⟩
        obtain ⟨b, hb⟩ : ∃ b, LX.hexd y = b := ⟨_, rfl⟩
        rw [ha] at HX HE
        rw [hb] at HY HE
        have hs16 := str_size LX.hexs
        have e16 : LX.hexs.length = 16 := rfl
        rw [e16] at hs16
        have hlx : x < (⟨LX.hexs.toArray⟩ : ByteArray).size := by omega
        have hly : y < (⟨LX.hexs.toArray⟩ : ByteArray).size := by omega
        obtain ⟨za, hza⟩ : ∃ za : Int, (a.toNat : Int) = za := ⟨_, rfl⟩
        obtain ⟨zb, hzb⟩ : ∃ zb : Int, (b.toNat : Int) = zb := ⟨_, rfl⟩
        have ia := at_z HX.out hza hlx
        have ib := at_z HY.out hzb hly
        have dx : z.tdiv 16 = (x : Int) := by rw [Int.tdiv_eq_ediv_of_nonneg hz0]; have := HZ.out; omega
        have dy : z.tmod 16 = (y : Int) := by rw [Int.tmod_eq_emod_of_nonneg hz0]; have := HZ.out; omega
        have wx : IntKind.u8.wrap (x : Int) = (x : Int) := lwrap8_small (by omega) (by omega)
        have wy : IntKind.u8.wrap (y : Int) = (y : Int) := lwrap8_small (by omega) (by omega)
        have HZA := Lib.hid hza
        have HZB := Lib.hid hzb
        have a0 : 0 ≤ za := by omega
        have b0 : 0 ≤ zb := by omega
        have x0 : (x : Int) < 16 := by omega
        have y0 : (y : Int) < 16 := by omega
        unfold LX.hexs at ia ib hlx hly hs16
        clear hza hzb ha hb hx hy hc256 HX HY e16 HC
        by_cases h32 : z < 32
        · go_wp2
          go_region_law (refine step_append_bytes (news := [92, 120, a, b]) (by rfl) (.tmp 50) (.tmp 57) 35 (by rfl) w.heap.size 5 Tryz.underlying35 Tryz.linfo_u8 (by rfl) (HO.out.below (below_trans (below_alloc _ _) (below_drew _))) (by rfl) ((four_rd (a := 92) (b := 120) rfl rfl HZA.out.symm HZB.out.symm).below (below_drew _)) (by simp) (by have := HQL.out; simp; omega) (by exact (HW.out.trans ((below_trans (below_alloc _ _) (below_drew _)).mono HW.out.size)).size) ?_; intro g3 cap3 w3 ho3 hb3; have O3 := Lib.hid ho3; have B3 := Lib.hid ((HW.out.trans ((below_trans (below_alloc _ _) (below_drew _)).mono HW.out.size)).trans hb3); clear ho3 hb3)
          all_goals
            go_wp2
            go_roundg g
            case rel =>
              refine ⟨i + 1, _, by omega, by first | rfl | (simp; done), rfl, B3, ?_⟩
              show Own _ _ _ _ _
              rw [HE.out]; exact O3.out
            case measure => omega
        · obtain rfl : c = 127 := hlow.elim (fun h => absurd (by have := HZ.out; omega) h32) id
          obtain rfl : z = 127 := HZ.out.symm
          go_wp2
          go_region_law (refine step_append_bytes (news := [92, 120, a, b]) (by rfl) (.tmp 50) (.tmp 57) 35 (by rfl) w.heap.size 5 Tryz.underlying35 Tryz.linfo_u8 (by rfl) (HO.out.below (below_trans (below_alloc _ _) (below_drew _))) (by rfl) ((four_rd (a := 92) (b := 120) rfl rfl HZA.out.symm HZB.out.symm).below (below_drew _)) (by simp) (by have := HQL.out; simp; omega) (by exact (HW.out.trans ((below_trans (below_alloc _ _) (below_drew _)).mono HW.out.size)).size) ?_; intro g3 cap3 w3 ho3 hb3; have O3 := Lib.hid ho3; have B3 := Lib.hid ((HW.out.trans ((below_trans (below_alloc _ _) (below_drew _)).mono HW.out.size)).trans hb3); clear ho3 hb3)
          all_goals
            go_wp2
            go_roundg g
            case rel =>
              refine ⟨i + 1, _, by omega, by first | rfl | (simp; done), rfl, B3, ?_⟩
              show Own _ _ _ _ _
              rw [HE.out]; exact O3.out
            case measure => omega
      · have h32 : ¬ z < 32 := by have := HZ.out; omega
        have q127 : (z == 127) = false := zne HZ.out 127 (by decide) (fun h => hlow (.inr h))
        have q127' : ¬ z = 127 := beq_eq_false_iff_ne.1 q127
        have E : Hid (quf S (i + 1) = quf S i ++ _) := (quf_next HC.out).trans (congrArg (quf S i ++ ·) (LX.q1_self h92 h34 h10 h9 hlow))
        clear HC
        go_wp2_with (at_builtin; refine wpList_append_bytes rfl (.tmp 16) (.tmp 18) 35 rfl w.heap.size 5 Tryz.underlying35 Tryz.linfo_u8 (by rfl) (HO.out.alloc _) (by rfl) (one_rd (b := c) HZ.out.symm) (by have := HQL.out; simp; omega) (by have := HW.out.size; rw [bx_size]; omega) ?_; intro v3 w3 ho3 hg3 hb3; have O3 := Lib.hid ho3; have B3 := Lib.hid (HW.out.trans (((Below.refl _ _).alloc HW.out.size _).trans hb3)); clear ho3 hg3 hb3)
        go_roundg g
        case rel =>
          refine ⟨i + 1, _, by omega, by first | rfl | (simp; done), rfl, B3, ?_⟩
          show Own _ _ _ _ _
          rw [E.out]; exact O3.out
        case measure => omega
end Go.Proofs.YtgfhabofhefaaaaGreatDoor
