/- Walks of decode and of DecodeQuery, DecodeReport, DecodeOops. -/
import Derived.Test.YtfpdcljeepjogaaAdP
import Derived.Test.YtfpdcljeepjogaaAkY
namespace Go.Proofs.Ytfpdcljeepjogaa
open Go.RowKit

/-- What a Decode answers: what it is, or nought and a code. -/
def ansN (o : Option AD.N) : AD.N := o.getD (0, 0, [])
def ansO (o : Option AD.O) : AD.O := o.getD (0, 0, 0, 0)
def codeA {α : Type} (o : Option α) : Int := if o.isSome then 0 else 2
def DecA (w : World) (cs : Array Value) (c : Int) (e : Ending) (w' : World) : Prop := e = .returned (.tuple #[.agg cs, .int .i64 c]) ∧ Below w.heap.size w w'
/-- Where decode stands. -/
structure DA (T : TypeId) (w wr : World) (cs : Array Value) : Prop where
  below : Below w.heap.size w wr
  big : w.heap.size + 3 ≤ wr.heap.size
  res : Str wr w.heap.size T cs
  code : Str wr (w.heap.size + 1) 26 #[.int .i64 0]
theorem DA.later {T : TypeId} {w wr w1 : World} {cs : Array Value} (h : DA T w wr cs) (hk : Kb wr w1 (some (w.heap.size + 2)) none) : DA T w w1 cs := by
  have hbig := h.big
  refine ⟨h.below.trans (hk.below (by omega) (fun g hg => by have := Option.some.inj hg; omega) (fun g hg => by cases hg)), Nat.le_trans hbig hk.size, h.res.kb hk (by simp) (by simp), h.code.kb hk (by simp) (by simp)⟩
theorem DA.laid {T : TypeId} {w wr w' : World} {cs cs' : Array Value} (h : DA T w wr cs) (kb : Kb wr w' (some w.heap.size) none) (hs : Str w' w.heap.size T cs') : DA T w w' cs' := by
  have hbig := h.big
  exact ⟨h.below.trans (kb.below (by omega) (fun g hg => by have := Option.some.inj hg; omega) (fun g hg => by cases hg)), Nat.le_trans hbig kb.size, hs, h.code.kb kb (by simp) (by simp)⟩
theorem da_start (T : TypeId) (z : Array Value) {w : World} {ao : Option Addr} {cap : Nat} {bs : List UInt8} (hr : Rdv w (.slice ao (bv bs).length cap) (bv bs)) :
    DA T w (((w.alloc (.cells z T)).alloc (.cells #[.int .i64 0] 26)).alloc (.cells #[.slice ao (bv bs).length cap] 78)) z ∧ Rdr (((w.alloc (.cells z T)).alloc (.cells #[.int .i64 0] 26)).alloc (.cells #[.slice ao (bv bs).length cap] 78)) (w.heap.size + 2) bs := by
  have B1 := below_alloc w (.cells z T)
  have B2 := below_alloc (w.alloc (.cells z T)) (.cells #[.int .i64 0] 26)
  have B3 := below_alloc ((w.alloc (.cells z T)).alloc (.cells #[.int .i64 0] 26)) (.cells #[.slice ao (bv bs).length cap] 78)
  have BB := below_trans B1 (below_trans B2 B3)
  refine ⟨⟨BB, by rw [box_size, box_size, box_size]; omega, (Str.new w _ _).below (below_trans B2 B3), ?_⟩, ?_⟩
  · have := (Str.new (w.alloc (.cells z T)) 26 #[.int .i64 0]).below B3
    rwa [box_size] at this
  · have := Str.new ((w.alloc (.cells z T)).alloc (.cells #[.int .i64 0] 26)) 78 #[.slice ao (bv bs).length cap]
    rw [box_size, box_size] at this
    refine ⟨_, this, hr.below BB, fun hne => ?_⟩
    have hpos : 0 < bs.length := List.length_pos_iff.2 hne
    obtain ⟨a', c', hv, -, -, -, g4⟩ := hr
    obtain ⟨rfl, -, -⟩ := Value.slice.inj hv
    obtain ⟨x, rfl, hc⟩ := g4 0 _ (bv_get hpos)
    refine ⟨x, _, _, rfl, ?_⟩
    have := cell_lt hc
    rw [add_block] at this
    omega
theorem noN_no (i : Nat) (z : Int) : (#[.int .i64 0, .int .i64 0, .string ⟨#[]⟩] : Array Value)[i]? ≠ some (Value.int .u8 z) := by
  match i with
  | 0 => simp
  | 1 => simp
  | 2 => simp
  | i + 3 => simp
theorem noO_no (i : Nat) (z : Int) : (#[.int .i64 0, .int .i64 0, .int .i64 0, .int .i64 0] : Array Value)[i]? ≠ some (Value.int .u8 z) := by
  match i with
  | 0 => simp
  | 1 => simp
  | 2 => simp
  | 3 => simp
  | i + 4 => simp

theorem ret_both_query {tmps : Array Value} {w : World} {p q : Nat} {cs : Array Value} {z : Int} (hp : tmps.getD 4 undef = .pointer (some ⟨p, 0, none⟩)) (hq : tmps.getD 5 undef = .pointer (some ⟨q, 0, none⟩)) (h1 : Str w p 23 cs) (h2 : Str w q 26 #[.int .i64 z]) (h4 : cs.size = 3) :
    (results Try.f28 tmps).run Try.prog w = .ok (.tuple #[.agg cs, .int .i64 z]) w := by
  have hs' : w.heap[p]? = some (.cells cs 23 (0, 0)) := h1
  have l1 := run_loadVar_row (P := Try.prog) w p 23 23 cs (0, 0) _ hs' Try.underlying23 rfl (by rw [h4]; exact query_size)
  have c2 : w.cell? ⟨q, 0, none⟩ = some (.int .i64 z) := h2.cell 0
  have l2 : (loadVar 26 ⟨q, 0, none⟩).run Try.prog w = .ok (.int .i64 z) w := by
    simp [loadVar, isAgg, go_sem, c2]
  have hp' : (asAddr (tmps.getD 4 undef)).run Try.prog w = .ok ⟨p, 0, none⟩ w := by rw [hp]; simp [asAddr]
  have hq' : (asAddr (tmps.getD 5 undef)).run Try.prog w = .ok ⟨q, 0, none⟩ w := by rw [hq]; simp [asAddr]
  simp only [Array.getD_eq_getD_getElem?] at hp' hq'
  simp only [results, Try.results28]
  simp [Sem.run_bind, Result.andThen, hp', hq', l1, l2]
/-- At the door, behind a reader that gave up. -/
theorem door_gave_query {w wr : World} {tmps : Array Value} {x0 x1 x2 : Value} {cs : Array Value} {c : Int} (hp : tmps.getD 4 undef = .pointer (some ⟨w.heap.size, 0, none⟩)) (hq : tmps.getD 5 undef = .pointer (some ⟨w.heap.size + 1, 0, none⟩)) (hd : DA 23 w wr #[x0, x1, x2]) (hcs : cs = zeroN) (hc : c = 2) :
    Leaves Try.prog Try.f28 tmps (DecA w cs c) [{ target := .fn (.func 44) #[.pointer (some ⟨w.heap.size, 0, none⟩), .pointer (some ⟨w.heap.size + 1, 0, none⟩)], args := #[] }] (.panicking gaveUp) wr := by
  subst hcs hc
  refine leaves_cons (f := 44) (args := #[.pointer (some ⟨w.heap.size, 0, none⟩), .pointer (some ⟨w.heap.size + 1, 0, none⟩)]) (by simp) (by simp [go_sem]) ?_
  refine (catch_panicking_query w.heap.size (w.heap.size + 1) x0 x1 x2 (.int .i64 0) wr hd.res hd.code).mono ?_
  rintro e u' w' ⟨rfl, rfl, s1, s2, kb⟩
  refine ⟨_, ret_both_query hp hq s1 s2 rfl, rfl, ?_⟩
  exact hd.below.trans (kb.below hd.below.size (fun g hg => by have := Option.some.inj hg; omega) (fun g hg => by have := Option.some.inj hg; omega))
/-- At the door, behind a return. -/
theorem door_done_query {w wr : World} {tmps : Array Value} {x0 x1 x2 : Value} {cs : Array Value} {c : Int} (hp : tmps.getD 4 undef = .pointer (some ⟨w.heap.size, 0, none⟩)) (hq : tmps.getD 5 undef = .pointer (some ⟨w.heap.size + 1, 0, none⟩)) (hd : DA 23 w wr #[x0, x1, x2]) (hcs : cs = #[x0, x1, x2]) (hc : c = 0) :
    Leaves Try.prog Try.f28 tmps (DecA w cs c) [{ target := .fn (.func 44) #[.pointer (some ⟨w.heap.size, 0, none⟩), .pointer (some ⟨w.heap.size + 1, 0, none⟩)], args := #[] }] .returning wr := by
  subst hcs hc
  refine leaves_cons (f := 44) (args := #[.pointer (some ⟨w.heap.size, 0, none⟩), .pointer (some ⟨w.heap.size + 1, 0, none⟩)]) (by simp) (by simp [go_sem]) ?_
  refine (catch_idle_query _ _ wr).mono ?_
  rintro e u' w' ⟨rfl, rfl, rfl⟩
  exact ⟨_, ret_both_query hp hq hd.res hd.code rfl, rfl, hd.below⟩

set_option maxHeartbeats 8000000 in
theorem inner_query (v : Value) (bs : List UInt8) (w : World) (hr : Rdv w v (bv bs)) :
    Calls Try.prog 28 #[v, .func (.func 29) #[] #[]] w (DecA w (cellsN (ansN (AD.whole (AD.parN 3 16384 bs)))) (codeA (AD.whole (AD.parN 3 16384 bs)))) := by
  have hmf : ∀ (fn : Fn) (first cap : Array Value) (w : World), (Instr.makeFunc fn first cap).run Try.prog w = .ok (.func fn first cap) w := fun _ _ _ _ => rfl
  obtain ⟨ao, cap, rfl, -⟩ := id hr
  have HNR := Lib.hid (fun x => newr_any ao (bv bs).length cap x)
  have HST := Lib.hid (da_start 23 #[.int .i64 0, .int .i64 0, .string ⟨#[]⟩] hr)
  clear hr
  go_enter_defers Try.func28, Try.ntmps28
  go_wp2_with fail
  refine (HNR.out _).mono ?_
  rintro e w1 ⟨rfl, hw1⟩
  rw [← hw1] at HST
  rw [box_size, box_size]
  obtain ⟨hdc, hrd⟩ := HST.out
  have HD1 := Lib.hid hdc
  have HRD := Lib.hid (read_query (w.heap.size + 2) bs w1 hrd)
  clear hw1 HNR HST hdc hrd
  cases hpar : AD.parN 3 16384 bs with
  | none =>
    rw [hpar] at HRD
    have E := Lib.hid hpar
    clear hpar
    go_wp2_with fail
    refine HRD.out.mono ?_
    rintro e w2 (⟨_, _, hno, _⟩ | ⟨_, rfl, hk⟩)
    · cases hno
    · exact door_gave_query rfl rfl (HD1.out.later hk) (by rw [E.out]; rfl) (by rw [E.out]; rfl)
  | some x =>
    obtain ⟨⟨a, b, s⟩, r⟩ := x
    rw [hpar] at HRD
    have E := Lib.hid hpar
    clear hpar
    go_wp2_with fail
    refine HRD.out.mono ?_
    rintro e w2 (⟨cs, r', ho, rfl, hr2, hk2⟩ | ⟨hno, _⟩)
    case inr => cases hno
    obtain ⟨rfl, rfl⟩ := Prod.mk.inj (Option.some.inj ho)
    simp only [cellsN]
    have HD2 := Lib.hid (HD1.out.later hk2)
    have HR2 := Lib.hid hr2
    clear hr2 hk2 ho HRD HD1
    obtain ⟨c0, c1, c2⟩ := HD2.out.res.cells3
    obtain ⟨f0, f1, f2, -⟩ := HD2.out.res.frozen4
    have KB2 := Kb.three w2 w.heap.size (.int .i64 a) (.int .i64 b) (.string ⟨s.toArray⟩) none
    have HD3 := Lib.hid (HD2.out.laid KB2 (HD2.out.res.three _ _ _))
    have HR3 := Lib.hid (HR2.out.kb HD2.out.res noN_no (by omega) KB2)
    have HEND := Lib.hid (end_any (w.heap.size + 2) r _ HR3.out)
    clear HD2 HR2 KB2
    go_wp2_with fail
    refine HEND.out.mono ?_
    clear HEND c0 c1 c2 f0 f1 f2
    rintro e w3 ⟨he, rfl⟩
    generalize three w2 w.heap.size (.int .i64 a) (.int .i64 b) (.string ⟨s.toArray⟩) = w3 at *
    by_cases hr0 : r = []
    · rw [if_pos hr0] at he
      subst he
      subst hr0
      obtain ⟨c0, c1, c2⟩ := HD3.out.res.cells3
      obtain ⟨f0, f1, f2, -⟩ := HD3.out.res.frozen4
      have KB4 := Kb.three w3 w.heap.size (.int .i64 a) (.int .i64 b) (.string ⟨s.toArray⟩) none
      have HD5 := Lib.hid (HD3.out.laid KB4 (HD3.out.res.three _ _ _))
      have k0 := HD5.out.code.cell 0
      have k1 := HD5.out.code.frozen 0
      unfold three at k0 k1
      simp only [List.getElem?_toArray, List.getElem?_cons_zero] at k0
      clear KB4
      go_wp2
      have kc := Kb.set (three w3 w.heap.size (.int .i64 a) (.int .i64 b) (.string ⟨s.toArray⟩)) (w.heap.size + 1) 0 (.int .i64 0) none
      have hbig := HD5.out.big
      have hd6 : DA 23 w ((three w3 w.heap.size (.int .i64 a) (.int .i64 b) (.string ⟨s.toArray⟩)).setCell ⟨w.heap.size + 1, 0, none⟩ (.int .i64 0)) #[.int .i64 a, .int .i64 b, .string ⟨s.toArray⟩] := ⟨HD5.out.below.trans (kc.below (by omega) (fun g hg => by have := Option.some.inj hg; omega) (fun g hg => by cases hg)), Nat.le_trans hbig kc.size, HD5.out.res.kb kc (by simp) (by simp), HD5.out.code.one _⟩
      exact door_done_query rfl rfl hd6 (by rw [E.out]; rfl) (by rw [E.out]; rfl)
    · rw [if_neg hr0] at he
      subst he
      exact door_gave_query rfl rfl HD3.out (by rw [E.out, AD.whole_more _ hr0]; rfl) (by rw [E.out, AD.whole_more _ hr0]; rfl)

theorem ret_both_report {tmps : Array Value} {w : World} {p q : Nat} {cs : Array Value} {z : Int} (hp : tmps.getD 4 undef = .pointer (some ⟨p, 0, none⟩)) (hq : tmps.getD 5 undef = .pointer (some ⟨q, 0, none⟩)) (h1 : Str w p 33 cs) (h2 : Str w q 26 #[.int .i64 z]) (h4 : cs.size = 3) :
    (results Try.f31 tmps).run Try.prog w = .ok (.tuple #[.agg cs, .int .i64 z]) w := by
  have hs' : w.heap[p]? = some (.cells cs 33 (0, 0)) := h1
  have l1 := run_loadVar_row (P := Try.prog) w p 33 33 cs (0, 0) _ hs' Try.underlying33 rfl (by rw [h4]; exact report_size)
  have c2 : w.cell? ⟨q, 0, none⟩ = some (.int .i64 z) := h2.cell 0
  have l2 : (loadVar 26 ⟨q, 0, none⟩).run Try.prog w = .ok (.int .i64 z) w := by
    simp [loadVar, isAgg, go_sem, c2]
  have hp' : (asAddr (tmps.getD 4 undef)).run Try.prog w = .ok ⟨p, 0, none⟩ w := by rw [hp]; simp [asAddr]
  have hq' : (asAddr (tmps.getD 5 undef)).run Try.prog w = .ok ⟨q, 0, none⟩ w := by rw [hq]; simp [asAddr]
  simp only [Array.getD_eq_getD_getElem?] at hp' hq'
  simp only [results, Try.results31]
  simp [Sem.run_bind, Result.andThen, hp', hq', l1, l2]
/-- At the door, behind a reader that gave up. -/
theorem door_gave_report {w wr : World} {tmps : Array Value} {x0 x1 x2 : Value} {cs : Array Value} {c : Int} (hp : tmps.getD 4 undef = .pointer (some ⟨w.heap.size, 0, none⟩)) (hq : tmps.getD 5 undef = .pointer (some ⟨w.heap.size + 1, 0, none⟩)) (hd : DA 33 w wr #[x0, x1, x2]) (hcs : cs = zeroN) (hc : c = 2) :
    Leaves Try.prog Try.f31 tmps (DecA w cs c) [{ target := .fn (.func 52) #[.pointer (some ⟨w.heap.size, 0, none⟩), .pointer (some ⟨w.heap.size + 1, 0, none⟩)], args := #[] }] (.panicking gaveUp) wr := by
  subst hcs hc
  refine leaves_cons (f := 52) (args := #[.pointer (some ⟨w.heap.size, 0, none⟩), .pointer (some ⟨w.heap.size + 1, 0, none⟩)]) (by simp) (by simp [go_sem]) ?_
  refine (catch_panicking_report w.heap.size (w.heap.size + 1) x0 x1 x2 (.int .i64 0) wr hd.res hd.code).mono ?_
  rintro e u' w' ⟨rfl, rfl, s1, s2, kb⟩
  refine ⟨_, ret_both_report hp hq s1 s2 rfl, rfl, ?_⟩
  exact hd.below.trans (kb.below hd.below.size (fun g hg => by have := Option.some.inj hg; omega) (fun g hg => by have := Option.some.inj hg; omega))
/-- At the door, behind a return. -/
theorem door_done_report {w wr : World} {tmps : Array Value} {x0 x1 x2 : Value} {cs : Array Value} {c : Int} (hp : tmps.getD 4 undef = .pointer (some ⟨w.heap.size, 0, none⟩)) (hq : tmps.getD 5 undef = .pointer (some ⟨w.heap.size + 1, 0, none⟩)) (hd : DA 33 w wr #[x0, x1, x2]) (hcs : cs = #[x0, x1, x2]) (hc : c = 0) :
    Leaves Try.prog Try.f31 tmps (DecA w cs c) [{ target := .fn (.func 52) #[.pointer (some ⟨w.heap.size, 0, none⟩), .pointer (some ⟨w.heap.size + 1, 0, none⟩)], args := #[] }] .returning wr := by
  subst hcs hc
  refine leaves_cons (f := 52) (args := #[.pointer (some ⟨w.heap.size, 0, none⟩), .pointer (some ⟨w.heap.size + 1, 0, none⟩)]) (by simp) (by simp [go_sem]) ?_
  refine (catch_idle_report _ _ wr).mono ?_
  rintro e u' w' ⟨rfl, rfl, rfl⟩
  exact ⟨_, ret_both_report hp hq hd.res hd.code rfl, rfl, hd.below⟩

set_option maxHeartbeats 8000000 in
theorem inner_report (v : Value) (bs : List UInt8) (w : World) (hr : Rdv w v (bv bs)) :
    Calls Try.prog 31 #[v, .func (.func 32) #[] #[]] w (DecA w (cellsN (ansN (AD.whole (AD.parN 4 60000 bs)))) (codeA (AD.whole (AD.parN 4 60000 bs)))) := by
  have hmf : ∀ (fn : Fn) (first cap : Array Value) (w : World), (Instr.makeFunc fn first cap).run Try.prog w = .ok (.func fn first cap) w := fun _ _ _ _ => rfl
  obtain ⟨ao, cap, rfl, -⟩ := id hr
  have HNR := Lib.hid (fun x => newr_any ao (bv bs).length cap x)
  have HST := Lib.hid (da_start 33 #[.int .i64 0, .int .i64 0, .string ⟨#[]⟩] hr)
  clear hr
  go_enter_defers Try.func31, Try.ntmps31
  go_wp2_with fail
  refine (HNR.out _).mono ?_
  rintro e w1 ⟨rfl, hw1⟩
  rw [← hw1] at HST
  rw [box_size, box_size]
  obtain ⟨hdc, hrd⟩ := HST.out
  have HD1 := Lib.hid hdc
  have HRD := Lib.hid (read_report (w.heap.size + 2) bs w1 hrd)
  clear hw1 HNR HST hdc hrd
  cases hpar : AD.parN 4 60000 bs with
  | none =>
    rw [hpar] at HRD
    have E := Lib.hid hpar
    clear hpar
    go_wp2_with fail
    refine HRD.out.mono ?_
    rintro e w2 (⟨_, _, hno, _⟩ | ⟨_, rfl, hk⟩)
    · cases hno
    · exact door_gave_report rfl rfl (HD1.out.later hk) (by rw [E.out]; rfl) (by rw [E.out]; rfl)
  | some x =>
    obtain ⟨⟨a, b, s⟩, r⟩ := x
    rw [hpar] at HRD
    have E := Lib.hid hpar
    clear hpar
    go_wp2_with fail
    refine HRD.out.mono ?_
    rintro e w2 (⟨cs, r', ho, rfl, hr2, hk2⟩ | ⟨hno, _⟩)
    case inr => cases hno
    obtain ⟨rfl, rfl⟩ := Prod.mk.inj (Option.some.inj ho)
    simp only [cellsN]
    have HD2 := Lib.hid (HD1.out.later hk2)
    have HR2 := Lib.hid hr2
    clear hr2 hk2 ho HRD HD1
    obtain ⟨c0, c1, c2⟩ := HD2.out.res.cells3
    obtain ⟨f0, f1, f2, -⟩ := HD2.out.res.frozen4
    have KB2 := Kb.three w2 w.heap.size (.int .i64 a) (.int .i64 b) (.string ⟨s.toArray⟩) none
    have HD3 := Lib.hid (HD2.out.laid KB2 (HD2.out.res.three _ _ _))
    have HR3 := Lib.hid (HR2.out.kb HD2.out.res noN_no (by omega) KB2)
    have HEND := Lib.hid (end_any (w.heap.size + 2) r _ HR3.out)
    clear HD2 HR2 KB2
    go_wp2_with fail
    refine HEND.out.mono ?_
    clear HEND c0 c1 c2 f0 f1 f2
    rintro e w3 ⟨he, rfl⟩
    generalize three w2 w.heap.size (.int .i64 a) (.int .i64 b) (.string ⟨s.toArray⟩) = w3 at *
    by_cases hr0 : r = []
    · rw [if_pos hr0] at he
      subst he
      subst hr0
      obtain ⟨c0, c1, c2⟩ := HD3.out.res.cells3
      obtain ⟨f0, f1, f2, -⟩ := HD3.out.res.frozen4
      have KB4 := Kb.three w3 w.heap.size (.int .i64 a) (.int .i64 b) (.string ⟨s.toArray⟩) none
      have HD5 := Lib.hid (HD3.out.laid KB4 (HD3.out.res.three _ _ _))
      have k0 := HD5.out.code.cell 0
      have k1 := HD5.out.code.frozen 0
      unfold three at k0 k1
      simp only [List.getElem?_toArray, List.getElem?_cons_zero] at k0
      clear KB4
      go_wp2
      have kc := Kb.set (three w3 w.heap.size (.int .i64 a) (.int .i64 b) (.string ⟨s.toArray⟩)) (w.heap.size + 1) 0 (.int .i64 0) none
      have hbig := HD5.out.big
      have hd6 : DA 33 w ((three w3 w.heap.size (.int .i64 a) (.int .i64 b) (.string ⟨s.toArray⟩)).setCell ⟨w.heap.size + 1, 0, none⟩ (.int .i64 0)) #[.int .i64 a, .int .i64 b, .string ⟨s.toArray⟩] := ⟨HD5.out.below.trans (kc.below (by omega) (fun g hg => by have := Option.some.inj hg; omega) (fun g hg => by cases hg)), Nat.le_trans hbig kc.size, HD5.out.res.kb kc (by simp) (by simp), HD5.out.code.one _⟩
      exact door_done_report rfl rfl hd6 (by rw [E.out]; rfl) (by rw [E.out]; rfl)
    · rw [if_neg hr0] at he
      subst he
      exact door_gave_report rfl rfl HD3.out (by rw [E.out, AD.whole_more _ hr0]; rfl) (by rw [E.out, AD.whole_more _ hr0]; rfl)

theorem ret_both_oops {tmps : Array Value} {w : World} {p q : Nat} {cs : Array Value} {z : Int} (hp : tmps.getD 4 undef = .pointer (some ⟨p, 0, none⟩)) (hq : tmps.getD 5 undef = .pointer (some ⟨q, 0, none⟩)) (h1 : Str w p 39 cs) (h2 : Str w q 26 #[.int .i64 z]) (h4 : cs.size = 4) :
    (results Try.f35 tmps).run Try.prog w = .ok (.tuple #[.agg cs, .int .i64 z]) w := by
  have hs' : w.heap[p]? = some (.cells cs 39 (0, 0)) := h1
  have l1 := run_loadVar_row (P := Try.prog) w p 39 39 cs (0, 0) _ hs' Try.underlying39 rfl (by rw [h4]; exact oops_size)
  have c2 : w.cell? ⟨q, 0, none⟩ = some (.int .i64 z) := h2.cell 0
  have l2 : (loadVar 26 ⟨q, 0, none⟩).run Try.prog w = .ok (.int .i64 z) w := by
    simp [loadVar, isAgg, go_sem, c2]
  have hp' : (asAddr (tmps.getD 4 undef)).run Try.prog w = .ok ⟨p, 0, none⟩ w := by rw [hp]; simp [asAddr]
  have hq' : (asAddr (tmps.getD 5 undef)).run Try.prog w = .ok ⟨q, 0, none⟩ w := by rw [hq]; simp [asAddr]
  simp only [Array.getD_eq_getD_getElem?] at hp' hq'
  simp only [results, Try.results35]
  simp [Sem.run_bind, Result.andThen, hp', hq', l1, l2]
/-- At the door, behind a reader that gave up. -/
theorem door_gave_oops {w wr : World} {tmps : Array Value} {x0 x1 x2 x3 : Value} {cs : Array Value} {c : Int} (hp : tmps.getD 4 undef = .pointer (some ⟨w.heap.size, 0, none⟩)) (hq : tmps.getD 5 undef = .pointer (some ⟨w.heap.size + 1, 0, none⟩)) (hd : DA 39 w wr #[x0, x1, x2, x3]) (hcs : cs = zeroO) (hc : c = 2) :
    Leaves Try.prog Try.f35 tmps (DecA w cs c) [{ target := .fn (.func 55) #[.pointer (some ⟨w.heap.size, 0, none⟩), .pointer (some ⟨w.heap.size + 1, 0, none⟩)], args := #[] }] (.panicking gaveUp) wr := by
  subst hcs hc
  refine leaves_cons (f := 55) (args := #[.pointer (some ⟨w.heap.size, 0, none⟩), .pointer (some ⟨w.heap.size + 1, 0, none⟩)]) (by simp) (by simp [go_sem]) ?_
  refine (catch_panicking_oops w.heap.size (w.heap.size + 1) x0 x1 x2 x3 (.int .i64 0) wr hd.res hd.code).mono ?_
  rintro e u' w' ⟨rfl, rfl, s1, s2, kb⟩
  refine ⟨_, ret_both_oops hp hq s1 s2 rfl, rfl, ?_⟩
  exact hd.below.trans (kb.below hd.below.size (fun g hg => by have := Option.some.inj hg; omega) (fun g hg => by have := Option.some.inj hg; omega))
/-- At the door, behind a return. -/
theorem door_done_oops {w wr : World} {tmps : Array Value} {x0 x1 x2 x3 : Value} {cs : Array Value} {c : Int} (hp : tmps.getD 4 undef = .pointer (some ⟨w.heap.size, 0, none⟩)) (hq : tmps.getD 5 undef = .pointer (some ⟨w.heap.size + 1, 0, none⟩)) (hd : DA 39 w wr #[x0, x1, x2, x3]) (hcs : cs = #[x0, x1, x2, x3]) (hc : c = 0) :
    Leaves Try.prog Try.f35 tmps (DecA w cs c) [{ target := .fn (.func 55) #[.pointer (some ⟨w.heap.size, 0, none⟩), .pointer (some ⟨w.heap.size + 1, 0, none⟩)], args := #[] }] .returning wr := by
  subst hcs hc
  refine leaves_cons (f := 55) (args := #[.pointer (some ⟨w.heap.size, 0, none⟩), .pointer (some ⟨w.heap.size + 1, 0, none⟩)]) (by simp) (by simp [go_sem]) ?_
  refine (catch_idle_oops _ _ wr).mono ?_
  rintro e u' w' ⟨rfl, rfl, rfl⟩
  exact ⟨_, ret_both_oops hp hq hd.res hd.code rfl, rfl, hd.below⟩

set_option maxHeartbeats 8000000 in
theorem inner_oops (v : Value) (bs : List UInt8) (w : World) (hr : Rdv w v (bv bs)) :
    Calls Try.prog 35 #[v, .func (.func 36) #[] #[]] w (DecA w (cellsO (ansO (AD.whole (AD.parO bs)))) (codeA (AD.whole (AD.parO bs)))) := by
  have hmf : ∀ (fn : Fn) (first cap : Array Value) (w : World), (Instr.makeFunc fn first cap).run Try.prog w = .ok (.func fn first cap) w := fun _ _ _ _ => rfl
  obtain ⟨ao, cap, rfl, -⟩ := id hr
  have HNR := Lib.hid (fun x => newr_any ao (bv bs).length cap x)
  have HST := Lib.hid (da_start 39 #[.int .i64 0, .int .i64 0, .int .i64 0, .int .i64 0] hr)
  clear hr
  go_enter_defers Try.func35, Try.ntmps35
  go_wp2_with fail
  refine (HNR.out _).mono ?_
  rintro e w1 ⟨rfl, hw1⟩
  rw [← hw1] at HST
  rw [box_size, box_size]
  obtain ⟨hdc, hrd⟩ := HST.out
  have HD1 := Lib.hid hdc
  have HRD := Lib.hid (readOops_any (w.heap.size + 2) bs w1 hrd)
  clear hw1 HNR HST hdc hrd
  cases hpar : AD.parO bs with
  | none =>
    rw [hpar] at HRD
    have E := Lib.hid hpar
    clear hpar
    go_wp2_with fail
    refine HRD.out.mono ?_
    rintro e w2 (⟨_, _, hno, _⟩ | ⟨_, rfl, hk⟩)
    · cases hno
    · exact door_gave_oops rfl rfl (HD1.out.later hk) (by rw [E.out]; rfl) (by rw [E.out]; rfl)
  | some x =>
    obtain ⟨⟨a, b, c, d⟩, r⟩ := x
    rw [hpar] at HRD
    have E := Lib.hid hpar
    clear hpar
    go_wp2_with fail
    refine HRD.out.mono ?_
    rintro e w2 (⟨cs, r', ho, rfl, hr2, hk2⟩ | ⟨hno, _⟩)
    case inr => cases hno
    obtain ⟨rfl, rfl⟩ := Prod.mk.inj (Option.some.inj ho)
    simp only [cellsO]
    have HD2 := Lib.hid (HD1.out.later hk2)
    have HR2 := Lib.hid hr2
    clear hr2 hk2 ho HRD HD1
    obtain ⟨c0, c1, c2, c3⟩ := HD2.out.res.cells4
    obtain ⟨f0, f1, f2, f3⟩ := HD2.out.res.frozen4
    have KB2 := Kb.four w2 w.heap.size (.int .i64 a) (.int .i64 b) (.int .i64 c) (.int .i64 d) none
    have HD3 := Lib.hid (HD2.out.laid KB2 (HD2.out.res.four _ _ _ _))
    have HR3 := Lib.hid (HR2.out.kb HD2.out.res noO_no (by omega) KB2)
    have HEND := Lib.hid (end_any (w.heap.size + 2) r _ HR3.out)
    clear HD2 HR2 KB2
    go_wp2_with fail
    refine HEND.out.mono ?_
    clear HEND c0 c1 c2 c3 f0 f1 f2 f3
    rintro e w3 ⟨he, rfl⟩
    generalize four w2 w.heap.size (.int .i64 a) (.int .i64 b) (.int .i64 c) (.int .i64 d) = w3 at *
    by_cases hr0 : r = []
    · rw [if_pos hr0] at he
      subst he
      subst hr0
      obtain ⟨c0, c1, c2, c3⟩ := HD3.out.res.cells4
      obtain ⟨f0, f1, f2, f3⟩ := HD3.out.res.frozen4
      have KB4 := Kb.four w3 w.heap.size (.int .i64 a) (.int .i64 b) (.int .i64 c) (.int .i64 d) none
      have HD5 := Lib.hid (HD3.out.laid KB4 (HD3.out.res.four _ _ _ _))
      have k0 := HD5.out.code.cell 0
      have k1 := HD5.out.code.frozen 0
      unfold four at k0 k1
      simp only [List.getElem?_toArray, List.getElem?_cons_zero] at k0
      clear KB4
      go_wp2
      have kc := Kb.set (four w3 w.heap.size (.int .i64 a) (.int .i64 b) (.int .i64 c) (.int .i64 d)) (w.heap.size + 1) 0 (.int .i64 0) none
      have hbig := HD5.out.big
      have hd6 : DA 39 w ((four w3 w.heap.size (.int .i64 a) (.int .i64 b) (.int .i64 c) (.int .i64 d)).setCell ⟨w.heap.size + 1, 0, none⟩ (.int .i64 0)) #[.int .i64 a, .int .i64 b, .int .i64 c, .int .i64 d] := ⟨HD5.out.below.trans (kc.below (by omega) (fun g hg => by have := Option.some.inj hg; omega) (fun g hg => by cases hg)), Nat.le_trans hbig kc.size, HD5.out.res.kb kc (by simp) (by simp), HD5.out.code.one _⟩
      exact door_done_oops rfl rfl hd6 (by rw [E.out]; rfl) (by rw [E.out]; rfl)
    · rw [if_neg hr0] at he
      subst he
      exact door_gave_oops rfl rfl HD3.out (by rw [E.out, AD.whole_more _ hr0]; rfl) (by rw [E.out, AD.whole_more _ hr0]; rfl)

set_option maxHeartbeats 1600000 in
theorem decode_query (v : Value) (bs : List UInt8) (w : World) (hr : Rdv w v (bv bs)) :
    Calls Try.prog 11 #[v] w (DecA w (cellsN (ansN (AD.decN 3 16384 bs))) (codeA (AD.decN 3 16384 bs))) := by
  have B0 := below_alloc w (.cells #[.int .i64 0, .int .i64 0, .string ⟨#[]⟩] 23)
  have HS := Lib.hid (Str.new w 23 #[.int .i64 0, .int .i64 0, .string ⟨#[]⟩])
  have HN := Lib.hid (inner_query v bs _ (hr.below B0))
  have HB := Lib.hid B0
  have hsz := box_size w (.cells #[.int .i64 0, .int .i64 0, .string ⟨#[]⟩] 23)
  obtain ⟨ao, cap, rfl, -⟩ := hr
  change Calls _ _ _ _ (DecA w (cellsN (ansN (AD.whole (_)))) (codeA (AD.whole (_))))
  generalize codeA (AD.whole _) = k at *
  generalize ansN (AD.whole _) = n at *
  obtain ⟨a, b, s⟩ := n
  clear B0
  go_enter Try.func11, Try.ntmps11
  go_wp2_with fail
  refine HN.out.mono ?_
  rintro e w1 ⟨rfl, b1⟩
  simp only [cellsN]
  have HS1 := Lib.hid (HS.out.below b1)
  have HB1 := Lib.hid (below_trans HB.out b1)
  have hz1 : w.heap.size < w1.heap.size := by have := b1.size; omega
  clear b1 HN HS HB hsz
  obtain ⟨c0, c1, c2⟩ := HS1.out.cells3
  obtain ⟨f0, f1, f2, -⟩ := HS1.out.frozen4
  go_wp2
  (try simp only [Exit.inBlock, Exit.then])
  refine bodyPost_ret (ret_cellA rfl rfl rfl (HS1.out.three _ _ _) Try.underlying23 rfl query_size) rfl ?_
  have kb := Kb.three w1 w.heap.size (.int .i64 a) (.int .i64 b) (.string ⟨s.toArray⟩) none
  exact ⟨rfl, HB1.out.trans (kb.below (by omega) (fun g hg => by have := Option.some.inj hg; omega) (fun g hg => by cases hg))⟩
set_option maxHeartbeats 1600000 in
theorem decode_report (v : Value) (bs : List UInt8) (w : World) (hr : Rdv w v (bv bs)) :
    Calls Try.prog 15 #[v] w (DecA w (cellsN (ansN (AD.decN 4 60000 bs))) (codeA (AD.decN 4 60000 bs))) := by
  have B0 := below_alloc w (.cells #[.int .i64 0, .int .i64 0, .string ⟨#[]⟩] 33)
  have HS := Lib.hid (Str.new w 33 #[.int .i64 0, .int .i64 0, .string ⟨#[]⟩])
  have HN := Lib.hid (inner_report v bs _ (hr.below B0))
  have HB := Lib.hid B0
  have hsz := box_size w (.cells #[.int .i64 0, .int .i64 0, .string ⟨#[]⟩] 33)
  obtain ⟨ao, cap, rfl, -⟩ := hr
  change Calls _ _ _ _ (DecA w (cellsN (ansN (AD.whole (_)))) (codeA (AD.whole (_))))
  generalize codeA (AD.whole _) = k at *
  generalize ansN (AD.whole _) = n at *
  obtain ⟨a, b, s⟩ := n
  clear B0
  go_enter Try.func15, Try.ntmps15
  go_wp2_with fail
  refine HN.out.mono ?_
  rintro e w1 ⟨rfl, b1⟩
  simp only [cellsN]
  have HS1 := Lib.hid (HS.out.below b1)
  have HB1 := Lib.hid (below_trans HB.out b1)
  have hz1 : w.heap.size < w1.heap.size := by have := b1.size; omega
  clear b1 HN HS HB hsz
  obtain ⟨c0, c1, c2⟩ := HS1.out.cells3
  obtain ⟨f0, f1, f2, -⟩ := HS1.out.frozen4
  go_wp2
  (try simp only [Exit.inBlock, Exit.then])
  refine bodyPost_ret (ret_cellA rfl rfl rfl (HS1.out.three _ _ _) Try.underlying33 rfl report_size) rfl ?_
  have kb := Kb.three w1 w.heap.size (.int .i64 a) (.int .i64 b) (.string ⟨s.toArray⟩) none
  exact ⟨rfl, HB1.out.trans (kb.below (by omega) (fun g hg => by have := Option.some.inj hg; omega) (fun g hg => by cases hg))⟩
set_option maxHeartbeats 1600000 in
theorem decode_oops (v : Value) (bs : List UInt8) (w : World) (hr : Rdv w v (bv bs)) :
    Calls Try.prog 18 #[v] w (DecA w (cellsO (ansO (AD.decO bs))) (codeA (AD.decO bs))) := by
  have B0 := below_alloc w (.cells #[.int .i64 0, .int .i64 0, .int .i64 0, .int .i64 0] 39)
  have HS := Lib.hid (Str.new w 39 #[.int .i64 0, .int .i64 0, .int .i64 0, .int .i64 0])
  have HN := Lib.hid (inner_oops v bs _ (hr.below B0))
  have HB := Lib.hid B0
  have hsz := box_size w (.cells #[.int .i64 0, .int .i64 0, .int .i64 0, .int .i64 0] 39)
  obtain ⟨ao, cap, rfl, -⟩ := hr
  change Calls _ _ _ _ (DecA w (cellsO (ansO (AD.whole (_)))) (codeA (AD.whole (_))))
  generalize codeA (AD.whole _) = k at *
  generalize ansO (AD.whole _) = n at *
  obtain ⟨a, b, c, d⟩ := n
  clear B0
  go_enter Try.func18, Try.ntmps18
  go_wp2_with fail
  refine HN.out.mono ?_
  rintro e w1 ⟨rfl, b1⟩
  simp only [cellsO]
  have HS1 := Lib.hid (HS.out.below b1)
  have HB1 := Lib.hid (below_trans HB.out b1)
  have hz1 : w.heap.size < w1.heap.size := by have := b1.size; omega
  clear b1 HN HS HB hsz
  obtain ⟨c0, c1, c2, c3⟩ := HS1.out.cells4
  obtain ⟨f0, f1, f2, f3⟩ := HS1.out.frozen4
  go_wp2
  (try simp only [Exit.inBlock, Exit.then])
  refine bodyPost_ret (ret_cellA rfl rfl rfl (HS1.out.four _ _ _ _) Try.underlying39 rfl oops_size) rfl ?_
  have kb := Kb.four w1 w.heap.size (.int .i64 a) (.int .i64 b) (.int .i64 c) (.int .i64 d) none
  exact ⟨rfl, HB1.out.trans (kb.below (by omega) (fun g hg => by have := Option.some.inj hg; omega) (fun g hg => by cases hg))⟩
end Go.Proofs.Ytfpdcljeepjogaa
