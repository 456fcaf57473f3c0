/- The walk of desc.readEntry. -/
import Derived.Test.YtepnjhhpnabpnaaDoorDsV
import Derived.Test.YtepnjhhpnabpnaaDoorStr
import Derived.Laws.ResultCell
namespace Go.Proofs.YtepnjhhpnabpnaaDoor
open Go.RowKit

/-- What an entry's text is read as, at a call's end. -/
def ReadE (p : List UInt8) (w : World) (e : Ending) (w' : World) : Prop :=
  ∃ k v ok, e = .returned (.tuple #[.agg #[.string ⟨k.toArray⟩, .string ⟨v.toArray⟩], .bool ok]) ∧ (ok = true → D.Rd p (k, v)) ∧ (ok = false → ∀ x, ¬ D.Rd p x) ∧ Below w.heap.size w w'
theorem below_set {w w' : World} (h : Below w.heap.size w w') (i : Nat) (u : Value) : Below w.heap.size w (w'.setCell ⟨w.heap.size, i, none⟩ u) :=
  h.trans ((Kb.set w' w.heap.size i u none).below h.size (fun g hg => by have := Option.some.inj hg; omega) (fun g hg => by cases hg))
theorem une_none {l : List UInt8} (h : D.une l = none) : uneS l = [] ∧ uneB l = false := by unfold uneS uneB; rw [h]; exact ⟨rfl, rfl⟩
theorem une_some {l d : List UInt8} (h : D.une l = some d) : uneS l = d ∧ uneB l = true := by unfold uneS uneB; rw [h]; exact ⟨rfl, rfl⟩

theorem ret_cell {P : Program} {fn : Func} {p u : Tmp} {ty : TypeId} (h : fn.results = #[.cell p ty, .tmp u]) {tmps : Array Value} {w : World} {g : Nat} {T : TypeId} {cs : Array Value} {d : TypeDesc} {b : Value} (hp : tmps.getD p undef = .pointer (some ⟨g, 0, none⟩)) (hb : tmps.getD u undef = b) (hs : Str w g T cs)
    (hu : P.underlying ty = some d) (hd : (match d with | .struct _ | .array _ _ => true | _ => false) = true) (hi : (P.info? ty).map (·.size) = some cs.size) :
    (results fn tmps).run P w = .ok (.tuple #[.agg cs, b]) w := by
  rw [results_cell_tmp h, hp, hb]
  have hs' : w.heap[g]? = some (.cells cs T (0, 0)) := hs
  simp [asAddr, run_loadVar_row w g T ty cs (0, 0) d hs' hu hd hi]
theorem entry_size : (Tryd.prog.info? 38).map (·.size) = some 2 := by kernel_rfl
theorem Str.two {w : World} {p : Nat} {T : TypeId} {x y : Value} (h : Str w p T #[x, y]) (u v : Value) : Str ((w.setCell ⟨p, 0, none⟩ u).setCell ⟨p, 1, none⟩ v) p T #[u, v] := by
  have := (h.set 0 u).set 1 v
  simpa using this

set_option maxHeartbeats 4000000 in
theorem readEntry_any (p : List UInt8) (hl : p.length ≤ 5000) (w : World) (hm : MaxIs w) :
    Calls Tryd.prog 35 #[.string ⟨p.toArray⟩] w (ReadE p w) := by
  have HC := Lib.hid (fun x (h : Below w.heap.size w x) => scut_any p 61 (by omega) x (hm.below h))
  have W0 := below_alloc w (.cells #[.string ⟨#[]⟩, .string ⟨#[]⟩] 38)
  have S0 := Lib.hid (Str.new w 38 #[.string ⟨#[]⟩, .string ⟨#[]⟩])
  have HW0 := Lib.hid W0
  clear W0
  rcases D.cut_at 61 p with hn | ⟨a, b, hp, hn⟩
  · rw [D.cut_out p 61 hn] at HC
    have E := Lib.hid (D.no_rd hn)
    simp only at HC
    clear hn hm
    go_enter Tryd.func35, Tryd.ntmps35
    go_wp2_with (go_at_call 40; refine (HC.out _ HW0.out).mono ?_; rintro e w1 ⟨rfl, b1⟩; have B1 := Lib.hid b1; have S1 := S0.out.below b1; have c0 := S1.cell 0; have c1 := S1.cell 1; have f0 := S1.frozen 0; have f1 := S1.frozen 1; simp only [List.getElem?_toArray, List.getElem?_cons_zero, List.getElem?_cons_succ] at c0 c1; clear b1 S1)
    (try simp only [Exit.inBlock, Exit.then])
    refine bodyPost_ret (ret_cell rfl rfl rfl ((S0.out.below B1.out).two _ _) Tryd.underlying38 rfl entry_size) rfl ?_
    exact ⟨[], [], false, rfl, by simp, fun _ => E.out, below_set (below_set (below_trans HW0.out B1.out) _ _) _ _⟩
  · have hla : a.length ≤ 5000 := by rw [hp] at hl; simp at hl; omega
    have hlb : b.length ≤ 5000 := by rw [hp] at hl; simp at hl; omega
    rw [hp, D.cut_in a b 61 hn] at HC
    simp only at HC
    have HA := Lib.hid (fun x => unescape_any a hla x)
    have HB := Lib.hid (fun x => unescape_any b hlb x)
    have HCASE : Hid (((uneB a = false ∨ uneB b = false) ∧ ∀ e, ¬ D.Rd p e) ∨ (uneB a = true ∧ uneB b = true ∧ D.Rd p (uneS a, uneS b))) := by
      show _ ∨ _
      cases ha : D.une a with
      | none => exact .inl ⟨.inl (une_none ha).2, fun e => by rw [hp]; exact D.no_rd1 hn ha e⟩
      | some x =>
        cases hb : D.une b with
        | none => exact .inl ⟨.inr (une_none hb).2, fun e => by rw [hp]; exact D.no_rd2 hn hb e⟩
        | some y =>
          refine .inr ⟨(une_some ha).2, (une_some hb).2, ?_⟩
          rw [(une_some ha).1, (une_some hb).1]
          exact ⟨a, b, hp, hn, ha, hb⟩
    rw [← hp] at HC
    clear hn hm hla hlb hl hp
    obtain ⟨K, hK⟩ : ∃ K, K = uneS a := ⟨_, rfl⟩
    obtain ⟨V, hV⟩ : ∃ V, V = uneS b := ⟨_, rfl⟩
    obtain ⟨ok1, h1⟩ : ∃ o, o = uneB a := ⟨_, rfl⟩
    obtain ⟨ok2, h2⟩ : ∃ o, o = uneB b := ⟨_, rfl⟩
    rw [← hK, ← h1] at HA
    rw [← hV, ← h2] at HB
    rw [← hK, ← hV, ← h1, ← h2] at HCASE
    obtain ⟨A, hA⟩ : ∃ A, (⟨a.toArray⟩ : ByteArray) = A := ⟨_, rfl⟩
    obtain ⟨B, hB⟩ : ∃ B, (⟨b.toArray⟩ : ByteArray) = B := ⟨_, rfl⟩
    rw [hA] at HA HC
    rw [hB] at HB HC
    clear hK hV h1 h2 hA hB
    go_enter Tryd.func35, Tryd.ntmps35
    go_wp2_with fail
    refine (HC.out _ HW0.out).mono ?_
    rintro e w1 ⟨rfl, b1⟩
    have B1 := Lib.hid b1
    clear b1
    go_wp2_with fail
    refine (HA.out _).mono ?_
    rintro e w2 ⟨rfl, b2⟩
    have B2 := Lib.hid (below_trans B1.out b2)
    clear b2
    go_wp2_with fail
    refine (HB.out _).mono ?_
    rintro e w3 ⟨rfl, b3⟩
    have B3 := Lib.hid (below_trans B2.out b3)
    clear b3
    have S3 := S0.out.below B3.out
    have HS3 := Lib.hid S3
    have c0 := S3.cell 0
    have c1 := S3.cell 1
    have f0 := S3.frozen 0
    have f1 := S3.frozen 1
    simp only [List.getElem?_toArray, List.getElem?_cons_zero, List.getElem?_cons_succ] at c0 c1
    clear S3
    rcases HCASE.out with ⟨hbad, hno⟩ | ⟨rfl, rfl, hyes⟩
    · have E := Lib.hid hno
      clear hno HCASE
      have hb2 : ok1 = false ∨ (ok1 = true ∧ ok2 = false) := by cases ok1 <;> simp_all
      clear hbad
      rcases hb2 with rfl | ⟨rfl, rfl⟩
      all_goals
        go_wp2
        (try simp only [Exit.inBlock, Exit.then])
        refine bodyPost_ret (ret_cell rfl rfl rfl (HS3.out.two _ _) Tryd.underlying38 rfl entry_size) rfl ?_
        exact ⟨[], [], false, rfl, by simp, fun _ => E.out, below_set (below_set (below_trans HW0.out B3.out) _ _) _ _⟩
    · have E := Lib.hid hyes
      clear hyes HCASE
      go_wp2
      (try simp only [Exit.inBlock, Exit.then])
      refine bodyPost_ret (ret_cell rfl rfl rfl (HS3.out.two _ _) Tryd.underlying38 rfl entry_size) rfl ?_
      exact ⟨K, V, true, rfl, fun _ => E.out, by simp, below_set (below_set (below_trans HW0.out B3.out) _ _) _ _⟩
end Go.Proofs.YtepnjhhpnabpnaaDoor
