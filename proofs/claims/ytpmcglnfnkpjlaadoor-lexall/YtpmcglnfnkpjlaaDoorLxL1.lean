/- The walk of LexRow. -/
import Derived.Test.YtpmcglnfnkpjlaaDoorLxAw
import Derived.Shelf.Vars
namespace Go.Proofs.YtpmcglnfnkpjlaaDoor
open Go.RowKit

theorem MaxIs.shaped {w : World} (h : w.ShapedOpen Tryd.prog) : MaxIs w := cell_of_shapedOpen_int (zero := #[.int .i64 0]) (t := 3) h (of_decide_eq_true (by kernel_rfl)) (by kernel_rfl) rfl (by kernel_rfl) (by kernel_rfl) Tryd.underlying3
/-- What Row answers, with its row laid open. -/
theorem rowe_open {w : World} {x : LX.Lz} {k f : Int} {P : List LX.Pc} {e : Ending} {w' : World} (hk : LX.row x = (k, P)) (hf : (if k = 0 then 0 else x.1) = f) (h : RowE w x e w') : ∃ ao c, e = .returned (.tuple #[.slice ao P.length c, .agg #[.int .i64 k, .int .i64 f]]) ∧ Rdp w' (.slice ao P.length c) P ∧ Below w.heap.size w w' := by
  obtain ⟨hb, v, he, ho⟩ := h
  rw [hk] at he ho
  simp only [hf] at he
  obtain ⟨ao, c, rfl⟩ := ho.slice
  exact ⟨ao, c, he, ho.rd, hb⟩
abbrev lineO (l : LX.Lz) : Obj := .cells #[.int .i64 l.1, .int .i64 l.2.1, .string ⟨l.2.2.toArray⟩] 23

set_option maxHeartbeats 8000000 in
theorem lexRow_walk (l : LX.Lz) (hl : l.2.2.length ≤ 9223372036854775807) (w : World) (hm : MaxIs w) :
    Calls Tryd.prog 3 #[.agg #[.int .i64 l.1, .int .i64 l.2.1, .string ⟨l.2.2.toArray⟩]] w fun e w' => e = .returned (.bool true) ∧ Below w.heap.size w w' := by
  obtain ⟨no, ind, tx⟩ := l
  simp only at hl ⊢
  have hsz := str_size tx
  have BX := below_alloc w (.cells #[.int .i64 no, .int .i64 ind, .string ⟨tx.toArray⟩] 23)
  have HM := Lib.hid hm
  have HMX := Lib.hid (hm.below BX)
  have HBX := Lib.hid BX
  by_cases hbig : 3000 < tx.length
  · have hb2 : (3000 : Int) < (tx.length : Int) := by omega
    have HA := Lib.hid (awake11 _ HMX.out)
    clear hm BX
    go_enter Tryd.func3, Tryd.ntmps3
    go_wp2_with (go_at_call 8; refine HA.out.mono ?_; rintro e w3 ⟨rfl, b3⟩; have B3 := Lib.hid (below_tr HBX.out b3); clear b3)
    go_ret
    exact ⟨rfl, B3.out⟩
  · have H1 := Lib.hid (lexRow_any (no, ind, tx) _ (by simp only; omega) HMX.out)
    have HR := Lib.hid (fun x => rrow_any (no, ind, tx) x (by simp only; omega))
    have HS := Lib.hid (Str.new w 23 #[.int .i64 no, .int .i64 ind, .string ⟨tx.toArray⟩])
    obtain ⟨k, P, hk⟩ : ∃ k P, LX.row (no, ind, tx) = (k, P) := ⟨_, _, rfl⟩
    obtain ⟨f, hf⟩ : ∃ f, (if k = 0 then 0 else no) = f := ⟨_, rfl⟩
    have HOP := Lib.hid (fun (x : World) (e : Ending) (w' : World) (h : RowE x (no, ind, tx) e w') => rowe_open hk hf h)
    have hq := eq_fault k f
    have hg2 := fault_guard
    obtain ⟨n, hn⟩ : ∃ n, tx.length = n := ⟨_, rfl⟩
    rw [hn] at hsz hl hbig
    have hb2 : ¬ (3000 : Int) < (n : Int) := by omega
    clear hm BX hk hf hn
    go_enter Tryd.func3, Tryd.ntmps3
    go_wp2_with fail
    refine H1.out.mono ?_
    rintro e w1 h1
    obtain ⟨a1, c1, rfl, o1, b1⟩ := HOP.out _ _ _ h1
    have B1 := below_tr b1 (below_alloc w1 (.cells #[.int .i64 k, .int .i64 f] 27))
    have HB1 := Lib.hid (below_tr HBX.out B1)
    have HO1 := Lib.hid (o1.below (below_alloc w1 (.cells #[.int .i64 k, .int .i64 f] 27)))
    have HF1 := Lib.hid (Str.new w1 27 #[.int .i64 k, .int .i64 f])
    have s1 := HS.out.below B1
    have z0 : (w1.alloc (.cells #[.int .i64 k, .int .i64 f] 27)).cell? ⟨w.heap.size, 0, none⟩ = some (.int .i64 no) := s1.cell 0
    have z1 : (w1.alloc (.cells #[.int .i64 k, .int .i64 f] 27)).cell? ⟨w.heap.size, 1, none⟩ = some (.int .i64 ind) := s1.cell 1
    have z2 : (w1.alloc (.cells #[.int .i64 k, .int .i64 f] 27)).cell? ⟨w.heap.size, 2, none⟩ = some (.string ⟨tx.toArray⟩) := s1.cell 2
    have H2 := Lib.hid (HR.out (w1.alloc (.cells #[.int .i64 k, .int .i64 f] 27)))
    clear h1 o1 b1 B1 H1 HR HS s1 HMX HBX
    go_wp2_with fail
    refine H2.out.mono ?_
    rintro e w2 h2
    obtain ⟨a2, c2, rfl, o2, b2⟩ := HOP.out _ _ _ h2
    have B2 := below_tr b2 (below_alloc w2 (.cells #[.int .i64 k, .int .i64 f] 27))
    have HB2 := Lib.hid (below_tr HB1.out B2)
    have HO2 := Lib.hid (o2.below (below_alloc w2 (.cells #[.int .i64 k, .int .i64 f] 27)))
    have HO1' := Lib.hid (HO1.out.below B2)
    have HF1' := Lib.hid (HF1.out.below B2)
    have HF2 := Lib.hid (Str.new w2 27 #[.int .i64 k, .int .i64 f])
    have HC := Lib.hid (psame_any _ _ P _ HO1'.out HO2.out)
    clear h2 o2 b2 B2 H2 HO1 HF1 HB1 HOP HO1' HO2 z0 z1 z2
    go_wp2_with fail
    refine HC.out.mono ?_
    rintro e w3 ⟨rfl, b3⟩
    have HB3 := Lib.hid (below_tr HB2.out b3)
    obtain ⟨c0, c1'⟩ := (HF1'.out.below b3).cells2
    obtain ⟨d0, d1⟩ := (HF2.out.below b3).cells2
    have HA := Lib.hid (awake11 w3 (HM.out.below HB3.out))
    clear HC b3 HB2 HF1' HF2
    go_wp2_with (go_at_call 8; refine HA.out.mono ?_; rintro e w4 ⟨rfl, b4⟩; have B4 := Lib.hid (below_tr HB3.out b4); clear b4)
    go_ret
    exact ⟨rfl, B4.out⟩
end Go.Proofs.YtpmcglnfnkpjlaaDoor
