/- The walk of root. -/
import Derived.Test.YthhngkoopaolkaaGreatDoorDcK
namespace Go.Proofs.YthhngkoopaolkaaGreatDoor
open Go.RowKit

/-- What root answers, at its end. -/
def RootE (w0 w : World) (p : Nat) (nv : Value) (r : DC.Out (List DC.Nd)) (e : Ending) (w' : World) : Prop :=
  Kb w w' (some p) nv.ownBlock ∧ match r with
  | .bad k n => e = .panicked (gaveD k n)
  | .ok ns => e = .returned (.tuple #[]) ∧ ∃ lv' nv' S', Pst w0 w' p lv' nv' [] ns S'
set_option maxRecDepth 10000 in
set_option maxHeartbeats 2000000 in
theorem root_any {w0 w : World} {p : Nat} {lv nv : Value} {l : List LX.Pc} {S : Nat → Prop} (h : Pst w0 w p lv nv l [] S) (ht : Texts l) :
    Calls Tryz.prog 42 #[.pointer (some ⟨p, 0, none⟩)] w (RootE w0 w p nv (DC.doc l)) := by
  cases l with
  | nil =>
    obtain ⟨ao, cap, rfl, _, _⟩ := h.rd.slice
    have c0 : w.cell? ⟨p, 0, none⟩ = some (.slice ao 0 cap) := h.st.cell 0
    clear h ht
    go_enter Tryz.func42, Tryz.ntmps42
    go_wp2_with (go_at_call 72; refine (dmust_false 10 1 _).mono ?_; rintro e u ⟨rfl, rfl⟩)
    exact ⟨rfl, Kb.refl _ _ _, rfl⟩
  | cons x t =>
    have HB := Lib.hid (block_all (DC.fuel (x :: t)) w0 w p lv nv (x :: t) [] S 1 h (by simp) ht (Nat.le_refl _) (by simp) (by omega))
    obtain ⟨A, HA⟩ : ∃ A, Hid (A = DC.doc (x :: t)) := ⟨_, Lib.hid rfl⟩
    rw [show DC.doc (x :: t) = A from HA.out.symm]
    obtain ⟨R, hR⟩ : ∃ R, DC.blk (DC.fuel (x :: t)) 1 ([] : List DC.Nd).length (x :: t) = R := ⟨_, rfl⟩
    have HE := Lib.hid (show A = R.bind fun a => match a.2 with | [] => .ok a.1 | q :: _ => .bad 6 q.2.1 by rw [HA.out, DC.doc, if_neg (by simp), ← hR]; rfl)
    rw [hR] at HB
    obtain ⟨ao, cap, rfl, _, _⟩ := h.rd.slice
    have c0 : w.cell? ⟨p, 0, none⟩ = some (.slice ao (t.length + 1) cap) := h.st.cell 0
    have hn : decide ((0 : Int) < (t.length : Int) + 1) = true := decide_eq_true (by omega)
    have hn2 : (0 : Int) < (t.length : Int) + 1 := by omega
    rw [show ((1 : Nat) : Int) = 1 from rfl] at HB
    clear h ht hR HA
    cases R with
    | bad k n =>
      have E := Lib.hid (show A = .bad k n from HE.out)
      clear HE
      go_enter Tryz.func42, Tryz.ntmps42
      go_wp2_with (first
        | (go_at_call 72; refine (dmust_true 10 1 _).mono ?_; rintro e u ⟨rfl, hw1⟩; replace hw1 := hw1.symm; subst hw1)
        | (go_at_call 73; refine HB.out.mono ?_; rintro e w2 ⟨hk, rfl⟩))
      rw [E.out]
      exact ⟨rfl, hk, rfl⟩
    | ok a =>
      obtain ⟨ns, r⟩ := a
      cases r with
      | nil =>
        have E := Lib.hid (show A = .ok ns from HE.out)
        clear HE
        go_enter Tryz.func42, Tryz.ntmps42
        go_wp2_with (first
          | (go_at_call 72; refine (dmust_true 10 1 _).mono ?_; rintro e u ⟨rfl, hw1⟩; replace hw1 := hw1.symm; subst hw1)
          | (go_at_call 73; refine HB.out.mono ?_; rintro e w2 ⟨hk, rfl, lv2, nv2, hp2, hn2⟩; have HK := Lib.hid hk; have HP := Lib.hid hp2; clear hk hn2; obtain ⟨ao2, cap2, rfl, _, _⟩ := hp2.rd.slice; have c2 : w2.cell? ⟨p, 0, none⟩ = some (.slice ao2 0 cap2) := hp2.st.cell 0; clear hp2))
        go_end0
        rw [E.out]
        exact ⟨HK.out, rfl, _, _, _, HP.out⟩
      | cons q r =>
        have E := Lib.hid (show A = .bad 6 q.2.1 from HE.out)
        clear HE
        go_enter Tryz.func42, Tryz.ntmps42
        go_wp2_with (first
          | (go_at_call 72; refine (dmust_true 10 1 _).mono ?_; rintro e u ⟨rfl, hw1⟩; replace hw1 := hw1.symm; subst hw1)
          | (go_at_call 73; refine HB.out.mono ?_; rintro e w2 ⟨hk, rfl, lv2, nv2, hp2, hn2⟩; have HK := Lib.hid hk; have HBL := Lib.hid hp2.bl; clear hk hn2; obtain ⟨bx, off, cap2, rfl, _, _, hx, _⟩ := hp2.rd.first; have hx2 := (hx.below hp2.bl).c1; have c2 : w2.cell? ⟨p, 0, none⟩ = some (.slice (some ⟨bx, off, none⟩) (r.length + 1) cap2) := hp2.st.cell 0; have hr2 : (0 : Int) < (r.length : Int) + 1 := (by omega); clear hp2 hx)
          | (go_at_call 74; refine (dfail_any 6 q.2.1 _).mono ?_; rintro e u ⟨rfl, rfl⟩))
        rw [E.out]
        exact ⟨rfl, HK.out, rfl⟩
end Go.Proofs.YthhngkoopaolkaaGreatDoor
