/- Walk of the document's own Feed. -/
import Derived.Test.YtaajdodicepbdaaRsF
import Derived.Deep.RegionHeld3
namespace Go.Proofs.Ytaajdodicepbdaa
open Go.RowKit
/-- The document's reader behind p. -/
def Tw (w : World) (B p : Nat) (m : Int) (v : Value) (ws : List UInt8) (off : Bool) : Prop :=
  B ≤ p ∧ Str w p 30 #[.int .i64 m, v, .bool off] ∧ Own w B 5 v (bv ws)
theorem Tw.kb {w w' : World} {B p : Nat} {m : Int} {v : Value} {ws : List UInt8} {off : Bool} {a b : Option Nat} (h : Tw w B p m v ws off) (hk : Kb w w' a b) (h1 : some p ≠ a) (h2 : some p ≠ b) (h3 : v.ownBlock = none ∨ v.ownBlock ≠ a) (h4 : v.ownBlock = none ∨ v.ownBlock ≠ b) : Tw w' B p m v ws off :=
  ⟨h.1, h.2.1.kb hk h1 h2, h.2.2.kb hk h3 h4⟩
theorem Tw.below {w w' : World} {B p : Nat} {m : Int} {v : Value} {ws : List UInt8} {off : Bool} (h : Tw w B p m v ws off) (hb : Below w.heap.size w w') : Tw w' B p m v ws off :=
  ⟨h.1, h.2.1.below hb, h.2.2.below hb⟩

/-- What the document's Feed comes to. -/
def TFed (w : World) (B p : Nat) (m : Int) (v : Value) (ws : List UInt8) (off : Bool) (bs : List UInt8) (e : Ending) (w' : World) : Prop :=
  ∃ vl v', e = .returned (.tuple #[vl, .int .i64 ((F.feed (F.most m) ws off bs).2.1 : Int)]) ∧ Tw w' B p m v' (F.feed (F.most m) ws off bs).2.2.1 (F.feed (F.most m) ws off bs).2.2.2 ∧ Ownl w' w.heap.size 28 5 vl (F.feed (F.most m) ws off bs).1 ∧ Kb w w' (some p) none ∧ Near w v v'

theorem tfeed_good {w w3 w4 w6 : World} {B p : Nat} {m : Int} {v vu vl v6 : Value} {ws X : List UInt8} {L : List (List UInt8)} (h : Tw w B p m v ws false) (hB : B ≤ w.heap.size)
    (k3 : Kb w w3 (some p) none) (s3 : Str w3 p 30 #[.int .i64 m, vu, .bool false]) (o4 : Ownl w4 w3.heap.size 28 5 vl L) (b4 : Below w3.heap.size w3 w4)
    (o6 : Own w6 w4.heap.size 5 v6 (bv X)) (b6 : Below w4.heap.size w4 w6) :
    Tw (w6.setCell ⟨p, 1, none⟩ v6) B p m v6 X false ∧ Ownl (w6.setCell ⟨p, 1, none⟩ v6) w.heap.size 28 5 vl L ∧ Kb w (w6.setCell ⟨p, 1, none⟩ v6) (some p) none ∧ Near w v v6 := by
  obtain ⟨hBp, _, _⟩ := h
  have s6 := (s3.below b4).below b6
  have KS := Kb.set w6 p 1 v6 none
  obtain ⟨vs, l1, l2⟩ := o4
  have l1' := l1.below b6
  have l2' := l2.below b6
  have hsz : w.heap.size ≤ w4.heap.size := Nat.le_trans k3.size b4.size
  refine ⟨⟨hBp, s6.set 1 v6, (o6.kb KS (.inr (s6.apart o6 (by decide))) (by cases v6.ownBlock <;> simp)).base (Nat.le_trans hB hsz)⟩, ⟨vs, ?_, ?_⟩, ?_, ?_⟩
  · exact (l1'.kb KS (.inr (s6.apart l1' (by decide))) (by cases vl.ownBlock <;> simp)).base k3.size
  · have := l2'.kb KS (fun u hu => .inr (s6.apart (l2'.mem hu).choose_spec (by decide))) (fun u hu => by cases u.ownBlock <;> simp)
    exact ⟨this.1, fun j u bs h1 h2 => (this.2 j u bs h1 h2).base k3.size⟩
  · exact ((k3.trans (Kb.of_below b4 _ _)).trans (Kb.of_below b6 _ _)).trans KS
  · refine .inr fun g hg => ?_
    have := (o6.lt hg).1
    omega
theorem tfeed_wrong {w w3 w4 : World} {B p : Nat} {m : Int} {v vu vl : Value} {ws : List UInt8} {L : List (List UInt8)} (h : Tw w B p m v ws false)
    (k3 : Kb w w3 (some p) none) (s3 : Str w3 p 30 #[.int .i64 m, vu, .bool false]) (o4 : Ownl w4 w3.heap.size 28 5 vl L) (b4 : Below w3.heap.size w3 w4) :
    Tw ((w4.setCell ⟨p, 1, none⟩ (.slice none 0 0)).setCell ⟨p, 2, none⟩ (.bool true)) B p m (.slice none 0 0) [] true ∧ Ownl ((w4.setCell ⟨p, 1, none⟩ (.slice none 0 0)).setCell ⟨p, 2, none⟩ (.bool true)) w.heap.size 28 5 vl L ∧ Kb w ((w4.setCell ⟨p, 1, none⟩ (.slice none 0 0)).setCell ⟨p, 2, none⟩ (.bool true)) (some p) none ∧ Near w v (.slice none 0 0) := by
  obtain ⟨hBp, _, _⟩ := h
  have s4 := s3.below b4
  have KS := (Kb.set w4 p 1 (.slice none 0 0) none).trans (Kb.set _ p 2 (.bool true) none)
  obtain ⟨vs, l1, l2⟩ := o4
  refine ⟨⟨hBp, (s4.set 1 _).set 2 _, Own.nil _ _ _⟩, ⟨vs, ?_, ?_⟩, ?_, .inr (by intro g hg; cases hg)⟩
  · exact (l1.kb KS (.inr (s4.apart l1 (by decide))) (by cases vl.ownBlock <;> simp)).base k3.size
  · have := l2.kb KS (fun u hu => .inr (s4.apart (l2.mem hu).choose_spec (by decide))) (fun u hu => by cases u.ownBlock <;> simp)
    exact ⟨this.1, fun j u bs h1 h2 => (this.2 j u bs h1 h2).base k3.size⟩
  · exact (k3.trans (Kb.of_below b4 _ _)).trans KS

set_option maxHeartbeats 1000000 in
theorem tfeed_any {B p : Nat} {m : Int} {v : Value} {ws : List UInt8} {off : Bool} {vb : Value} {bs : List UInt8} {w : World} (h : Tw w B p m v ws off) (hb : Rdv w vb (bv bs)) (hlen : ws.length + bs.length < 1099511627776) (hB : B ≤ w.heap.size) :
    Calls Try.prog 10 #[.pointer (some ⟨p, 0, none⟩), vb] w (TFed w B p m v ws off bs) := by
  have H := Lib.hid h
  have HR := Lib.hid hb
  have c2 : w.cell? ⟨p, 2, none⟩ = some (.bool off) := h.2.1.cell 2
  clear h hb
  go_enter Try.func10, Try.ntmps10
  cases off with
  | true =>
    go_wp2
    go_ret2
    unfold TFed
    rw [F.feed_off]
    exact ⟨_, v, rfl, H.out, Ownl.nil _ _ _ _, Kb.refl _ _ _, .inl rfl⟩
  | false =>
    have B0 := Lib.hid (below_alloc w (.cells #[] 5))
    have S0 := Lib.hid (H.out.2.1.below B0.out)
    have c1 : (w.alloc (.cells #[] 5)).cell? ⟨p, 1, none⟩ = some v := S0.out.cell 1
    have HO := Lib.hid (H.out.2.2.below B0.out)
    obtain ⟨Y, hY⟩ : ∃ Y, Hid (Y = ws ++ bs) := ⟨_, rfl⟩
    have hl : Y.length < 1099511627776 := by rw [hY.out, List.length_append]; exact hlen
    obtain ⟨av, cv, hv, -⟩ := id HO.out.rd
    rw [bv_len] at hv
    subst hv
    go_wp2_with (first
      | (at_builtin; refine wpList_append_bytes (xs := []) (news := ws) rfl (.tmp 14) (.tmp 18) 28 rfl w.heap.size 5 Try.underlying28 Try.info_u8 (by rfl) (Own.lit w [] (Nat.le_refl _) (by simp [maxLen])) (by rfl) HO.out.rd (by simp; omega) (by simp) ?_; intro v1 w1 o1 _ hb1; have O1 := Lib.hid o1; have B1 := Lib.hid (B0.out.trans hb1); clear o1 hb1)
      | (at_builtin; refine wpList_append_bytes (xs := [] ++ ws) (news := bs) rfl (.tmp 19) (.tmp 20) 28 rfl w.heap.size 5 Try.underlying28 Try.info_u8 (by rfl) O1.out (by rfl) (HR.out.below B1.out) (by simp; omega) B1.out.size ?_; intro v2 w2 o2 _ hb2; rw [List.nil_append, ← hY.out] at o2; obtain ⟨aw, cw, hvw, -⟩ := id o2.rd; rw [bv_len] at hvw; subst hvw; have O2 := Lib.hid o2; have B2 := Lib.hid (B1.out.trans hb2); clear o2 hb2; have c3 : w2.cell? ⟨p, 1, none⟩ = some (.slice av ws.length cv) := (H.out.2.1.below B2.out).cell 1; have f3 : w2.frozen? ⟨p, 1, none⟩ = false := (H.out.2.1.below B2.out).frozen 1))
    have S3 : Hid (Str (w2.setCell ⟨p, 1, none⟩ (.slice aw Y.length cw)) p 30 #[.int .i64 m, .slice aw Y.length cw, .bool false]) := Lib.hid ((H.out.2.1.below B2.out).set 1 _)
    have K3 := Lib.hid ((Kb.of_below B2.out (some p) none).trans (Kb.set w2 p 1 (.slice aw Y.length cw) none))
    have O3 := Lib.hid (O2.out.kb (Kb.set w2 p 1 (.slice aw Y.length cw) none) (.inr ((H.out.2.1.below B2.out).apart O2.out (by decide))) (by cases (Value.slice aw Y.length cw).ownBlock <;> simp))
    have GO := Lib.hid (F.feed_go (m := F.most m) (ws := ws) (b := bs))
    have BAD := Lib.hid (F.feed_bad (m := F.most m) (ws := ws) (b := bs))
    have hn := F.all_n Y (F.most m)
    have E4 := Lib.hid (F.all_e Y (F.most m))
    rw [← hY.out] at GO BAD
    clear hY c1 c2 c3 f3 B0 S0 HO O1 B1 O2 B2
    obtain ⟨w3, hw3⟩ : ∃ w3, w3 = w2.setCell ⟨p, 1, none⟩ (.slice aw Y.length cw) := ⟨_, rfl⟩
    rw [← hw3] at S3 K3 O3 ⊢
    clear hw3
    have A := Lib.hid (fun x (hb : Below w3.heap.size w3 x) => rall_any _ Y m x (O3.out.rd.below hb) hl)
    obtain ⟨r, hr⟩ : ∃ r, r = F.all Y (F.most m) := ⟨_, rfl⟩
    rw [← hr] at A GO BAD hn E4
    clear hr
    obtain ⟨L, n, e⟩ := r
    simp only at A GO BAD hn E4
    have d0 : w3.cell? ⟨p, 0, none⟩ = some (.int .i64 m) := S3.out.cell 0
    have d1 : w3.cell? ⟨p, 1, none⟩ = some (.slice aw Y.length cw) := S3.out.cell 1
    go_region_held3 (fun x => x.cell? ⟨p, 1, none⟩ = some (.slice aw Y.length cw) ∧ x.cell? ⟨p, 0, none⟩ = some (.int .i64 m)) (first | exact ⟨d1, d0⟩ | exact ⟨dd1, dd0⟩) (first
      | (go_at_call 17; refine (A.out _ ((Below.refl _ _).drew)).mono ?_; rintro e w4 ⟨vl, rfl, o4, b4⟩; have O4 := Lib.hid o4; have B4 := Lib.hid (below_undrew b4); clear o4 b4; have dd0 : w4.cell? ⟨p, 0, none⟩ = some (.int .i64 m) := (S3.out.below B4.out).cell 0; have dd1 : w4.cell? ⟨p, 1, none⟩ = some (.slice aw Y.length cw) := (S3.out.below B4.out).cell 1))
    have S4 := Lib.hid (S3.out.below B4.out)
    have hcw : Y.length ≤ cw := by
      obtain ⟨ax, cx, hv, h1, _⟩ := O3.out.rd
      rw [bv_len] at hv h1
      obtain ⟨-, -, rfl⟩ : aw = ax ∧ True ∧ cw = cx := by simp at hv; exact ⟨hv.1, trivial, hv.2⟩
      exact h1
    have hcm : cw ≤ 9223372036854775807 := by
      obtain ⟨ax, cx, hv, _, h1, _⟩ := O3.out.rd
      obtain ⟨-, -, rfl⟩ : aw = ax ∧ True ∧ cw = cx := by simp at hv; exact ⟨hv.1, trivial, hv.2.2⟩
      unfold maxLen at h1
      omega
    clear A d0 d1
    by_cases he : e = 0 ∨ e = 3
    · have R := Lib.hid (GO.out he)
      clear BAD GO E4
      rcases he with rfl | rfl
      · have C := Lib.hid (Rdv.rest ((O3.out.rd.below B4.out).below (below_alloc w4 (.cells #[] 5))) hn)
        have hX : Hid ((Y.drop n).length ≤ 1099511627776) := by show _ ≤ _; rw [List.length_drop]; omega
        obtain ⟨X, hXe⟩ : ∃ X, X = Y.drop n := ⟨_, rfl⟩
        rw [← hXe] at C hX R
        clear hXe
        have c5 : (w4.alloc (.cells #[] 5)).cell? ⟨p, 1, none⟩ = some (.slice aw Y.length cw) := (S4.out.below (below_alloc _ _)).cell 1
        by_cases hcap : cw = n
        · subst hcap
          have C2 := Lib.hid (C.out.2 rfl)
          clear C
          rw [Nat.sub_eq_zero_of_le hcw] at C2
          go_wp2_with (first
            | (at_builtin; refine wpList_append_bytes (xs := []) (news := X) rfl (.tmp 52) (.tmp 58) 28 rfl w4.heap.size 5 Try.underlying28 Try.info_u8 (by rfl) (Own.lit w4 [] (Nat.le_refl _) (by simp [maxLen])) (by rfl) C2.out (by have := hX.out; simp; omega) (by simp) ?_; intro v6 w6 o6 _ b6; rw [List.nil_append] at o6; obtain ⟨a6, k6, hv6, -⟩ := id o6.rd; subst hv6; have O6 := Lib.hid o6; have B6 := Lib.hid ((below_alloc w4 _).trans b6); clear o6 b6; have c6 : w6.cell? ⟨p, 1, none⟩ = some (.slice aw Y.length cw) := (S4.out.below B6.out).cell 1; have f6 : w6.frozen? ⟨p, 1, none⟩ = false := (S4.out.below B6.out).frozen 1))
          go_ret2
          unfold TFed
          rw [R.out]
          exact ⟨_, _, rfl, tfeed_good H.out hB K3.out S3.out O4.out B4.out O6.out B6.out⟩
        · have C2 := Lib.hid (C.out.1 hcap)
          clear C
          go_wp2_with (first
            | (at_builtin; refine wpList_append_bytes (xs := []) (news := X) rfl (.tmp 52) (.tmp 58) 28 rfl w4.heap.size 5 Try.underlying28 Try.info_u8 (by rfl) (Own.lit w4 [] (Nat.le_refl _) (by simp [maxLen])) (by rfl) C2.out (by have := hX.out; simp; omega) (by simp) ?_; intro v6 w6 o6 _ b6; rw [List.nil_append] at o6; obtain ⟨a6, k6, hv6, -⟩ := id o6.rd; subst hv6; have O6 := Lib.hid o6; have B6 := Lib.hid ((below_alloc w4 _).trans b6); clear o6 b6; have c6 : w6.cell? ⟨p, 1, none⟩ = some (.slice aw Y.length cw) := (S4.out.below B6.out).cell 1; have f6 : w6.frozen? ⟨p, 1, none⟩ = false := (S4.out.below B6.out).frozen 1))
          go_ret2
          unfold TFed
          rw [R.out]
          exact ⟨_, _, rfl, tfeed_good H.out hB K3.out S3.out O4.out B4.out O6.out B6.out⟩
      · have C := Lib.hid (Rdv.rest ((O3.out.rd.below B4.out).below (below_alloc w4 (.cells #[] 5))) hn)
        have hX : Hid ((Y.drop n).length ≤ 1099511627776) := by show _ ≤ _; rw [List.length_drop]; omega
        obtain ⟨X, hXe⟩ : ∃ X, X = Y.drop n := ⟨_, rfl⟩
        rw [← hXe] at C hX R
        clear hXe
        have c5 : (w4.alloc (.cells #[] 5)).cell? ⟨p, 1, none⟩ = some (.slice aw Y.length cw) := (S4.out.below (below_alloc _ _)).cell 1
        by_cases hcap : cw = n
        · subst hcap
          have C2 := Lib.hid (C.out.2 rfl)
          clear C
          rw [Nat.sub_eq_zero_of_le hcw] at C2
          go_wp2_with (first
            | (at_builtin; refine wpList_append_bytes (xs := []) (news := X) rfl (.tmp 52) (.tmp 58) 28 rfl w4.heap.size 5 Try.underlying28 Try.info_u8 (by rfl) (Own.lit w4 [] (Nat.le_refl _) (by simp [maxLen])) (by rfl) C2.out (by have := hX.out; simp; omega) (by simp) ?_; intro v6 w6 o6 _ b6; rw [List.nil_append] at o6; obtain ⟨a6, k6, hv6, -⟩ := id o6.rd; subst hv6; have O6 := Lib.hid o6; have B6 := Lib.hid ((below_alloc w4 _).trans b6); clear o6 b6; have c6 : w6.cell? ⟨p, 1, none⟩ = some (.slice aw Y.length cw) := (S4.out.below B6.out).cell 1; have f6 : w6.frozen? ⟨p, 1, none⟩ = false := (S4.out.below B6.out).frozen 1))
          go_ret2
          unfold TFed
          rw [R.out]
          exact ⟨_, _, rfl, tfeed_good H.out hB K3.out S3.out O4.out B4.out O6.out B6.out⟩
        · have C2 := Lib.hid (C.out.1 hcap)
          clear C
          go_wp2_with (first
            | (at_builtin; refine wpList_append_bytes (xs := []) (news := X) rfl (.tmp 52) (.tmp 58) 28 rfl w4.heap.size 5 Try.underlying28 Try.info_u8 (by rfl) (Own.lit w4 [] (Nat.le_refl _) (by simp [maxLen])) (by rfl) C2.out (by have := hX.out; simp; omega) (by simp) ?_; intro v6 w6 o6 _ b6; rw [List.nil_append] at o6; obtain ⟨a6, k6, hv6, -⟩ := id o6.rd; subst hv6; have O6 := Lib.hid o6; have B6 := Lib.hid ((below_alloc w4 _).trans b6); clear o6 b6; have c6 : w6.cell? ⟨p, 1, none⟩ = some (.slice aw Y.length cw) := (S4.out.below B6.out).cell 1; have f6 : w6.frozen? ⟨p, 1, none⟩ = false := (S4.out.below B6.out).frozen 1))
          go_ret2
          unfold TFed
          rw [R.out]
          exact ⟨_, _, rfl, tfeed_good H.out hB K3.out S3.out O4.out B4.out O6.out B6.out⟩
    · have R := Lib.hid (BAD.out he)
      have E2 : e = 2 ∨ e = 4 := by have := E4.out; omega
      clear BAD GO E4 he
      rcases E2 with rfl | rfl
      · have c1 : w4.cell? ⟨p, 1, none⟩ = some (.slice aw Y.length cw) := dd1
        have c2 : w4.cell? ⟨p, 2, none⟩ = some (.bool false) := S4.out.cell 2
        have f1 : w4.frozen? ⟨p, 1, none⟩ = false := S4.out.frozen 1
        have f2 : w4.frozen? ⟨p, 2, none⟩ = false := S4.out.frozen 2
        clear dd0 dd1
        go_wp2
        go_ret2
        unfold TFed
        rw [R.out]
        exact ⟨_, _, rfl, tfeed_wrong H.out K3.out S3.out O4.out B4.out⟩
      · have c1 : w4.cell? ⟨p, 1, none⟩ = some (.slice aw Y.length cw) := dd1
        have c2 : w4.cell? ⟨p, 2, none⟩ = some (.bool false) := S4.out.cell 2
        have f1 : w4.frozen? ⟨p, 1, none⟩ = false := S4.out.frozen 1
        have f2 : w4.frozen? ⟨p, 2, none⟩ = false := S4.out.frozen 2
        clear dd0 dd1
        go_wp2
        go_ret2
        unfold TFed
        rw [R.out]
        exact ⟨_, _, rfl, tfeed_wrong H.out K3.out S3.out O4.out B4.out⟩
end Go.Proofs.Ytaajdodicepbdaa
