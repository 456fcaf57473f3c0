/- Walk of reasm's Feed. -/
import Derived.Test.YtaajdodicepbdaaRsW
namespace Go.Proofs.Ytaajdodicepbdaa
open Go.RowKit

theorem feed_good {w w1 w2 w3 : World} {B p : Nat} {m : Int} {v vw vl v3 : Value} {ws ys X : List UInt8} {L : List (List UInt8)} (h : Rd w B p m v ws false)
    (o1 : Own w1 B 5 vw (bv ys)) (g1 : w.grownBy w1 v.ownBlock) (n1 : Near w v vw) (o2 : Ownl w2 w1.heap.size 28 5 vl L) (b2 : Below w1.heap.size w1 w2)
    (o3 : Own w3 B 5 v3 (bv X)) (b3 : Below w2.heap.size w2 w3) (n3 : Near w2 vw v3) :
    Rd (w3.setCell ⟨p, 1, none⟩ v3) B p m v3 X false ∧ Rows (w3.setCell ⟨p, 1, none⟩ v3) w.heap.size 28 5 vl L v3 ∧ Kb w (w3.setCell ⟨p, 1, none⟩ v3) (some p) v.ownBlock ∧ Near w v v3 := by
  obtain ⟨hB, hs, ho⟩ := h
  have hpv := hs.apart ho (by decide)
  have hs1 : Str w1 p _ _ := hs.kb (Kb.of_grown g1 none) (by simp) (fun e => hpv e.symm)
  have hs3 : Str w3 p _ _ := (hs1.below b2).below b3
  have KS := Kb.set w3 p 1 v3 none
  have hp3 := hs3.apart o3 (by decide)
  obtain ⟨vs, l1, l2⟩ := o2
  have l1' := l1.below b3
  have l2' := l2.below b3
  refine ⟨⟨hB, hs3.set 1 v3, o3.kb KS (.inr hp3) (by cases v3.ownBlock <;> simp)⟩, ⟨vs, ?_, ?_, ?_⟩, ?_, ?_⟩
  · exact (l1'.kb KS (.inr (hs3.apart l1' (by decide))) (by cases vl.ownBlock <;> simp)).base g1.size
  · have := l2'.kb KS (fun u hu => .inr (hs3.apart (l2'.mem hu).choose_spec (by decide))) (fun u hu => by cases u.ownBlock <;> simp)
    exact ⟨this.1, fun j u bs h1 h2 => (this.2 j u bs h1 h2).base g1.size⟩
  · intro u hu
    cases hg : u.ownBlock with
    | none => exact .inl rfl
    | some g =>
      right
      intro e
      obtain ⟨xs, hx⟩ := l2.mem hu
      have hgl := hx.lt hg
      rcases n3 with n3 | n3
      · have := (o1.lt (g := g) (by rw [← n3, ← e])).2
        omega
      · have := n3 g e.symm
        omega
  · exact (((Kb.of_grown g1 _).trans (Kb.of_below b2 _ _ |> fun k => ⟨k.os, k.tape, k.output, k.size, k.block⟩)).trans (Kb.of_below b3 _ _)).trans (Kb.set w3 p 1 v3 _)
  · rcases n3 with n3 | n3
    · rcases n1 with n1 | n1
      · exact .inl (n3.trans n1)
      · exact .inr fun g hg => n1 g (by rw [← n3]; exact hg)
    · refine .inr fun g hg => ?_
      have := n3 g hg
      have := b2.size
      have := g1.size
      omega

theorem feed_wrong {w w1 w2 : World} {B p : Nat} {m : Int} {v vl : Value} {ws : List UInt8} {L : List (List UInt8)} (h : Rd w B p m v ws false)
    (g1 : w.grownBy w1 v.ownBlock) (o2 : Ownl w2 w1.heap.size 28 5 vl L) (b2 : Below w1.heap.size w1 w2) :
    Rd ((w2.setCell ⟨p, 1, none⟩ (.slice none 0 0)).setCell ⟨p, 2, none⟩ (.bool true)) B p m (.slice none 0 0) [] true ∧ Rows ((w2.setCell ⟨p, 1, none⟩ (.slice none 0 0)).setCell ⟨p, 2, none⟩ (.bool true)) w.heap.size 28 5 vl L (.slice none 0 0) ∧ Kb w ((w2.setCell ⟨p, 1, none⟩ (.slice none 0 0)).setCell ⟨p, 2, none⟩ (.bool true)) (some p) v.ownBlock ∧ Near w v (.slice none 0 0) := by
  obtain ⟨hB, hs, ho⟩ := h
  have hpv := hs.apart ho (by decide)
  have hs1 : Str w1 p _ _ := hs.kb (Kb.of_grown g1 none) (by simp) (fun e => hpv e.symm)
  have hs2 : Str w2 p _ _ := hs1.below b2
  have KS := (Kb.set w2 p 1 (.slice none 0 0) none).trans (Kb.set _ p 2 (.bool true) none)
  obtain ⟨vs, l1, l2⟩ := o2
  refine ⟨⟨hB, (hs2.set 1 _).set 2 _, Own.nil _ _ _⟩, ⟨vs, ?_, ?_, ?_⟩, ?_, .inr (by intro g hg; cases hg)⟩
  · exact (l1.kb KS (.inr (hs2.apart l1 (by decide))) (by cases vl.ownBlock <;> simp)).base g1.size
  · have := l2.kb KS (fun u hu => .inr (hs2.apart (l2.mem hu).choose_spec (by decide))) (fun u hu => by cases u.ownBlock <;> simp)
    exact ⟨this.1, fun j u bs h1 h2 => (this.2 j u bs h1 h2).base g1.size⟩
  · intro u hu
    cases hg : u.ownBlock with
    | none => exact .inl rfl
    | some g => right; intro e; cases e
  · exact (((Kb.of_grown g1 _).trans (Kb.of_below b2 _ _)).trans (Kb.set w2 p 1 _ _)).trans (Kb.set _ p 2 _ _)

theorem rt_feed {v : Value} {a a' : Int} (h : a = a') : Ending.returned (.tuple #[v, .int .i64 a]) = .returned (.tuple #[v, .int .i64 a']) := by rw [h]

theorem feed_most {w w1 : World} {B p : Nat} {m : Int} {v : Value} {ws : List UInt8} {off : Bool} (h : Rd w B p m v ws off) (g1 : w.grownBy w1 v.ownBlock) : Str w1 p 43 #[.int .i64 m, v, .bool off] :=
  h.2.1.kb (Kb.of_grown g1 none) (by simp) (fun e => (h.2.1.apart h.2.2 (by decide)) e.symm)

theorem feed_nil (vb : Value) (w : World) : Calls Try.prog 9 #[.pointer none, vb] w fun e w' => e = .returned (.tuple #[.slice none 0 0, .int .i64 7]) ∧ w = w' := by
  go_enter Try.func9, Try.ntmps9
  go_wp2_with (first
    | (go_at_call 13; refine (off_nil _).mono ?_; rintro e w' ⟨rfl, rfl⟩))
  all_goals go_ret2
  all_goals exact ⟨rfl, rfl⟩

/-- What a Feed comes to. -/
def Fed (w : World) (B p : Nat) (m : Int) (v : Value) (ws : List UInt8) (off : Bool) (bs : List UInt8) (e : Ending) (w' : World) : Prop :=
  ∃ vl v', e = .returned (.tuple #[vl, .int .i64 ((F.feed (F.most m) ws off bs).2.1 : Int)]) ∧ Rd w' B p m v' (F.feed (F.most m) ws off bs).2.2.1 (F.feed (F.most m) ws off bs).2.2.2 ∧ Rows w' w.heap.size 28 5 vl (F.feed (F.most m) ws off bs).1 v' ∧ Kb w w' (some p) v.ownBlock ∧ Near w v v'

set_option maxHeartbeats 1000000 in
theorem feed_any {B p : Nat} {m : Int} {v : Value} {ws : List UInt8} {off : Bool} {vb : Value} {bs : List UInt8} {w : World} (h : Rd w B p m v ws off) (hb : Rdv w vb (bv bs)) (hlen : ws.length + bs.length < 1099511627776) (hB : B ≤ w.heap.size) :
    Calls Try.prog 9 #[.pointer (some ⟨p, 0, none⟩), vb] w (Fed w B p m v ws off bs) := by
  have H := Lib.hid h
  have HR := Lib.hid hb
  have OF := Lib.hid (off_any h)
  clear h hb
  go_enter Try.func9, Try.ntmps9
  cases off with
  | true =>
    go_wp2_with (first
      | (go_at_call 13; refine OF.out.mono ?_; rintro e w' ⟨rfl, rfl⟩))
    go_ret2
    unfold Fed
    rw [F.feed_off]
    exact ⟨_, v, rfl, H.out, Rows.nil _ _ _ _ _, Kb.refl _ _ _, .inl rfl⟩
  | false =>
    have c1 : w.cell? ⟨p, 1, none⟩ = some v := H.out.2.1.cell 1
    have HO := Lib.hid H.out.2.2
    obtain ⟨Y, hY⟩ : ∃ Y, Hid (Y = ws ++ bs) := ⟨_, rfl⟩
    have hl : Y.length < 1099511627776 := by rw [hY.out, List.length_append]; exact hlen
    go_wp2_with (first
      | (go_at_call 13; refine OF.out.mono ?_; rintro e w' ⟨rfl, rfl⟩)
      | (at_builtin; refine wpList_append_bytes_at (xs := ws) (news := bs) rfl (.tmp 15) (.tmp 16) 28 rfl B 5 Try.underlying28 Try.info_u8 (by rfl) HO.out (by rfl) HR.out (by omega) hB ?_; intro vw w1 o1 g1 n1; rw [← hY.out] at o1; obtain ⟨aw, cw, hvw, -⟩ := id o1.rd; rw [bv_len] at hvw; subst hvw; have O1 := Lib.hid o1; have G1 := Lib.hid g1; have N1 := Lib.hid n1; clear o1 g1 n1; have c0 : w1.cell? ⟨p, 0, none⟩ = some (.int .i64 m) := (feed_most H.out G1.out).cell 0)
      | (go_at_call 15; fail))
    have hb1 := Nat.le_trans hB G1.out.size
    have A := Lib.hid (all_any _ Y m w1 O1.out.rd hl)
    have GO := Lib.hid (F.feed_go (m := F.most m) (ws := ws) (b := bs))
    have BAD := Lib.hid (F.feed_bad (m := F.most m) (ws := ws) (b := bs))
    have hn := F.all_n Y (F.most m)
    rw [← hY.out] at GO BAD
    clear hY
    obtain ⟨r, hr⟩ : ∃ r, r = F.all Y (F.most m) := ⟨_, rfl⟩
    rw [← hr] at A GO BAD hn
    clear hr
    obtain ⟨L, n, e⟩ := r
    simp only at A GO BAD hn
    refine A.out.mono ?_
    rintro e1 w2 ⟨vl, rfl, ho2, hb2⟩
    have O2 := Lib.hid ho2
    have B2 := Lib.hid hb2
    have hb2' := Nat.le_trans hb1 hb2.size
    have S2 := Lib.hid ((feed_most H.out G1.out).below hb2)
    clear ho2 hb2 A OF HO c0 c1
    by_cases he : e = 0 ∨ e = 3
    · have R := Lib.hid (GO.out he)
      clear BAD GO
      have BH := Lib.hid (behind_any _ Y n w2 (O1.out.below B2.out) hn (by omega) hb2')
      have k1 : ∀ w3, Below w2.heap.size w2 w3 → w3.cell? ⟨p, 1, none⟩ = some v ∧ w3.frozen? ⟨p, 1, none⟩ = false := fun w3 hb => ⟨(S2.out.below hb).cell 1, (S2.out.below hb).frozen 1⟩
      have K1 := Lib.hid k1
      clear k1
      rcases he with rfl | rfl
      · go_wp2_with (first
          | (go_at_call 16; refine BH.out.mono ?_; rintro e w3 ⟨v3, rfl, o3, b3, n3⟩; obtain ⟨a3, k3, hv3, -⟩ := id o3.rd; subst hv3; have O3 := Lib.hid o3; have B3 := Lib.hid b3; have N3 := Lib.hid n3; clear o3 b3 n3; obtain ⟨c3, f3⟩ := K1.out w3 B3.out))
        go_ret2
        unfold Fed
        rw [R.out]
        exact ⟨_, _, rfl, feed_good H.out O1.out G1.out N1.out O2.out B2.out O3.out B3.out N3.out⟩
      · go_wp2_with (first
          | (go_at_call 16; refine BH.out.mono ?_; rintro e w3 ⟨v3, rfl, o3, b3, n3⟩; obtain ⟨a3, k3, hv3, -⟩ := id o3.rd; subst hv3; have O3 := Lib.hid o3; have B3 := Lib.hid b3; have N3 := Lib.hid n3; clear o3 b3 n3; obtain ⟨c3, f3⟩ := K1.out w3 B3.out))
        go_ret2
        unfold Fed
        rw [R.out]
        exact ⟨_, _, rfl, feed_good H.out O1.out G1.out N1.out O2.out B2.out O3.out B3.out N3.out⟩
    · have R := Lib.hid (BAD.out he)
      clear BAD GO
      have he0 : ((e : Int) != 0) = true := by simp; omega
      have he3 : ((e : Int) != 3) = true := by simp; omega
      have c1 : w2.cell? ⟨p, 1, none⟩ = some v := S2.out.cell 1
      have c2 : w2.cell? ⟨p, 2, none⟩ = some (.bool false) := S2.out.cell 2
      have f1 : w2.frozen? ⟨p, 1, none⟩ = false := S2.out.frozen 1
      have f2 : w2.frozen? ⟨p, 2, none⟩ = false := S2.out.frozen 2
      clear he
      go_wp2
      go_ret2
      unfold Fed
      rw [R.out]
      exact ⟨_, _, rfl, feed_wrong H.out G1.out O2.out B2.out⟩
end Go.Proofs.Ytaajdodicepbdaa
