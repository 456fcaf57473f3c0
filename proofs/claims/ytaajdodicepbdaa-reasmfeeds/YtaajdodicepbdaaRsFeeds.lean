/- The law ReasmFeeds: two readers side by side. -/
import Derived.Test.YtaajdodicepbdaaRsT
import Derived.Test.YtaajdodicepbdaaRsAwake
namespace Go.Proofs.Ytaajdodicepbdaa
open Go.RowKit

theorem apart_symm {a b : Option Nat} (h : a = none ∨ a ≠ b) : b = none ∨ b ≠ a := by
  cases a <;> cases b <;> simp_all
  exact fun e => h e.symm
/-- Both readers, apart from each other. -/
def Both (w : World) (B p q : Nat) (m : Int) (v u : Value) (ws : List UInt8) (off : Bool) : Prop :=
  Rd w B p m v ws off ∧ Tw w B q m u ws off ∧ (u.ownBlock = none ∨ u.ownBlock ≠ v.ownBlock) ∧ B ≤ w.heap.size
theorem Both.one {w w1 : World} {B p q : Nat} {m : Int} {v u v' : Value} {ws : List UInt8} {off : Bool} (h : Both w B p q m v u ws off) (hk : Kb w w1 (some p) v.ownBlock) (hn : Near w v v') :
    Tw w1 B q m u ws off ∧ (u.ownBlock = none ∨ u.ownBlock ≠ v'.ownBlock) ∧ B ≤ w1.heap.size ∧ Below B w w1 := by
  obtain ⟨h1, h2, h3, h4⟩ := h
  refine ⟨h2.kb hk ?_ ?_ (.inr (h1.2.1.apart h2.2.2 (by decide))) h3, hn.apart h2.2.2 h3, Nat.le_trans h4 hk.size, kb_below h1 h4 hk⟩
  · intro e
    exact h2.2.1.apart_str h1.2.1 (by decide) (Option.some.inj e)
  · exact fun e => h2.2.1.apart h1.2.2 (by decide) e.symm
theorem Both.two {w1 w2 : World} {B p q : Nat} {m : Int} {v' u u' : Value} {ws ws' : List UInt8} {off off' : Bool} (hB : B ≤ w1.heap.size) (h : Rd w1 B p m v' ws' off') (ht : Tw w1 B q m u ws off) (ha : u.ownBlock = none ∨ u.ownBlock ≠ v'.ownBlock) (hk : Kb w1 w2 (some q) none) (hn : Near w1 u u') (ht' : Tw w2 B q m u' ws' off') :
    Both w2 B p q m v' u' ws' off' ∧ Below B w1 w2 := by
  refine ⟨⟨h.kb hk ?_ (by simp) (.inr (ht.2.1.apart h.2.2 (by decide))) (by cases v'.ownBlock <;> simp), ht', apart_symm (hn.apart h.2.2 (apart_symm ha)), Nat.le_trans hB hk.size⟩, hk.below hB ?_ (by simp)⟩
  · intro e
    exact h.2.1.apart_str ht.2.1 (by decide) (Option.some.inj e)
  · intro g hg
    obtain rfl := Option.some.inj hg
    exact ht.1
theorem Both.rows {w1 w2 : World} {B q base : Nat} {m : Int} {u vl v : Value} {ws : List UInt8} {off : Bool} {L : List (List UInt8)} (hR : Rows w1 base 28 5 vl L v) (ht : Tw w1 B q m u ws off) (hk : Kb w1 w2 (some q) none) : Rdl w2 vl L := by
  obtain ⟨vs, h1, h2, h3⟩ := hR
  have a1 := h1.kb hk (.inr (ht.2.1.apart h1 (by decide))) (by cases vl.ownBlock <;> simp)
  have a2 := h2.kb hk (fun u hu => .inr (ht.2.1.apart (h2.mem hu).choose_spec (by decide))) (fun u hu => by cases u.ownBlock <;> simp)
  exact ⟨vs, a1.rd, a2.rd⟩
theorem Both.new {w : World} {m : Int} : Both ((w.alloc (.cells #[.int .i64 m, .slice none 0 0, .bool false] 43)).alloc (.cells #[.int .i64 m, .slice none 0 0, .bool false] 30)) w.heap.size w.heap.size (w.heap.size + 1) m (.slice none 0 0) (.slice none 0 0) [] false := by
  refine ⟨(Rd.new w m (Nat.le_refl _)).below (below_alloc _ _), ⟨by omega, ?_, Own.nil _ _ _⟩, .inl rfl, by simp; omega⟩
  have := Str.new (w.alloc (.cells #[.int .i64 m, .slice none 0 0, .bool false] 43)) 30 #[.int .i64 m, .slice none 0 0, .bool false]
  simpa using this

set_option maxHeartbeats 2000000 in
theorem rfeeds_law (m : Int) (v : Value) (l : List (List UInt8)) (w : World) (hr : Rdl w v l) :
    Calls Try.prog 3 #[.int .i64 m, v] w fun e w' => e = .returned (.bool true) ∧ Below w.heap.size w w' := by
  have HR := Lib.hid hr
  obtain ⟨ao, cap, rfl, g1, g2⟩ := hr.slice
  unfold maxLen at g2
  clear hr
  go_enter Try.func3, Try.ntmps3
  go_wp2_with fail
  refine (weight4_any _ l _ HR.out).mono ?_
  rintro e w' ⟨⟨n, rfl, hn⟩, rfl⟩
  by_cases hbig : (5000 : Int) < n
  · clear hn
    go_wp2_with (go_at_call 7; refine (awake4_any _).mono ?_; rintro e w4 ⟨rfl, hb4⟩)
    go_ret
    exact ⟨rfl, hb4⟩
  · have HX := Lib.hid (hn (by omega))
    have hl5 := HX.out.1
    clear hn
    go_wp2_with fail
    refine (new_any m w).mono ?_
    rintro e w1 ⟨rfl, hw⟩
    have BN : Hid (Both (w1.alloc (.cells #[.int .i64 m, .slice none 0 0, .bool false] 30)) w.heap.size w.heap.size w1.heap.size m (.slice none 0 0) (.slice none 0 0) [] false) := by
      have sz : w1.heap.size = w.heap.size + 1 := by rw [hw]; simp
      rw [sz, hw]; exact Both.new
    have B1 : Hid (Below w.heap.size w w1) := by rw [hw]; exact below_alloc _ _
    clear hw
    go_wp2_with fail
    go_loopw [7] (fun i wr => ∃ (n : Nat), i = .int .i64 (n : Int) ∧ n ≤ l.length ∧ Hid (∃ v u ws off, Both wr w.heap.size w.heap.size w1.heap.size m v u ws off ∧ ws.length ≤ n * 5000) ∧ Hid (Below w.heap.size w wr)) (fun i _ => l.length - (intOf i).toNat)
    case atStart => exact ⟨0, rfl, by omega, ⟨_, _, _, _, BN.out, by simp⟩, below_tr B1.out (below_alloc _ _)⟩
    case round =>
      obtain ⟨n, rfl, hn, HB, B⟩ := hrel
      clear BN B1
      by_cases hlt : n < l.length
      · obtain ⟨b1, o1, c1, a1, d1, e1, l1, cell1, r1⟩ := HR.out.at hlt
        obtain ⟨rfl, rfl⟩ : ao = some ⟨b1, o1, none⟩ ∧ cap = c1 := by simpa using e1
        clear e1
        obtain ⟨v, u, ws, off, hboth, hws⟩ := HB.out
        clear HB
        have BT := Lib.hid hboth
        have hx5 := HX.out.2 l[n] (List.getElem_mem hlt)
        have F1 := Lib.hid (feed_any hboth.1 (r1.below B.out) (by omega) hboth.2.2.2)
        have F2 := Lib.hid (fun x (hx : Below w.heap.size w x) (hB : w.heap.size ≤ x.heap.size) (u' : Value) (ht : Tw x w.heap.size w1.heap.size m u' ws off) => tfeed_any ht (r1.below hx) (by omega) hB)
        have LN := Lib.hid (F.feed_len (F.most m) ws off l[n])
        clear hboth r1
        obtain ⟨x, hx⟩ : ∃ x, x = l[n] := ⟨_, rfl⟩
        rw [← hx] at F1 F2 LN hx5 cell1
        clear hx
        unfold Fed at F1
        unfold TFed at F2
        obtain ⟨r, hr⟩ : ∃ r, r = F.feed (F.most m) ws off x := ⟨_, rfl⟩
        rw [← hr] at F1 F2 LN
        clear hr
        obtain ⟨L, E, ws', off'⟩ := r
        simp only at F1 F2 LN
        have hlt' : (n : Int) < (l.length : Int) := by omega
        have h0' : (0 : Int) ≤ (n : Int) := by omega
        have hc1 : wr.cell? ⟨b1, o1 + n, none⟩ = some (.slice a1 x.length d1) := (B.out.cell l1).trans cell1
        go_wp2_with (first
          | (go_at_call 9; refine F1.out.mono ?_; rintro e w2 ⟨vl, v', rfl, rd2, rows2, kb2, near2⟩; obtain ⟨al, cl, hvl, -⟩ := rows2.own.rd.slice; subst hvl; have RD2 := Lib.hid rd2; have RW2 := Lib.hid rows2; have T2 := Lib.hid (BT.out.one kb2 near2); clear rd2 rows2 kb2 near2; have B2 := Lib.hid (B.out.trans T2.out.2.2.2); have hc2 : w2.cell? ⟨b1, o1 + n, none⟩ = some (.slice a1 x.length d1) := (B2.out.cell l1).trans cell1; clear hc1)
          | (go_at_call 10; refine (F2.out w2 B2.out T2.out.2.2.1 u T2.out.1).mono ?_; rintro e w3 ⟨vy, u', rfl, tw3, own3, kb3, near3⟩; obtain ⟨ay, cy, hvy, -⟩ := own3.rd.slice; subst hvy; have BB := Lib.hid (Both.two T2.out.2.2.1 RD2.out T2.out.1 T2.out.2.1 kb3 near3 tw3); have RX := Lib.hid (Both.rows RW2.out T2.out.1 kb3); have RY := Lib.hid own3.rd; clear tw3 own3 kb3 near3))
        clear F1 F2 RW2 RD2 hc2
        have RW : Hid (∀ k, Calls Try.prog 11 #[.slice al L.length cl, .slice ay L.length cy] (w3.drewN k) fun e w' => e = .returned (.bool true) ∧ ∃ j, w' = (w3.drewN k).drewN j) :=
          Lib.hid (fun k => rrows_quiet _ _ L _ (RX.out.below (below_drewN w3 k)) (RY.out.below (below_drewN w3 k)))
        have WT : Hid (∀ k, Calls Try.prog 12 #[.pointer (some ⟨w.heap.size, 0, none⟩)] (w3.drewN k) fun e w' => e = .returned (.int .i64 (ws'.length : Int)) ∧ w' = w3.drewN k) :=
          Lib.hid (fun k => (wait_any (BB.out.1.1.below (below_drewN w3 k))).mono fun _ _ h => ⟨h.1, h.2.symm⟩)
        have OFF : Hid (∀ k, Calls Try.prog 13 #[.pointer (some ⟨w.heap.size, 0, none⟩)] (w3.drewN k) fun e w' => e = .returned (.bool off') ∧ w' = w3.drewN k) :=
          Lib.hid (fun k => (off_any (BB.out.1.1.below (below_drewN w3 k))).mono fun _ _ h => ⟨h.1, h.2.symm⟩)
        have q1 : w3.cell? ⟨w1.heap.size, 1, none⟩ = some u' := BB.out.1.2.1.2.1.cell 1
        have q2 : w3.cell? ⟨w1.heap.size, 2, none⟩ = some (.bool off') := BB.out.1.2.1.2.1.cell 2
        obtain ⟨au, cu, hu, -⟩ := id BB.out.1.2.1.2.2.rd
        rw [bv_len] at hu
        subst hu
        have B3 := Lib.hid (B2.out.trans BB.out.2)
        have LEN : Hid (ws'.length ≤ (n + 1) * 5000) := by
          show _ ≤ _
          have := LN.out.1
          omega
        have BB2 := Lib.hid BB.out.1
        clear BB T2 B2 BT LN hws hx5 cell1 RX RY l1 B
        cases off' with
        | true =>
          go_quiet (first
            | (go_at_call 11; refine Calls.quiet_of (RW.out _))
            | (go_at_call 12; refine Calls.quiet_of_same (WT.out _))
            | (go_at_call 13; refine Calls.quiet_of_same (OFF.out _)))
          go_wp2
          go_roundw
          case rel => exact ⟨n + 1, by go_num, by omega, ⟨_, _, _, _, ⟨BB2.out.1.below (below_drewN w3 _), BB2.out.2.1.below (below_drewN w3 _), BB2.out.2.2.1, BB2.out.2.2.2⟩, LEN.out⟩, B3.out.trans ((below_drewN w3 _).mono B3.out.size)⟩
          case measure => simp [intOf]; omega
        | false =>
          go_quiet (first
            | (go_at_call 11; refine Calls.quiet_of (RW.out _))
            | (go_at_call 12; refine Calls.quiet_of_same (WT.out _))
            | (go_at_call 13; refine Calls.quiet_of_same (OFF.out _)))
          go_wp2
          go_roundw
          case rel => exact ⟨n + 1, by go_num, by omega, ⟨_, _, _, _, ⟨BB2.out.1.below (below_drewN w3 _), BB2.out.2.1.below (below_drewN w3 _), BB2.out.2.2.1, BB2.out.2.2.2⟩, LEN.out⟩, B3.out.trans ((below_drewN w3 _).mono B3.out.size)⟩
          case measure => simp [intOf]; omega
      · clear HB
        go_wp2_with (go_at_call 7; refine (awake4_any _).mono ?_; rintro e w4 ⟨rfl, hb4⟩)
        go_ret
        exact ⟨rfl, below_tr B.out hb4⟩
end Go.Proofs.Ytaajdodicepbdaa
