/- The law ReasmPieces: however bytes are cut, the same comes of them. -/
import Derived.Test.YtaajdodicepbdaaRsAwake
import Derived.Test.YtaajdodicepbdaaSlcI
namespace Go.Proofs.Ytaajdodicepbdaa
open Go.RowKit

theorem OwnAll.app {w : World} {base : Nat} {e : TypeId} {vs us : List Value} {L M : List (List UInt8)} (h : OwnAll w base e vs L) (k : OwnAll w base e us M) : OwnAll w base e (vs ++ us) (L ++ M) := by
  have hl := h.1
  refine ⟨by simp [hl, k.1], fun j u bs hu hb => ?_⟩
  by_cases hj : j < vs.length
  · rw [List.getElem?_append_left hj] at hu
    rw [List.getElem?_append_left (by omega)] at hb
    exact h.2 j u bs hu hb
  · rw [List.getElem?_append_right (by omega)] at hu
    rw [List.getElem?_append_right (by omega), ← hl] at hb
    exact k.2 _ u bs hu hb

/-- 'append(out, x...)' of rows, both the call's own. -/
theorem wpList_append_rows {P : Program} {w : World} {ops : Array Oper} {rest : List Oper} {o : Oper} {a : Act} {Q : Exit → Act → World → Prop} (hgd : o.guard = none) (s x : Operand) (t : TypeId)
    (ho : o.op = .call { callee := .builtin .append, args := #[s, x], argTypes := #[t, t] })
    (base : Nat) (r e : TypeId) (hre : e ≠ r) (z : Value) (bytes : Nat) (ht : P.underlying t = some (.slice r)) (hinfo : (P.info? r).map (fun i => (i.zero, i.size, i.bytes)) = some (some z, 1, bytes)) (hz : z.cells.size = 1)
    {vo vx v : Value} {L M : List (List UInt8)} (hs : a.eval s = vo) (h1 : Rows w base r e vo L v) (hx : a.eval x = vx) (h2 : Rows w base r e vx M v)
    (hlen : L.length + M.length < 1099511627776) (hb24 : bytes ≤ 64) (hbase : base ≤ w.heap.size)
    (h : ∀ v' w' xs, Own w base r vo xs → Rows w' base r e v' (L ++ M) v → w.grownBy w' vo.ownBlock → wpList P ops Q rest (a.put o.dst v') w') : wpList P ops Q (o :: rest) a w := by
  obtain ⟨vs, a1, a2, a3⟩ := h1
  obtain ⟨us, b1, b2, b3⟩ := h2
  have l1 := a2.1
  have l2 := b2.1
  have hmul : (vs.length + us.length) * bytes ≤ (vs.length + us.length) * 64 := Nat.mul_le_mul_left _ hb24
  refine wpList_append_at hgd s x t ho base r z bytes ht hinfo hz hs a1 hx b1.rd (fun u hu => (b2.mem hu).choose_spec.one) (by unfold maxLen; omega) (by omega) hbase ?_
  intro v' w' o' g' _
  have K := Kb.of_grown g' none
  have AL : OwnAll w base e (vs ++ us) (L ++ M) := a2.app b2
  refine h v' w' vs a1 ⟨vs ++ us, o', AL.kb K (fun u hu => by cases u.ownBlock <;> simp) (fun u hu => (AL.mem hu).choose_spec.apart a1 hre), ?_⟩ g'
  intro u hu
  rcases List.mem_append.1 hu with hu | hu
  · exact a3 u hu
  · exact b3 u hu

/-- A round: a piece is fed. -/
def Round (wr : World) (p : Nat) (m : Int) (bs : List UInt8) (k N : Nat) (vo : Value) (L : List (List UInt8)) (B : Nat) (e : Ending) (w' : World) : Prop :=
  ∃ vl v' L' E ws' off', e = .returned (.tuple #[vl, .int .i64 ((E : Nat) : Int)]) ∧ Rd w' p p m v' ws' off' ∧ Rows w' p 28 5 vo L v' ∧ Rows w' p 28 5 vl L' v' ∧ F.Told bs (F.most m) (k + N) (L ++ L') (if B = 0 then E else B) ws' off' ∧ Below p wr w'
theorem fed_round {wr : World} {p : Nat} {m : Int} {v vo : Value} {ws bs : List UInt8} {off : Bool} {L : List (List UInt8)} {B k cap : Nat} {ao : Option Addr} (h : Rd wr p p m v ws off) (hR : Rows wr p 28 5 vo L v) (ht : F.Told bs (F.most m) k L B ws off)
    (hrd : Rdv wr (.slice ao bs.length cap) (bv bs)) (N : Nat) (hN : k + N ≤ bs.length) (hk : k < bs.length) (hl : bs.length ≤ 3000) :
    Calls Try.prog 9 #[.pointer (some ⟨p, 0, none⟩), .slice (ao.map (fun x => x.add k)) N (cap - k)] wr (Round wr p m bs k N vo L B) := by
  have hcap : ¬ cap = k := by
    obtain ⟨ax, cx, hv, h1, _⟩ := id hrd
    rw [bv_len] at hv h1
    obtain ⟨-, -, rfl⟩ : ao = ax ∧ True ∧ cap = cx := by simp at hv; exact ⟨hv.1, trivial, hv.2⟩
    omega
  have hc := (Rdv.cut2 hrd hN).1 hcap
  have hw := ht.few
  have hst := ht.step hN
  have hpl : ((bs.take (k + N)).drop k).length ≤ 3000 := by simp; omega
  obtain ⟨r, hr⟩ : ∃ r, F.feed (F.most m) ws off ((bs.take (k + N)).drop k) = r := ⟨_, rfl⟩
  rw [hr] at hst
  obtain ⟨L', E, ws', off'⟩ := r
  refine (feed_step h (Below.refl _ _) _ hr (by omega) hc).mono ?_
  rintro e w' ⟨vl, v', rfl, rd', rows', b', keep⟩
  exact ⟨vl, v', L', E, ws', off', rfl, rd', keep _ _ hR, rows', hst, b'⟩
theorem rd_grown {w w' : World} {B p base : Nat} {m : Int} {v vo : Value} {ws : List UInt8} {off : Bool} {xs : List Value} (h : Rd w B p m v ws off) (ho : Own w base 28 vo xs) (hg : w.grownBy w' vo.ownBlock) : Rd w' B p m v ws off := by
  have K := Kb.of_grown hg none
  exact h.kb K (by simp) (fun e => h.2.1.apart ho (by decide) e.symm) (by cases v.ownBlock <;> simp) (h.2.2.apart ho (by decide))

/-- What a row of pieces comes to. -/
def AllOf (w : World) (bs : List UInt8) (m : Int) (e : Ending) (w' : World) : Prop :=
  ∃ vl, e = .returned (.tuple #[vl, .int .i64 (F.wrong bs (F.most m) : Int), .bool true]) ∧ Rdl w' vl (F.all bs (F.most m)).1 ∧ Below w.heap.size w w'

set_option maxHeartbeats 4000000 in
theorem fed_any (v : Value) (bs : List UInt8) (m : Int) (vc : Value) (zs : List Int) (w : World) (hr : Rdv w v (bv bs)) (hc : Rdv w vc (iv .i64 zs)) (hl : bs.length ≤ 3000) (hz : zs.length ≤ 300) :
    Calls Try.prog 14 #[v, .int .i64 m, vc] w (AllOf w bs m) := by
  have HR := Lib.hid hr
  have HC := Lib.hid hc
  obtain ⟨ao, cap, rfl, g1, g2, -⟩ := hr
  obtain ⟨ac, cc, rfl, k1, k2, -⟩ := hc
  simp only [bv_len] at HR g1 ⊢
  simp only [iv_len] at HC k1 ⊢
  unfold maxLen at g2 k2
  go_enter Try.func14, Try.ntmps14
  go_wp2_with fail
  refine (new_any m w).mono ?_
  rintro e w1 ⟨rfl, hw⟩
  have R1 : Hid (Rd w1 w.heap.size w.heap.size m (.slice none 0 0) [] false) := by rw [hw]; exact Rd.new w m (Nat.le_refl _)
  have B1 : Hid (Below w.heap.size w w1) := by rw [hw]; exact below_alloc _ _
  clear hw
  obtain ⟨T, hT⟩ : ∃ T, Hid (T = bs.length) := ⟨_, rfl⟩
  rw [← hT.out] at HR g1 hl ⊢
  go_wp2_with fail
  go_loopw [10, 11, 12, 13] (fun out bad at_ i wr => ∃ (k j B : Nat) (L : List (List UInt8)), at_ = .int .i64 (k : Int) ∧ i = .int .i64 (j : Int) ∧ bad = .int .i64 (B : Int) ∧ k ≤ T ∧ j ≤ zs.length + 1 ∧ (j = zs.length + 1 → k = T) ∧ Hid (∃ v' ws off, Rd wr w.heap.size w.heap.size m v' ws off ∧ Rows wr w.heap.size 28 5 out L v' ∧ F.Told bs (F.most m) k L B ws off) ∧ Hid (Below w.heap.size w wr)) (fun _ _ _ i _ => zs.length + 2 - (intOf i).toNat)
  case atStart => exact ⟨0, 0, 0, [], rfl, rfl, rfl, by omega, by omega, by omega, ⟨_, _, _, R1.out, Rows.nil _ _ _ _ _, F.Told.start _ _⟩, B1.out⟩
  case round =>
    obtain ⟨k, j, B, L, rfl, rfl, rfl, hk, hj, hjk, HI, HB⟩ := hrel
    clear R1 B1
    by_cases hlt : k < T
    · have hj2 : j ≤ zs.length := by omega
      clear hjk hj
      obtain ⟨v', ws, off, hrd, hrows, htold⟩ := HI.out
      have RN := Lib.hid (fun N (hN : k + N ≤ T) => fed_round hrd hrows htold (by rw [← hT.out]; exact HR.out.below HB.out) N (by rw [← hT.out]; exact hN) (by rw [← hT.out]; exact hlt) (by rw [← hT.out]; exact hl))
      have FEW : Hid (L.length ≤ 3000) := by have := htold.few.1; have := hT.out; show _ ≤ _; omega
      clear HI hrd hrows htold
      unfold Round at RN
      have hlt' : (k : Int) < (T : Int) := by omega
      by_cases hjl : j < zs.length
      · have hjl' : (j : Int) < (zs.length : Int) := by omega
        have h0' : (0 : Int) ≤ (j : Int) := by omega
        obtain ⟨b1, o1, c1, e1, l1, cell1⟩ := HC.out.ati hjl
        obtain ⟨rfl, rfl⟩ : ac = some ⟨b1, o1, none⟩ ∧ cc = c1 := by simpa using e1
        have hc1 : wr.cell? ⟨b1, o1 + j, none⟩ = some (.int .i64 zs[j]) := (HB.out.cell l1).trans cell1
        clear e1 l1 cell1
        obtain ⟨z, hze⟩ : ∃ z, z = zs[j] := ⟨_, rfl⟩
        rw [← hze] at hc1
        clear hze
        by_cases hz0 : z < 0
        · have hz1 : z ≤ (T : Int) - (k : Int) := by omega
          have hz2 : z ≤ 0 := by omega
          by_cases hB0 : B = 0
          · subst hB0
            go_wp2_with (first
              | (go_at_call 9; refine (RN.out 0 (by omega)).mono ?_; rintro e w2 ⟨vl, v2, L', E, ws', off', rfl, rd2, ro2, rl2, told2, b2⟩; obtain ⟨al, cl, hvl, -⟩ := rl2.own.rd.slice; subst hvl; have RD2 := Lib.hid rd2; have RO2 := Lib.hid ro2; have RL2 := Lib.hid rl2; have TL2 := Lib.hid told2; have B2 := Lib.hid (HB.out.trans b2); have hfew : Hid (L.length + L'.length < 1099511627776) := (by have h9 := told2.few.1; rw [List.length_append] at h9; have := hT.out; show _ < _; omega); clear rd2 ro2 rl2 told2 b2)
              | (at_builtin; refine wpList_append_rows rfl (.tmp 53) (.tmp 54) 22 rfl w.heap.size 28 5 (by decide) (.slice none 0 0) 24 Try.underlying22 Try.info_row rfl (by rfl) RO2.out (by rfl) RL2.out hfew.out (by decide) B2.out.size ?_; intro vo w3 xs own rows3 g3; have RD3 := Lib.hid (rd_grown RD2.out own g3); have RO3 := Lib.hid rows3; have B3 := Lib.hid (B2.out.trans ((Kb.of_grown g3 none).below B2.out.size (by simp) (fun g hg => (own.lt hg).1))); clear own rows3 g3))
            go_roundw
            case rel => exact ⟨k + 0, j + 1, E, L ++ L', by go_num, by go_num, by go_num, by omega, by omega, by omega, ⟨_, _, _, RD3.out, RO3.out, by have := TL2.out; first | rwa [if_pos trivial] at this | rwa [if_pos rfl] at this⟩, B3.out⟩
            case measure => simp [intOf]; omega
          · have hB1 : ((B : Int) == 0) = false := by simp; omega
            go_wp2_with (first
              | (go_at_call 9; refine (RN.out 0 (by omega)).mono ?_; rintro e w2 ⟨vl, v2, L', E, ws', off', rfl, rd2, ro2, rl2, told2, b2⟩; obtain ⟨al, cl, hvl, -⟩ := rl2.own.rd.slice; subst hvl; have RD2 := Lib.hid rd2; have RO2 := Lib.hid ro2; have RL2 := Lib.hid rl2; have TL2 := Lib.hid told2; have B2 := Lib.hid (HB.out.trans b2); have hfew : Hid (L.length + L'.length < 1099511627776) := (by have h9 := told2.few.1; rw [List.length_append] at h9; have := hT.out; show _ < _; omega); clear rd2 ro2 rl2 told2 b2)
              | (at_builtin; refine wpList_append_rows rfl (.tmp 53) (.tmp 54) 22 rfl w.heap.size 28 5 (by decide) (.slice none 0 0) 24 Try.underlying22 Try.info_row rfl (by rfl) RO2.out (by rfl) RL2.out hfew.out (by decide) B2.out.size ?_; intro vo w3 xs own rows3 g3; have RD3 := Lib.hid (rd_grown RD2.out own g3); have RO3 := Lib.hid rows3; have B3 := Lib.hid (B2.out.trans ((Kb.of_grown g3 none).below B2.out.size (by simp) (fun g hg => (own.lt hg).1))); clear own rows3 g3))
            go_roundw
            case rel => exact ⟨k + 0, j + 1, B, L ++ L', by go_num, by go_num, by go_num, by omega, by omega, by omega, ⟨_, _, _, RD3.out, RO3.out, by have := TL2.out; rwa [if_neg hB0] at this⟩, B3.out⟩
            case measure => simp [intOf]; omega
        · obtain ⟨N, rfl⟩ : ∃ N : Nat, z = (N : Int) := ⟨z.toNat, by omega⟩
          by_cases hz1 : (N : Int) ≤ (T : Int) - (k : Int)
          · have hz2 : (0 : Int) ≤ (N : Int) := by omega
            have hNT : k + N ≤ T := by omega
            have hNT' : (k : Int) + (N : Int) ≤ (T : Int) := by omega
            by_cases hB0 : B = 0
            · subst hB0
              go_wp2_with (first
                | (go_at_call 9; refine (RN.out N hNT).mono ?_; rintro e w2 ⟨vl, v2, L', E, ws', off', rfl, rd2, ro2, rl2, told2, b2⟩; obtain ⟨al, cl, hvl, -⟩ := rl2.own.rd.slice; subst hvl; have RD2 := Lib.hid rd2; have RO2 := Lib.hid ro2; have RL2 := Lib.hid rl2; have TL2 := Lib.hid told2; have B2 := Lib.hid (HB.out.trans b2); have hfew : Hid (L.length + L'.length < 1099511627776) := (by have h9 := told2.few.1; rw [List.length_append] at h9; have := hT.out; show _ < _; omega); clear rd2 ro2 rl2 told2 b2)
                | (at_builtin; refine wpList_append_rows rfl (.tmp 53) (.tmp 54) 22 rfl w.heap.size 28 5 (by decide) (.slice none 0 0) 24 Try.underlying22 Try.info_row rfl (by rfl) RO2.out (by rfl) RL2.out hfew.out (by decide) B2.out.size ?_; intro vo w3 xs own rows3 g3; have RD3 := Lib.hid (rd_grown RD2.out own g3); have RO3 := Lib.hid rows3; have B3 := Lib.hid (B2.out.trans ((Kb.of_grown g3 none).below B2.out.size (by simp) (fun g hg => (own.lt hg).1))); clear own rows3 g3))
              go_roundw
              case rel => exact ⟨k + N, j + 1, E, L ++ L', by go_num, by go_num, by go_num, by omega, by omega, by omega, ⟨_, _, _, RD3.out, RO3.out, by have := TL2.out; first | rwa [if_pos trivial] at this | rwa [if_pos rfl] at this⟩, B3.out⟩
              case measure => simp [intOf]; omega
            · have hB1 : ((B : Int) == 0) = false := by simp; omega
              go_wp2_with (first
                | (go_at_call 9; refine (RN.out N hNT).mono ?_; rintro e w2 ⟨vl, v2, L', E, ws', off', rfl, rd2, ro2, rl2, told2, b2⟩; obtain ⟨al, cl, hvl, -⟩ := rl2.own.rd.slice; subst hvl; have RD2 := Lib.hid rd2; have RO2 := Lib.hid ro2; have RL2 := Lib.hid rl2; have TL2 := Lib.hid told2; have B2 := Lib.hid (HB.out.trans b2); have hfew : Hid (L.length + L'.length < 1099511627776) := (by have h9 := told2.few.1; rw [List.length_append] at h9; have := hT.out; show _ < _; omega); clear rd2 ro2 rl2 told2 b2)
                | (at_builtin; refine wpList_append_rows rfl (.tmp 53) (.tmp 54) 22 rfl w.heap.size 28 5 (by decide) (.slice none 0 0) 24 Try.underlying22 Try.info_row rfl (by rfl) RO2.out (by rfl) RL2.out hfew.out (by decide) B2.out.size ?_; intro vo w3 xs own rows3 g3; have RD3 := Lib.hid (rd_grown RD2.out own g3); have RO3 := Lib.hid rows3; have B3 := Lib.hid (B2.out.trans ((Kb.of_grown g3 none).below B2.out.size (by simp) (fun g hg => (own.lt hg).1))); clear own rows3 g3))
              go_roundw
              case rel => exact ⟨k + N, j + 1, B, L ++ L', by go_num, by go_num, by go_num, by omega, by omega, by omega, ⟨_, _, _, RD3.out, RO3.out, by have := TL2.out; rwa [if_neg hB0] at this⟩, B3.out⟩
              case measure => simp [intOf]; omega
          · obtain ⟨M, rfl⟩ : ∃ M : Nat, T = k + M := ⟨T - k, by omega⟩
            have hz2 : (M : Int) ≤ (N : Int) := by omega
            have hz3 : (0 : Int) ≤ (M : Int) := by omega
            by_cases hB0 : B = 0
            · subst hB0
              go_wp2_with (first
                | (go_at_call 9; refine (RN.out M (Nat.le_refl _)).mono ?_; rintro e w2 ⟨vl, v2, L', E, ws', off', rfl, rd2, ro2, rl2, told2, b2⟩; obtain ⟨al, cl, hvl, -⟩ := rl2.own.rd.slice; subst hvl; have RD2 := Lib.hid rd2; have RO2 := Lib.hid ro2; have RL2 := Lib.hid rl2; have TL2 := Lib.hid told2; have B2 := Lib.hid (HB.out.trans b2); have hfew : Hid (L.length + L'.length < 1099511627776) := (by have h9 := told2.few.1; rw [List.length_append] at h9; have := hT.out; show _ < _; omega); clear rd2 ro2 rl2 told2 b2)
                | (at_builtin; refine wpList_append_rows rfl (.tmp 53) (.tmp 54) 22 rfl w.heap.size 28 5 (by decide) (.slice none 0 0) 24 Try.underlying22 Try.info_row rfl (by rfl) RO2.out (by rfl) RL2.out hfew.out (by decide) B2.out.size ?_; intro vo w3 xs own rows3 g3; have RD3 := Lib.hid (rd_grown RD2.out own g3); have RO3 := Lib.hid rows3; have B3 := Lib.hid (B2.out.trans ((Kb.of_grown g3 none).below B2.out.size (by simp) (fun g hg => (own.lt hg).1))); clear own rows3 g3))
              go_roundw
              case rel => exact ⟨k + M, j + 1, E, L ++ L', by go_num, by go_num, by go_num, by omega, by omega, by omega, ⟨_, _, _, RD3.out, RO3.out, by have := TL2.out; first | rwa [if_pos trivial] at this | rwa [if_pos rfl] at this⟩, B3.out⟩
              case measure => simp [intOf]; omega
            · have hB1 : ((B : Int) == 0) = false := by simp; omega
              go_wp2_with (first
                | (go_at_call 9; refine (RN.out M (Nat.le_refl _)).mono ?_; rintro e w2 ⟨vl, v2, L', E, ws', off', rfl, rd2, ro2, rl2, told2, b2⟩; obtain ⟨al, cl, hvl, -⟩ := rl2.own.rd.slice; subst hvl; have RD2 := Lib.hid rd2; have RO2 := Lib.hid ro2; have RL2 := Lib.hid rl2; have TL2 := Lib.hid told2; have B2 := Lib.hid (HB.out.trans b2); have hfew : Hid (L.length + L'.length < 1099511627776) := (by have h9 := told2.few.1; rw [List.length_append] at h9; have := hT.out; show _ < _; omega); clear rd2 ro2 rl2 told2 b2)
                | (at_builtin; refine wpList_append_rows rfl (.tmp 53) (.tmp 54) 22 rfl w.heap.size 28 5 (by decide) (.slice none 0 0) 24 Try.underlying22 Try.info_row rfl (by rfl) RO2.out (by rfl) RL2.out hfew.out (by decide) B2.out.size ?_; intro vo w3 xs own rows3 g3; have RD3 := Lib.hid (rd_grown RD2.out own g3); have RO3 := Lib.hid rows3; have B3 := Lib.hid (B2.out.trans ((Kb.of_grown g3 none).below B2.out.size (by simp) (fun g hg => (own.lt hg).1))); clear own rows3 g3))
              go_roundw
              case rel => exact ⟨k + M, j + 1, B, L ++ L', by go_num, by go_num, by go_num, by omega, by omega, by omega, ⟨_, _, _, RD3.out, RO3.out, by have := TL2.out; rwa [if_neg hB0] at this⟩, B3.out⟩
              case measure => simp [intOf]; omega
      · have hjl' : ¬ (j : Int) < (zs.length : Int) := by omega
        obtain ⟨M, rfl⟩ : ∃ M : Nat, T = k + M := ⟨T - k, by omega⟩
        by_cases hB0 : B = 0
        · subst hB0
          go_wp2_with (first
            | (go_at_call 9; refine (RN.out M (Nat.le_refl _)).mono ?_; rintro e w2 ⟨vl, v2, L', E, ws', off', rfl, rd2, ro2, rl2, told2, b2⟩; obtain ⟨al, cl, hvl, -⟩ := rl2.own.rd.slice; subst hvl; have RD2 := Lib.hid rd2; have RO2 := Lib.hid ro2; have RL2 := Lib.hid rl2; have TL2 := Lib.hid told2; have B2 := Lib.hid (HB.out.trans b2); have hfew : Hid (L.length + L'.length < 1099511627776) := (by have h9 := told2.few.1; rw [List.length_append] at h9; have := hT.out; show _ < _; omega); clear rd2 ro2 rl2 told2 b2)
            | (at_builtin; refine wpList_append_rows rfl (.tmp 53) (.tmp 54) 22 rfl w.heap.size 28 5 (by decide) (.slice none 0 0) 24 Try.underlying22 Try.info_row rfl (by rfl) RO2.out (by rfl) RL2.out hfew.out (by decide) B2.out.size ?_; intro vo w3 xs own rows3 g3; have RD3 := Lib.hid (rd_grown RD2.out own g3); have RO3 := Lib.hid rows3; have B3 := Lib.hid (B2.out.trans ((Kb.of_grown g3 none).below B2.out.size (by simp) (fun g hg => (own.lt hg).1))); clear own rows3 g3))
          go_roundw
          case rel => exact ⟨k + M, j + 1, E, L ++ L', by go_num, by go_num, by go_num, by omega, by omega, by omega, ⟨_, _, _, RD3.out, RO3.out, by have := TL2.out; first | rwa [if_pos trivial] at this | rwa [if_pos rfl] at this⟩, B3.out⟩
          case measure => simp [intOf]; omega
        · have hB1 : ((B : Int) == 0) = false := by simp; omega
          go_wp2_with (first
            | (go_at_call 9; refine (RN.out M (Nat.le_refl _)).mono ?_; rintro e w2 ⟨vl, v2, L', E, ws', off', rfl, rd2, ro2, rl2, told2, b2⟩; obtain ⟨al, cl, hvl, -⟩ := rl2.own.rd.slice; subst hvl; have RD2 := Lib.hid rd2; have RO2 := Lib.hid ro2; have RL2 := Lib.hid rl2; have TL2 := Lib.hid told2; have B2 := Lib.hid (HB.out.trans b2); have hfew : Hid (L.length + L'.length < 1099511627776) := (by have h9 := told2.few.1; rw [List.length_append] at h9; have := hT.out; show _ < _; omega); clear rd2 ro2 rl2 told2 b2)
            | (at_builtin; refine wpList_append_rows rfl (.tmp 53) (.tmp 54) 22 rfl w.heap.size 28 5 (by decide) (.slice none 0 0) 24 Try.underlying22 Try.info_row rfl (by rfl) RO2.out (by rfl) RL2.out hfew.out (by decide) B2.out.size ?_; intro vo w3 xs own rows3 g3; have RD3 := Lib.hid (rd_grown RD2.out own g3); have RO3 := Lib.hid rows3; have B3 := Lib.hid (B2.out.trans ((Kb.of_grown g3 none).below B2.out.size (by simp) (fun g hg => (own.lt hg).1))); clear own rows3 g3))
          go_roundw
          case rel => exact ⟨k + M, j + 1, B, L ++ L', by go_num, by go_num, by go_num, by omega, by omega, by omega, ⟨_, _, _, RD3.out, RO3.out, by have := TL2.out; rwa [if_neg hB0] at this⟩, B3.out⟩
          case measure => simp [intOf]; omega
    · obtain ⟨v', ws, off, hrd, hrows, htold⟩ := HI.out
      have E := Lib.hid (htold.end (by have := hT.out; omega))
      have HO := Lib.hid hrows.own.rd
      clear HI hrd hrows htold
      go_wp2
      go_ret3
      unfold AllOf
      rw [← E.out.1, ← E.out.2]
      exact ⟨_, rfl, HO.out, HB.out⟩

set_option maxHeartbeats 1000000 in
theorem rpieces_law (v : Value) (bs : List UInt8) (m : Int) (va : Value) (za : List Int) (vc : Value) (zc : List Int) (w : World) (hr : Rdv w v (bv bs)) (_ : bs.length ≤ 140737488351232) (ha : Rdv w va (iv .i64 za)) (_ : ∀ z ∈ za, (Lit.int .i64 z).wf = true) (hc : Rdv w vc (iv .i64 zc)) (_ : ∀ z ∈ zc, (Lit.int .i64 z).wf = true) :
    Calls Try.prog 4 #[v, .int .i64 m, va, vc] w fun e w' => e = .returned (.bool true) ∧ Below w.heap.size w w' := by
  have HR := Lib.hid hr
  have HA := Lib.hid ha
  have HC := Lib.hid hc
  obtain ⟨ao, cap, rfl, -⟩ := hr
  obtain ⟨aa, ca, rfl, -⟩ := ha
  obtain ⟨ac, cc, rfl, -⟩ := hc
  simp only [bv_len] at HR ⊢
  simp only [iv_len] at HA HC ⊢
  rename_i h1 h2 h3
  clear h1 h2 h3
  go_enter Try.func4, Try.ntmps4
  by_cases hb1 : (3000 : Int) < (bs.length : Int)
  · go_wp2_with (go_at_call 7; refine (awake4_any _).mono ?_; rintro e w4 ⟨rfl, hb4⟩)
    go_ret
    exact ⟨rfl, hb4⟩
  · by_cases hb2 : (300 : Int) < (za.length : Int)
    · go_wp2_with (go_at_call 7; refine (awake4_any _).mono ?_; rintro e w4 ⟨rfl, hb4⟩)
      go_ret
      exact ⟨rfl, hb4⟩
    · by_cases hb3 : (300 : Int) < (zc.length : Int)
      · go_wp2_with (go_at_call 7; refine (awake4_any _).mono ?_; rintro e w4 ⟨rfl, hb4⟩)
        go_ret
        exact ⟨rfl, hb4⟩
      · have N1 := Lib.hid (fed_any (.slice ao bs.length cap) bs m (.slice aa za.length ca) za w HR.out HA.out (by omega) (by omega))
        have N2 := Lib.hid (fun x h h' => fed_any (.slice ao bs.length cap) bs m (.slice ac zc.length cc) zc x h h' (by omega) (by omega))
        unfold AllOf at N1 N2
        obtain ⟨X, hX⟩ : ∃ X, X = (F.all bs (F.most m)).1 := ⟨_, rfl⟩
        obtain ⟨E, hE⟩ : ∃ E, E = F.wrong bs (F.most m) := ⟨_, rfl⟩
        rw [← hX, ← hE] at N1
        simp only [← hX, ← hE] at N2
        clear hX hE
        go_wp2_with fail
        refine N1.out.mono ?_
        rintro e w1 ⟨v1, rfl, r1, b1⟩
        have R1 := Lib.hid r1
        have B1 := Lib.hid b1
        clear r1 b1 N1
        go_wp2_with fail
        refine (N2.out w1 (HR.out.below B1.out) (HC.out.below B1.out)).mono ?_
        rintro e w2 ⟨v2, rfl, r2, b2⟩
        have R2 := Lib.hid r2
        have B2 := Lib.hid b2
        clear r2 b2 N2
        go_wp2_with fail
        refine (rrows_true _ _ X _ (R1.out.below B2.out) R2.out).mono ?_
        rintro e w3 ⟨rfl, b3⟩
        have B3 := Lib.hid b3
        clear b3
        go_wp2_with (go_at_call 7; refine (awake4_any _).mono ?_; rintro e w4 ⟨rfl, hb4⟩)
        go_ret
        exact ⟨rfl, below_tr (below_tr (below_tr B1.out B2.out) B3.out) hb4⟩
end Go.Proofs.Ytaajdodicepbdaa
