/- Several texts in one. -/
import Derived.Test.YtmgalfdiiegjjaaGreatDoorShW5
import Derived.Test.YtmgalfdiiegjjaaGreatDoorShC4
import Derived.Test.YtmgalfdiiegjjaaGreatDoorSeg26
import Derived.Deep.LoopGhost
namespace Go.Proofs.YtmgalfdiiegjjaaGreatDoor
open Go.RowKit

/-- Texts and keys are no longer than a line may be. -/
def Lens2 (ns : List SH.Ni) : Prop := ∀ x ∈ ns, x.text.length ≤ 9223372036854775807 ∧ (∀ k ∈ x.keys, k.length ≤ 15000) ∧ x.keys.length ≤ 20000
theorem Lens2.one {ns : List SH.Ni} (h : Lens2 ns) : Lens ns := fun x hx => ⟨(h x hx).1, fun k hk => by have := (h x hx).2.1 k hk; omega⟩
/-- What the block of that number tells, where the next one is n. -/
def bkr (ns : List SH.Ni) (f n d : Nat) (k : Int) : Option Nat := if k = (n : Int) then SH.wk ns f n d else none
/-- Where the walk stands. -/
structure Wst (w0 w : World) (p : Nat) (v : Value) (m : Int) : Prop where
  bl : Below w0.heap.size w0 w
  st : Str w p 79 #[v, .int .i64 m]
  lo : w0.heap.size ≤ p
theorem Wst.calm {w0 w w' : World} {p : Nat} {v : Value} {m : Int} (h : Wst w0 w p v m) (hb : Below w.heap.size w w') : Wst w0 w' p v m :=
  ⟨h.bl.trans (hb.mono h.bl.size), h.st.below hb, h.lo⟩
theorem Wst.put {w0 w : World} {p : Nat} {v : Value} {m : Int} (h : Wst w0 w p v m) (k : Int) : Wst w0 (w.setCell ⟨p, 1, none⟩ (.int .i64 k)) p v k :=
  ⟨h.bl.trans ((Kb.set w p 1 (.int .i64 k) none).below h.bl.size (by intro g hg; cases hg; exact h.lo) (by simp)), by
    have := h.st.set 1 (.int .i64 k)
    simpa using this, h.lo⟩
/-- What block answers, at its end. -/
def BkE (w0 : World) (p : Nat) (v : Value) (O : Option Nat) (e : Ending) (w' : World) : Prop := ∃ m : Int, e = .returned (.bool O.isSome) ∧ Wst w0 w' p v m ∧ ∀ r : Nat, O = some r → m = (r : Int)
theorem BkE.no {w0 w' : World} {p : Nat} {v : Value} {m : Int} (h : Wst w0 w' p v m) : BkE w0 p v none (.returned (.bool false)) w' := ⟨m, rfl, h, fun r hr => by cases hr⟩
theorem BkE.yes {w0 w' : World} {p : Nat} {v : Value} {m : Nat} (h : Wst w0 w' p v (m : Int)) : BkE w0 p v (some m) (.returned (.bool true)) w' := ⟨m, rfl, h, fun r hr => by rw [Option.some.inj hr]⟩
def BkC (f : Nat) : Prop := ∀ (v : Value) (ns : List SH.Ni) (n d p : Nat) (k : Int) (w0 w : World), Rdi w0 v ns → Lens2 ns → MaxIs w0 → Wst w0 w p v (n : Int) → f + d = 26 → n ≤ ns.length →
  Calls Tryz.prog 39 #[.pointer (some ⟨p, 0, none⟩), .int .i64 k, .int .i64 (d : Int)] w (BkE w0 p v (bkr ns f n d k))
theorem below_put {w : World} {p : Nat} {T : TypeId} {cs : Array Value} (_h : Str w p T cs) (i : Nat) (u : Value) : Below p w (w.setCell ⟨p, i, none⟩ u) :=
  (Kb.set w p i u none).below (by have := _h.lt; omega) (by intro g hg; cases hg; exact Nat.le_refl _) (by simp)
set_option maxRecDepth 10000 in
set_option maxHeartbeats 16000000 in
theorem shblock_all : ∀ f, BkC f := by
  intro f
  induction f with
  | zero =>
    intro v ns n d p k w0 w hr hl hmx hs hf hn
    obtain rfl : d = 26 := by omega
    obtain ⟨ao, cap, rfl, hm⟩ := hr.slice
    unfold maxLen at hm
    have E0 : bkr ns 0 n 26 k = none := by unfold bkr; split <;> rfl
    rw [E0]
    have HS := Lib.hid hs
    have c0 := hs.st.cell 0
    have c1 := hs.st.cell 1
    simp only [List.getElem?_toArray, List.getElem?_cons_zero, List.getElem?_cons_succ] at c0 c1
    obtain ⟨L, hL⟩ : ∃ L, ns.length = L := ⟨_, rfl⟩
    rw [hL] at hm hn HS c0 ⊢
    clear hr hl hf hL hs hmx E0
    by_cases hk : k = (n : Int)
    · subst hk
      by_cases hnl : n < L
      · have h1 : ¬ (L : Int) ≤ (n : Int) := by omega
        go_enter Tryz.func39, Tryz.ntmps39
        go_wp2
        go_ret
        exact BkE.no HS.out
      · have h1 : (L : Int) ≤ (n : Int) := by omega
        go_enter Tryz.func39, Tryz.ntmps39
        go_wp2
        go_ret
        exact BkE.no HS.out
    · have hkb : (k != (n : Int)) = true := by simpa using hk
      go_enter Tryz.func39, Tryz.ntmps39
      go_wp2
      go_ret
      exact BkE.no HS.out
  | succ f ih =>
    intro v ns n d p k w0 w hr hl hmx hs hf hn
    have HR := Lib.hid hr
    have HLN := Lib.hid hl
    have HIH := Lib.hid ih
    have HF := Lib.hid hf
    have HMX := Lib.hid hmx
    have HS := Lib.hid hs
    obtain ⟨A, HA⟩ : ∃ A, Hid (A = bkr ns (f + 1) n d k) := ⟨_, Lib.hid rfl⟩
    rw [← HA.out]
    obtain ⟨ao, cap, hv, hm⟩ := hr.slice
    subst hv
    unfold maxLen at hm
    have c0 := hs.st.cell 0
    have c1 := hs.st.cell 1
    have fz := hs.st.frozen 1
    simp only [List.getElem?_toArray, List.getElem?_cons_zero, List.getElem?_cons_succ] at c0 c1
    obtain ⟨L, hL⟩ : ∃ L, ns.length = L := ⟨_, rfl⟩
    have HL := Lib.hid hL
    rw [hL] at hm hn HS HR c0 ⊢
    clear hr hl ih hL hs hmx hf
    by_cases hk : k = (n : Int)
    · subst hk
      have HA2 : Hid (A = SH.wk ns (f + 1) n d) := by
        show A = _
        rw [HA.out]; unfold bkr; rw [if_pos rfl]
      by_cases hnl : n < L
      · have h1 : ¬ (L : Int) ≤ (n : Int) := by omega
        have h1b : (n : Int) < (L : Int) := by omega
        have h10 : (0 : Int) ≤ (n : Int) := by omega
        have hn8 : (n : Int) + 1 ≤ 9223372036854775807 := by omega
        obtain ⟨x, hx⟩ : ∃ x, ns[n]? = some x := ⟨ns[n]'(by have := HL.out; omega), List.getElem?_eq_getElem _⟩
        by_cases hd : d ≤ 24
        · have h2 : ¬ (24 : Int) < (d : Int) := by omega
          have HSP := Lib.hid (HS.out.put ((n : Int) + 1))
          obtain ⟨b, off, cap2, ka, kc, ia, ic, hv2, c6, k1, k2⟩ := HR.out.at hx
          simp only [Value.slice.injEq] at hv2
          obtain ⟨rfl, -, -⟩ := hv2
          have hlx := HLN.out x (List.mem_of_getElem? hx)
          have HX := Lib.hid hx
          obtain ⟨kd, ln, tx, q, ks, is⟩ := x
          simp only at c6 k1 k2 hlx
          have e0 := HSP.out.st.cell 0
          simp only [List.getElem?_toArray, List.getElem?_cons_zero] at e0
          have HK1 := Lib.hid k1
          have HK2 := Lib.hid k2
          obtain ⟨d0, d1, d2, d3, d4, d5⟩ := c6.below HSP.out.bl
          simp only at d0 d1 d2 d3 d4 d5
          have him := k2.len_le
          unfold maxLen at him
          rw [ints_len] at him
          obtain ⟨FB, hFB⟩ : ∃ FB, SH.fits ⟨kd, ln, tx, q, ks, is⟩ = FB := ⟨_, rfl⟩
          have HFB := Lib.hid hFB
          have HLX := Lib.hid hlx
          clear hFB hlx hx k1 k2
          go_enter Tryz.func39, Tryz.ntmps39
          go_upto_region 4 with fail
          generalize w.setCell ⟨p, 1, none⟩ (.int .i64 ((n : Int) + 1)) = W1 at *
          have BX := below_alloc W1 (.cells #[.int .i64 kd, .int .i64 ln, .string ⟨tx.toArray⟩, .bool q, .slice ka ks.length kc, .slice ia is.length ic] 50)
          have HSX := Lib.hid (HSP.out.calm BX)
          have HFI := Lib.hid (mayBe_any kd ln tx q ks is _ _ _ (HK1.out.below HSX.out.bl) (HK2.out.below HSX.out.bl) HLX.out.1 HLX.out.2.1 HLX.out.2.2 (HMX.out.below HSX.out.bl))
          rw [HFB.out] at HFI
          have HN0 := Lib.hid (Str.new W1 50 #[.int .i64 kd, .int .i64 ln, .string ⟨tx.toArray⟩, .bool q, .slice ka ks.length kc, .slice ia is.length ic])
          clear BX
          cases FB with
          | false =>
            have E : A = none := by
              rw [HA2.out, SH.wk, HX.out]
              simp only
              rw [if_neg (fun h => by rw [HFB.out] at h; cases h.2)]
            subst E
            go_wp2_with (go_at_call 68; refine HFI.out.mono ?_; rintro e w1 ⟨rfl, b1⟩; have S1 := Lib.hid (HSX.out.calm b1); clear b1)
            go_ret
            exact BkE.no S1.out
          | true =>
            have HFO : Hid (A = is.foldlM (SH.step ns f d) (n + 1)) := by
              show A = _
              rw [HA2.out, SH.wk, HX.out]
              simp only
              rw [if_pos ⟨by omega, HFB.out⟩]
            obtain ⟨kn, hkn⟩ : ∃ kn, is.length = kn := ⟨_, rfl⟩
            have HKN := Lib.hid hkn
            rw [hkn] at him d5 HK2 HFI HN0 HSX
            have hki : (kn : Int) ≤ 9223372036854775807 := by omega
            have hdm : (d : Int) + 1 ≤ 9223372036854775807 := by have := HF.out; omega
            go_upto_region 7 with (go_at_call 68; refine HFI.out.mono ?_; rintro e w1 ⟨rfl, b1⟩)
            have e5 : w1.cell? ⟨W1.heap.size, 5, none⟩ = some (.slice ia kn ic) := (HN0.out.below b1).cell 5
            have HS1 := Lib.hid (HSX.out.calm b1)
            clear b1 d0 d1 d2 d3 d4 d5 e0 HFI
            go_wp2
            clear e5
            go_loopg [49] kn (fun g s49 wx => ∃ (i m : Nat), i + g = kn ∧ s49 = .int .i64 (i : Int) ∧ m ≤ L ∧ Hid (Wst w0 wx p (.slice (some ⟨b, off, none⟩) L cap) (m : Int)) ∧ Hid (A = (is.drop i).foldlM (SH.step ns f d) m))
            case atStart => exact ⟨0, n + 1, by omega, rfl, by omega, HS1, by rw [List.drop_zero]; exact HFO⟩
            case round =>
              clear HS1 HFO
              obtain ⟨i, m, hi, rfl, hmL, HS1, HFO⟩ := hrel
              cases gk with
              | zero =>
                obtain rfl : i = kn := by omega
                have E : A = some m := by
                  rw [HFO.out, List.drop_eq_nil_of_le (by have := HKN.out; omega)]; rfl
                subst E
                go_wp2
                go_ret
                exact BkE.yes HS1.out
              | succ g =>
                have hik : (i : Int) < (kn : Int) := by omega
                have hi0 : (0 : Int) ≤ (i : Int) := by omega
                obtain ⟨k, hk⟩ : ∃ k, is[i]? = some k := ⟨is[i]'(by have := HKN.out; omega), List.getElem?_eq_getElem _⟩
                have hki2 : (ints is)[i]? = some (.int .i64 k) := by simp [ints, hk]
                obtain ⟨b3, o3, c3, e3, u3⟩ := (HK2.out.below HS1.out.bl).atv hki2
                simp only [Value.slice.injEq] at e3
                obtain ⟨rfl, -, -⟩ := e3
                have hdr : is.drop i = k :: is.drop (i + 1) := by
                  have h9 := List.getElem?_eq_some_iff.1 hk
                  rw [List.drop_eq_getElem_cons h9.1, h9.2]
                have HF2 : Hid (A = (bkr ns f m (d + 1) k).bind fun m2 => (is.drop (i + 1)).foldlM (SH.step ns f d) m2) := by
                  show A = _
                  rw [HFO.out, hdr, List.foldlM_cons]; rfl
                clear hk hki2 hdr HFO
                obtain ⟨O, hO⟩ : ∃ O, bkr ns f m (d + 1) k = O := ⟨_, rfl⟩
                have HO := Lib.hid hO
                have HW := Lib.hid (HIH.out _ ns m (d + 1) p k w0 wr HR.out HLN.out HMX.out HS1.out (by have := HF.out; omega) (by have := HL.out; omega))
                rw [hO] at HW
                have hdi : ((d + 1 : Nat) : Int) = (d : Int) + 1 := rfl
                rw [hdi] at HW
                clear hO hdi
                cases O with
                | none =>
                  have E : A = none := by rw [HF2.out, HO.out]; rfl
                  subst E
                  go_wp2_with (go_at_call 39; refine HW.out.mono ?_; rintro e w2 ⟨m9, rfl, s2, -⟩; have S2 := Lib.hid s2; clear s2)
                  go_ret
                  exact BkE.no S2.out
                | some m2 =>
                  have E : Hid (A = (is.drop (i + 1)).foldlM (SH.step ns f d) m2) := by
                    show A = _
                    rw [HF2.out, HO.out]; rfl
                  have HML : Hid (m2 ≤ ns.length) := by
                    have h9 := HO.out
                    unfold bkr at h9
                    split at h9
                    · exact wk_le h9
                    · cases h9
                  go_wp2_with (go_at_call 39; refine HW.out.mono ?_; rintro e w2 ⟨m9, rfl, s2, h9⟩; have S2 := Lib.hid s2; have H9 := Lib.hid (h9 m2 rfl); clear s2 h9)
                  go_roundg g
                  case rel => exact ⟨i + 1, m2, by omega, by first | rfl | (simp; done), by have := HML.out; have := HL.out; omega, by rw [← H9.out]; exact S2, E⟩
                  case measure => omega
        · have h2 : (24 : Int) < (d : Int) := by omega
          have E : A = none := by
            rw [HA2.out, SH.wk, hx]
            simp only
            rw [if_neg (fun h => hd h.1)]
          subst E
          clear hx
          go_enter Tryz.func39, Tryz.ntmps39
          go_wp2
          go_ret
          exact BkE.no HS.out
      · have h1 : (L : Int) ≤ (n : Int) := by omega
        have E : A = none := by
          rw [HA2.out, SH.wk, List.getElem?_eq_none (by have := HL.out; omega)]
        subst E
        go_enter Tryz.func39, Tryz.ntmps39
        go_wp2
        go_ret
        exact BkE.no HS.out
    · have hkb : (k != (n : Int)) = true := by simpa using hk
      have E : A = none := by rw [HA.out]; unfold bkr; rw [if_neg hk]
      subst E
      go_enter Tryz.func39, Tryz.ntmps39
      go_wp2
      go_ret
      exact BkE.no HS.out
end Go.Proofs.YtmgalfdiiegjjaaGreatDoor

/- Walks of a writer's block, items and entries. -/
namespace Go.Proofs.YtmgalfdiiegjjaaGreatDoor
open Go.RowKit

namespace SH
def isTx : Tr → Bool
  | .text _ _ => true
  | _ => false
def knd : Tr → Int
  | .text _ _ => 1
  | .list _ => 2
  | .map _ => 3
theorem showM_cons (key : LX.B) (t : Tr) (r : Fo) (c : Nat) (f : Bool) : showM (.cons key t r) c f = (if f then [] else DC.bl c) ++ ((key ++ [58]) ++ ((if isTx t then [32] else 10 :: DC.bl (c + 2)) ++ showT t (c + 2))) ++ showM r c false := by
  cases t <;> simp [showM, showT, isTx]
theorem showL_cons (key : LX.B) (t : Tr) (r : Fo) (c : Nat) (f : Bool) : showL (.cons key t r) c f = (if f then [] else DC.bl c) ++ ([45, 32] ++ showT t (c + 2)) ++ showL r c false := by
  simp [showL]
theorem flat_ne (t : Tr) (N : Nat) : ∃ x l, flatT t N = x :: l ∧ x.kind = knd t := by cases t <;> exact ⟨_, _, rfl, rfl⟩
end SH
/-- The value of kids' numbers. -/
def icast (l : List Nat) : List Int := l.map fun n : Nat => (n : Int)
theorem icast_len (l : List Nat) : (icast l).length = l.length := by simp [icast]
theorem kids_len : ∀ (k : SH.Fo) (N : Nat), (SH.kidsF k N).length = (SH.keysF k).length
  | .nil, _ => rfl
  | .cons _ t r, N => by rw [SH.kidsF, SH.keysF, List.length_cons, List.length_cons, kids_len r _]
/-- A block's text has been told. -/
def BlW (s : Nat) : Prop := ∀ (t : SH.Tr) (ns : List SH.Ni) (n c p : Nat) (w0 wa w : World) (v ov : Value) (bs : List UInt8), SH.sizeT t ≤ s → Rdi w0 v ns → SH.At ns n (SH.flatT t n) → Wrs w0 wa w p v ov bs →
  (∀ x ∈ ns, x.text.length ≤ 10000 ∧ ∀ k ∈ x.keys, k.length ≤ 15000) → bs.length + (SH.showT t c).length ≤ 600000000 → c + 2 * SH.sizeT t ≤ 1000000 →
  Calls Tryz.prog 34 #[.pointer (some ⟨p, 0, none⟩), .int .i64 (n : Int), .int .i64 (c : Int)] w (WrE w0 wa p v (bs ++ SH.showT t c))
set_option maxRecDepth 10000 in
set_option maxHeartbeats 16000000 in
theorem shitems_any {s : Nat} (ih : BlW s) (k : SH.Fo) (ns : List SH.Ni) (N c p : Nat) (w0 wa w : World) (v ov : Value) (bs : List UInt8) (kd ln : Int) (S : List UInt8) (q : Bool) (va vi : Value) (hk : SH.sizeF k ≤ s) (hr : Rdi w0 v ns) (ha : SH.At ns N (SH.flatF k N)) (h : Wrs w0 wa w p v ov bs)
    (hln : ∀ x ∈ ns, x.text.length ≤ 10000 ∧ ∀ k ∈ x.keys, k.length ≤ 15000) (hl : bs.length + (SH.showL k c true).length ≤ 600000000) (hc : c + 2 * SH.sizeF k + 2 ≤ 1000000) (hva : ∃ a m c, va = .slice a m c) (hvi : Rdv w0 vi (ints (icast (SH.kidsF k N)))) :
    Calls Tryz.prog 61 #[.pointer (some ⟨p, 0, none⟩), .agg #[.int .i64 kd, .int .i64 ln, .string ⟨S.toArray⟩, .bool q, va, vi], .int .i64 (c : Int)] w (WrE w0 wa p v (bs ++ SH.showL k c true)) := by
  obtain ⟨ka, kn, kc, rfl⟩ := hva
  obtain ⟨ia, ic, rfl⟩ := hvi.slice
  have him := hvi.len_le
  unfold maxLen at him
  rw [ints_len, icast_len] at him hvi ⊢
  obtain ⟨L, hL⟩ : ∃ L, (SH.kidsF k N).length = L := ⟨_, rfl⟩
  have HL := Lib.hid hL
  rw [hL] at him hvi ⊢
  have hL9 : (L : Int) ≤ 9223372036854775807 := by omega
  have HVI := Lib.hid hvi
  have HR := Lib.hid hr
  have HI := Lib.hid ih
  have HLN := Lib.hid hln
  have HLL := Lib.hid hl
  have HCC := Lib.hid hc
  have hc9 : (c : Int) ≤ 1000000 := by omega
  have H := Lib.hid (h.calm (below_alloc w (.cells #[.int .i64 kd, .int .i64 ln, .string ⟨S.toArray⟩, .bool q, .slice ka kn kc, .slice ia L ic] 50)))
  have HA0 : Hid (∃ k', SH.kidsF k' N = (SH.kidsF k N).drop 0 ∧ SH.At ns N (SH.flatF k' N) ∧ SH.sizeF k' ≤ SH.sizeF k ∧ SH.showL k c true = [] ++ SH.showL k' c (decide (0 = 0))) := ⟨k, rfl, ha, Nat.le_refl _, by rw [List.nil_append, decide_eq_true rfl]⟩
  clear hvi hr ih ha h hln hl hc hL him
  obtain ⟨T, hT⟩ : ∃ T, SH.showL k c true = T := ⟨_, rfl⟩
  rw [hT] at HLL HA0 ⊢
  have HK := Lib.hid hk
  clear hT hk
  go_enter Tryz.func61, Tryz.ntmps61
  go_wp2
  go_loopg [11] L (fun g s11 wx => ∃ (i N' : Nat) (pre : List UInt8) (u : Value), i + g = L ∧ s11 = .int .i64 (i : Int) ∧ Hid (Wrs w0 wa wx p v u (bs ++ pre)) ∧ Hid (∃ k', SH.kidsF k' N' = (SH.kidsF k N).drop i ∧ SH.At ns N' (SH.flatF k' N') ∧ SH.sizeF k' ≤ SH.sizeF k ∧ T = pre ++ SH.showL k' c (decide (i = 0))))
  case atStart => exact ⟨0, N, [], ov, by omega, rfl, by rw [List.append_nil]; exact H, HA0⟩
  case round =>
    clear H HA0
    obtain ⟨i, N', pre, u, hi, rfl, H, HA⟩ := hrel
    obtain ⟨k', a1, a2, a3, a4⟩ := HA.out
    cases gk with
    | zero =>
      obtain rfl : i = L := by omega
      rw [List.drop_eq_nil_of_le (by have := HL.out; omega)] at a1
      cases k' with
      | cons key t r => rw [SH.kidsF] at a1; cases a1
      | nil =>
        rw [SH.showL, List.append_nil] at a4
        subst a4
        clear a1 a2 a3 HA
        go_wp2
        go_end0
        exact ⟨rfl, _, H.out⟩
    | succ g =>
      have hin : (i : Int) < (L : Int) := by omega
      have hi0 : (0 : Int) ≤ (i : Int) := by omega
      cases k' with
      | nil =>
        rw [SH.kidsF] at a1
        have := congrArg List.length a1
        rw [List.length_drop] at this
        simp only [List.length_nil] at this
        have := HL.out
        omega
      | cons key t r =>
        rw [SH.kidsF] at a1
        rw [SH.flatF] at a2
        rw [SH.sizeF] at a3
        rw [SH.showL_cons] at a4
        have hget : (SH.kidsF k N)[i]? = some N' := by
          have := congrArg (fun l => l[0]?) a1
          simpa using this.symm
        have hki : (ints (icast (SH.kidsF k N)))[i]? = some (.int .i64 (N' : Int)) := by simp [ints, icast, hget]
        obtain ⟨b3, o3, c3, e3, u3⟩ := (HVI.out.below H.out.bl).atv hki
        simp only [Value.slice.injEq] at e3
        obtain ⟨rfl, -, -⟩ := e3
        have HN : Hid (∃ k'', SH.kidsF k'' (N' + SH.sizeT t) = (SH.kidsF k N).drop (i + 1) ∧ SH.At ns (N' + SH.sizeT t) (SH.flatF k'' (N' + SH.sizeT t)) ∧ SH.sizeF k'' ≤ SH.sizeF k ∧ T = (pre ++ (if decide (i = 0) = true then [] else DC.bl c) ++ [45, 32] ++ SH.showT t (c + 2)) ++ SH.showL k'' c (decide (i + 1 = 0))) := by
          refine ⟨r, ?_, ?_, by omega, ?_⟩
          · have := congrArg (List.drop 1) a1
            rw [List.drop_drop] at this
            rw [List.drop_succ_cons, List.drop_zero] at this
            exact this
          · have := a2.right
            rwa [SH.flatT_len] at this
          · rw [a4, decide_eq_false (show ¬ i + 1 = 0 by omega)]
            simp
        have HTL : Hid ((pre ++ (if decide (i = 0) = true then [] else DC.bl c) ++ [45, 32] ++ SH.showT t (c + 2)).length ≤ T.length) := by
          show _ ≤ _
          obtain ⟨k2, _, _, _, e⟩ := HN.out
          have := congrArg List.length e
          rw [List.length_append] at this
          omega
        have HIT := Lib.hid (fun (u2 : World) (o2 : Value) (bs2 : List UInt8) (h2 : Wrs w0 wa u2 p v o2 bs2) (h3 : bs2.length + (SH.showT t (c + 2)).length ≤ 600000000) => HI.out t ns N' (c + 2) p w0 wa u2 v o2 bs2 (by have := HK.out; omega) HR.out a2.left h2 HLN.out h3 (by have := HCC.out; omega))
        have hcc : ((c + 2 : Nat) : Int) = (c : Int) + 2 := rfl
        rw [hcc] at HIT
        clear hki hget a1 a2 a3 a4 hcc HA
        by_cases h0 : i = 0
        · subst h0
          have hd0 : decide (0 < L) = true := decide_eq_true (by omega)
          rw [Nat.add_zero] at u3
          rw [decide_eq_true (show (0 : Nat) = 0 from rfl)] at HN HTL
          simp only [if_true, List.append_nil] at HN HTL
          have HP := Lib.hid (wput_any H.out [45, 32] (by have := HTL.out; have := HLL.out; simp only [List.length_append] at this ⊢; simp only [List.length_append, List.length_cons, List.length_nil] at *; omega))
          have HB := Lib.hid (fun (u2 : World) (o2 : Value) (h2 : Wrs w0 wa u2 p v o2 (bs ++ pre ++ [45, 32])) => HIT.out u2 o2 _ h2 (by have := HTL.out; have := HLL.out; simp only [List.length_append, List.length_cons, List.length_nil] at *; omega))
          go_wp2_with (first
            | (go_at_call 91; refine HP.out.mono ?_; rintro e w3 ⟨rfl, ov3, s3⟩; have S3 := Lib.hid s3; clear s3)
            | (go_at_call 34; refine (HB.out _ _ S3.out).mono ?_; rintro e w4 ⟨rfl, ov4, s4⟩; have S4 := Lib.hid s4; clear s4))
          go_roundg g
          case rel => exact ⟨1, N' + SH.sizeT t, pre ++ [45, 32] ++ SH.showT t (c + 2), ov4, by omega, by first | rfl | (simp; done), by have := S4; simp only [List.append_assoc] at this ⊢; exact this, HN⟩
          case measure => omega
        · have hg0 : (0 : Int) < (i : Int) := by omega
          rw [decide_eq_false h0] at HN HTL
          simp only [Bool.false_eq_true, if_false] at HN HTL
          have hbl : (DC.bl c).length = c := by simp [DC.bl]
          have HD := Lib.hid (windent_any c H.out (by have := HTL.out; have := HLL.out; simp only [List.length_append, hbl] at *; omega))
          have HP := Lib.hid (fun (u2 : World) (o2 : Value) (h2 : Wrs w0 wa u2 p v o2 (bs ++ pre ++ DC.bl c)) => wput_any h2 [45, 32] (by have := HTL.out; have := HLL.out; simp only [List.length_append, List.length_cons, List.length_nil] at *; omega))
          have HB := Lib.hid (fun (u2 : World) (o2 : Value) (h2 : Wrs w0 wa u2 p v o2 (bs ++ pre ++ DC.bl c ++ [45, 32])) => HIT.out u2 o2 _ h2 (by have := HTL.out; have := HLL.out; simp only [List.length_append, List.length_cons, List.length_nil] at *; omega))
          clear hbl h0
          go_wp2_with (first
            | (go_at_call 92; refine HD.out.mono ?_; rintro e w2 ⟨rfl, ov2, s2⟩; have S2 := Lib.hid s2; clear s2)
            | (go_at_call 91; refine (HP.out _ _ S2.out).mono ?_; rintro e w3 ⟨rfl, ov3, s3⟩; have S3 := Lib.hid s3; clear s3)
            | (go_at_call 34; refine (HB.out _ _ S3.out).mono ?_; rintro e w4 ⟨rfl, ov4, s4⟩; have S4 := Lib.hid s4; clear s4))
          go_roundg g
          case rel => exact ⟨i + 1, N' + SH.sizeT t, pre ++ DC.bl c ++ [45, 32] ++ SH.showT t (c + 2), ov4, by omega, by first | rfl | (simp; done), by have := S4; simp only [List.append_assoc] at this ⊢; exact this, HN⟩
          case measure => omega
end Go.Proofs.YtmgalfdiiegjjaaGreatDoor
