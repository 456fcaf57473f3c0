/- The walk of desc.Read. -/
import Derived.Test.YtepnjhhpnabpnaaDoorDsS
namespace Go.Proofs.YtepnjhhpnabpnaaDoor
open Go.RowKit

/-- What a text is read as, at a call's end: the entries whose text it is, or that there are none. -/
def ReadD (s : List UInt8) (w : World) (e : Ending) (w' : World) : Prop :=
  Below w.heap.size w w' ∧ ((∃ vs es, e = .returned (.tuple #[.agg #[vs], .bool true]) ∧ Rde w' vs es ∧ Light es ∧ D.Is s es) ∨
    (e = .returned (.tuple #[.agg #[.slice none 0 0], .bool false]) ∧ ∀ es, ¬ D.Is s es))
theorem rde_slice {w : World} {v : Value} {es : List D.E} (h : Rde w v es) : ∃ ao cap, v = .slice ao es.length cap ∧ cap ≤ 9223372036854775807 := by
  obtain ⟨ao, cap, hv, h1, h2, _⟩ := h
  unfold maxLen at h2
  exact ⟨ao, cap, hv, by omega⟩
theorem read_light {s : List UInt8} {es : List D.E} (hs : s.length ≤ 5000) (hl : es.length = (parts s).length) (hr : ∀ (j : Nat) p x, (parts s)[j]? = some p → es[j]? = some x → D.Rd p x) : Light es := by
  have hp := parts_len s
  refine ⟨by omega, fun e he => ?_⟩
  obtain ⟨j, hj, rfl⟩ := List.getElem_of_mem he
  have hj2 : j < (parts s).length := by omega
  have h1 := (hr j (parts s)[j] es[j] (by simp [hj2]) (by simp [hj])).len
  have h2 := D.split_len _ s (parts s)[j] (List.getElem_mem hj2)
  omega
theorem parts_nil_ne {s : List UInt8} {es : List D.E} (hl : es.length = (parts s).length) (hr : ∀ (j : Nat) p x, (parts s)[j]? = some p → es[j]? = some x → D.Rd p x) : s ≠ [] := by
  rintro rfl
  have e1 : parts [] = [[]] := rfl
  rw [e1] at hl hr
  have hl1 : 0 < es.length := by simp at hl; omega
  obtain ⟨a, b, h, _⟩ := hr 0 [] es[0] rfl (by simp)
  simp at h

theorem rde_apart {w : World} {p : Nat} {T : TypeId} {ao : Option Addr} {n c : Nat} {v : Value} {es : List D.E} (hs : Str w p T #[.slice ao n c]) (h : Rde w v es) (u : Value) : Rde (w.setCell ⟨p, 0, none⟩ u) v es := by
  obtain ⟨ao', cap, hv, h1, h2, h3, h4⟩ := h
  refine ⟨ao', cap, hv, h1, h2, h3, fun j e he => ?_⟩
  obtain ⟨b, off, hx, c1, c2⟩ := h4 j e he
  have hne : b ≠ p := by
    rintro rfl
    rw [hs.cell] at c1
    cases ho : off + j * 2 with
    | zero => rw [ho] at c1; simp [tv] at c1
    | succ i => rw [ho] at c1; simp at c1
  have hb : (w.setCell ⟨p, 0, none⟩ u).heap[b]? = w.heap[b]? := (Kb.set w p 0 u none).block b (cell_lt c1) (by intro e; exact hne (Option.some.inj e)) (by simp)
  exact ⟨b, off, hx, (World.cell?_of_block hb).trans c1, (World.cell?_of_block hb).trans c2⟩

set_option maxHeartbeats 4000000 in
theorem read_any (s : List UInt8) (hl : s.length ≤ 5000) (w : World) (henv : Env w) :
    Calls Tryd.prog 15 #[.string ⟨s.toArray⟩] w (ReadD s w) := by
  have W0 := below_alloc w (.cells #[.slice none 0 0] 24)
  have HRE := Lib.hid (readEntries_any s hl _ (henv.mx.below W0))
  have S0 := Lib.hid (Str.new w 24 #[.slice none 0 0])
  have HPL := Lib.hid henv.pl
  have HW0 := Lib.hid W0
  have HLS := Lib.hid hl
  clear W0 henv hl
  go_enter Tryd.func15, Tryd.ntmps15
  go_wp2_with fail
  refine HRE.out.mono ?_
  rintro e w1 ⟨b1, hcase⟩
  have S1 := Lib.hid (S0.out.below b1)
  have B1 := Lib.hid (below_trans HW0.out b1)
  clear HRE b1 S0
  rcases hcase with ⟨vs, es, rfl, hrd, hlen, hrr⟩ | ⟨rfl, j, p, hp, hno⟩
  · have HLT := Lib.hid (read_light HLS.out hlen hrr)
    have HNE := Lib.hid (parts_nil_ne hlen hrr)
    have HUN := Lib.hid (fun es' (h : D.Is s es') => D.read_bad hlen hrr h)
    obtain ⟨ao, cap, rfl, hcap⟩ := rde_slice hrd
    have W2 := below_alloc w1 (.cells #[.slice ao es.length cap] 24)
    have HTX := Lib.hid (text_any _ es _ (hrd.below W2) HLT.out.fits (HPL.out.below (below_trans B1.out W2)))
    have S2 := Lib.hid (S1.out.below W2)
    have D2 := Lib.hid (Str.new w1 24 #[.slice ao es.length cap])
    have B2 := Lib.hid (below_trans B1.out W2)
    have HR2 := Lib.hid (hrd.below W2)
    have hl3 := HLT.out.1
    obtain ⟨T, hT⟩ : ∃ T, D.txt es = T := ⟨_, rfl⟩
    have HT := Lib.hid hT
    rw [hT] at HTX
    clear hrd hlen hrr W2 S1 B1 hT
    by_cases hts : T = s
    · have hb : ((⟨T.toArray⟩ : ByteArray).toList == (⟨s.toArray⟩ : ByteArray).toList) = true := by rw [list_beq]; simpa using hts
      have hb2 : (T == s) = true := by simpa using hts
      have E := Lib.hid (D.read_good HNE.out (HT.out.trans hts))
      clear HUN hts
      go_wp2_with (go_at_call 10; refine HTX.out.mono ?_; rintro e w3 ⟨rfl, b3⟩; have B3 := Lib.hid b3; have c0 := (S2.out.below b3).cell 0; have f0 := (S2.out.below b3).frozen 0; have d0 := (D2.out.below b3).cell 0; simp only [List.getElem?_toArray, List.getElem?_cons_zero] at c0 d0; clear b3)
      (try simp only [Exit.inBlock, Exit.then])
      refine bodyPost_ret (ret_cell rfl rfl rfl ((S2.out.below B3.out).one _) Tryd.underlying24 rfl desc_size) rfl ?_
      exact ⟨below_set (below_trans B2.out B3.out) _ _, .inl ⟨_, es, rfl, rde_apart (S2.out.below B3.out) (HR2.out.below B3.out) _, HLT.out, E.out⟩⟩
    · have hb : ((⟨T.toArray⟩ : ByteArray).toList == (⟨s.toArray⟩ : ByteArray).toList) = false := by rw [list_beq]; simpa using hts
      have hb2 : (T == s) = false := by simpa using hts
      have E := Lib.hid (fun es' (h : D.Is s es') => hts (HT.out.symm.trans (by rw [HUN.out es' h]; exact h.2)))
      clear HUN hts
      go_wp2_with (go_at_call 10; refine HTX.out.mono ?_; rintro e w3 ⟨rfl, b3⟩; have B3 := Lib.hid b3; have c0 := (S2.out.below b3).cell 0; have f0 := (S2.out.below b3).frozen 0; have d0 := (D2.out.below b3).cell 0; simp only [List.getElem?_toArray, List.getElem?_cons_zero] at c0 d0; clear b3)
      (try simp only [Exit.inBlock, Exit.then])
      refine bodyPost_ret (ret_cell rfl rfl rfl ((S2.out.below B3.out).one _) Tryd.underlying24 rfl desc_size) rfl ?_
      exact ⟨below_set (below_trans B2.out B3.out) _ _, .inr ⟨rfl, E.out⟩⟩
  · have E := Lib.hid (fun es' => D.read_fails hp hno es')
    clear hp hno
    have W2 := below_alloc w1 (.cells #[.slice none 0 0] 24)
    have S2 := Lib.hid (S1.out.below W2)
    have B2 := Lib.hid (below_trans B1.out W2)
    have c0 := S2.out.cell 0
    have f0 := S2.out.frozen 0
    simp only [List.getElem?_toArray, List.getElem?_cons_zero] at c0
    clear W2 S1 B1
    go_wp2
    (try simp only [Exit.inBlock, Exit.then])
    refine bodyPost_ret (ret_cell rfl rfl rfl (S2.out.one _) Tryd.underlying24 rfl desc_size) rfl ?_
    exact ⟨below_set B2.out _ _, .inr ⟨rfl, E.out⟩⟩
end Go.Proofs.YtepnjhhpnabpnaaDoor
