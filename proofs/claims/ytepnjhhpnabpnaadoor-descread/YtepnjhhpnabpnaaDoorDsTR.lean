/- The walk of the document's own DescText. -/
import Derived.Test.YtepnjhhpnabpnaaDoorDsT
namespace Go.Proofs.YtepnjhhpnabpnaaDoor
open Go.RowKit

theorem take_ents {es : List D.E} {k : Nat} {e : D.E} (h : es[k]? = some e) : (es.take (k + 1)).map D.ent = (es.take k).map D.ent ++ [D.ent e] := by
  rw [List.take_add_one, h, List.map_append]; rfl
theorem text_first {es : List D.E} {e : D.E} {X Y : ByteArray} (h : es[0]? = some e) (hX : (⟨(D.escL e.1).toArray⟩ : ByteArray) = X) (hY : (⟨(D.escL e.2).toArray⟩ : ByteArray) = Y) {acc : List UInt8} (ha : acc = D.jn ((es.take 0).map D.ent)) :
    (⟨acc.toArray⟩ : ByteArray) ++ X ++ ⟨#[61]⟩ ++ Y = ⟨(D.jn ((es.take (0 + 1)).map D.ent)).toArray⟩ := by
  rw [take_ents h, ha]
  have e1 : D.jn ((es.take 0).map D.ent) = [] := by rw [List.take_zero]; rfl
  have e2 : D.jn ((es.take 0).map D.ent ++ [D.ent e]) = D.ent e := by rw [List.take_zero]; rfl
  rw [e1, e2, ← ent_bytes hX hY]
  have e3 : (⟨([] : List UInt8).toArray⟩ : ByteArray) ++ X = X := by
    subst hX
    rw [str_app]; rfl
  rw [e3]
theorem text_next {es : List D.E} {k : Nat} {e : D.E} {X Y : ByteArray} (h : es[k]? = some e) (hk : k ≠ 0) (hX : (⟨(D.escL e.1).toArray⟩ : ByteArray) = X) (hY : (⟨(D.escL e.2).toArray⟩ : ByteArray) = Y) {acc : List UInt8} (ha : acc = D.jn ((es.take k).map D.ent)) :
    (⟨acc.toArray⟩ : ByteArray) ++ ⟨#[44]⟩ ++ X ++ ⟨#[61]⟩ ++ Y = ⟨(D.jn ((es.take (k + 1)).map D.ent)).toArray⟩ := by
  have hlt : k < es.length := (List.getElem?_eq_some_iff.1 h).1
  rw [take_ents h, D.jn_snoc _ (by
    intro hn
    have := congrArg List.length hn
    rw [List.length_map, List.length_take] at this
    simp at this
    rcases this with h0 | h0
    · exact hk h0
    · rw [h0] at hlt; simp at hlt), ← ha]
  subst hX hY
  have e1 : (⟨#[61]⟩ : ByteArray) = ⟨[61].toArray⟩ := rfl
  have e2 : (⟨#[44]⟩ : ByteArray) = ⟨[44].toArray⟩ := rfl
  rw [e1, e2, str_app, str_app, str_app, str_app]
  unfold D.ent
  simp

set_option maxHeartbeats 4000000 in
theorem rtext_any (v : Value) (es : List D.E) (w : World) (hr : Rde w v es) (hf : Fits es) :
    Calls Tryd.prog 14 #[.agg #[v]] w fun e w' => e = .returned (.string ⟨(D.txt es).toArray⟩) ∧ Below w.heap.size w w' := by
  have hlm : es.length ≤ 9223372036854775807 := by have := hr.len_le; unfold maxLen at this; omega
  have HCK := Lib.hid (fun w' (h : Below w.heap.size w w') => rcheck_any v es w' (hr.below h) hf)
  obtain ⟨ao, cap, rfl, h1, h2, h3, h4⟩ := hr
  obtain ⟨L, hL⟩ : ∃ L, es.length = L := ⟨_, rfl⟩
  have HL := Lib.hid hL
  have H4 := Lib.hid h4
  rw [hL] at hlm HCK ⊢
  clear hf h4 h1 h2 h3 hL
  cases hc : D.chk es
  · rw [hc] at HCK
    have E := Lib.hid (txt_bad hc)
    clear hc
    go_enter Tryd.func14, Tryd.ntmps14
    go_wp2_with (go_at_call 13; refine (HCK.out _ (below_alloc _ _)).mono ?_; rintro e w1 ⟨rfl, b1⟩; have B1 := Lib.hid b1; clear b1)
    go_ret
    exact ret_s E.out.symm (below_trans (below_alloc _ _) B1.out)
  · rw [hc] at HCK
    have E := Lib.hid (txt_good hc)
    have HA := Lib.hid (chk_all hc)
    have HN := Lib.hid (D.chk_len hc)
    clear hc
    go_enter Tryd.func14, Tryd.ntmps14
    go_wp2_with (go_at_call 13; refine (HCK.out _ (below_alloc _ _)).mono ?_; rintro e w1 ⟨rfl, b1⟩; have B1 := Lib.hid b1; have hbox := cell_later b1 (box_cell w 24 (.slice ao L cap)); clear b1)
    have HB1 := Lib.hid (below_trans (below_alloc _ _) B1.out)
    have HBX := Lib.hid hbox
    clear hbox B1 HCK
    go_loopw [3, 4] (fun s i wr => ∃ (k : Nat) (acc : List UInt8), i = .int .i64 (k : Int) ∧ k ≤ L ∧ s = .string ⟨acc.toArray⟩ ∧ acc.length ≤ 4624 ∧ Hid (Below w1.heap.size w1 wr) ∧ Hid (acc = D.jn ((es.take k).map D.ent))) (fun _ i _ => L - (intOf i).toNat)
    case atStart => exact ⟨0, [], rfl, Nat.zero_le _, rfl, by simp, Below.refl _ _, rfl⟩
    case round =>
      obtain ⟨k, acc, rfl, hk, rfl, hacc, HW, HO⟩ := hrel
      have hsa := str_size acc
      have hbox := cell_later HW.out HBX.out
      by_cases hlt : k < L
      · obtain ⟨e, he⟩ : ∃ e, es[k]? = some e := ⟨es[k]'(by have := HL.out; omega), List.getElem?_eq_getElem _⟩
        obtain ⟨b, off, rfl, c1, c2⟩ := H4.out k e he
        have hbwr := below_trans HB1.out HW.out
        have d1 := cell_later hbwr c1
        have d2 := cell_later hbwr c2
        unfold tv at d1 d2
        have hle := okE_len (HA.out.2 e (List.mem_of_getElem? he))
        have HNX : Hid ((D.jn ((es.take (k + 1)).map D.ent)).length ≤ 4624) := Lib.hid (ents_len ⟨by have := HN.out; rw [List.length_take]; omega, fun x hx => HA.out.2 x (List.mem_of_mem_take hx)⟩)
        have hEK := Lib.hid (fun x => rescape_any e.1 (by omega) x)
        have hEV := Lib.hid (fun x => rescape_any e.2 (by omega) x)
        have l1 := D.escL_len e.1
        have l2 := D.escL_len e.2
        have s1 := str_size (D.escL e.1)
        have s2 := str_size (D.escL e.2)
        obtain ⟨K, hK⟩ : ∃ K, (⟨e.1.toArray⟩ : ByteArray) = K := ⟨_, rfl⟩
        obtain ⟨V, hV⟩ : ∃ V, (⟨e.2.toArray⟩ : ByteArray) = V := ⟨_, rfl⟩
        obtain ⟨X, hX⟩ : ∃ X, (⟨(D.escL e.1).toArray⟩ : ByteArray) = X := ⟨_, rfl⟩
        obtain ⟨Y, hY⟩ : ∃ Y, (⟨(D.escL e.2).toArray⟩ : ByteArray) = Y := ⟨_, rfl⟩
        have HTF := Lib.hid (fun (h0 : k = 0) => text_first (h0 ▸ he) hX hY (h0 ▸ HO.out))
        have HTN := Lib.hid (fun (h0 : k ≠ 0) => text_next he h0 hX hY HO.out)
        rw [hK] at d1 hEK
        rw [hV] at d2 hEV
        rw [hX] at hEK s1
        rw [hY] at hEV s2
        have x1 : X.size ≤ 192 := by omega
        have x2 : Y.size ≤ 384 := by omega
        obtain ⟨S0, hS0⟩ : ∃ S0, (⟨acc.toArray⟩ : ByteArray) = S0 := ⟨_, rfl⟩
        rw [hS0] at hsa HTF HTN ⊢
        have hs0 : S0.size ≤ 4624 := by omega
        have g0 : (k : Int) < (L : Int) := by omega
        clear c1 c2 he hbwr hle l1 l2 s1 s2 hK hV hX hY hsa
        by_cases hk0 : k = 0
        · have HT := Lib.hid (HTF.out hk0)
          rw [show (0 : Nat) + 1 = k + 1 by omega] at HT
          have hkz : ¬ (0 : Int) < (k : Int) := by omega
          clear HTF HTN hk0
          have f1 : ¬ 9223372036854775807 < S0.size + X.size := by omega
          have f2 : ¬ 9223372036854775807 < S0.size + X.size + 1 := by omega
          have f3 : ¬ 9223372036854775807 < S0.size + X.size + 1 + Y.size := by omega
          go_wp2_with fail
          go_region_held3 (fun x => x.cell? ⟨w.heap.size, 0, none⟩ = some (.slice (some ⟨b, off, none⟩) L cap) ∧ x.cell? ⟨b, off + k * 2, none⟩ = some (.string K) ∧ x.cell? ⟨b, off + k * 2 + 1, none⟩ = some (.string V)) (first | exact ⟨hbox, d1, d2⟩ | exact ⟨q0, q1, q2⟩ | exact ⟨r0, r1, r2⟩) (first
            | (go_at_call 20; refine (hEV.out w2).mono ?_; rintro e w3 ⟨rfl, b3⟩; have B3 := Lib.hid (below_trans B2.out b3); have r0 := cell_later b3 q0; have r1 := cell_later b3 q1; have r2 := cell_later b3 q2; clear b3)
            | (go_at_call 20; refine (hEK.out _).mono ?_; rintro e w2 ⟨rfl, b2⟩; have B2 := Lib.hid (below_undrew b2); have q0 := cell_later B2.out hbox; have q1 := cell_later B2.out d1; have q2 := cell_later B2.out d2; clear b2))
          clear q0 q1 q2 r0 r1 r2 hbox d1 d2
          go_wp2
          go_roundw
          case rel => exact ⟨k + 1, _, by go_num, by omega, congrArg Value.string HT.out, HNX.out, HW.out.trans (B3.out.mono HW.out.size), rfl⟩
          case measure => simp [intOf]; omega
        · have HT := Lib.hid (HTN.out hk0)
          have hkz : (0 : Int) < (k : Int) := by omega
          have f0 : ¬ 9223372036854775807 < S0.size + 1 := by omega
          clear HTF HTN hk0
          have f1 : ¬ 9223372036854775807 < S0.size + 1 + X.size := by omega
          have f2 : ¬ 9223372036854775807 < S0.size + 1 + X.size + 1 := by omega
          have f3 : ¬ 9223372036854775807 < S0.size + 1 + X.size + 1 + Y.size := by omega
          go_wp2_with fail
          go_region_held3 (fun x => x.cell? ⟨w.heap.size, 0, none⟩ = some (.slice (some ⟨b, off, none⟩) L cap) ∧ x.cell? ⟨b, off + k * 2, none⟩ = some (.string K) ∧ x.cell? ⟨b, off + k * 2 + 1, none⟩ = some (.string V)) (first | exact ⟨hbox, d1, d2⟩ | exact ⟨q0, q1, q2⟩ | exact ⟨r0, r1, r2⟩) (first
            | (go_at_call 20; refine (hEV.out w2).mono ?_; rintro e w3 ⟨rfl, b3⟩; have B3 := Lib.hid (below_trans B2.out b3); have r0 := cell_later b3 q0; have r1 := cell_later b3 q1; have r2 := cell_later b3 q2; clear b3)
            | (go_at_call 20; refine (hEK.out _).mono ?_; rintro e w2 ⟨rfl, b2⟩; have B2 := Lib.hid (below_undrew b2); have q0 := cell_later B2.out hbox; have q1 := cell_later B2.out d1; have q2 := cell_later B2.out d2; clear b2))
          clear q0 q1 q2 r0 r1 r2 hbox d1 d2
          go_wp2
          go_roundw
          case rel => exact ⟨k + 1, _, by go_num, by omega, congrArg Value.string HT.out, HNX.out, HW.out.trans (B3.out.mono HW.out.size), rfl⟩
          case measure => simp [intOf]; omega
      · have g0 : ¬ (k : Int) < (L : Int) := by omega
        have ET := Lib.hid (show acc = D.txt es by rw [HO.out, E.out, List.take_of_length_le (by have := HL.out; omega)])
        go_wp2
        go_ret
        exact ret_s ET.out (below_trans HB1.out HW.out)
end Go.Proofs.YtepnjhhpnabpnaaDoor
