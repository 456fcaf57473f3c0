/- Walks of desc.Escape and of the document's own. -/
import Derived.Test.YtepnjhhpnabpnaaDoorDsP
import Derived.Deep.AppendLies
namespace Go.Proofs.YtepnjhhpnabpnaaDoor
open Go.RowKit

theorem Tryd.info_u8 : (Tryd.prog.info? 5).map (fun i => (i.zero, i.size, i.bytes)) = some (some (.int .u8 0), 1, 1) := by kernel_rfl
theorem esc_plain {c : UInt8} (h : D.pl c = true) : D.esc c = [c] := by unfold D.esc; rw [if_pos h]
theorem esc_other {c : UInt8} (h : D.pl c = false) : D.esc c = [37, D.hx (c.toNat / 16), D.hx (c.toNat % 16)] := by unfold D.esc; rw [h]; rfl
theorem and15 {c : UInt8} : bits .and .u8 (c.toNat : Int) 15 = ((c.toNat % 16 : Nat) : Int) :=
  D.all256 (p := fun c => bits .and .u8 (c.toNat : Int) 15 = ((c.toNat % 16 : Nat) : Int)) (by decide +kernel) c
/-- The k-th of the sixteen signs. -/
theorem hex_at (n : Nat) (h : n < (⟨#[48, 49, 50, 51, 52, 53, 54, 55, 56, 57, 65, 66, 67, 68, 69, 70]⟩ : ByteArray).size) : (⟨#[48, 49, 50, 51, 52, 53, 54, 55, 56, 57, 65, 66, 67, 68, 69, 70]⟩ : ByteArray)[n]'h = D.hx n := by
  have h1 : n < 16 := h
  have : ∀ n : Fin 16, (⟨#[48, 49, 50, 51, 52, 53, 54, 55, 56, 57, 65, 66, 67, 68, 69, 70]⟩ : ByteArray)[n.val]'n.isLt = D.hx n.val := by decide +kernel
  exact this ⟨n, h1⟩
theorem three_rd {w : World} {e : TypeId} {X Y : Int} {a b : UInt8} (h : X = (a.toNat : Int)) (h2 : Y = (b.toNat : Int)) : Rdv (w.alloc (.cells #[.int .u8 37, .int .u8 X, .int .u8 Y] e)) (.slice (some ⟨w.heap.size, 0, none⟩) 3 3) (bv [37, a, b]) := by
  subst h h2
  exact (Own.lit (base := 0) w (e := e) (bv [37, a, b]) (Nat.zero_le _) (by simp [bv, maxLen])).rd

/-- 'append(s, x...)' of bytes, at a step of a region that draws. -/
theorem step_append_bytes {P : Program} {w : World} {ops : Array Oper} {o : Oper} {a : Act} {K : Act → World → Prop} {Q : Exit → Act → World → Prop} {E : Prop} (hgd : o.guard = none) (s x : Operand) (t : TypeId)
    (ho : o.op = .call { callee := .builtin .append, args := #[s, x], argTypes := #[t, t] })
    (base : Nat) (e : TypeId) (ht : P.underlying t = some (.slice e)) (hinfo : (P.info? e).map (fun i => (i.zero, i.size, i.bytes)) = some (some (.int .u8 0), 1, 1))
    {v vx : Value} {xs news : List UInt8} (hs : a.eval s = v) (hown : Own w base e v (bv xs)) (hx : a.eval x = vx) (hrd : Rdv w vx (bv news)) (hne : 0 < news.length)
    (hlen : xs.length + news.length ≤ 140737488355328) (hbase : base ≤ w.heap.size)
    (h : ∀ g cap w', Own w' base e (.slice (some ⟨g, 0, none⟩) (xs.length + news.length) cap) (bv (xs ++ news)) → Below base w w' → K (a.put o.dst (.slice (some ⟨g, 0, none⟩) (xs.length + news.length) cap)) w') :
    if Region.wanted o (yielded ops a.tmps) = true then Oper.wp P o a w K Q else E := by
  obtain ⟨i, hi, hz0, hz1, hz2⟩ := info_parts hinfo
  obtain ⟨b, off, cap, rfl, _, hc⟩ := hrd.at hne
  refine step_append_lies _ hgd s x t ho base e i (.int .u8 0) 1 1 ht hi hz0 hz1 hz2 rfl (by decide) v (bv xs).length (bv xs) hs hown ⟨b, off, none⟩ news.length cap (bv news) hx (by simp [bv_len]) ?_ bv_one hne (by rw [bv_len]; unfold maxLen; omega) (by rw [bv_len]; omega) hbase _ rfl ?_
  · intro j u hu
    have hj : j < news.length := by
      have := (List.getElem?_eq_some_iff.1 hu).1
      rwa [bv_len] at this
    rw [bv_get hj] at hu
    rw [Addr.add_lit, hc j hj, ← hu]
  · intro g cap' w' ho' hg _ _
    rw [bv_len] at ho' ⊢
    refine h g cap' w' ?_ (below_of_grown hown hg hbase)
    show w'.ownsRow base e 1 _ (bv (xs ++ news)).length (bv (xs ++ news))
    rw [bv_len, bv_app, List.length_append]; exact ho'

set_option maxHeartbeats 2000000 in
theorem escape_any (l : List UInt8) (hl : l.length ≤ 3000) (w : World) (hp : PlainIs w) :
    Calls Tryd.prog 19 #[.string ⟨l.toArray⟩] w fun e w' => e = .returned (.string ⟨(D.escL l).toArray⟩) ∧ Below w.heap.size w w' := by
  have hsz := str_size l
  have hlen := fun k => D.escL_len (l.take k)
  obtain ⟨L, hLI⟩ : ∃ L : Nat, l.length = L := ⟨_, rfl⟩
  rw [hLI] at hsz
  have hl9 : L ≤ 3000 := by omega
  obtain ⟨W, cap, hcv, hbw, hcell⟩ := bytes_of l w
  rw [hLI] at hcv
  have HB := Lib.hid hbw
  have HC := Lib.hid hcell
  have HL := Lib.hid hLI
  have HP := Lib.hid (hp.below hbw)
  have HN := Lib.hid hlen
  have hcs := fun (v : Value) (w' : World) (bs : List UInt8) (h : Rdv w' v (bv bs)) => run_string_rd (P := Tryd.prog) 46 5 9 Tryd.underlying46 Tryd.underlying5 Tryd.underlying9 h
  have HCS := Lib.hid hcs
  clear hbw hcell hl hLI hp hlen hcs
  go_enter Tryd.func19, Tryd.ntmps19
  go_wp2
  go_loopw [3, 9] (fun b i wr => ∃ (k : Nat), k ≤ L ∧ i = .int .i64 (k : Int) ∧ Hid (Below W.heap.size W wr) ∧ Hid (Own wr W.heap.size 5 b (bv (D.escL (l.take k))))) (fun _ i _ => L - (intOf i).toNat)
  case atStart => exact ⟨0, Nat.zero_le _, rfl, Below.refl _ _, Own.nil _ _ _⟩
  case round =>
    obtain ⟨k, hk, rfl, HW, HO⟩ := hrel
    have HK := Lib.hid (HN.out k)
    by_cases hlt : k < L
    · obtain ⟨c, hc⟩ : ∃ c, l[k]? = some c := ⟨l[k]'(by have := HL.out; omega), List.getElem?_eq_getElem _⟩
      have hcl : wr.cell? ⟨w.heap.size, k, none⟩ = some (.int .u8 (c.toNat : Int)) := (HW.out.cell (cell_lt (HC.out k c hc))).trans (HC.out k c hc)
      have HIP := Lib.hid (isPlain_any c wr (HP.out.below HW.out))
      have HE := Lib.hid (D.escL_take hc)
      have hub := c.toNat_lt
      have HD : Hid ((D.escL (l.take k)).length ≤ 9000) := by
        have h1 := HK.out
        rw [List.length_take] at h1
        show _ ≤ _
        omega
      obtain ⟨z, hz⟩ : ∃ z : Int, (c.toNat : Int) = z := ⟨_, rfl⟩
      have HZ := Lib.hid hz
      rw [hz] at hcl HIP
      have hz0 : 0 ≤ z := by omega
      have hz1 : z < 256 := by omega
      clear hc hz hub
      cases hpl : D.pl c
      · rw [hpl] at HIP
        have HF := Lib.hid (esc_other hpl)
        clear hpl
        go_wp2_with (go_at_call 28; refine (HIP.out).mono ?_; rintro e w1 ⟨rfl, b1⟩; have B1 := Lib.hid b1; clear b1)
        obtain ⟨A, hA⟩ : ∃ A : Nat, c.toNat / 16 = A := ⟨_, rfl⟩
        obtain ⟨B, hB⟩ : ∃ B : Nat, c.toNat % 16 = B := ⟨_, rfl⟩
        rw [hA, hB] at HF
        have hub := c.toNat_lt
        have hzz := HZ.out
        have q1 : z / 16 = (A : Int) := by omega
        have q2 : bits .and .u8 z 15 = (B : Int) := by rw [← hzz, and15, hB]
        have hA16 : A < 16 := by omega
        have hB16 : B < 16 := by omega
        have hA16' : (A : Int) < 16 := by omega
        have hB16' : (B : Int) < 16 := by omega
        have x1 := hex_at A hA16
        have x2 := hex_at B hB16
        clear hA hB hub hzz
        have hbase : Hid (W.heap.size ≤ w1.heap.size) := by have := HW.out.size; have := B1.out.size; show _ ≤ _; omega
        have HO1 := Lib.hid (HO.out.below B1.out)
        clear hcl HIP
        go_region_law (refine step_append_bytes (news := [37, D.hx A, D.hx B]) rfl (.tmp 19) (.tmp 26) 46 rfl W.heap.size 5 Tryd.underlying46 Tryd.info_u8 (by rfl) ((HO1.out.below (below_drew _)).alloc _) (by rfl) (three_rd rfl rfl) (by simp) (by have := HD.out; simp; omega) (by have := hbase.out; simp; omega) ?_; intro g cap3 w3 ho3 hb3)
        all_goals
          have O3 := Lib.hid ho3
          have B3 := Lib.hid hb3
          clear ho3 hb3
          go_wp2
          go_roundw
        all_goals first
          | exact ⟨k + 1, by omega, by go_num, HW.out.trans ((B1.out.mono HW.out.size).trans ((((Below.refl _ w1).alloc hbase.out _).drew).trans B3.out)), by show Own _ _ _ _ _; rw [HE.out, HF.out]; exact O3.out⟩
          | (simp [intOf]; omega)
      · rw [hpl] at HIP
        have HF := Lib.hid (esc_plain hpl)
        clear hpl
        go_wp2_with (first
          | (go_at_call 28; refine (HIP.out).mono ?_; rintro e w1 ⟨rfl, b1⟩; have B1 := Lib.hid b1; clear b1)
          | (at_builtin; refine wpList_append_bytes rfl (.tmp 15) (.tmp 17) 46 rfl W.heap.size 5 Tryd.underlying46 Tryd.info_u8 (by rfl) ((HO.out.below B1.out).alloc _) (by rfl) (one_rd (b := c) HZ.out.symm) (by have := HD.out; simp; omega) (by have := HW.out.size; have := B1.out.size; simp; omega) ?_; intro v3 w3 ho3 hg3 hb3; have O3 := Lib.hid ho3; have B3 := Lib.hid hb3; clear ho3 hg3 hb3))
        go_roundw
        case rel => exact ⟨k + 1, by omega, by go_num, HW.out.trans ((B1.out.mono HW.out.size).trans (((Below.refl _ w1).alloc (by have := HW.out.size; have := B1.out.size; omega) _).trans B3.out)), by show Own _ _ _ _ _; rw [HE.out, HF.out]; exact O3.out⟩
        case measure => simp [intOf]; omega
    · have E := Lib.hid (show D.escL (l.take k) = D.escL l by rw [List.take_of_length_le (by have := HL.out; omega)])
      have hcv2 := HCS.out _ _ _ HO.out.rd
      rw [E.out] at hcv2
      go_wp2
      go_ret
      exact ⟨rfl, HB.out.trans (HW.out.mono HB.out.size)⟩

theorem cut_one {l : List UInt8} {k : Nat} {c : UInt8} (h : l[k]? = some c) : (⟨l.toArray⟩ : ByteArray).extract k (k + 1) = ⟨#[c]⟩ := by
  have hk : k < l.length := (List.getElem?_eq_some_iff.1 h).1
  rw [ByteArray.extract_mk]
  rw [show k + 1 - k = 1 by omega, List.drop_eq_getElem_cons hk]
  rw [List.getElem?_eq_getElem hk] at h
  rw [Option.some.inj h]; rfl
theorem hex_cut (n : Nat) (h : n < 16) : (⟨#[48, 49, 50, 51, 52, 53, 54, 55, 56, 57, 65, 66, 67, 68, 69, 70]⟩ : ByteArray).extract n (n + 1) = ⟨#[D.hx n]⟩ := by
  have e : (⟨#[48, 49, 50, 51, 52, 53, 54, 55, 56, 57, 65, 66, 67, 68, 69, 70]⟩ : ByteArray) = ⟨D.hxL.toArray⟩ := rfl
  rw [e]
  apply cut_one
  unfold D.hx
  have : n < D.hxL.length := h
  rw [List.getD_eq_getElem?_getD, List.getElem?_eq_getElem this]; rfl
theorem hex_sl (n : Nat) (h : n < 16) (w : World) : (Instr.slice 9 (.string ⟨#[48, 49, 50, 51, 52, 53, 54, 55, 56, 57, 65, 66, 67, 68, 69, 70]⟩) (some (.int .u8 (n : Int))) (some (.int .u8 ((n : Int) + 1))) none).run Tryd.prog w = .ok (.string ⟨#[D.hx n]⟩) w := by
  have hs : (⟨#[48, 49, 50, 51, 52, 53, 54, 55, 56, 57, 65, 66, 67, 68, 69, 70]⟩ : ByteArray).size = 16 := rfl
  have := run_slice_string (P := Tryd.prog) (w := w) 9 ⟨#[48, 49, 50, 51, 52, 53, 54, 55, 56, 57, 65, 66, 67, 68, 69, 70]⟩ .u8 .u8 (n : Int) ((n : Int) + 1) Tryd.underlying9 (by omega) (by omega) (by omega)
  rw [show ((n : Int) + 1).toNat = n + 1 by omega, Int.toNat_natCast, hex_cut n h] at this
  exact this
theorem pl_parts (c : UInt8) : D.pl c = (letB c || digB c || (c.toNat == 45) || (c.toNat == 95) || (c.toNat == 46) || (c.toNat == 47) || (c.toNat == 58)) := by
  unfold D.pl letB digB
  rw [Bool.eq_iff_iff]
  simp only [Bool.or_eq_true, decide_eq_true_eq, beq_iff_eq]
  omega
theorem esc_str1 (a : List UInt8) (c : UInt8) : (⟨a.toArray⟩ : ByteArray) ++ ⟨#[c]⟩ = ⟨(a ++ [c]).toArray⟩ := str_app a [c]
theorem esc_str3 (a : List UInt8) (c d : UInt8) : (⟨a.toArray⟩ : ByteArray) ++ ⟨#[37]⟩ ++ ⟨#[c]⟩ ++ ⟨#[d]⟩ = ⟨(a ++ [37, c, d]).toArray⟩ := by
  rw [esc_str1, esc_str1, esc_str1]; simp

set_option maxHeartbeats 2000000 in
theorem rescape_any (l : List UInt8) (hl : l.length ≤ 3000) (w : World) :
    Calls Tryd.prog 20 #[.string ⟨l.toArray⟩] w fun e w' => e = .returned (.string ⟨(D.escL l).toArray⟩) ∧ Below w.heap.size w w' := by
  have hsz := str_size l
  have hlen := fun k => D.escL_len (l.take k)
  obtain ⟨L, hLI⟩ : ∃ L : Nat, l.length = L := ⟨_, rfl⟩
  rw [hLI] at hsz
  have hl9 : L ≤ 3000 := by omega
  have HL := Lib.hid hLI
  have HN := Lib.hid hlen
  clear hl hLI hlen
  go_enter Tryd.func20, Tryd.ntmps20
  go_wp2
  go_loopw [3, 4] (fun b i wr => ∃ (k : Nat) (acc : List UInt8), k ≤ L ∧ i = .int .i64 (k : Int) ∧ b = .string ⟨acc.toArray⟩ ∧ acc.length ≤ 9000 ∧ Hid (acc = D.escL (l.take k)) ∧ Hid (Below w.heap.size w wr)) (fun _ i _ => L - (intOf i).toNat)
  case atStart => exact ⟨0, [], Nat.zero_le _, rfl, rfl, by simp, by show _ = _; simp [D.escL], Below.refl _ _⟩
  case round =>
    obtain ⟨k, acc, hk, rfl, rfl, hacc, HA, HW⟩ := hrel
    have hsa := str_size acc
    by_cases hlt : k < L
    · obtain ⟨c, hc⟩ : ∃ c, l[k]? = some c := ⟨l[k]'(by have := HL.out; omega), List.getElem?_eq_getElem _⟩
      have HE := Lib.hid (D.escL_take hc)
      have HLE := Lib.hid (fun w => letter_any c w)
      have HDG := Lib.hid (fun w => digit_any c w)
      have hkL : k < (⟨l.toArray⟩ : ByteArray).size := by omega
      have hub := c.toNat_lt
      have HAC : Hid ((acc ++ D.esc c).length ≤ 9000) := by
        have h1 := HN.out (k + 1)
        rw [HE.out, ← HA.out, List.length_take] at h1
        show _ ≤ _
        omega
      have hx := cut_one hc
      have hsl : ∀ w, (Instr.slice 9 (.string ⟨l.toArray⟩) (some (.int .i64 (k : Int))) (some (.int .i64 ((k : Int) + 1))) none).run Tryd.prog w = .ok (.string ⟨#[c]⟩) w := fun w => by
        have := run_slice_string (P := Tryd.prog) (w := w) 9 ⟨l.toArray⟩ .i64 .i64 (k : Int) ((k : Int) + 1) Tryd.underlying9 (by omega) (by omega) (by omega)
        rw [show ((k : Int) + 1).toNat = k + 1 by omega, Int.toNat_natCast, hx] at this
        exact this
      have hpp := pl_parts c
      obtain ⟨z, hz⟩ : ∃ z : Int, (c.toNat : Int) = z := ⟨_, rfl⟩
      have hi := at_z hc hz hkL
      have HZ := Lib.hid hz
      rw [hz] at HLE HDG
      have hz0 : 0 ≤ z := by omega
      have hz1 : z < 256 := by omega
      have t45 : (c.toNat == 45) = (z == 45) := by rw [Bool.eq_iff_iff]; simp; omega
      have t95 : (c.toNat == 95) = (z == 95) := by rw [Bool.eq_iff_iff]; simp; omega
      have t46 : (c.toNat == 46) = (z == 46) := by rw [Bool.eq_iff_iff]; simp; omega
      have t47 : (c.toNat == 47) = (z == 47) := by rw [Bool.eq_iff_iff]; simp; omega
      have t58 : (c.toNat == 58) = (z == 58) := by rw [Bool.eq_iff_iff]; simp; omega
      rw [t45, t95, t46, t47, t58] at hpp
      clear t45 t95 t46 t47 t58
      generalize letB c = b1 at hpp HLE
      generalize digB c = b2 at hpp HDG
      clear hc hz hub
      cases hpl : D.pl c
      · have HF := Lib.hid (esc_other hpl)
        rw [hpl] at hpp
        obtain ⟨⟨⟨⟨⟨⟨rfl, rfl⟩, e45⟩, e95⟩, e46⟩, e47⟩, e58⟩ : ((((((b1 = false ∧ b2 = false) ∧ (z == 45) = false) ∧ (z == 95) = false) ∧ (z == 46) = false) ∧ (z == 47) = false) ∧ (z == 58) = false) := by
          simpa [Bool.or_eq_false_iff] using hpp.symm
        obtain ⟨A, hA⟩ : ∃ A : Nat, c.toNat / 16 = A := ⟨_, rfl⟩
        obtain ⟨B, hB⟩ : ∃ B : Nat, c.toNat % 16 = B := ⟨_, rfl⟩
        rw [hA, hB] at HF
        have hub := c.toNat_lt
        have hzz := HZ.out
        have q1 : z / 16 = (A : Int) := by omega
        have q2 : z % 16 = (B : Int) := by omega
        have q3 : z.tmod 16 = (B : Int) := by rw [Int.tmod_eq_emod_of_nonneg hz0]; exact q2
        have q4 : z.tdiv 16 = (A : Int) := by rw [Int.tdiv_eq_ediv_of_nonneg hz0]; exact q1
        have hA16 : A < 16 := by omega
        have hB16 : B < 16 := by omega
        have hA16' : (A : Int) < 16 := by omega
        have hB16' : (B : Int) < 16 := by omega
        have x1 : ∀ w, (Instr.slice 9 (.string ⟨#[48, 49, 50, 51, 52, 53, 54, 55, 56, 57, 65, 66, 67, 68, 69, 70]⟩) (some (.int .u8 (A : Int))) (some (.int .u8 ((A : Int) + 1))) none).run Tryd.prog w = .ok (.string ⟨#[D.hx A]⟩) w := hex_sl A hA16
        have x2 : ∀ w, (Instr.slice 9 (.string ⟨#[48, 49, 50, 51, 52, 53, 54, 55, 56, 57, 65, 66, 67, 68, 69, 70]⟩) (some (.int .u8 (B : Int))) (some (.int .u8 ((B : Int) + 1))) none).run Tryd.prog w = .ok (.string ⟨#[D.hx B]⟩) w := hex_sl B hB16
        clear hsl hx
        clear hA hB hub hzz hpl hpp
        go_wp2_with (first | (go_at_call 29; refine (HLE.out _).mono ?_; rintro e w1 ⟨rfl, rfl⟩) | (go_at_call 30; refine (HDG.out _).mono ?_; rintro e w1 ⟨rfl, rfl⟩))
        go_region
        all_goals
          go_wp2
          go_roundw
          case rel => exact ⟨k + 1, acc ++ [37, D.hx A, D.hx B], by omega, by go_num, by rw [← esc_str3], by have := HAC.out; rw [HF.out] at this; exact this, by show _ = _; rw [HE.out, HF.out, ← HA.out], HW.out.trans ((below_drew _).mono HW.out.size)⟩
          case measure => simp [intOf]; omega
      · have HF := Lib.hid (esc_plain hpl)
        rw [hpl] at hpp
        have hall : b1 = true ∨ (b1 = false ∧ b2 = true) ∨ (b1 = false ∧ b2 = false ∧ (z == 45) = true) ∨ (b1 = false ∧ b2 = false ∧ (z == 45) = false ∧ (z == 95) = true) ∨ (b1 = false ∧ b2 = false ∧ (z == 45) = false ∧ (z == 95) = false ∧ (z == 46) = true) ∨ (b1 = false ∧ b2 = false ∧ (z == 45) = false ∧ (z == 95) = false ∧ (z == 46) = false ∧ (z == 47) = true) ∨ (b1 = false ∧ b2 = false ∧ (z == 45) = false ∧ (z == 95) = false ∧ (z == 46) = false ∧ (z == 47) = false ∧ (z == 58) = true) := by
          revert hpp
          cases b1 <;> cases b2 <;> cases (z == 45) <;> cases (z == 95) <;> cases (z == 46) <;> cases (z == 47) <;> cases (z == 58) <;> simp
        clear hpp hpl
        rcases hall with rfl | ⟨rfl, rfl⟩ | ⟨rfl, rfl, e45⟩ | ⟨rfl, rfl, e45, e95⟩ | ⟨rfl, rfl, e45, e95, e46⟩ | ⟨rfl, rfl, e45, e95, e46, e47⟩ | ⟨rfl, rfl, e45, e95, e46, e47, e58⟩
        all_goals
          go_wp2_with (first | (go_at_call 29; refine (HLE.out _).mono ?_; rintro e w1 ⟨rfl, rfl⟩) | (go_at_call 30; refine (HDG.out _).mono ?_; rintro e w1 ⟨rfl, rfl⟩))
          go_roundw
          case rel => exact ⟨k + 1, acc ++ [c], by omega, by go_num, by rw [← esc_str1], by have := HAC.out; rw [HF.out] at this; exact this, by show _ = _; rw [HE.out, HF.out, ← HA.out], HW.out⟩
          case measure => simp [intOf]; omega
    · have E := Lib.hid (show acc = D.escL l by rw [HA.out, List.take_of_length_le (by have := HL.out; omega)])
      go_wp2
      go_ret
      exact ret_s E.out HW.out
end Go.Proofs.YtepnjhhpnabpnaaDoor
