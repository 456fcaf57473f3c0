/- Several texts in one. -/
import Derived.Test.YtmgalfdiiegjjaaGreatDoorShC8
import Derived.Test.YtmgalfdiiegjjaaGreatDoorSeg11
import Derived.Test.YtmgalfdiiegjjaaGreatDoorSeg01
import Derived.Maps.OwnOps
import Derived.Maps.Views
import Derived.Test.YtmgalfdiiegjjaaGreatDoorSeg24
import Derived.Test.YtmgalfdiiegjjaaGreatDoorLnS
import Derived.Test.YtmgalfdiiegjjaaGreatDoorSeg12
import Derived.Deep.LoopGhost
namespace Go.Proofs.YtmgalfdiiegjjaaGreatDoor
open Go.RowKit

set_option maxRecDepth 10000 in
set_option maxHeartbeats 16000000 in
theorem wquoted_any (S : List UInt8) {w0 wa w : World} {p : Nat} {v ov : Value} {bs : List UInt8} (h : Wrs w0 wa w p v ov bs) (hs : S.length ≤ 10000) (hl : bs.length ≤ 800000000) :
    Calls Tryz.prog 90 #[.pointer (some ⟨p, 0, none⟩), .string ⟨S.toArray⟩] w (WrE w0 wa p v (bs ++ LX.quo S)) := by
  have hsz := str_size S
  obtain ⟨n, hn⟩ : ∃ n, S.length = n := ⟨_, rfl⟩
  have HN := Lib.hid hn
  rw [hn] at hsz hs
  have HL := Lib.hid hl
  have HP := Lib.hid (wput_any h [34] (by simp; omega))
  clear hn h hl
  go_enter Tryz.func90, Tryz.ntmps90
  go_wp2_with (go_at_call 91; refine HP.out.mono ?_; rintro e w2 ⟨rfl, ov2, s2⟩; have S2 := Lib.hid s2; clear s2)
  go_loopg [9] n (fun g s9 wx => ∃ (i : Nat) (u : Value), i + g = n ∧ s9 = .int .i64 (i : Int) ∧ Hid (Wrs w0 wa wx p v u (bs ++ quf S i)))
  case atStart => exact ⟨0, ov2, by omega, rfl, S2⟩
  case round =>
    clear S2 HP
    obtain ⟨i, u, hi, rfl, H⟩ := hrel
    have HQ := Lib.hid (quf_len S i)
    cases gk with
    | zero =>
      obtain rfl : i = n := by omega
      have HP := Lib.hid (wput_any H.out [34] (by have := HQ.out; have := HL.out; rw [List.length_append]; simp; omega))
      rw [List.append_assoc, quf_end S HN.out] at HP
      go_wp2_with (go_at_call 91; refine HP.out.mono ?_; rintro e w2 ⟨rfl, ov2, s2⟩; have S2 := Lib.hid s2; clear s2)
      go_end0
      exact ⟨rfl, _, S2.out⟩
    | succ g =>
      have hin : (i : Int) < (n : Int) := by omega
      obtain ⟨c, hc⟩ : ∃ c, S[i]? = some c := ⟨S[i]'(by have := HN.out; omega), List.getElem?_eq_getElem _⟩
      have hil : i < (⟨S.toArray⟩ : ByteArray).size := by omega
      obtain ⟨z, hz⟩ : ∃ z : Int, (c.toNat : Int) = z := ⟨_, rfl⟩
      have hiz := at_z hc hz hil
      have HSG := Lib.hid (wsign_any c z hz H.out (by have := HQ.out; have := HL.out; rw [List.length_append]; omega))
      rw [List.append_assoc, ← quf_next hc] at HSG
      clear hc hz
      go_wp2_with (go_at_call 131; refine HSG.out.mono ?_; rintro e w2 ⟨rfl, ov2, s2⟩; have S2 := Lib.hid s2; clear s2)
      go_roundg g
      case rel => exact ⟨i + 1, ov2, by omega, by first | rfl | (simp; done), S2⟩
      case measure => omega
set_option maxRecDepth 10000 in
set_option maxHeartbeats 16000000 in
theorem wtext_any (kd ln : Int) (S : List UInt8) (q : Bool) (va vi : Value) {w0 wa w : World} {p : Nat} {v ov : Value} {bs : List UInt8} (h : Wrs w0 wa w p v ov bs) (hs : S.length ≤ 10000) (hl : bs.length ≤ 700000000)
    (hva : ∃ a m c, va = .slice a m c) (hvi : ∃ a m c, vi = .slice a m c) :
    Calls Tryz.prog 60 #[.pointer (some ⟨p, 0, none⟩), .agg #[.int .i64 kd, .int .i64 ln, .string ⟨S.toArray⟩, .bool q, va, vi]] w (WrE w0 wa p v (bs ++ (SH.wr S q ++ [10]))) := by
  obtain ⟨ka, kn, kc, rfl⟩ := hva
  obtain ⟨ia, im, ic, rfl⟩ := hvi
  have H := Lib.hid (h.calm (below_alloc w (.cells #[.int .i64 kd, .int .i64 ln, .string ⟨S.toArray⟩, .bool q, .slice ka kn kc, .slice ia im ic] 50)))
  have HQ : Hid ((SH.wr S q).length ≤ 4 * S.length + 2) := by
    show _ ≤ _
    unfold SH.wr
    split
    · exact LX.quo_len S
    · omega
  have HL := Lib.hid hl
  have HS := Lib.hid hs
  clear h hl hs
  cases q with
  | true =>
    have HP := Lib.hid (wquoted_any S H.out HS.out (by have := HL.out; omega))
    rw [← List.append_assoc]
    rw [show SH.wr S true = LX.quo S from rfl] at HQ ⊢
    have HN : Hid (∀ (u : World) (o : Value), Wrs w0 wa u p v o (bs ++ LX.quo S) → Calls Tryz.prog 91 #[.pointer (some ⟨p, 0, none⟩), .string ⟨#[10]⟩] u (WrE w0 wa p v (bs ++ LX.quo S ++ [10]))) := fun u o hu => wput_any hu [10] (by have := HQ.out; have := HL.out; have := HS.out; rw [List.length_append]; simp; omega)
    go_enter Tryz.func60, Tryz.ntmps60
    go_wp2_with (first
      | (go_at_call 91; refine (HN.out _ _ S2.out).mono ?_; rintro e w3 ⟨rfl, ov3, s3⟩; have S3 := Lib.hid s3; clear s3)
      | (go_at_call 90; refine HP.out.mono ?_; rintro e w2 ⟨rfl, ov2, s2⟩; have S2 := Lib.hid s2; clear s2))
    go_end0
    exact ⟨rfl, _, S3.out⟩
  | false =>
    have HP := Lib.hid (wput_any H.out S (by have := HL.out; have := HS.out; omega))
    rw [← List.append_assoc]
    rw [show SH.wr S false = S from rfl] at HQ ⊢
    have HN : Hid (∀ (u : World) (o : Value), Wrs w0 wa u p v o (bs ++ S) → Calls Tryz.prog 91 #[.pointer (some ⟨p, 0, none⟩), .string ⟨#[10]⟩] u (WrE w0 wa p v (bs ++ S ++ [10]))) := fun u o hu => wput_any hu [10] (by have := HQ.out; have := HL.out; have := HS.out; rw [List.length_append]; simp; omega)
    go_enter Tryz.func60, Tryz.ntmps60
    go_wp2_with (first
      | (go_at_call 91; refine (HN.out _ _ S2.out).mono ?_; rintro e w3 ⟨rfl, ov3, s3⟩; have S3 := Lib.hid s3; clear s3)
      | (go_at_call 91; refine HP.out.mono ?_; rintro e w2 ⟨rfl, ov2, s2⟩; have S2 := Lib.hid s2; clear s2))
    go_end0
    exact ⟨rfl, _, S3.out⟩
end Go.Proofs.YtmgalfdiiegjjaaGreatDoor

/- A set of texts by a map of bools. -/
namespace Go.Proofs.YtmgalfdiiegjjaaGreatDoor
open Go.RowKit Go.Maps Go.WideMaps

def seenD (ks : List LX.B) : DataW Unit := ks.foldl (fun D k => D.put (.string k) (.lit (.bool true))) (.map [])
theorem seenD_app (ks : List LX.B) (k : LX.B) : seenD (ks ++ [k]) = (seenD ks).put (.string k) (.lit (.bool true)) := by simp [seenD]
theorem seenD_map_aux : ∀ (ks : List LX.B) (D : DataW Unit), IsMap D → IsMap (ks.foldl (fun D k => D.put (.string k) (.lit (.bool true))) D)
  | [], _, h => h
  | _ :: ks, _, h => seenD_map_aux ks _ (h.put _ _)
theorem seenD_at_aux : ∀ (ks : List LX.B) (D : DataW Unit) (k : LX.B), IsMap D → (ks.foldl (fun D k => D.put (.string k) (.lit (.bool true))) D).atKey (.string k) (.lit (.bool false)) = if k ∈ ks then .lit (.bool true) else D.atKey (.string k) (.lit (.bool false))
  | [], D, k, _ => by simp
  | x :: ks, D, k, h => by
    rw [List.foldl_cons, seenD_at_aux ks _ k (h.put _ _)]
    by_cases h1 : k ∈ ks
    · rw [if_pos h1, if_pos (List.mem_cons_of_mem _ h1)]
    · rw [if_neg h1]
      by_cases h2 : k = x
      · subst h2
        rw [if_pos (List.mem_cons_self ..), atKey_put_same h (show WideAt.IsKeyLit (.string k) from trivial)]
      · rw [if_neg (by simp [h1, h2]), atKey_put_other (by intro e; exact h2 (by injection e))]
theorem seenD_at (ks : List LX.B) (k : LX.B) : (seenD ks).atKey (.string k) (.lit (.bool false)) = .lit (.bool (decide (k ∈ ks))) := by
  unfold seenD
  rw [seenD_at_aux ks _ k isMap_empty]
  by_cases h : k ∈ ks
  · rw [if_pos h, decide_eq_true h]
  · rw [if_neg h, decide_eq_false h]; rfl
theorem key_law : Keyed Tryz.prog 9 := string_keyed Tryz.underlying9
theorem zero_bool (w : World) : (zeroValue 4).run Tryz.prog w = .ok (.bool false) w := by kernel_rfl
theorem key_of {k : LX.B} (h : k.length ≤ 9223372036854775807) : keyOf Tryz.prog 9 (.string ⟨k.toArray⟩) = some (.string k) := by
  have := keyOf_string_mk (P := Tryz.prog) Tryz.underlying9 (s := ⟨k.toArray⟩) (by rw [str_size]; unfold maxLen; omega)
  simpa using this

/-- Block b of w is a map in which just those texts stand, each as true. -/
def Seen (w : World) (b : Nat) (ks : List LX.B) : Prop := w.ownsMap Tryz.prog 9 (plainElem Tryz.prog 4) b ks.length (seenD ks)
theorem Seen.new (w : World) : Seen (w.alloc (.map #[] 0)) w.heap.size [] := World.ownsMap_made _ _ _ _
theorem Seen.obj {w : World} {b : Nat} {ks : List LX.B} (h : Seen w b ks) : ∃ es clock, w.heap[b]? = some (.map es clock) := by
  obtain ⟨es, clock, hb, _⟩ := h
  exact ⟨es, clock, hb⟩
theorem Seen.lt {w : World} {b : Nat} {ks : List LX.B} (h : Seen w b ks) : b < w.heap.size := World.ownsMap.lt h
theorem Seen.kb {w w' : World} {b : Nat} {ks : List LX.B} {p q : Option Nat} (h : Seen w b ks) (hk : Kb w w' p q) (h1 : some b ≠ p) (h2 : some b ≠ q) : Seen w' b ks := by
  obtain ⟨es, clock, hb, rest⟩ := h
  exact ⟨es, clock, (hk.block b (Array.getElem?_eq_some_iff.1 hb).1 h1 h2).trans hb, rest⟩
theorem Seen.below {w w' : World} {b : Nat} {ks : List LX.B} (h : Seen w b ks) (hb : Below w.heap.size w w') : Seen w' b ks := h.kb (Kb.of_below hb none none) (by simp) (by simp)
theorem Seen.ne_str {w : World} {b p : Nat} {ks : List LX.B} {T : TypeId} {cs : Array Value} (h : Seen w b ks) (hs : Str w p T cs) : b ≠ p := by
  obtain ⟨es, clock, hb⟩ := h.obj
  rintro rfl
  have h' : w.heap[b]? = some (.cells cs T (0, 0)) := hs
  rw [hb] at h'; cases h'
theorem Seen.ne_own {w : World} {b base : Nat} {ks : List LX.B} {e : TypeId} {v : Value} {xs : List Value} (h : Seen w b ks) (ho : Own w base e v xs) : some b ≠ v.ownBlock := by
  obtain ⟨es, clock, hb⟩ := h.obj
  intro e1
  obtain ⟨c, hc⟩ := ho.block e1.symm
  rw [hb] at hc; cases hc
theorem plainElem_bool_inv {H : Type} {P : Program} {e : TypeId} (he : P.underlying e = some .bool) {v : Value} {z : DataW H × List MemPlace} (h : plainElem P e v = some z) : ∃ x, v = .bool x ∧ z = (.lit (.bool x), []) := by
  unfold plainElem at h
  rw [he] at h
  cases v <;> simp at h
  exact ⟨_, rfl, h.symm⟩
/-- 'seen[k]'. -/
theorem Seen.look {w : World} {b : Nat} {ks : List LX.B} (h : Seen w b ks) {k : LX.B} (hk : k.length ≤ 9223372036854775807) : (Instr.lookup 173 (.map (some b)) (.string ⟨k.toArray⟩) false).run Tryz.prog w = .ok (.bool (decide (k ∈ ks))) w := by
  obtain ⟨v, ps, hrun, hv⟩ := World.ownsMap.lookup h key_law Tryz.underlying173 (zero_bool w) (plainElem_bool Tryz.underlying4 false) (key_of hk)
  rw [seenD_at] at hv
  obtain ⟨y, hv1, hv2⟩ := plainElem_bool_inv Tryz.underlying4 hv
  have hb : v = .bool (decide (k ∈ ks)) := by
    simp only [Prod.mk.injEq, DataW.lit.injEq, Lit.bool.injEq] at hv2
    rw [hv1, hv2.1]
  rw [hrun, hb]
theorem wpList_lookup_seen {w : World} {ops : Array Oper} {rest : List Oper} {o : Oper} {a : Act} {Q : Exit → Act → World → Prop} (hg : o.guard = none) (m x : Operand) (hop : o.op = Op.lookup 173 m x false)
    (b : Nat) (ks : List LX.B) (hm : a.eval m = .map (some b)) (hown : Seen w b ks) (k : LX.B) (hx : a.eval x = .string ⟨k.toArray⟩) (hk : k.length ≤ 9223372036854775807) (c : Bool) (hc : decide (k ∈ ks) = c)
    (hK : wpList Tryz.prog ops Q rest (a.put o.dst (.bool c)) w) : wpList Tryz.prog ops Q (o :: rest) a w := by
  refine wpList_plain hg fun K' hK' => ?_
  have hrun := hown.look hk
  rw [hc] at hrun
  unfold Oper.wp
  simp [execOp, hop, hm, hx, hrun, Result.andThen]
  exact hK' _ _ hK
theorem wpList_store_seen {w : World} {ops : Array Oper} {rest : List Oper} {o : Oper} {a : Act} {Q : Exit → Act → World → Prop} (hg : o.guard = none) (m x v : Operand) (hop : o.op = Op.mapUpdate 173 m x v)
    (b : Nat) (ks : List LX.B) (hm : a.eval m = .map (some b)) (hown : Seen w b ks) (k : LX.B) (hx : a.eval x = .string ⟨k.toArray⟩) (hk : k.length ≤ 9223372036854775807) (hn : ks.length ≤ 20000) (hv : a.eval v = .bool true)
    (hK : ∀ w', Seen w' b (ks ++ [k]) → w.grownBy w' (some b) → wpList Tryz.prog ops Q rest (a.put o.dst undef) w') : wpList Tryz.prog ops Q (o :: rest) a w := by
  refine wpList_mapUpdate_own w hg m x v _ hop _ _ key_law Tryz.underlying173 _ b ks.length (seenD ks) hm hown (by unfold maxLen; omega) _ _ (.string k) hx hv (key_of hk) (.lit (.bool true)) [] (plainElem_bool Tryz.underlying4 true) ?_
  intro w' h1 h2
  refine hK w' ?_ h2
  show w'.ownsMap _ _ _ b (ks ++ [k]).length (seenD (ks ++ [k]))
  rw [seenD_app, List.length_append]; exact h1

end Go.Proofs.YtmgalfdiiegjjaaGreatDoor

/- Walks of show.isPlain and show.areKeys. -/
namespace Go.Proofs.YtmgalfdiiegjjaaGreatDoor
open Go.RowKit

namespace SH
theorem pl_long {l : LX.B} (h0 : l ≠ []) (h1 : l.length ≤ 200) (h2 : LN.bad l = false) (h3 : LN.strip l = some l) : plainb l = rdb l (3, 0, 0, l, false) := by
  unfold plainb rdb
  rw [decide_eq_true ⟨h0, h1⟩, h2, decide_eq_true h3]; rfl
theorem pl_not {l : LX.B} (h : LN.strip l ≠ some l) : plainb l = false := by
  unfold plainb
  rw [decide_eq_false h]; simp
theorem pl_wrong {l : LX.B} (h : LN.bad l = true) : plainb l = false := by
  unfold plainb
  rw [h]; simp
theorem st_yes {l : LX.B} (hb : stB l = true) (hs : stS l = l) : LN.strip l = some l := by
  unfold stB at hb
  unfold stS at hs
  cases h : LN.strip l with
  | none => rw [h] at hb; cases hb
  | some s => rw [h] at hs; exact congrArg some hs
theorem rd_nil : rdb [] (3, 0, 0, [], false) = false := by decide +kernel
theorem pl_nil : plainb [] = false := rfl
theorem key_rd (k : LX.B) : rdb (k ++ [58]) (2, 0, 0, k, false) = keyb k := by
  cases h : keyb k with
  | true =>
    obtain ⟨h1, h2⟩ := key_row.2 h
    unfold rdb
    rw [decide_eq_true h1, decide_eq_true h2]; rfl
  | false =>
    unfold rdb
    by_cases h1 : (LX.row (0, 0, k ++ [58])).1 = 0
    · by_cases h2 : (LX.row (0, 0, k ++ [58])).2 = [(2, 0, 0, k, false)]
      · rw [key_row.1 ⟨h1, h2⟩] at h; cases h
      · rw [decide_eq_false h2]; simp
    · rw [decide_eq_false h1]; rfl
end SH
theorem esb_bad {c : UInt8} {z : Int} (h : (c.toNat : Int) = z) : LN.bad [c] = esb z := by
  have e1 : decide (c.toNat < 32) = decide (z < 32) := decide_eq_decide.2 (by omega)
  have e2 : decide (c.toNat = 127) = decide (z = 127) := decide_eq_decide.2 (by omega)
  unfold LN.bad esb
  simp only [List.any_cons, List.any_nil, Bool.or_false]
  rw [e1, e2]
set_option maxRecDepth 10000 in
set_option maxHeartbeats 16000000 in
theorem isPlain_any (l : List UInt8) (w : World) (hl : l.length ≤ 200) (hm : MaxIs w) :
    Calls Tryz.prog 102 #[.string ⟨l.toArray⟩] w fun e w' => e = .returned (.bool (SH.plainb l)) ∧ Below w.heap.size w w' := by
  have hsz := str_size l
  have HST := Lib.hid (strip_any l (by omega))
  have HRO := Lib.hid (isRead_any l (3, 0, 0, l, false) w (by omega) hm)
  obtain ⟨n, hn⟩ : ∃ n, l.length = n := ⟨_, rfl⟩
  have HL := Lib.hid hn
  obtain ⟨K, HK⟩ : ∃ K, Hid (K = SH.plainb l) := ⟨_, Lib.hid rfl⟩
  rw [← HK.out]
  obtain ⟨RB, hRB⟩ : ∃ RB, rdb l (3, 0, 0, l, false) = RB := ⟨_, rfl⟩
  rw [hRB] at HRO
  have HRB := Lib.hid hRB
  have H2 := Lib.hid hl
  rw [hn] at hsz hl
  clear hn hRB hm
  simp only at HRO
  go_enter Tryz.func102, Tryz.ntmps102
  go_wp2
  go_loopg [8] n (fun g s8 wx => ∃ k : Nat, k + g = n ∧ s8 = .int .i64 (k : Int) ∧ wx = w ∧ Hid (LN.bad (l.take k) = false))
  case atStart => exact ⟨0, by omega, rfl, rfl, Lib.hid (by simp [LN.bad])⟩
  case round =>
    obtain ⟨k, hk, rfl, rfl, HB⟩ := hrel
    cases gk with
    | succ g =>
      have hlt : (k : Int) < (n : Int) := by omega
      obtain ⟨c, hc⟩ : ∃ c, l[k]? = some c := ⟨l[k]'(by have := HL.out; omega), List.getElem?_eq_getElem _⟩
      have hkl : k < (⟨l.toArray⟩ : ByteArray).size := by omega
      have hub := c.toNat_lt
      obtain ⟨z, hz⟩ : ∃ z : Int, (c.toNat : Int) = z := ⟨_, rfl⟩
      have hi := at_z hc hz hkl
      have HTK : Hid (l.take (k + 1) = l.take k ++ [c]) := by
        show _ = _
        have h1 := List.getElem?_eq_some_iff.1 hc
        rw [List.take_succ_eq_append_getElem h1.1, h1.2]
      have HBL : Hid (LN.bad [c] = true → K = false) := fun hbc => by
        rw [HK.out]
        apply SH.pl_wrong
        rw [← List.take_append_drop (k + 1) l, HTK.out, SH.bad_app, SH.bad_app, hbc]
        simp
      have HBC := Lib.hid (esb_bad hz)
      have HES := Lib.hid (escapes_any z wr)
      clear hc hz hub
      cases hes : esb z with
      | true =>
        have E : K = false := HBL.out (by rw [HBC.out, hes])
        subst E
        rw [hes] at HES
        clear hes
        go_wp2_with (go_at_call 135; refine HES.out.mono ?_; rintro e w1 ⟨rfl, hw1⟩; replace hw1 := hw1.symm; subst hw1)
        go_ret
        exact ⟨rfl, Below.refl _ _⟩
      | false =>
        have E : Hid (LN.bad (l.take (k + 1)) = false) := by
          show _ = _
          rw [HTK.out, SH.bad_app, HB.out, HBC.out, hes]; rfl
        rw [hes] at HES
        clear hes
        go_wp2_with (go_at_call 135; refine HES.out.mono ?_; rintro e w1 ⟨rfl, hw1⟩; replace hw1 := hw1.symm; subst hw1)
        go_roundg g
        case rel => exact ⟨k + 1, by omega, by first | rfl | (simp; done), rfl, E⟩
        case measure => omega
    | zero =>
      obtain rfl : k = n := by omega
      have HBD : Hid (LN.bad l = false) := by
        show _ = _
        have h1 := HB.out
        rwa [List.take_of_length_le (by have := HL.out; omega)] at h1
      obtain ⟨T, hT⟩ : ∃ T, stS l = T := ⟨_, rfl⟩
      obtain ⟨B, hB⟩ : ∃ B, stB l = B := ⟨_, rfl⟩
      rw [hT, hB] at HST
      have HT := Lib.hid hT
      have HBB := Lib.hid hB
      clear hT hB HB hk
      cases B with
      | false =>
        have E : K = false := by
          rw [HK.out]
          apply SH.pl_not
          intro h
          have := HBB.out
          unfold stB at this
          rw [h] at this
          cases this
        subst E
        go_wp2_with (go_at_call 87; refine (HST.out _).mono ?_; rintro e w1 ⟨rfl, hw1⟩; replace hw1 := hw1.symm; subst hw1)
        go_ret
        exact ⟨rfl, Below.refl _ _⟩
      | true =>
        by_cases hTl : T = l
        · subst hTl
          have HSS := Lib.hid (SH.st_yes HBB.out HT.out)
          have E : RB = K := by
            rw [HK.out, ← HRB.out]
            by_cases h0 : T = []
            · subst h0
              rw [SH.rd_nil, SH.pl_nil]
            · exact (SH.pl_long h0 H2.out HBD.out HSS.out).symm
          rw [E] at HRO
          clear E
          go_wp2_with (first
            | (go_at_call 87; refine (HST.out _).mono ?_; rintro e w1 ⟨rfl, hw1⟩; replace hw1 := hw1.symm; subst hw1)
            | (go_at_call 136; refine HRO.out.mono ?_; rintro e w2 ⟨rfl, b2⟩; have B2 := Lib.hid b2; clear b2))
          go_ret
          exact ⟨rfl, B2.out⟩
        · have hTb : (T == l) = false := by simpa using hTl
          have E : K = false := by
            rw [HK.out]
            apply SH.pl_not
            intro h
            apply hTl
            rw [← HT.out]
            unfold stS
            rw [h]; rfl
          subst E
          go_wp2_with (go_at_call 87; refine (HST.out _).mono ?_; rintro e w1 ⟨rfl, hw1⟩; replace hw1 := hw1.symm; subst hw1)
          go_ret
          exact ⟨rfl, Below.refl _ _⟩
end Go.Proofs.YtmgalfdiiegjjaaGreatDoor

/- The walk of show.areKeys. -/
namespace Go.Proofs.YtmgalfdiiegjjaaGreatDoor
open Go.RowKit

theorem nodup_snoc {l : List LX.B} {x : LX.B} (h : l.Nodup) (hx : x ∉ l) : (l ++ [x]).Nodup := by
  rw [List.nodup_append]
  refine ⟨h, by simp, ?_⟩
  intro a ha b hb
  rw [List.mem_singleton.1 hb]
  exact fun e => hx (e ▸ ha)
theorem Below.of_grown {w w' : World} {b base : Nat} (h : w.grownBy w' (some b)) (hb : base ≤ b) (hs : base ≤ w.heap.size) : Below base w w' :=
  (Kb.of_grown h none).below hs (by simp) (by intro g hg; cases hg; exact hb)
set_option maxRecDepth 10000 in
set_option maxHeartbeats 16000000 in
theorem areKeys_any (v : Value) (ks : List LX.B) (w : World) (hr : Rdv w v (sv ks)) (hs : ∀ x ∈ ks, x.length ≤ 15000) (hn : ks.length ≤ 20000) (hm : MaxIs w) :
    Calls Tryz.prog 103 #[v] w fun e w' => e = .returned (.bool (decide ks.Nodup && ks.all SH.keyb)) ∧ Below w.heap.size w w' := by
  have HRD := Lib.hid hr
  obtain ⟨ao, cap, hv⟩ := hr.slice
  subst hv
  rw [sv_len] at HRD ⊢
  obtain ⟨n, hN⟩ : ∃ n, ks.length = n := ⟨_, rfl⟩
  have HL := Lib.hid hN
  rw [hN] at HRD hn ⊢
  have hnm : (n : Int) ≤ 20000 := by omega
  have HSZ := Lib.hid hs
  have HM := Lib.hid hm
  obtain ⟨K, HK⟩ : ∃ K, Hid (K = (decide ks.Nodup && ks.all SH.keyb)) := ⟨_, Lib.hid rfl⟩
  rw [← HK.out]
  have HB0 : Hid (Below w.heap.size w (w.alloc (.map #[] 0))) := Lib.hid (below_alloc _ _)
  have HS0 : Hid (Seen (w.alloc (.map #[] 0)) w.heap.size []) := Lib.hid (Seen.new w)
  clear hN hs hr hm
  go_enter Tryz.func103, Tryz.ntmps103
  have hmm := @run_makeMap Tryz.prog
  go_wp2
  clear hmm
  go_loopg [9] n (fun g s9 wx => ∃ i : Nat, i + g = n ∧ s9 = .int .i64 (i : Int) ∧ Hid (Below w.heap.size w wx) ∧ Hid (Seen wx w.heap.size (ks.take i)) ∧ Hid ((ks.take i).Nodup ∧ ∀ x ∈ ks.take i, SH.keyb x = true))
  case atStart => exact ⟨0, by omega, rfl, HB0, HS0, Lib.hid ⟨by simp, by simp⟩⟩
  case round =>
    clear HB0 HS0
    obtain ⟨i, hi, rfl, HB, HS, HG⟩ := hrel
    cases gk with
    | zero =>
      obtain rfl : i = n := by omega
      have E : K = true := by
        have h := HG.out
        rw [List.take_of_length_le (by have := HL.out; omega)] at h
        rw [HK.out, decide_eq_true h.1, Bool.true_and, List.all_eq_true]
        exact h.2
      subst E
      go_wp2
      go_ret
      exact ⟨rfl, HB.out⟩
    | succ g =>
      have hin : (i : Int) < (n : Int) := by omega
      have hi0 : (0 : Int) ≤ (i : Int) := by omega
      obtain ⟨x, hx⟩ : ∃ x, ks[i]? = some x := ⟨ks[i]'(by have := HL.out; omega), List.getElem?_eq_getElem _⟩
      have hxs : (sv ks)[i]? = some (.string ⟨x.toArray⟩) := by simp [sv, hx]
      obtain ⟨b, off, cc, e1, u1⟩ := (HRD.out.below HB.out).atv hxs
      simp only [Value.slice.injEq] at e1
      obtain ⟨rfl, -, -⟩ := e1
      have HX := Lib.hid hx
      have hxl := HSZ.out x (List.mem_of_getElem? hx)
      have HXL := Lib.hid hxl
      have HTL : Hid ((ks.take i).length ≤ 20000) := by show _ ≤ _; rw [List.length_take]; have := HL.out; omega
      have hsz : ¬ 9223372036854775807 < (⟨x.toArray⟩ : ByteArray).size + 1 := by rw [str_size]; omega
      have HKE := Lib.hid (isRead_any (x ++ [58]) (2, 0, 0, x, false) wr (by simp; omega) (HM.out.below HB.out))
      rw [SH.key_rd, ← str_app] at HKE
      simp only at HKE
      have HTK : Hid (ks.take (i + 1) = ks.take i ++ [x]) := by
        show _ = _
        have h1 := List.getElem?_eq_some_iff.1 hx
        rw [List.take_succ_eq_append_getElem h1.1, h1.2]
      clear hx hxs hxl
      by_cases hmem : x ∈ ks.take i
      · have E : K = false := by
          rw [HK.out, Bool.and_eq_false_iff]
          left
          refine decide_eq_false fun h => ?_
          have h2 : (ks.take (i + 1)).Nodup := List.Nodup.sublist (List.take_sublist _ _) h
          rw [HTK.out, List.nodup_append] at h2
          exact h2.2.2 x hmem x (by simp) rfl
        subst E
        have HD := Lib.hid (decide_eq_true hmem)
        clear hmem
        go_wp2_with (at_lookup; refine wpList_lookup_seen rfl _ _ rfl w.heap.size (ks.take i) (by rfl) HS.out x (by rfl) (by have := HXL.out; omega) true HD.out ?_)
        go_ret
        exact ⟨rfl, HB.out⟩
      · have HD := Lib.hid (decide_eq_false hmem)
        have HNM := Lib.hid hmem
        clear hmem
        cases hk : SH.keyb x with
        | false =>
          have E : K = false := by
            rw [HK.out, Bool.and_eq_false_iff]
            right
            rw [List.all_eq_false]
            exact ⟨x, List.mem_of_getElem? HX.out, by rw [hk]; simp⟩
          subst E
          rw [hk] at HKE
          clear hk
          go_wp2_with (first
            | (at_lookup; refine wpList_lookup_seen rfl _ _ rfl w.heap.size (ks.take i) (by rfl) HS.out x (by rfl) (by have := HXL.out; omega) false HD.out ?_)
            | (go_at_call 136; refine HKE.out.mono ?_; rintro e w1 ⟨rfl, b1⟩; have B1 := Lib.hid (below_trans HB.out b1); clear b1))
          go_ret
          exact ⟨rfl, B1.out⟩
        | true =>
          have E : Hid ((ks.take (i + 1)).Nodup ∧ ∀ y ∈ ks.take (i + 1), SH.keyb y = true) := by
            show _ ∧ _
            rw [HTK.out]
            refine ⟨nodup_snoc HG.out.1 HNM.out, fun y hy => ?_⟩
            rcases List.mem_append.1 hy with hy | hy
            · exact HG.out.2 y hy
            · rw [List.mem_singleton.1 hy]; exact hk
          rw [hk] at HKE
          clear hk
          go_wp2_with (first
            | (at_lookup; refine wpList_lookup_seen rfl _ _ rfl w.heap.size (ks.take i) (by rfl) HS.out x (by rfl) (by have := HXL.out; omega) false HD.out ?_)
            | (go_at_call 136; refine HKE.out.mono ?_; rintro e w1 ⟨rfl, b1⟩; have B1 := Lib.hid (below_trans HB.out b1); have S1 := Lib.hid (HS.out.below b1); clear b1)
            | (at_mapUpdate; refine wpList_store_seen rfl _ _ _ rfl w.heap.size (ks.take i) (by rfl) S1.out x (by rfl) (by have := HXL.out; omega) HTL.out (by rfl) ?_; intro w2 s2 g2; have B2 := Lib.hid (B1.out.trans (Below.of_grown g2 (Nat.le_refl _) B1.out.size)); have S2 := Lib.hid s2; clear s2 g2))
          go_roundg g
          case rel => exact ⟨i + 1, by omega, by first | rfl | (simp; done), B2, by show Seen _ _ _; rw [HTK.out]; exact S2.out, E⟩
          case measure => omega
end Go.Proofs.YtmgalfdiiegjjaaGreatDoor
