/- Several texts in one. -/
import Derived.Test.YtmgalfdiiegjjaaDoorShC8
import Derived.Test.YtmgalfdiiegjjaaDoorDcB
import Derived.Test.YtmgalfdiiegjjaaDoorSeg03
import Derived.Maps.OwnOps
import Derived.Maps.Views
namespace Go.Proofs.YtmgalfdiiegjjaaDoor
open Go.RowKit

set_option maxRecDepth 10000 in
set_option maxHeartbeats 16000000 in
theorem wquoted_any (S : List UInt8) {w0 wa w : World} {p : Nat} {v ov : Value} {bs : List UInt8} (h : Wrs w0 wa w p v ov bs) (hs : S.length ≤ 10000) (hl : bs.length ≤ 800000000) :
    Calls Tryd.prog 29 #[.pointer (some ⟨p, 0, none⟩), .string ⟨S.toArray⟩] w (WrE w0 wa p v (bs ++ LX.quo S)) := by
  have hsz := str_size S
  obtain ⟨n, hn⟩ : ∃ n, S.length = n := ⟨_, rfl⟩
  have HN := Lib.hid hn
  rw [hn] at hsz hs
  have HL := Lib.hid hl
  have HP := Lib.hid (wput_any h [34] (by simp; omega))
  clear hn h hl
  go_enter Tryd.func29, Tryd.ntmps29
  go_wp2_with (go_at_call 30; refine HP.out.mono ?_; rintro e w2 ⟨rfl, ov2, s2⟩; have S2 := Lib.hid s2; clear s2)
  go_loopg [9] n (fun g s9 wx => ∃ (i : Nat) (u : Value), i + g = n ∧ s9 = .int .i64 (i : Int) ∧ Hid (Wrs w0 wa wx p v u (bs ++ quf S i)))
  case atStart => exact ⟨0, ov2, by omega, rfl, S2⟩
  case round =>
    clear S2 HP
    obtain ⟨i, u, hi, rfl, H⟩ := hrel
    have HQ := Lib.hid (quf_len S i)
    cases gk with
    | zero =>
      obtain rfl : i = n := by omega
      have HP := Lib.hid (wput_any H.out [34] (by have := HQ.out; have := HL.out; rw [List.length_append]; simp; omega))
      rw [List.append_assoc, quf_end S HN.out] at HP
      go_wp2_with (go_at_call 30; refine HP.out.mono ?_; rintro e w2 ⟨rfl, ov2, s2⟩; have S2 := Lib.hid s2; clear s2)
      go_end0
      exact ⟨rfl, _, S2.out⟩
    | succ g =>
      have hin : (i : Int) < (n : Int) := by omega
      obtain ⟨c, hc⟩ : ∃ c, S[i]? = some c := ⟨S[i]'(by have := HN.out; omega), List.getElem?_eq_getElem _⟩
      have hil : i < (⟨S.toArray⟩ : ByteArray).size := by omega
      obtain ⟨z, hz⟩ : ∃ z : Int, (c.toNat : Int) = z := ⟨_, rfl⟩
      have hiz := at_z hc hz hil
      have HSG := Lib.hid (wsign_any c z hz H.out (by have := HQ.out; have := HL.out; rw [List.length_append]; omega))
      rw [List.append_assoc, ← quf_next hc] at HSG
      clear hc hz
      go_wp2_with (go_at_call 36; refine HSG.out.mono ?_; rintro e w2 ⟨rfl, ov2, s2⟩; have S2 := Lib.hid s2; clear s2)
      go_roundg g
      case rel => exact ⟨i + 1, ov2, by omega, by first | rfl | (simp; done), S2⟩
      case measure => omega
set_option maxRecDepth 10000 in
set_option maxHeartbeats 16000000 in
theorem wtext_any (kd ln : Int) (S : List UInt8) (q : Bool) (va vi : Value) {w0 wa w : World} {p : Nat} {v ov : Value} {bs : List UInt8} (h : Wrs w0 wa w p v ov bs) (hs : S.length ≤ 10000) (hl : bs.length ≤ 700000000)
    (hva : ∃ a m c, va = .slice a m c) (hvi : ∃ a m c, vi = .slice a m c) :
    Calls Tryd.prog 20 #[.pointer (some ⟨p, 0, none⟩), .agg #[.int .i64 kd, .int .i64 ln, .string ⟨S.toArray⟩, .bool q, va, vi]] w (WrE w0 wa p v (bs ++ (SH.wr S q ++ [10]))) := by
  obtain ⟨ka, kn, kc, rfl⟩ := hva
  obtain ⟨ia, im, ic, rfl⟩ := hvi
  have H := Lib.hid (h.calm (below_alloc w (.cells #[.int .i64 kd, .int .i64 ln, .string ⟨S.toArray⟩, .bool q, .slice ka kn kc, .slice ia im ic] 37)))
  have HQ : Hid ((SH.wr S q).length ≤ 4 * S.length + 2) := by
    show _ ≤ _
    unfold SH.wr
    split
    · exact LX.quo_len S
    · omega
  have HL := Lib.hid hl
  have HS := Lib.hid hs
  clear h hl hs
  cases q with
  | true =>
    have HP := Lib.hid (wquoted_any S H.out HS.out (by have := HL.out; omega))
    rw [← List.append_assoc]
    rw [show SH.wr S true = LX.quo S from rfl] at HQ ⊢
    have HN : Hid (∀ (u : World) (o : Value), Wrs w0 wa u p v o (bs ++ LX.quo S) → Calls Tryd.prog 30 #[.pointer (some ⟨p, 0, none⟩), .string ⟨#[10]⟩] u (WrE w0 wa p v (bs ++ LX.quo S ++ [10]))) := fun u o hu => wput_any hu [10] (by have := HQ.out; have := HL.out; have := HS.out; rw [List.length_append]; simp; omega)
    go_enter Tryd.func20, Tryd.ntmps20
    go_wp2_with (first
      | (go_at_call 30; refine (HN.out _ _ S2.out).mono ?_; rintro e w3 ⟨rfl, ov3, s3⟩; have S3 := Lib.hid s3; clear s3)
      | (go_at_call 29; refine HP.out.mono ?_; rintro e w2 ⟨rfl, ov2, s2⟩; have S2 := Lib.hid s2; clear s2))
    go_end0
    exact ⟨rfl, _, S3.out⟩
  | false =>
    have HP := Lib.hid (wput_any H.out S (by have := HL.out; have := HS.out; omega))
    rw [← List.append_assoc]
    rw [show SH.wr S false = S from rfl] at HQ ⊢
    have HN : Hid (∀ (u : World) (o : Value), Wrs w0 wa u p v o (bs ++ S) → Calls Tryd.prog 30 #[.pointer (some ⟨p, 0, none⟩), .string ⟨#[10]⟩] u (WrE w0 wa p v (bs ++ S ++ [10]))) := fun u o hu => wput_any hu [10] (by have := HQ.out; have := HL.out; have := HS.out; rw [List.length_append]; simp; omega)
    go_enter Tryd.func20, Tryd.ntmps20
    go_wp2_with (first
      | (go_at_call 30; refine (HN.out _ _ S2.out).mono ?_; rintro e w3 ⟨rfl, ov3, s3⟩; have S3 := Lib.hid s3; clear s3)
      | (go_at_call 30; refine HP.out.mono ?_; rintro e w2 ⟨rfl, ov2, s2⟩; have S2 := Lib.hid s2; clear s2))
    go_end0
    exact ⟨rfl, _, S3.out⟩
end Go.Proofs.YtmgalfdiiegjjaaDoor

/- A set of texts by a map of bools. -/
namespace Go.Proofs.YtmgalfdiiegjjaaDoor
open Go.RowKit Go.Maps Go.WideMaps

def seenD (ks : List LX.B) : DataW Unit := ks.foldl (fun D k => D.put (.string k) (.lit (.bool true))) (.map [])
theorem seenD_app (ks : List LX.B) (k : LX.B) : seenD (ks ++ [k]) = (seenD ks).put (.string k) (.lit (.bool true)) := by simp [seenD]
theorem seenD_map_aux : ∀ (ks : List LX.B) (D : DataW Unit), IsMap D → IsMap (ks.foldl (fun D k => D.put (.string k) (.lit (.bool true))) D)
  | [], _, h => h
  | _ :: ks, _, h => seenD_map_aux ks _ (h.put _ _)
theorem seenD_at_aux : ∀ (ks : List LX.B) (D : DataW Unit) (k : LX.B), IsMap D → (ks.foldl (fun D k => D.put (.string k) (.lit (.bool true))) D).atKey (.string k) (.lit (.bool false)) = if k ∈ ks then .lit (.bool true) else D.atKey (.string k) (.lit (.bool false))
  | [], D, k, _ => by simp
  | x :: ks, D, k, h => by
    rw [List.foldl_cons, seenD_at_aux ks _ k (h.put _ _)]
    by_cases h1 : k ∈ ks
    · rw [if_pos h1, if_pos (List.mem_cons_of_mem _ h1)]
    · rw [if_neg h1]
      by_cases h2 : k = x
      · subst h2
        rw [if_pos (List.mem_cons_self ..), atKey_put_same h (show WideAt.IsKeyLit (.string k) from trivial)]
      · rw [if_neg (by simp [h1, h2]), atKey_put_other (by intro e; exact h2 (by injection e))]
theorem seenD_at (ks : List LX.B) (k : LX.B) : (seenD ks).atKey (.string k) (.lit (.bool false)) = .lit (.bool (decide (k ∈ ks))) := by
  unfold seenD
  rw [seenD_at_aux ks _ k isMap_empty]
  by_cases h : k ∈ ks
  · rw [if_pos h, decide_eq_true h]
  · rw [if_neg h, decide_eq_false h]; rfl
theorem key_law : Keyed Tryd.prog 9 := string_keyed Tryd.underlying9
theorem zero_bool (w : World) : (zeroValue 4).run Tryd.prog w = .ok (.bool false) w := by kernel_rfl
theorem key_of {k : LX.B} (h : k.length ≤ 9223372036854775807) : keyOf Tryd.prog 9 (.string ⟨k.toArray⟩) = some (.string k) := by
  have := keyOf_string_mk (P := Tryd.prog) Tryd.underlying9 (s := ⟨k.toArray⟩) (by rw [str_size]; unfold maxLen; omega)
  simpa using this

/-- Block b of w is a map in which just those texts stand, each as true. -/
def Seen (w : World) (b : Nat) (ks : List LX.B) : Prop := w.ownsMap Tryd.prog 9 (plainElem Tryd.prog 4) b ks.length (seenD ks)
theorem Seen.new (w : World) : Seen (w.alloc (.map #[] 0)) w.heap.size [] := World.ownsMap_made _ _ _ _
theorem Seen.obj {w : World} {b : Nat} {ks : List LX.B} (h : Seen w b ks) : ∃ es clock, w.heap[b]? = some (.map es clock) := by
  obtain ⟨es, clock, hb, _⟩ := h
  exact ⟨es, clock, hb⟩
theorem Seen.lt {w : World} {b : Nat} {ks : List LX.B} (h : Seen w b ks) : b < w.heap.size := World.ownsMap.lt h
theorem Seen.kb {w w' : World} {b : Nat} {ks : List LX.B} {p q : Option Nat} (h : Seen w b ks) (hk : Kb w w' p q) (h1 : some b ≠ p) (h2 : some b ≠ q) : Seen w' b ks := by
  obtain ⟨es, clock, hb, rest⟩ := h
  exact ⟨es, clock, (hk.block b (Array.getElem?_eq_some_iff.1 hb).1 h1 h2).trans hb, rest⟩
theorem Seen.below {w w' : World} {b : Nat} {ks : List LX.B} (h : Seen w b ks) (hb : Below w.heap.size w w') : Seen w' b ks := h.kb (Kb.of_below hb none none) (by simp) (by simp)
theorem Seen.ne_str {w : World} {b p : Nat} {ks : List LX.B} {T : TypeId} {cs : Array Value} (h : Seen w b ks) (hs : Str w p T cs) : b ≠ p := by
  obtain ⟨es, clock, hb⟩ := h.obj
  rintro rfl
  have h' : w.heap[b]? = some (.cells cs T (0, 0)) := hs
  rw [hb] at h'; cases h'
theorem Seen.ne_own {w : World} {b base : Nat} {ks : List LX.B} {e : TypeId} {v : Value} {xs : List Value} (h : Seen w b ks) (ho : Own w base e v xs) : some b ≠ v.ownBlock := by
  obtain ⟨es, clock, hb⟩ := h.obj
  intro e1
  obtain ⟨c, hc⟩ := ho.block e1.symm
  rw [hb] at hc; cases hc
theorem plainElem_bool_inv {H : Type} {P : Program} {e : TypeId} (he : P.underlying e = some .bool) {v : Value} {z : DataW H × List MemPlace} (h : plainElem P e v = some z) : ∃ x, v = .bool x ∧ z = (.lit (.bool x), []) := by
  unfold plainElem at h
  rw [he] at h
  cases v <;> simp at h
  exact ⟨_, rfl, h.symm⟩
/-- 'seen[k]'. -/
theorem Seen.look {w : World} {b : Nat} {ks : List LX.B} (h : Seen w b ks) {k : LX.B} (hk : k.length ≤ 9223372036854775807) : (Instr.lookup 69 (.map (some b)) (.string ⟨k.toArray⟩) false).run Tryd.prog w = .ok (.bool (decide (k ∈ ks))) w := by
  obtain ⟨v, ps, hrun, hv⟩ := World.ownsMap.lookup h key_law Tryd.underlying69 (zero_bool w) (plainElem_bool Tryd.underlying4 false) (key_of hk)
  rw [seenD_at] at hv
  obtain ⟨y, hv1, hv2⟩ := plainElem_bool_inv Tryd.underlying4 hv
  have hb : v = .bool (decide (k ∈ ks)) := by
    simp only [Prod.mk.injEq, DataW.lit.injEq, Lit.bool.injEq] at hv2
    rw [hv1, hv2.1]
  rw [hrun, hb]
theorem wpList_lookup_seen {w : World} {ops : Array Oper} {rest : List Oper} {o : Oper} {a : Act} {Q : Exit → Act → World → Prop} (hg : o.guard = none) (m x : Operand) (hop : o.op = Op.lookup 69 m x false)
    (b : Nat) (ks : List LX.B) (hm : a.eval m = .map (some b)) (hown : Seen w b ks) (k : LX.B) (hx : a.eval x = .string ⟨k.toArray⟩) (hk : k.length ≤ 9223372036854775807) (c : Bool) (hc : decide (k ∈ ks) = c)
    (hK : wpList Tryd.prog ops Q rest (a.put o.dst (.bool c)) w) : wpList Tryd.prog ops Q (o :: rest) a w := by
  refine wpList_plain hg fun K' hK' => ?_
  have hrun := hown.look hk
  rw [hc] at hrun
  unfold Oper.wp
  simp [execOp, hop, hm, hx, hrun, Result.andThen]
  exact hK' _ _ hK
theorem wpList_store_seen {w : World} {ops : Array Oper} {rest : List Oper} {o : Oper} {a : Act} {Q : Exit → Act → World → Prop} (hg : o.guard = none) (m x v : Operand) (hop : o.op = Op.mapUpdate 69 m x v)
    (b : Nat) (ks : List LX.B) (hm : a.eval m = .map (some b)) (hown : Seen w b ks) (k : LX.B) (hx : a.eval x = .string ⟨k.toArray⟩) (hk : k.length ≤ 9223372036854775807) (hn : ks.length ≤ 20000) (hv : a.eval v = .bool true)
    (hK : ∀ w', Seen w' b (ks ++ [k]) → w.grownBy w' (some b) → wpList Tryd.prog ops Q rest (a.put o.dst undef) w') : wpList Tryd.prog ops Q (o :: rest) a w := by
  refine wpList_mapUpdate_own w hg m x v _ hop _ _ key_law Tryd.underlying69 _ b ks.length (seenD ks) hm hown (by unfold maxLen; omega) _ _ (.string k) hx hv (key_of hk) (.lit (.bool true)) [] (plainElem_bool Tryd.underlying4 true) ?_
  intro w' h1 h2
  refine hK w' ?_ h2
  show w'.ownsMap _ _ _ b (ks ++ [k]).length (seenD (ks ++ [k]))
  rw [seenD_app, List.length_append]; exact h1

end Go.Proofs.YtmgalfdiiegjjaaDoor
