/- A part of the proof. -/
import Derived.Test.YtgfhabofhefaaaaGreatDoorRows
import Derived.Test.YtgfhabofhefaaaaGreatDoorSB04
import Derived.Test.YtgfhabofhefaaaaGreatDoorSB05
import Derived.WalkKit
import Derived.WalkSpells
import Derived.WalkLawsBesides
import Derived.Lib.Hide
import Derived.Lib.OthersKept
import Derived.Laws.Externs
import Derived.Laws.BitsAllLaws
import Derived.Laws.BytesArg
import Derived.Laws.AppendOwnNone
import Derived.ArgAppend
import Derived.Lib.ConvBytes
import Derived.WalkSmall
import Derived.RowKit
import Derived.Lib.ItoaNum
import Derived.Lib.Strings
import Derived.Lib.Repeat
import Derived.Lib.ItoaLen
namespace Go.Proofs.YtgfhabofhefaaaaGreatDoor
open Go.RowKit
@[go_sem] theorem call_bits (b : Nat) (w : World) : (callFunc 104 #[.float .f64 b]).run Tryz.prog w = .ok (.value (.int .u64 b)) w :=
  run_callFunc_extern Tryz.func104 (by kernel_rfl) (by kernel_rfl) (by kernel_rfl) (e := Extern.MathFloatBits.float64bits) (by kernel_rfl) #[.float .f64 b] w
@[go_sem] theorem call_frombits (n : Int) (w : World) : (callFunc 105 #[.int .u64 n]).run Tryz.prog w = .ok (.value (.float .f64 n.toNat)) w :=
  run_callFunc_extern Tryz.func105 (by kernel_rfl) (by kernel_rfl) (by kernel_rfl) (e := Extern.MathFloatBits.float64frombits) (by kernel_rfl) #[.int .u64 n] w
theorem ne_self (x : Nat) : (Ieee.double.order x x != some .eq) = FM.nan x := by
  cases h : FM.nan x
  · rw [FM.order_num h h]; simp
  · rw [FM.order_nan (.inl h)]; rfl
set_option maxHeartbeats 400000 in
theorem isnan_any (x : Nat) (w : World) :
    Calls Tryz.prog 71 #[.float .f64 x] w fun e w' => e = .returned (.bool (FM.nan x)) ∧ w = w' := by
  have E := Lib.hid (ne_self x)
  go_enter Tryz.func71, Tryz.ntmps71
  go_wp2
  go_ret
  exact ⟨by rw [← E.out]; rfl, rfl⟩
theorem sgn_wrap (x : Nat) (_hx : x < 18446744073709551616) : decide (wrap64 (x : Int) < 0) = FM.sgn x := by
  unfold wrap64 FM.sgn
  rw [Bool.eq_iff_iff]
  simp
  omega
theorem bits_abs (x : Nat) (hx : x < 18446744073709551616) : bits .andNot .u64 (x : Int) 9223372036854775808 = (FM.rg x : Int) := by
  rw [u64_andNot _ _ (by omega) (by omega) (by decide) (by decide)]
  have := Nat.and_two_pow_sub_one_eq_mod x 63
  simp only [Int.toNat_natCast]
  exact congrArg Int.ofNat this
set_option maxHeartbeats 400000 in
theorem signbit_any (x : Nat) (hx : x < 18446744073709551616) (w : World) :
    Calls Tryz.prog 72 #[.float .f64 x] w fun e w' => e = .returned (.bool (FM.sgn x)) ∧ w = w' := by
  have E := sgn_wrap x hx
  go_enter Tryz.func72, Tryz.ntmps72
  go_wp2
  go_ret
  exact ⟨rfl, rfl⟩
set_option maxHeartbeats 400000 in
theorem abs_any (x : Nat) (hx : x < 18446744073709551616) (w : World) :
    Calls Tryz.prog 74 #[.float .f64 x] w fun e w' => e = .returned (.float .f64 (FM.rg x)) ∧ w = w' := by
  have E := bits_abs x hx
  go_enter Tryz.func74, Tryz.ntmps74
  go_wp2
  go_ret
  exact ⟨rfl, rfl⟩
set_option maxHeartbeats 400000 in
theorem mnan_any (w : World) :
    Calls Tryz.prog 110 #[] w fun e w' => e = .returned (.float .f64 9221120237041090561) ∧ w = w' := by
  go_enter Tryz.func110, Tryz.ntmps110
  go_wp2
  go_ret
  exact ⟨rfl, rfl⟩
set_option maxHeartbeats 400000 in
theorem minf_any (s : Int) (w : World) :
    Calls Tryz.prog 111 #[.int .i64 s] w fun e w' => e = .returned (.float .f64 (if 0 ≤ s then 9218868437227405312 else 18442240474082181120)) ∧ w = w' := by
  go_enter Tryz.func111, Tryz.ntmps111
  go_wp2
  all_goals go_ret
  all_goals exact ⟨rfl, rfl⟩
theorem toIntegral_by (name : String) (way : Ieee.Toward) (x : Nat) : ∃ f, Extern.MathFloor.toIntegral name way #[.float .f64 x] = Extern.MathFloor.toIntegral.match_1 (fun _ => Sem Value) (FloatKind.f64.decode x) f
    (fun d => pure (.float .f64 (FloatKind.f64.encode (d.integral way)))) := ⟨_, rfl⟩
theorem call_floor (x : Nat) (hx : FM.nan x = false) (w : World) : (callFunc 106 #[.float .f64 x]).run Tryz.prog w = .ok (.value (.float .f64 (FloatKind.f64.encode ((FloatKind.f64.decode x).integral .down)))) w := by
  rw [run_callFunc_extern Tryz.func106 (by kernel_rfl) (by kernel_rfl) (by kernel_rfl) (e := Extern.MathFloor.toIntegral "math.archFloor" .down) (by kernel_rfl) #[.float .f64 x] w]
  have h := of_decide_eq_false hx
  have hn : ∀ s t, FloatKind.f64.decode x ≠ .nan s t := by
    intro s t
    unfold FloatKind.decode FloatKind.format
    by_cases hi : FM.rg x = FM.infR
    · simp only [FM.read_inf hi]; intro e; cases e
    · simp only [FM.read_num (w := x) (by omega)]; intro e; cases e
  obtain ⟨f, hf⟩ := toIntegral_by "math.archFloor" .down x
  rw [hf]
  cases hd : FloatKind.f64.decode x with
  | nan s t => exact absurd hd (hn s t)
  | number s m i => rfl
  | infinity s => rfl
set_option maxHeartbeats 400000 in
theorem mfloor_any (x : Nat) (hx : FM.nan x = false) (w : World) :
    Calls Tryz.prog 76 #[.float .f64 x] w fun e w' => e = .returned (.float .f64 (FloatKind.f64.encode ((FloatKind.f64.decode x).integral .down))) ∧ w = w' := by
  have h := call_floor x hx
  generalize FloatKind.f64.encode ((FloatKind.f64.decode x).integral .down) = r at *
  go_enter Tryz.func76, Tryz.ntmps76
  go_wp2
  go_ret
  exact ⟨rfl, rfl⟩
theorem gt_max (x : Nat) (hx : FM.nan x = false) : (Ieee.double.order x 9218868437227405311 == some .gt) = (!FM.sgn x && (FM.rg x == FM.infR)) := by
  have h := of_decide_eq_false hx
  have c1 : FM.nan 9218868437227405311 = false := by decide
  have c2 : FM.sv 9218868437227405311 = (FM.val 9218868437227405311 : Int) := rfl
  rw [FM.order_num hx c1, c2]
  unfold FM.sv
  have hi : FM.rg x = FM.infR ∨ FM.rg x ≤ 9218868437227405311 := by unfold FM.infR at *; omega
  rw [Bool.eq_iff_iff]
  rcases hi with hi | hi
  · have : FM.val 9218868437227405311 < FM.val FM.infR := FM.val_lt (by decide)
    rw [hi]
    cases FM.sgn x
    · simp only [Bool.false_eq_true, if_false]; rw [if_neg (by omega), if_pos (by omega)]; simp
    · simp only [if_true]; rw [if_pos (by omega)]; simp
  · have h3 : FM.val (FM.rg x) ≤ FM.val 9218868437227405311 := FM.val_le hi
    have h4 : (FM.rg x == FM.infR) = false := by simp; unfold FM.infR; omega
    rw [h4]
    have h5 : ¬ (FM.val 9218868437227405311 : Int) < (if FM.sgn x then -(FM.val (FM.rg x) : Int) else (FM.val (FM.rg x) : Int)) := by split <;> omega
    generalize (if FM.sgn x then -(FM.val (FM.rg x) : Int) else (FM.val (FM.rg x) : Int)) = z at *
    rw [if_neg h5]
    by_cases hz : z < (FM.val 9218868437227405311 : Int)
    · rw [if_pos hz]; simp
    · rw [if_neg hz]; simp
theorem xor_top (r : Nat) (hr : r < 9223372036854775808) : r ^^^ 2 ^ 63 = 9223372036854775808 + r := by
  have h := nat_join 63 9223372036854775808 r (by decide) hr
  rw [← h]
  apply Nat.eq_of_testBit_eq
  intro i
  have e : (9223372036854775808 : Nat) = 2 ^ 63 := by decide
  rw [Nat.testBit_xor, Nat.testBit_or, e, Nat.testBit_two_pow]
  by_cases h63 : 63 = i
  · have : r.testBit 63 = false := Nat.testBit_lt_two_pow hr
    rw [← h63, this]; simp
  · simp [h63]
theorem neg_word (x : Nat) (hx : x < 18446744073709551616) : Op.negFloat .f64 x = Ieee.double.word (!FM.sgn x) (FM.rg x) := by
  have e : Op.negFloat .f64 x = x ^^^ 2 ^ 63 := rfl
  have hw := FM.word_eq hx
  have hr : FM.rg x < 9223372036854775808 := by unfold FM.rg; omega
  rw [e]
  conv => lhs; rw [hw]
  unfold Ieee.Format.word
  rw [FM.double_sign]
  cases FM.sgn x
  · simp only [Bool.false_eq_true, if_false, Bool.not_false, if_true]; exact xor_top _ hr
  · simp only [Bool.false_eq_true, if_false, Bool.not_true, if_true]
    rw [← xor_top _ hr, Nat.xor_assoc, Nat.xor_self, Nat.xor_zero]
def isInf (x : Nat) (s : Int) : Bool := (FM.rg x == FM.infR) && (decide (s = 0) || (decide (s < 0) == FM.sgn x))
theorem inf_plus (x : Nat) : (Ieee.double.order x 9218868437227405311 == some .gt) = ((FM.rg x == FM.infR) && !FM.sgn x) := by
  cases hx : FM.nan x
  · rw [gt_max x hx, Bool.and_comm]
  · rw [FM.order_nan (.inl hx)]
    have h := of_decide_eq_true hx
    have : (FM.rg x == FM.infR) = false := by simp; omega
    rw [this]; rfl
theorem rg_lt (x : Nat) : FM.rg x < 9223372036854775808 := by unfold FM.rg; omega
theorem sgn_rg (x : Nat) : FM.sgn (FM.rg x) = false := by have := rg_lt x; unfold FM.sgn; simp; omega
theorem rg_rg (x : Nat) : FM.rg (FM.rg x) = FM.rg x := by
  have := rg_lt x
  show FM.rg x % 9223372036854775808 = FM.rg x
  omega
@[go_sem] theorem unary_neg_float (k : FloatKind) (b : Nat) : Op.unary .neg (.float k b) = pure (.float k (Op.negFloat k b)) := rfl
set_option maxHeartbeats 400000 in
theorem isinf_any (x : Nat) (s : Int) (hx : x < 18446744073709551616) (w : World) :
    Calls Tryz.prog 73 #[.float .f64 x, .int .i64 s] w fun e w' => e = .returned (.bool (isInf x s)) ∧ w = w' := by
  by_cases h0 : s = 0
  · subst h0
    have e : isInf x 0 = (FM.rg x == FM.infR) := by unfold isInf; simp
    have h := inf_plus (FM.rg x)
    rw [sgn_rg, rg_rg, Bool.not_false, Bool.and_true] at h
    rw [e]
    have HX := Lib.hid hx
    clear hx
    generalize (FM.rg x == FM.infR) = bb at *
    go_enter Tryz.func73, Tryz.ntmps73
    go_wp2_with (go_at_call 74; refine (abs_any _ HX.out _).mono ?_; rintro e w' ⟨rfl, rfl⟩)
    go_ret
    exact ⟨by rw [← h]; rfl, rfl⟩
  · have hb : (s == 0) = false := by simpa using h0
    by_cases h1 : s < 0
    · have e : isInf x s = (FM.rg x == FM.infR && FM.sgn x) := by unfold isInf; simp [h0, h1]
      have h := inf_plus (Ieee.double.word (!FM.sgn x) (FM.rg x))
      rw [FM.word_sgn _ (rg_lt x), FM.word_rg _ (rg_lt x), Bool.not_not] at h
      rw [e]
      have hn := neg_word x hx
      clear e h0
      generalize (FM.rg x == FM.infR && FM.sgn x) = bb at *
      generalize Ieee.double.word (!FM.sgn x) (FM.rg x) = y at *
      have HX := Lib.hid hx
      clear hx
      go_enter Tryz.func73, Tryz.ntmps73
      go_wp2
      go_ret
      exact ⟨by rw [← h]; rfl, rfl⟩
    · have e : isInf x s = (FM.rg x == FM.infR && !FM.sgn x) := by unfold isInf; simp [h0, h1]
      have h := inf_plus x
      rw [e]
      clear e h0
      generalize (FM.rg x == FM.infR && !FM.sgn x) = bb at *
      have HX := Lib.hid hx
      clear hx
      go_enter Tryz.func73, Tryz.ntmps73
      go_wp2
      go_ret
      exact ⟨by rw [← h]; rfl, rfl⟩
end Go.Proofs.YtgfhabofhefaaaaGreatDoor
namespace Go.Proofs.YtgfhabofhefaaaaGreatDoor
namespace D
def vis (c : UInt8) : Bool := decide (33 ≤ c.toNat ∧ c.toNat ≤ 126)
def nm (l : List UInt8) : Bool := decide (1 ≤ l.length) && decide (l.length ≤ 64) && l.all vis
abbrev E := List UInt8 × List UInt8
def okE (e : E) : Bool := nm e.1 && decide (e.2.length ≤ 128)
def chk (es : List E) : Bool := decide (1 ≤ es.length) && decide (es.length ≤ 8) && es.all okE
end D
end Go.Proofs.YtgfhabofhefaaaaGreatDoor
namespace Go.Proofs.YtgfhabofhefaaaaGreatDoor
open Go.RowKit
def Rdv (w : World) (v : Value) (xs : List Value) : Prop :=
  ∃ ao cap, v = .slice ao xs.length cap ∧ xs.length ≤ cap ∧ cap ≤ maxLen ∧ (ao = none → cap = 0) ∧ ∀ j u, xs[j]? = some u → ∃ x, ao = some x ∧ w.cell? (x.add j) = some u
def Own (w : World) (base : Nat) (e : TypeId) (v : Value) (xs : List Value) : Prop := w.ownsRow base e 1 v xs.length xs
def bv (bs : List UInt8) : List Value := bs.map fun b => .int .u8 (b.toNat : Int)
theorem bv_len (bs : List UInt8) : (bv bs).length = bs.length := by simp [bv]
theorem bv_app (a b : List UInt8) : bv (a ++ b) = bv a ++ bv b := by simp [bv]
theorem bv_get {bs : List UInt8} {j : Nat} (h : j < bs.length) : (bv bs)[j]? = some (.int .u8 (bs[j].toNat : Int)) := by simp [bv, h]
theorem bv_one {bs : List UInt8} : ∀ u ∈ bv bs, u.oneCell' = true := by
  intro u hu
  obtain ⟨_, _, rfl⟩ := List.mem_map.1 hu
  rfl
theorem cell_lt {w : World} {x : Addr} {u : Value} (h : w.cell? x = some u) : x.block < w.heap.size := World.block_lt_of_cell? w x h
theorem Rdv.below {w w' : World} {v : Value} {xs : List Value} (h : Rdv w v xs) (hb : Below w.heap.size w w') : Rdv w' v xs := by
  obtain ⟨ao, cap, hv, h1, h2, h3, h4⟩ := h
  refine ⟨ao, cap, hv, h1, h2, h3, fun j u hu => ?_⟩
  obtain ⟨x, hx, hc⟩ := h4 j u hu
  exact ⟨x, hx, (hb.cell (cell_lt hc)).trans hc⟩
theorem Rdv.len_le {w : World} {v : Value} {xs : List Value} (h : Rdv w v xs) : xs.length ≤ maxLen := by
  obtain ⟨ao, cap, hv, h1, h2, _⟩ := h
  omega
theorem Rdv.nil (w : World) : Rdv w (.slice none 0 0) [] := ⟨none, 0, rfl, by simp, by simp [maxLen], fun _ => rfl, by simp⟩
theorem Own.rd {w : World} {base : Nat} {e : TypeId} {v : Value} {xs : List Value} (h : Own w base e v xs) : Rdv w v xs := by
  rcases h.2 with ⟨hv, hn⟩ | ⟨g, cap, cur, hv, hb, hg, hnc, hcm, hcs, ht⟩
  · obtain rfl : xs = [] := List.length_eq_zero_iff.1 hn
    rw [hv]; exact Rdv.nil w
  · refine ⟨some ⟨g, 0, none⟩, cap, hv, hnc, hcm, (by intro h; cases h), fun j u hu => ⟨_, rfl, ?_⟩⟩
    exact World.ownsRow.cells h (by rw [hv]; rfl) j u hu
theorem Own.nil (w : World) (base : Nat) (e : TypeId) : Own w base e (.slice none 0 0) [] := World.ownsRow_nil w base e 1
theorem Own.below {w w' : World} {base : Nat} {e : TypeId} {v : Value} {xs : List Value} (h : Own w base e v xs) (hb : Below w.heap.size w w') : Own w' base e v xs := by
  refine ⟨h.1, ?_⟩
  rcases h.2 with hn | ⟨g, cap, cur, hv, hbg, hg, rest⟩
  · exact .inl hn
  · exact .inr ⟨g, cap, cur, hv, hbg, (hb.block g (Array.getElem?_eq_some_iff.1 hg).1).trans hg, rest⟩
theorem Own.base {w : World} {base base' : Nat} {e : TypeId} {v : Value} {xs : List Value} (h : Own w base e v xs) (hb : base' ≤ base) : Own w base' e v xs := by
  refine ⟨h.1, ?_⟩
  rcases h.2 with hn | ⟨g, cap, cur, hv, hbg, rest⟩
  · exact .inl hn
  · exact .inr ⟨g, cap, cur, hv, Nat.le_trans hb hbg, rest⟩
theorem Own.alloc {w : World} {base : Nat} {e : TypeId} {v : Value} {xs : List Value} (h : Own w base e v xs) (o : Obj) : Own (w.alloc o) base e v xs := World.ownsRow.alloc h o
theorem Own.lit (w : World) {base : Nat} {e : TypeId} (cs : List Value) (hb : base ≤ w.heap.size) (hm : cs.length ≤ maxLen) :
    Own (w.alloc (.cells cs.toArray e)) base e (.slice (some ⟨w.heap.size, 0, none⟩) cs.length cs.length) cs := by
  have := World.ownsRow_lit (e := e) (size := 1) (base := base) w cs.toArray cs.length hb hm (by simp)
  show (w.alloc (.cells cs.toArray e)).ownsRow base e 1 _ cs.length cs
  simpa using this
theorem below_alloc (w : World) (o : Obj) : Below w.heap.size w (w.alloc o) := (Below.refl _ w).alloc (Nat.le_refl _) o
theorem below_of_grown {w w' : World} {base : Nat} {e : TypeId} {v : Value} {xs : List Value} (h : Own w base e v xs) (hg : w.grownBy w' v.ownBlock) (hB : base ≤ w.heap.size) : Below base w w' :=
  (Below.refl base w).grown hg hB (fun k hk => (World.ownsRow.lt h k hk).1)
theorem below_tr {a b c : World} (h : Below a.heap.size a b) (k : Below b.heap.size b c) : Below a.heap.size a c := h.trans (k.mono h.size)
theorem wpList_append_rd {P : Program} {w : World} {ops : Array Oper} {rest : List Oper} {o : Oper} {a : Act} {Q : Exit → Act → World → Prop} (hgd : o.guard = none) (s x : Operand) (t : TypeId)
    (ho : o.op = .call { callee := .builtin .append, args := #[s, x], argTypes := #[t, t] })
    (base : Nat) (e : TypeId) (z : Value) (bytes : Nat) (ht : P.underlying t = some (.slice e)) (hinfo : (P.info? e).map (fun i => (i.zero, i.size, i.bytes)) = some (some z, 1, bytes)) (hz : z.cells.size = 1)
    {v vx : Value} {xs news : List Value} (hs : a.eval s = v) (hown : Own w base e v xs) (hx : a.eval x = vx) (hrd : Rdv w vx news) (h1 : ∀ u ∈ news, u.oneCell' = true)
    (h63 : xs.length + news.length ≤ maxLen) (hbytes : (xs.length + news.length) * bytes ≤ 140737488355328) (hbase : base ≤ w.heap.size)
    (h : ∀ v' w', Own w' base e v' (xs ++ news) → w.grownBy w' v.ownBlock → Below base w w' → wpList P ops Q rest (a.put o.dst v') w') : wpList P ops Q (o :: rest) a w := by
  obtain ⟨i, hi, hz0, hz1, hz2⟩ := info_parts hinfo
  obtain ⟨ao, cap, rfl, h1', h2, h3, h4⟩ := hrd
  cases ao with
  | none =>
    have hc := h3 rfl
    have hn : news = [] := List.length_eq_zero_iff.1 (by omega)
    subst hn
    subst hc
    refine wpList_append_own_none hgd s x t ho base e i 1 ht hi v xs.length xs hs hown hx ?_
    exact h v w (by simpa using hown) (World.grownBy.refl _ _) (Below.refl _ _)
  | some ad =>
    refine wpList_append_own _ hgd s x t ho base e i z 1 bytes ht hi hz0 hz1 hz2 hz (by decide) v xs.length xs hs hown ad news.length cap news hx (by simp) (fun j u hu => ?_) h1 h63 hbytes hbase ?_
    · obtain ⟨y, hy, hc⟩ := h4 j u hu
      obtain rfl := Option.some.inj hy
      exact hc
    · intro v' w' ho' hg _
      refine h v' w' ?_ hg (below_of_grown hown hg hbase)
      show w'.ownsRow base e 1 v' (xs ++ news).length (xs ++ news)
      rw [List.length_append]; exact ho'
theorem wpList_append_bytes {P : Program} {w : World} {ops : Array Oper} {rest : List Oper} {o : Oper} {a : Act} {Q : Exit → Act → World → Prop} (hgd : o.guard = none) (s x : Operand) (t : TypeId)
    (ho : o.op = .call { callee := .builtin .append, args := #[s, x], argTypes := #[t, t] })
    (base : Nat) (e : TypeId) (ht : P.underlying t = some (.slice e)) (hinfo : (P.info? e).map (fun i => (i.zero, i.size, i.bytes)) = some (some (.int .u8 0), 1, 1))
    {v vx : Value} {xs news : List UInt8} (hs : a.eval s = v) (hown : Own w base e v (bv xs)) (hx : a.eval x = vx) (hrd : Rdv w vx (bv news))
    (hlen : xs.length + news.length ≤ 140737488355328) (hbase : base ≤ w.heap.size)
    (h : ∀ v' w', Own w' base e v' (bv (xs ++ news)) → w.grownBy w' v.ownBlock → Below base w w' → wpList P ops Q rest (a.put o.dst v') w') : wpList P ops Q (o :: rest) a w :=
  wpList_append_rd hgd s x t ho base e (.int .u8 0) 1 ht hinfo rfl hs hown hx hrd bv_one (by rw [bv_len, bv_len]; unfold maxLen; omega) (by rw [bv_len, bv_len]; omega) hbase
    (fun v' w' h1 h2 h3 => h v' w' (by rw [bv_app]; exact h1) h2 h3)
theorem one_rd {w : World} {e : TypeId} {B : Int} {b : UInt8} (h : B = (b.toNat : Int)) : Rdv (w.alloc (.cells #[.int .u8 B] e)) (.slice (some ⟨w.heap.size, 0, none⟩) 1 1) (bv [b]) := by
  subst h
  exact (Own.lit (base := 0) w (e := e) (bv [b]) (Nat.zero_le _) (by simp [bv, maxLen])).rd
theorem lit_rd {w : World} {e : TypeId} (bs : List UInt8) (hm : bs.length ≤ maxLen) : Rdv (w.alloc (.cells (bv bs).toArray e)) (.slice (some ⟨w.heap.size, 0, none⟩) bs.length bs.length) (bv bs) := by
  have := (Own.lit (base := 0) w (e := e) (bv bs) (Nat.zero_le _) (by simpa [bv] using hm)).rd
  rwa [bv_len] at this
theorem Rdv.cut {w : World} {ao : Option Addr} {cap : Nat} {xs : List Value} (hr : Rdv w (.slice ao xs.length cap) xs) {l h m : Nat} (h1 : l ≤ h) (h2 : h ≤ xs.length) (h3 : h ≤ m) (h4 : m ≤ cap) :
    Rdv w (sliced ao l h m 1) ((xs.take h).drop l) ∧ ∃ a', sliced ao l h m 1 = .slice a' ((xs.take h).drop l).length (m - l) := by
  obtain ⟨as9, cp, hv, g1, g2, g3, g4⟩ := hr
  obtain ⟨rfl, rfl⟩ : ao = as9 ∧ cap = cp := by simpa using hv
  have hl : ((xs.take h).drop l).length = h - l := by simp; omega
  refine ⟨⟨_, m - l, by rw [hl]; rfl, by omega, by omega, ?_, ?_⟩, ⟨_, by rw [hl]; rfl⟩⟩
  · intro hn
    split at hn
    · have := g3 hn; omega
    · have := g3 (by simpa using hn); omega
  · intro j u hu
    have hj : j < h - l := by
      have := (List.getElem?_eq_some_iff.1 hu).1
      omega
    have hu' : xs[l + j]? = some u := by
      rw [List.getElem?_drop, List.getElem?_take, if_pos (by omega)] at hu
      exact hu
    obtain ⟨x, hx, hc⟩ := g4 (l + j) u hu'
    have hml : ¬ m = l := by omega
    refine ⟨x.add l, by simp [hml, hx], ?_⟩
    have : (x.add l).add j = x.add (l + j) := by
      unfold Addr.add
      split <;> split <;> split <;> simp_all <;> omega
    rw [this]; exact hc
theorem bv_cut (bs : List UInt8) (l h : Nat) : ((bv bs).take h).drop l = bv ((bs.take h).drop l) := by simp [bv, List.map_take, List.map_drop]
theorem Rdv.cutb {w : World} {ao : Option Addr} {cap : Nat} {bs : List UInt8} (hr : Rdv w (.slice ao bs.length cap) (bv bs)) {l h m : Nat} (h1 : l ≤ h) (h2 : h ≤ bs.length) (h3 : h ≤ m) (h4 : m ≤ cap) :
    Rdv w (sliced ao l h m 1) (bv ((bs.take h).drop l)) ∧ ∃ a', sliced ao l h m 1 = .slice a' ((bs.take h).drop l).length (m - l) := by
  have := Rdv.cut (xs := bv bs) (by rw [bv_len]; exact hr) h1 (by rw [bv_len]; exact h2) h3 h4
  rw [bv_cut, bv_len] at this
  exact this
theorem Rdv.cut2 {w : World} {ao : Option Addr} {cap : Nat} {bs : List UInt8} (hr : Rdv w (.slice ao bs.length cap) (bv bs)) {l k : Nat} (h : l + k ≤ bs.length) :
    (¬ cap = l → Rdv w (.slice (ao.map (fun x => x.add l)) k (cap - l)) (bv ((bs.take (l + k)).drop l))) ∧ (cap = l → Rdv w (.slice ao k 0) (bv ((bs.take (l + k)).drop l))) := by
  have hc : bs.length ≤ cap := by
    obtain ⟨a', c', hv, h1, _⟩ := id hr
    obtain ⟨-, -, rfl⟩ : ao = a' ∧ True ∧ cap = c' := by simpa [bv_len] using hv
    rwa [bv_len] at h1
  have hk := (Rdv.cutb hr (l := l) (h := l + k) (m := cap) (by omega) h (by omega) (Nat.le_refl _)).1
  rw [sliced, Nat.add_sub_cancel_left, Nat.mul_one] at hk
  refine ⟨fun hne => by rwa [if_neg hne] at hk, fun he => ?_⟩
  rw [if_pos he] at hk
  rwa [he, Nat.sub_self] at hk
theorem Rdv.rest {w : World} {ao : Option Addr} {cap : Nat} {bs : List UInt8} (hr : Rdv w (.slice ao bs.length cap) (bv bs)) {l : Nat} (h : l ≤ bs.length) :
    (¬ cap = l → Rdv w (.slice (ao.map (fun x => x.add l)) (bs.length - l) (cap - l)) (bv (bs.drop l))) ∧ (cap = l → Rdv w (.slice ao (bs.length - l) 0) (bv (bs.drop l))) := by
  have := Rdv.cut2 hr (l := l) (k := bs.length - l) (by omega)
  rwa [Nat.add_sub_cancel' h, List.take_length] at this
theorem Rdv.take {w : World} {ao : Option Addr} {cap L : Nat} {bs : List UInt8} (hr : Rdv w (.slice ao bs.length cap) (bv bs)) (hL : L ≤ bs.length) : Rdv w (.slice ao L cap) (bv (bs.take L)) := by
  obtain ⟨a', c', hv, h1, h2, h3, h4⟩ := hr
  obtain ⟨rfl, -, rfl⟩ : ao = a' ∧ True ∧ cap = c' := by simpa [bv_len] using hv
  rw [bv_len] at h1
  refine ⟨ao, cap, by rw [bv_len, List.length_take, Nat.min_eq_left hL], by rw [bv_len, List.length_take]; omega, h2, h3, fun j u hu => h4 j u ?_⟩
  have e : bv (bs.take L) = (bv bs).take L := by simp [bv, List.map_take]
  rw [e, List.getElem?_take] at hu
  split at hu
  · exact hu
  · cases hu
theorem run_string_rd {P : Program} {w : World} (src e dst : TypeId) (hs : P.underlying src = some (.slice e)) (he : P.underlying e = some (.int .u8)) (hd : P.underlying dst = some .string) {v : Value} {bs : List UInt8} (h : Rdv w v (bv bs)) :
    (convert src dst v).run P w = .ok (.string ⟨bs.toArray⟩) w := by
  obtain ⟨ao, cap, rfl, h1, h2, h3, h4⟩ := h
  by_cases hb : bs = []
  · subst hb
    rw [run_convert_bytes_string w src dst e _ _ cap hs he hd]
    cases ao <;> simp [Conv.bytesToString, loadCells, bv] <;> rfl
  · have hpos : 0 < bs.length := List.length_pos_iff.2 hb
    obtain ⟨⟨b, off, spot⟩, rfl, hc0⟩ := h4 0 _ (bv_get hpos)
    have hspot : spot = none := by simpa [Addr.add] using World.cell?_spot hc0
    subst hspot
    have := run_convert_bytes_arg (P := P) w src e hs he b off bs.length cap (bs.map fun b => (b.toNat : Int)) (by simp) (fun i hi => by
      obtain ⟨y, hy, hc⟩ := h4 i _ (bv_get hi)
      obtain rfl := Option.some.inj hy
      rw [Addr.add_lit] at hc
      rw [hc]; simp [List.getD, hi]) dst hd
    rw [bv_len, this]
    simp [strOfNums, Function.comp_def]
theorem Rdv.at {w : World} {v : Value} {bs : List UInt8} (h : Rdv w v (bv bs)) {j : Nat} (hj : j < bs.length) :
    ∃ b off cap, v = .slice (some ⟨b, off, none⟩) bs.length cap ∧ b < w.heap.size ∧ ∀ i (hi : i < bs.length), w.cell? ⟨b, off + i, none⟩ = some (.int .u8 (bs[i].toNat : Int)) := by
  obtain ⟨ao, cap, rfl, h1, h2, h3, h4⟩ := h
  have hpos : 0 < bs.length := by omega
  obtain ⟨⟨b, off, spot⟩, rfl, hc0⟩ := h4 0 _ (bv_get hpos)
  have hspot : spot = none := by simpa [Addr.add] using World.cell?_spot hc0
  subst hspot
  refine ⟨b, off, cap, by rw [bv_len], cell_lt (by simpa [Addr.add] using hc0), fun i hi => ?_⟩
  obtain ⟨y, hy, hc⟩ := h4 i _ (bv_get hi)
  obtain rfl := Option.some.inj hy
  rwa [Addr.add_lit] at hc
end Go.Proofs.YtgfhabofhefaaaaGreatDoor
namespace Go.Proofs.YtgfhabofhefaaaaGreatDoor
open Go.RowKit
theorem below_trans {a b c : World} (h : Below a.heap.size a b) (k : Below b.heap.size b c) : Below a.heap.size a c := h.trans (k.mono h.size)
theorem below_drew (w : World) : Below w.heap.size w w.drew := ⟨rfl, rfl, rfl, Nat.le_refl _, fun _ _ => rfl⟩
theorem below_drewN (w : World) (n : Nat) : Below w.heap.size w (w.drewN n) := ⟨rfl, rfl, rfl, Nat.le_refl _, fun _ _ => rfl⟩
theorem str_app (a b : List UInt8) : (⟨a.toArray⟩ : ByteArray) ++ ⟨b.toArray⟩ = ⟨(a ++ b).toArray⟩ := ByteArray.mk_append_mk a b
theorem str_size (l : List UInt8) : (⟨l.toArray⟩ : ByteArray).size = l.length := by simp [ByteArray.size]
theorem ret_s {a b : List UInt8} {P : Prop} (h : a = b) (hp : P) : Ending.returned (.string ⟨a.toArray⟩) = .returned (.string ⟨b.toArray⟩) ∧ P := ⟨by rw [h], hp⟩
theorem ret_b {a b : Bool} {P : Prop} (h : a = b) (hp : P) : Ending.returned (.bool a) = .returned (.bool b) ∧ P := ⟨by rw [h], hp⟩
theorem ret_sb {a b : List UInt8} {x y : Bool} {P : Prop} (h : a = b) (h2 : x = y) (hp : P) : Ending.returned (.tuple #[.string ⟨a.toArray⟩, .bool x]) = .returned (.tuple #[.string ⟨b.toArray⟩, .bool y]) ∧ P := ⟨by rw [h, h2], hp⟩
theorem at_s {l : List UInt8} {p : Nat} {c : UInt8} (hc : l[p]? = some c) (hlt : p < (⟨l.toArray⟩ : ByteArray).size) : ((⟨l.toArray⟩ : ByteArray)[p]'hlt) = c := by
  have h1 : p < l.length := by rw [str_size] at hlt; exact hlt
  have h2 : ((⟨l.toArray⟩ : ByteArray)[p]'hlt) = l[p]'h1 := rfl
  rw [h2]
  rw [List.getElem?_eq_getElem h1] at hc
  exact Option.some.inj hc
theorem i_of {b c : UInt8} {z : Int} (h : b = c) (hz : (c.toNat : Int) = z) : ((b.toNat : Nat) : Int) = z := by rw [h, hz]
theorem at_z {l : List UInt8} {p : Nat} {c : UInt8} {z : Int} (hc : l[p]? = some c) (hz : (c.toNat : Int) = z) (hlt : p < (⟨l.toArray⟩ : ByteArray).size) : ((((⟨l.toArray⟩ : ByteArray)[p]'hlt).toNat : Nat) : Int) = z := i_of (at_s hc hlt) hz
end Go.Proofs.YtgfhabofhefaaaaGreatDoor
namespace Go.Proofs.YtgfhabofhefaaaaGreatDoor
open Go.RowKit
theorem ord3 {x y : Nat} (hx : FM.nan x = false) (hy : FM.nan y = false) :
    (FloatKind.f64.format.order x y = some .lt ∧ FM.sv x < FM.sv y) ∨ (FloatKind.f64.format.order x y = some .gt ∧ FM.sv y < FM.sv x) ∨ (FloatKind.f64.format.order x y = some .eq ∧ FM.sv x = FM.sv y) := by
  have h := FM.order_num hx hy
  have e : FloatKind.f64.format.order x y = Ieee.double.order x y := rfl
  rw [e, h]
  by_cases h1 : FM.sv x < FM.sv y
  · exact .inl ⟨by rw [if_pos h1], h1⟩
  · by_cases h2 : FM.sv y < FM.sv x
    · exact .inr (.inl ⟨by rw [if_neg h1, if_pos h2], h2⟩)
    · exact .inr (.inr ⟨by rw [if_neg h1, if_neg h2], by omega⟩)
def key (x : Nat) : Int := if FM.nan x then 2 * (FM.val FM.infR : Int) + 2 else 2 * FM.sv x + (if FM.sgn x then 0 else 1)
def ordI (x y : Nat) : Int := if key x < key y then -1 else if key y < key x then 1 else 0
theorem sv_le {x : Nat} (hx : FM.nan x = false) : FM.sv x ≤ (FM.val FM.infR : Int) := by
  have h := of_decide_eq_false hx
  have : FM.val (FM.rg x) ≤ FM.val FM.infR := FM.val_le (by omega)
  unfold FM.sv; split <;> omega
theorem key_num {x : Nat} (hx : FM.nan x = false) : key x = 2 * FM.sv x + (if FM.sgn x then 0 else 1) ∧ key x < 2 * (FM.val FM.infR : Int) + 2 := by
  have h := sv_le hx
  unfold key
  rw [hx]
  simp only [Bool.false_eq_true, if_false]
  refine ⟨trivial, ?_⟩
  split <;> omega
theorem key_nan {x : Nat} (hx : FM.nan x = true) : key x = 2 * (FM.val FM.infR : Int) + 2 := by unfold key; rw [hx]; rfl
theorem ordI_nn {x y : Nat} (hx : FM.nan x = true) (hy : FM.nan y = true) : ordI x y = 0 := by
  unfold ordI; rw [key_nan hx, key_nan hy]; simp
theorem ordI_ny {x y : Nat} (hx : FM.nan x = true) (hy : FM.nan y = false) : ordI x y = 1 := by
  have := (key_num hy).2
  unfold ordI; rw [key_nan hx, if_neg (by omega), if_pos (by omega)]
theorem ordI_yn {x y : Nat} (hx : FM.nan x = false) (hy : FM.nan y = true) : ordI x y = -1 := by
  have := (key_num hx).2
  unfold ordI; rw [key_nan hy, if_pos (by omega)]
theorem ordI_lt {x y : Nat} (hx : FM.nan x = false) (hy : FM.nan y = false) (h : FM.sv x < FM.sv y) : ordI x y = -1 := by
  have h1 := (key_num hx).1; have h2 := (key_num hy).1
  unfold ordI
  rw [if_pos]
  rw [h1, h2]; split <;> split <;> omega
theorem ordI_gt {x y : Nat} (hx : FM.nan x = false) (hy : FM.nan y = false) (h : FM.sv y < FM.sv x) : ordI x y = 1 := by
  have h1 := (key_num hx).1; have h2 := (key_num hy).1
  have : key y < key x := by rw [h1, h2]; split <;> split <;> omega
  unfold ordI
  rw [if_neg (by omega), if_pos this]
theorem ordI_eq {x y : Nat} (hx : FM.nan x = false) (hy : FM.nan y = false) (h : FM.sv x = FM.sv y) : ordI x y = if FM.sgn x = FM.sgn y then 0 else if FM.sgn x then -1 else 1 := by
  have h1 := (key_num hx).1; have h2 := (key_num hy).1
  unfold ordI
  rw [h1, h2, h]
  cases FM.sgn x <;> cases FM.sgn y <;> simp
  all_goals omega
theorem ret_i {a b : Int} {P : Prop} (h : a = b) (hp : P) : Ending.returned (.int .i64 a) = .returned (.int .i64 b) ∧ P := ⟨by rw [h], hp⟩
set_option maxHeartbeats 800000 in
theorem rorder_any (x y : Nat) (bx : x < 18446744073709551616) (by_ : y < 18446744073709551616) (w : World) :
    Calls Tryz.prog 137 #[.float .f64 x, .float .f64 y] w fun e w' => e = .returned (.int .i64 (ordI x y)) ∧ w = w' := by
  have BX := Lib.hid bx; have BY := Lib.hid by_
  clear bx by_
  cases hx : FM.nan x <;> cases hy : FM.nan y
  · rcases ord3 hx hy with ⟨ho, hs⟩ | ⟨ho, hs⟩ | ⟨ho, hs⟩
    · have E := Lib.hid (ordI_lt hx hy hs)
      clear hs
      go_enter Tryz.func137, Tryz.ntmps137
      go_wp2_with (go_at_call 71; refine (isnan_any _ _).mono ?_; rintro e w' ⟨rfl, rfl⟩)
      go_ret
      exact ret_i E.out.symm rfl
    · have E := Lib.hid (ordI_gt hx hy hs)
      clear hs
      go_enter Tryz.func137, Tryz.ntmps137
      go_wp2_with (go_at_call 71; refine (isnan_any _ _).mono ?_; rintro e w' ⟨rfl, rfl⟩)
      go_ret
      exact ret_i E.out.symm rfl
    · have E := ordI_eq hx hy hs
      clear hs
      cases sx : FM.sgn x <;> cases sy : FM.sgn y
      all_goals
        rw [sx, sy] at E
        have E' := Lib.hid E
        clear E
        go_enter Tryz.func137, Tryz.ntmps137
        go_wp2_with (first | (go_at_call 71; refine (isnan_any _ _).mono ?_; rintro e w' ⟨rfl, rfl⟩) | (go_at_call 72; refine (signbit_any _ (by first | exact BX.out | exact BY.out) _).mono ?_; rintro e w' ⟨rfl, rfl⟩))
        go_ret
        exact ret_i E'.out.symm rfl
  · have E := Lib.hid (ordI_yn hx hy)
    go_enter Tryz.func137, Tryz.ntmps137
    go_wp2_with (go_at_call 71; refine (isnan_any _ _).mono ?_; rintro e w' ⟨rfl, rfl⟩)
    go_ret
    exact ret_i E.out.symm rfl
  · have E := Lib.hid (ordI_ny hx hy)
    go_enter Tryz.func137, Tryz.ntmps137
    go_wp2_with (go_at_call 71; refine (isnan_any _ _).mono ?_; rintro e w' ⟨rfl, rfl⟩)
    go_ret
    exact ret_i E.out.symm rfl
  · have E := Lib.hid (ordI_nn hx hy)
    go_enter Tryz.func137, Tryz.ntmps137
    go_wp2_with (go_at_call 71; refine (isnan_any _ _).mono ?_; rintro e w' ⟨rfl, rfl⟩)
    go_ret
    exact ret_i E.out.symm rfl
set_option maxHeartbeats 400000 in
theorem alike_any (x y : Nat) (bx : x < 18446744073709551616) (by_ : y < 18446744073709551616) (w : World) :
    Calls Tryz.prog 135 #[.float .f64 x, .float .f64 y] w fun e w' => e = .returned (.bool (ordI x y == 0)) ∧ w = w' := by
  have BX := Lib.hid bx; have BY := Lib.hid by_
  clear bx by_
  go_enter Tryz.func135, Tryz.ntmps135
  go_wp2_with (go_at_call 137; refine (rorder_any _ _ BX.out BY.out _).mono ?_; rintro e w' ⟨rfl, rfl⟩)
  go_ret
  exact ⟨rfl, rfl⟩
end Go.Proofs.YtgfhabofhefaaaaGreatDoor
namespace Go.Proofs.YtgfhabofhefaaaaGreatDoor.M
def top : Int := 4611686018427387904
def hold (a : Int) : Int := if a < 0 then 0 else if top < a then top else a
theorem hold_lo (a : Int) : 0 ≤ hold a := by unfold hold top; split <;> (try split) <;> omega
theorem hold_hi (a : Int) : hold a ≤ 4611686018427387904 := by unfold hold top; split <;> (try split) <;> omega
theorem hold_in {a : Int} (h0 : 0 ≤ a) (h1 : a ≤ 4611686018427387904) : hold a = a := by unfold hold top; split <;> (try split) <;> omega
def add (a b : Int) : Int := if top - hold b < hold a then top else hold a + hold b
def sub (a b : Int) : Int := hold (hold a - hold b)
def mul (a b : Int) : Int := if top < hold a * hold b then top else hold a * hold b
end Go.Proofs.YtgfhabofhefaaaaGreatDoor.M
namespace Go.Proofs.YtgfhabofhefaaaaGreatDoor.M
open Go.Lib
def pgo : Int → List UInt8 → Option Int
  | n, [] => some n
  | n, c :: r => if 48 ≤ c.toNat ∧ c.toNat ≤ 57 then (if (top - ((c.toNat : Int) - 48)) / 10 < n then none else pgo (n * 10 + ((c.toNat : Int) - 48)) r) else none
def parse (l : List UInt8) : Option Int := if l = [] ∨ (1 < l.length ∧ l.head? = some 48) then none else pgo 0 l
theorem drop_at (s : ByteArray) (k : Nat) (h : k < s.size) : s.data.toList.drop k = s[k] :: s.data.toList.drop (k + 1) := by
  rw [List.drop_eq_getElem_cons (by simpa using h)]; rfl
end Go.Proofs.YtgfhabofhefaaaaGreatDoor.M
namespace Go.Proofs.YtgfhabofhefaaaaGreatDoor.TX
open Go.Lib
def pad (n k : Nat) : List UInt8 := List.replicate (k - (decDigits n).length) 48 ++ decDigits n
def pnt (whole part places : Nat) : List UInt8 := if places = 0 then decDigits whole else decDigits whole ++ 46 :: pad part places
theorem pad_length {n k : Nat} (h : nDigits n ≤ k) : (pad n k).length = k := by
  unfold pad; rw [List.length_append, List.length_replicate, decDigits_length]; omega
theorem nDigits_lt {k u : Nat} (h : u < 10 ^ k) (hk : k ≠ 0) : nDigits u ≤ k := by
  induction k generalizing u with
  | zero => exact absurd rfl hk
  | succ k ih =>
    by_cases h10 : u < 10
    · rw [nDigits_small h10]; omega
    · rw [nDigits_big h10]
      rw [Nat.pow_succ] at h
      have : k ≠ 0 := by rintro rfl; omega
      have := ih (u := u / 10) (by omega) this
      omega
def isD (c : UInt8) : Bool := decide (48 ≤ c.toNat ∧ c.toNat ≤ 57)
def num (n : Nat) (l : List UInt8) : Nat := l.foldl (fun n c => n * 10 + (c.toNat - 48)) n
theorem num_nil (n : Nat) : num n [] = n := by unfold num; rw [List.foldl_nil]
theorem num_cons (n : Nat) (c : UInt8) (l : List UInt8) : num n (c :: l) = num (n * 10 + (c.toNat - 48)) l := by unfold num; rw [List.foldl_cons]
theorem num_append (a b : List UInt8) (n : Nat) : num n (a ++ b) = num (num n a) b := by unfold num; rw [List.foldl_append]
def cnt : Nat → List UInt8 → Nat
  | 0, _ => 0
  | _ + 1, [] => 0
  | f + 1, c :: l => if isD c then cnt f l + 1 else 0
theorem cnt_le : ∀ (f : Nat) (l : List UInt8), cnt f l ≤ f ∧ cnt f l ≤ l.length
  | 0, _ => by simp [cnt]
  | _ + 1, [] => by simp [cnt]
  | f + 1, c :: l => by
    have := cnt_le f l
    simp only [cnt, List.length_cons]
    split <;> omega
theorem cnt_digits : ∀ (f : Nat) (l : List UInt8), ∀ c ∈ l.take (cnt f l), isD c = true
  | 0, _ => by simp [cnt]
  | _ + 1, [] => by simp [cnt]
  | f + 1, c :: l => by
    intro d hd
    simp only [cnt] at hd
    split at hd
    · rw [List.take_succ_cons] at hd
      rcases List.mem_cons.1 hd with rfl | hd
      · assumption
      · exact cnt_digits f l d hd
    · simp at hd
theorem cnt_end : ∀ (f : Nat) (l : List UInt8), cnt f l = f ∨ l.drop (cnt f l) = [] ∨ ∃ c r, l.drop (cnt f l) = c :: r ∧ isD c = false
  | 0, _ => .inl rfl
  | _ + 1, [] => by simp [cnt]
  | f + 1, c :: l => by
    simp only [cnt]
    split
    · rcases cnt_end f l with h | h | h
      · exact .inl (by omega)
      · exact .inr (.inl (by simpa using h))
      · exact .inr (.inr (by simpa using h))
    · rename_i h
      exact .inr (.inr ⟨c, l, rfl, by simpa using h⟩)
def psz (l : List UInt8) : Option (Nat × Nat) :=
  if cnt 9 l = 0 ∨ (1 < cnt 9 l ∧ l.head? = some 48) then none else
  match l.drop (cnt 9 l) with
  | [] => some (num 0 (l.take (cnt 9 l)), 0)
  | c :: t => if c = 46 then (if cnt 6 t = 0 ∨ t.drop (cnt 6 t) ≠ [] then none else some (num (num 0 (l.take (cnt 9 l))) (t.take (cnt 6 t)), cnt 6 t)) else none
end Go.Proofs.YtgfhabofhefaaaaGreatDoor.TX
namespace Go.Proofs.YtgfhabofhefaaaaGreatDoor.TX
open Go.Lib
theorem ten_pos (k : Nat) : 0 < 10 ^ k := Nat.pow_pos (by decide)
theorem ten_le {k : Nat} (h : k ≤ 6) : 10 ^ k ≤ 1000000 := by
  have : 10 ^ k ≤ 10 ^ 6 := Nat.pow_le_pow_right (by decide) h
  omega
def qw (n k : Nat) : Nat := (Ieee.double.div (floatOfInt .f64 (n : Int)) (floatOfInt .f64 ((10 ^ k : Nat) : Int))).getD 0
theorem qdiv {n k : Nat} (hn : n ≤ 1000000000000000) (hk : k ≤ 6) : Ieee.double.div (floatOfInt .f64 (n : Int)) (floatOfInt .f64 ((10 ^ k : Nat) : Int)) = some (qw n k) ∧ qw n k < FM.infR ∧ FM.Rd (n * FM.U * FM.U) (10 ^ k * FM.U) (qw n k) := by
  have hp := ten_pos k; have ht := ten_le hk; have hU := FM.U_pos; have hb := FM.infR_lt
  obtain ⟨X, hX, hXi, hXv⟩ := FM.ofInt_small (n : Int) (by omega) (by omega)
  obtain ⟨Y, hY, hYi, hYv⟩ := FM.ofInt_small ((10 ^ k : Nat) : Int) (by omega) (by omega)
  rw [Int.toNat_natCast] at hXv hYv
  have rX : FM.rg X = X := by unfold FM.rg; omega
  have rY : FM.rg Y = Y := by unfold FM.rg; omega
  have sX : FM.sgn X = false := by unfold FM.sgn; simp; omega
  have sY : FM.sgn Y = false := by unfold FM.sgn; simp; omega
  have hYU : 0 < 10 ^ k * FM.U := Nat.mul_pos hp hU
  have hY0 : Y ≠ 0 := by rintro rfl; rw [FM.val_zero] at hYv; omega
  obtain ⟨R, h1, h2⟩ := FM.div_num (x := X) (y := Y) (by omega) (by omega) (by omega)
  rw [rX, rY, hXv, hYv] at h2
  rw [sX, sY] at h1
  have hR : R ≤ X := h2.le hYU (by
    rw [hXv, Nat.mul_comm (10 ^ k * FM.U), ← Nat.mul_assoc]
    apply Nat.mul_le_mul_right
    exact Nat.le_mul_of_pos_right _ hp)
  have e : Ieee.double.div (floatOfInt .f64 (n : Int)) (floatOfInt .f64 ((10 ^ k : Nat) : Int)) = some R := by
    rw [hX, hY, h1, Nat.min_eq_left (by omega)]; rfl
  have eq : qw n k = R := by unfold qw; rw [e]; rfl
  rw [eq]
  exact ⟨e, by omega, h2⟩
def mw (r k : Nat) : Nat := (Ieee.double.mul r (floatOfInt .f64 ((10 ^ k : Nat) : Int))).getD 0
theorem mmul {r k : Nat} (hk : k ≤ 6) (hr : FM.val r < 1000000000 * FM.U) (hi : r < FM.infR) : Ieee.double.mul r (floatOfInt .f64 ((10 ^ k : Nat) : Int)) = some (mw r k) ∧ mw r k < FM.infR ∧ FM.Rd (FM.val r * (10 ^ k * FM.U)) FM.U (mw r k) ∧ FM.val (mw r k) ≤ 1000000000 * 10 ^ k * FM.U := by
  have hp := ten_pos k; have ht := ten_le hk; have hU := FM.U_pos; have hb := FM.infR_lt
  obtain ⟨Y, hY, hYi, hYv⟩ := FM.ofInt_small ((10 ^ k : Nat) : Int) (by omega) (by omega)
  rw [Int.toNat_natCast] at hYv
  have rX : FM.rg r = r := by unfold FM.rg; omega
  have rY : FM.rg Y = Y := by unfold FM.rg; omega
  have sX : FM.sgn r = false := by unfold FM.sgn; simp; omega
  have sY : FM.sgn Y = false := by unfold FM.sgn; simp; omega
  obtain ⟨R, h1, h2⟩ := FM.mul_num (x := r) (y := Y) (by omega) (by omega)
  rw [rX, rY, hYv] at h2
  rw [sX, sY] at h1
  obtain ⟨Z, hZ, hZi, hZv⟩ := FM.ofInt_small ((1000000000 * 10 ^ k : Nat) : Int) (by omega) (by omega)
  rw [Int.toNat_natCast] at hZv
  have hR : R ≤ Z := h2.le hU (by
    rw [hZv]
    have e : FM.U * (1000000000 * 10 ^ k * FM.U) = 1000000000 * FM.U * (10 ^ k * FM.U) := by grind
    rw [e]
    exact Nat.mul_le_mul_right _ (by omega))
  have e : Ieee.double.mul r (floatOfInt .f64 ((10 ^ k : Nat) : Int)) = some R := by
    rw [hY, h1, Nat.min_eq_left (by omega)]; rfl
  have eq : mw r k = R := by unfold mw; rw [e]; rfl
  rw [eq]
  exact ⟨e, by omega, h2, by rw [← hZv]; exact FM.val_le hR⟩
def allOf (r k : Nat) : Nat := (FM.val (mw r k) + FM.H) / FM.U
theorem allOf_about {r k : Nat} : allOf r k = FM.val (mw r k) / FM.U ∨ allOf r k = FM.val (mw r k) / FM.U + 1 := by
  have hU := FM.U_pos; have hH := FM.U_half; have hHp := FM.H_pos
  unfold allOf
  have h1 := Nat.div_add_mod (FM.val (mw r k)) FM.U
  have h2 := Nat.mod_lt (FM.val (mw r k)) hU
  generalize FM.val (mw r k) / FM.U = q at *
  generalize FM.val (mw r k) % FM.U = s at *
  rw [← h1]
  by_cases h : s < FM.H
  · left
    apply Nat.div_eq_of_lt_le
    · rw [Nat.mul_comm]; omega
    · rw [Nat.add_mul, Nat.mul_comm q]; omega
  · right
    apply Nat.div_eq_of_lt_le
    · rw [Nat.add_mul, Nat.mul_comm q]; omega
    · rw [Nat.add_mul, Nat.add_mul, Nat.mul_comm q]; omega
theorem allOf_qw {n k r : Nat} (hn : n ≤ 1000000000000000) (hk : k ≤ 6) (hr : FM.val r < 1000000000 * FM.U) (hi : r < FM.infR) (h : qw n k = r) : allOf r k = n := by
  obtain ⟨_, _, h3⟩ := qdiv (n := n) (k := k) hn hk
  obtain ⟨_, _, h4, _⟩ := mmul hk hr hi
  rw [h] at h3
  exact FM.round_core (by omega) (ten_pos k) (ten_le hk) h3 h4
def flW (r : Nat) : Nat := FloatKind.f64.encode ((FloatKind.f64.decode r).integral .down)
def txP (r : Nat) : Nat := (Ieee.double.mul ((Ieee.double.sub r (flW r)).getD 0) 4652007308841189376).getD 0
def mns (x : Nat) : List UInt8 := if FM.sgn x then [45] else []
def text (x : Nat) : List UInt8 :=
  if FM.nan x then [110, 97, 110] else if FM.rg x = FM.infR then mns x ++ [105, 110, 102] else if 4845873199050653696 ≤ FM.rg x then mns x ++ [98, 105, 103]
  else mns x ++ pnt (FM.val (FM.rg x) / FM.U) (FM.val (txP (FM.rg x)) / FM.U) 3
def parse (l : List UInt8) : Option Nat :=
  if l = [110, 97, 110] then some 9221120237041090561 else if l = [105, 110, 102] then some 9218868437227405312 else if l = [45, 105, 110, 102] then some 18442240474082181120 else
  match l with
  | 45 :: t => (psz t).map fun p => Ieee.double.word true (qw p.1 p.2)
  | _ => (psz l).map fun p => qw p.1 p.2
end Go.Proofs.YtgfhabofhefaaaaGreatDoor.TX
namespace Go.Proofs.YtgfhabofhefaaaaGreatDoor
open Go.RowKit
def nam (x : Nat) : List UInt8 := if FM.nan x then [110, 97, 110] else if FM.rg x = FM.infR then TX.mns x ++ [105, 110, 102] else []
def isNam (x : Nat) : Bool := FM.nan x || (FM.rg x == FM.infR)
theorem dig_le {n : Nat} (hn : n ≤ 9223372036854775807) : (Lib.decDigits n).length ≤ 20 := by
  rw [Lib.decDigits_length]; exact Lib.nDigits_le20 _ (by omega)
end Go.Proofs.YtgfhabofhefaaaaGreatDoor
