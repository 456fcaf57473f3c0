/- Several texts in one. -/
import Derived.Test.YtmgalfdiiegjjaaDoorRows
import Derived.Test.YtmgalfdiiegjjaaDoorSeg00
import Derived.Test.YtmgalfdiiegjjaaDoorSlc
import Derived.Lib.ConvBytes
import Derived.WalkSmall
namespace Go.Proofs.YtmgalfdiiegjjaaDoor
open Go.RowKit

theorem below_trans {a b c : World} (h : Below a.heap.size a b) (k : Below b.heap.size b c) : Below a.heap.size a c := h.trans (k.mono h.size)
theorem below_drew (w : World) : Below w.heap.size w w.drew := ⟨rfl, rfl, rfl, Nat.le_refl _, fun _ _ => rfl⟩
theorem below_drewN (w : World) (n : Nat) : Below w.heap.size w (w.drewN n) := ⟨rfl, rfl, rfl, Nat.le_refl _, fun _ _ => rfl⟩
theorem str_app (a b : List UInt8) : (⟨a.toArray⟩ : ByteArray) ++ ⟨b.toArray⟩ = ⟨(a ++ b).toArray⟩ := ByteArray.mk_append_mk a b
theorem str_size (l : List UInt8) : (⟨l.toArray⟩ : ByteArray).size = l.length := by simp [ByteArray.size]
theorem ret_s {a b : List UInt8} {P : Prop} (h : a = b) (hp : P) : Ending.returned (.string ⟨a.toArray⟩) = .returned (.string ⟨b.toArray⟩) ∧ P := ⟨by rw [h], hp⟩
theorem ret_b {a b : Bool} {P : Prop} (h : a = b) (hp : P) : Ending.returned (.bool a) = .returned (.bool b) ∧ P := ⟨by rw [h], hp⟩
theorem ret_sb {a b : List UInt8} {x y : Bool} {P : Prop} (h : a = b) (h2 : x = y) (hp : P) : Ending.returned (.tuple #[.string ⟨a.toArray⟩, .bool x]) = .returned (.tuple #[.string ⟨b.toArray⟩, .bool y]) ∧ P := ⟨by rw [h, h2], hp⟩
theorem ret_ssb {a b c d : List UInt8} {x y : Bool} {P : Prop} (h : a = b) (h2 : c = d) (h3 : x = y) (hp : P) : Ending.returned (.tuple #[.string ⟨a.toArray⟩, .string ⟨c.toArray⟩, .bool x]) = .returned (.tuple #[.string ⟨b.toArray⟩, .string ⟨d.toArray⟩, .bool y]) ∧ P := ⟨by rw [h, h2, h3], hp⟩
theorem str_eq (a b : List UInt8) : ((⟨a.toArray⟩ : ByteArray) = ⟨b.toArray⟩) ↔ a = b := ⟨fun h => by simpa using h, fun h => by rw [h]⟩

theorem at_s {l : List UInt8} {p : Nat} {c : UInt8} (hc : l[p]? = some c) (hlt : p < (⟨l.toArray⟩ : ByteArray).size) : ((⟨l.toArray⟩ : ByteArray)[p]'hlt) = c := by
  have h1 : p < l.length := by rw [str_size] at hlt; exact hlt
  have h2 : ((⟨l.toArray⟩ : ByteArray)[p]'hlt) = l[p]'h1 := rfl
  rw [h2]
  rw [List.getElem?_eq_getElem h1] at hc
  exact Option.some.inj hc
theorem i_of {b c : UInt8} {z : Int} (h : b = c) (hz : (c.toNat : Int) = z) : ((b.toNat : Nat) : Int) = z := by rw [h, hz]
theorem at_z {l : List UInt8} {p : Nat} {c : UInt8} {z : Int} (hc : l[p]? = some c) (hz : (c.toNat : Int) = z) (hlt : p < (⟨l.toArray⟩ : ByteArray).size) : ((((⟨l.toArray⟩ : ByteArray)[p]'hlt).toNat : Nat) : Int) = z := i_of (at_s hc hlt) hz

/-- '[]byte(s)': a new row, of which the call reads the text's bytes. -/
theorem bytes_of (l : List UInt8) (w : World) : ∃ (W : World) (cap : Nat), (convert 9 27 (.string ⟨l.toArray⟩)).run Tryd.prog w = .ok (.slice (some ⟨w.heap.size, 0, none⟩) l.length cap) W ∧ Below w.heap.size w W ∧ ∀ j c, l[j]? = some c → W.cell? ⟨w.heap.size, j, none⟩ = some (.int .u8 (c.toNat : Int)) := by
  have h := Lib.run_convert_string_bytes (P := Tryd.prog) w 9 27 5 ⟨l.toArray⟩ (u := .string) Tryd.underlying9 Tryd.underlying27 Tryd.underlying5
  rw [str_size] at h
  refine ⟨_, _, h, ?_, ?_⟩
  · refine ⟨rfl, rfl, rfl, ?_, ?_⟩
    · rw [Lib.bytesWorld_size]; omega
    · intro j hj
      exact Lib.bytesWorld_at_old _ _ _ _ hj
  · intro j c hc
    have hj : j < l.length := by
      rcases Nat.lt_or_ge j l.length with h1 | h1
      · exact h1
      · rw [List.getElem?_eq_none h1] at hc; cases hc
    have := Lib.bytesWorld_cell w 5 ⟨l.toArray⟩ j (by rw [str_size]; exact hj)
    rw [this]
    have e : (⟨l.toArray⟩ : ByteArray).data.toList = l := rfl
    rw [e, List.getD_eq_getElem?_getD, hc]; rfl
end Go.Proofs.YtmgalfdiiegjjaaDoor

/- Slices of slices of bytes: what one reads as; what a call's own one holds; 'append(l, x)' as a law for a walk; a cut; an element. No program is named here. -/
namespace Go.Proofs.YtmgalfdiiegjjaaDoor
open Go.RowKit

def RdAll (w : World) (vs : List Value) (bss : List (List UInt8)) : Prop := vs.length = bss.length ∧ ∀ (j : Nat) v bs, vs[j]? = some v → bss[j]? = some bs → Rdv w v (bv bs)
def OwnAll (w : World) (base : Nat) (e : TypeId) (vs : List Value) (bss : List (List UInt8)) : Prop := vs.length = bss.length ∧ ∀ (j : Nat) v bs, vs[j]? = some v → bss[j]? = some bs → Own w base e v (bv bs)
/-- The value v reads, in w, as the rows of bytes bss. -/
def Rdl (w : World) (v : Value) (bss : List (List UInt8)) : Prop := ∃ vs, Rdv w v vs ∧ RdAll w vs bss
/-- The value v is a row of the call's own, of rows of its own. -/
def Ownl (w : World) (base : Nat) (r e : TypeId) (v : Value) (bss : List (List UInt8)) : Prop := ∃ vs, Own w base r v vs ∧ OwnAll w base e vs bss

theorem RdAll.below {w w' : World} {vs : List Value} {bss : List (List UInt8)} (h : RdAll w vs bss) (hb : Below w.heap.size w w') : RdAll w' vs bss := ⟨h.1, fun j v bs h1 h2 => (h.2 j v bs h1 h2).below hb⟩
theorem Rdl.below {w w' : World} {v : Value} {bss : List (List UInt8)} (h : Rdl w v bss) (hb : Below w.heap.size w w') : Rdl w' v bss := by
  obtain ⟨vs, h1, h2⟩ := h
  exact ⟨vs, h1.below hb, h2.below hb⟩
theorem OwnAll.below {w w' : World} {base : Nat} {e : TypeId} {vs : List Value} {bss : List (List UInt8)} (h : OwnAll w base e vs bss) (hb : Below w.heap.size w w') : OwnAll w' base e vs bss := ⟨h.1, fun j v bs h1 h2 => (h.2 j v bs h1 h2).below hb⟩
theorem Ownl.below {w w' : World} {base : Nat} {r e : TypeId} {v : Value} {bss : List (List UInt8)} (h : Ownl w base r e v bss) (hb : Below w.heap.size w w') : Ownl w' base r e v bss := by
  obtain ⟨vs, h1, h2⟩ := h
  exact ⟨vs, h1.below hb, h2.below hb⟩
theorem OwnAll.rd {w : World} {base : Nat} {e : TypeId} {vs : List Value} {bss : List (List UInt8)} (h : OwnAll w base e vs bss) : RdAll w vs bss := ⟨h.1, fun j v bs h1 h2 => (h.2 j v bs h1 h2).rd⟩
theorem Ownl.rd {w : World} {base : Nat} {r e : TypeId} {v : Value} {bss : List (List UInt8)} (h : Ownl w base r e v bss) : Rdl w v bss := by
  obtain ⟨vs, h1, h2⟩ := h
  exact ⟨vs, h1.rd, h2.rd⟩
theorem Ownl.nil (w : World) (base : Nat) (r e : TypeId) : Ownl w base r e (.slice none 0 0) [] := ⟨[], Own.nil w base r, rfl, by simp⟩
theorem Rdl.nil (w : World) : Rdl w (.slice none 0 0) [] := ⟨[], Rdv.nil w, rfl, by simp⟩

theorem Own.block {w : World} {base : Nat} {e : TypeId} {v : Value} {xs : List Value} (h : Own w base e v xs) {g : Nat} (hg : v.ownBlock = some g) : ∃ cur, w.heap[g]? = some (.cells cur e (0, 0)) := by
  rcases h.2 with ⟨hv, _⟩ | ⟨g', cap, cur, hv, _, hc, _⟩
  · rw [hv] at hg; cases hg
  · rw [hv] at hg
    obtain rfl : g' = g := Option.some.inj hg
    exact ⟨cur, hc⟩
/-- Rows of unlike elements lie in unlike blocks. -/
theorem Own.apart {w : World} {base base' : Nat} {e e' : TypeId} {v v' : Value} {xs xs' : List Value} (h : Own w base e v xs) (h' : Own w base' e' v' xs') (hne : e ≠ e') : v.ownBlock = none ∨ v.ownBlock ≠ v'.ownBlock := by
  cases hg : v.ownBlock with
  | none => exact .inl rfl
  | some g =>
    right
    intro he
    obtain ⟨c, hc⟩ := h.block hg
    obtain ⟨c', hc'⟩ := h'.block he.symm
    rw [hc] at hc'
    simp at hc'
    exact hne hc'.2
theorem Own.one {w : World} {base : Nat} {e : TypeId} {v : Value} {xs : List Value} (h : Own w base e v xs) : v.oneCell' = true := by
  rcases h.2 with ⟨hv, _⟩ | ⟨g', cap, cur, hv, _⟩ <;> rw [hv] <;> rfl
theorem Rdv.one {w : World} {v : Value} {xs : List Value} (h : Rdv w v xs) : v.oneCell' = true := by
  obtain ⟨ao, cap, rfl, _⟩ := h
  rfl

/-- 'append(l, x)', l and x the call's own. -/
theorem wpList_append_row {P : Program} {w : World} {ops : Array Oper} {rest : List Oper} {o : Oper} {a : Act} {Q : Exit → Act → World → Prop} (hgd : o.guard = none) (s x : Operand) (t : TypeId)
    (ho : o.op = .call { callee := .builtin .append, args := #[s, x], argTypes := #[t, t] })
    (base : Nat) (r e : TypeId) (hre : e ≠ r) (z : Value) (bytes : Nat) (ht : P.underlying t = some (.slice r)) (hinfo : (P.info? r).map (fun i => (i.zero, i.size, i.bytes)) = some (some z, 1, bytes)) (hz : z.cells.size = 1)
    {v vx : Value} {bss : List (List UInt8)} {xb : List UInt8} (hs : a.eval s = v) (hown : Ownl w base r e v bss) (hx : a.eval x = .slice (some ⟨w.heap.size, 0, none⟩) 1 1) (hxo : Own w base e vx (bv xb))
    (hlen : bss.length < 1099511627776) (hb24 : bytes ≤ 64) (hbase : base ≤ w.heap.size)
    (h : ∀ v' w', Ownl w' base r e v' (bss ++ [xb]) → Below base w w' → wpList P ops Q rest (a.put o.dst v') w') : wpList P ops Q (o :: rest) a (w.alloc (.cells #[vx] r)) := by
  obtain ⟨vs, ho1, ho2⟩ := hown
  have hl : vs.length = bss.length := ho2.1
  have B0 := below_alloc w (.cells #[vx] r)
  have hb1 : base ≤ (w.alloc (.cells #[vx] r)).heap.size := Nat.le_trans hbase B0.size
  have hmul : (vs.length + 1) * bytes ≤ (vs.length + 1) * 64 := Nat.mul_le_mul_left _ hb24
  refine wpList_append_rd hgd s x t ho base r z bytes ht hinfo hz hs (ho1.alloc _) hx (Own.lit (base := 0) w (e := r) [vx] (Nat.zero_le _) (by simp [maxLen])).rd (by simp [hxo.one]) (by simp [maxLen]; omega) (by simp; omega) hb1 ?_
  intro v' w' h1 h2 h3
  refine h v' w' ⟨vs ++ [vx], h1, by simp [hl], ?_⟩ ?_
  · intro j u bs hu hb
    by_cases hj : j < vs.length
    · rw [List.getElem?_append_left hj] at hu
      rw [List.getElem?_append_left (by omega)] at hb
      have hk := (ho2.2 j u bs hu hb).below B0
      exact hk.kept h2 (hk.apart (ho1.alloc _) hre)
    · have hj1 := (List.getElem?_eq_some_iff.1 hu).1
      rw [List.length_append] at hj1
      obtain rfl : j = vs.length := by simp at hj1; omega
      rw [List.getElem?_append_right (Nat.le_refl _)] at hu
      rw [hl, List.getElem?_append_right (Nat.le_refl _)] at hb
      simp at hu hb
      subst hu hb
      have hk := hxo.below B0
      exact hk.kept h2 (hk.apart (ho1.alloc _) hre)
  · exact ((Below.refl base w).alloc hbase _).trans h3

/-- What is known of an element. -/
theorem Rdl.at {w : World} {v : Value} {bss : List (List UInt8)} (h : Rdl w v bss) {j : Nat} (hj : j < bss.length) :
    ∃ b off cap ao c, v = .slice (some ⟨b, off, none⟩) bss.length cap ∧ b < w.heap.size ∧ w.cell? ⟨b, off + j, none⟩ = some (.slice ao bss[j].length c) ∧ Rdv w (.slice ao bss[j].length c) (bv bss[j]) := by
  obtain ⟨vs, hv, ha⟩ := h
  have hl := ha.1
  obtain ⟨ao, cap, rfl, h1, h2, h3, h4⟩ := hv
  have hj' : j < vs.length := by omega
  obtain ⟨⟨b, off, spot⟩, rfl, hcz⟩ := h4 0 vs[0] (by simp)
  have hspot : spot = none := by simpa [Addr.add] using World.cell?_spot hcz
  subst hspot
  obtain ⟨y, hy, hc0⟩ := h4 j vs[j] (by simp [hj'])
  obtain rfl := Option.some.inj hy
  have hr := ha.2 j vs[j] bss[j] (by simp [hj']) (by simp [hj])
  rw [Addr.add_lit] at hc0
  obtain ⟨ao, c, hv, _⟩ := id hr
  rw [bv_len] at hv
  rw [hv] at hc0 hr
  exact ⟨b, off, cap, ao, c, by rw [hl], cell_lt hc0, hc0, hr⟩
theorem Rdl.len_le {w : World} {v : Value} {bss : List (List UInt8)} (h : Rdl w v bss) : bss.length ≤ maxLen := by
  obtain ⟨vs, hv, ha⟩ := h
  rw [← ha.1]; exact hv.len_le
theorem Rdl.slice {w : World} {v : Value} {bss : List (List UInt8)} (h : Rdl w v bss) : ∃ ao cap, v = .slice ao bss.length cap ∧ bss.length ≤ cap ∧ cap ≤ maxLen := by
  obtain ⟨vs, ⟨ao, cap, rfl, h1, h2, _⟩, ha⟩ := h
  exact ⟨ao, cap, by rw [ha.1], by rw [← ha.1]; exact h1, h2⟩
/-- A beginning. -/
theorem Rdl.take {w : World} {ao : Option Addr} {cap L : Nat} {bss : List (List UInt8)} (h : Rdl w (.slice ao bss.length cap) bss) (hL : L ≤ bss.length) : Rdl w (.slice ao L cap) (bss.take L) := by
  obtain ⟨vs, ⟨a', c', hv, h1, h2, h3, h4⟩, ha⟩ := h
  have hl := ha.1
  obtain ⟨rfl, -, rfl⟩ : ao = a' ∧ True ∧ cap = c' := by simp at hv; exact ⟨hv.1, trivial, hv.2.2⟩
  refine ⟨vs.take L, ⟨ao, cap, by rw [List.length_take, Nat.min_eq_left (by omega)], by rw [List.length_take]; omega, h2, h3, fun j u hu => h4 j u ?_⟩, by simp [hl], fun j u bs hu hb => ?_⟩
  · rw [List.getElem?_take] at hu
    split at hu
    · exact hu
    · cases hu
  · rw [List.getElem?_take] at hu hb
    split at hu
    · rename_i hj
      rw [if_pos hj] at hb
      exact ha.2 j u bs hu hb
    · cases hu
end Go.Proofs.YtmgalfdiiegjjaaDoor
