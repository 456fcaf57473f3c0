/- Several texts in one. -/
import Derived.Test.YtmgalfdiiegjjaaGreatDoorSeg11
import Derived.Test.YtmgalfdiiegjjaaGreatDoorSeg04
import Derived.Test.YtmgalfdiiegjjaaGreatDoorSeg06
import Derived.Deep.LoopGhost
namespace Go.Proofs.YtmgalfdiiegjjaaGreatDoor
open Go.RowKit

theorem Rdv.atv {w : World} {v : Value} {xs : List Value} (h : Rdv w v xs) {j : Nat} {u : Value} (hj : xs[j]? = some u) :
    ∃ b off cap, v = .slice (some ⟨b, off, none⟩) xs.length cap ∧ w.cell? ⟨b, off + j, none⟩ = some u := by
  obtain ⟨ao, cap, rfl, h1, h2, h3, h4⟩ := h
  have hl := (List.getElem?_eq_some_iff.1 hj).1
  obtain ⟨⟨b, off, spot⟩, rfl, hc0⟩ := h4 0 xs[0] (List.getElem?_eq_getElem (by omega))
  have hspot : spot = none := by simpa [Addr.add] using World.cell?_spot hc0
  subst hspot
  obtain ⟨y, hy, hc⟩ := h4 j u hj
  obtain rfl := Option.some.inj hy
  rw [Addr.add_lit] at hc
  exact ⟨b, off, cap, rfl, hc⟩
theorem Rdv.slice {w : World} {v : Value} {xs : List Value} (h : Rdv w v xs) : ∃ ao cap, v = .slice ao xs.length cap := by
  obtain ⟨ao, cap, e, _⟩ := h
  exact ⟨ao, cap, e⟩
end Go.Proofs.YtmgalfdiiegjjaaGreatDoor

/- Walks of the document's own key and in. -/
namespace Go.Proofs.YtmgalfdiiegjjaaGreatDoor
open Go.RowKit

set_option maxHeartbeats 4000000 in
theorem rkey_any (l : List UInt8) (w : World) (hl : l.length ≤ 9223372036854775807) :
    Calls Tryz.prog 132 #[.string ⟨l.toArray⟩] w fun e w' => e = .returned (.bool (SH.keyb l)) ∧ w' = w := by
  by_cases h0 : l = []
  · subst h0
    have E : SH.keyb [] = false := rfl
    rw [E]
    clear E hl
    go_enter Tryz.func132, Tryz.ntmps132
    go_wp2
    go_ret
    exact ⟨rfl, rfl⟩
  have hb0 : (l == []) = false := by simpa using h0
  have hsz := str_size l
  obtain ⟨n, hn⟩ : ∃ n, l.length = n := ⟨_, rfl⟩
  have HL := Lib.hid hn
  have H0 := Lib.hid h0
  obtain ⟨K, HK⟩ : ∃ K, Hid (K = SH.keyb l) := ⟨_, Lib.hid rfl⟩
  rw [← HK.out]
  rw [hn] at hsz hl
  clear hn
  by_cases h64 : 64 < n
  · have h64i : (64 : Int) < (n : Int) := by omega
    have E : K = false := by
      rw [HK.out]; unfold SH.keyb
      rw [decide_eq_false (by have := HL.out; omega)]; rfl
    subst E
    clear h0
    go_enter Tryz.func132, Tryz.ntmps132
    go_wp2
    go_ret
    exact ⟨rfl, rfl⟩
  have h64i : ¬ (64 : Int) < (n : Int) := by omega
  have HE : Hid (K = l.all LX.sgn) := by
    show K = _
    rw [HK.out]; unfold SH.keyb
    rw [decide_eq_true ⟨h0, by have := HL.out; omega⟩, Bool.true_and]
  clear h0 HK
  go_enter Tryz.func132, Tryz.ntmps132
  go_wp2
  go_loopg [3] n (fun g s3 wx => ∃ k : Nat, k + g = n ∧ s3 = .int .i64 (k : Int) ∧ wx = w ∧ Hid (∀ c ∈ l.take k, LX.sgn c = true))
  case atStart => exact ⟨0, by omega, rfl, rfl, Lib.hid (by simp)⟩
  case round =>
    obtain ⟨k, hk, rfl, rfl, HR⟩ := hrel
    cases gk with
    | zero =>
      obtain rfl : k = n := by omega
      have E : K = true := by
        rw [HE.out, List.all_eq_true]
        have := HR.out
        rwa [List.take_of_length_le (by have := HL.out; omega)] at this
      subst E
      go_wp2
      go_ret
      exact ⟨rfl, rfl⟩
    | succ g =>
      have hlt : (k : Int) < (n : Int) := by omega
      have hnle : ¬ (n : Int) ≤ (k : Int) := by omega
      have hnl2 : decide (n ≤ k) = false := decide_eq_false (by omega)
      obtain ⟨c, hc⟩ : ∃ c, l[k]? = some c := ⟨l[k]'(by have := HL.out; omega), List.getElem?_eq_getElem _⟩
      have hkl : k < (⟨l.toArray⟩ : ByteArray).size := by omega
      have hub := c.toNat_lt
      obtain ⟨z, hz⟩ : ∃ z : Int, (c.toNat : Int) = z := ⟨_, rfl⟩
      have hi := at_z hc hz hkl
      have hz0 : 0 ≤ z := by omega
      have hz1 : z < 256 := by omega
      have HC := Lib.hid hc
      have HS := Lib.hid (rsign_any c z hz wr)
      clear hc hz hub
      cases hs : LX.sgn c with
      | true =>
        have E : Hid (∀ d ∈ l.take (k + 1), LX.sgn d = true) := by
          show ∀ d ∈ _, _
          have h1 := List.getElem?_eq_some_iff.1 HC.out
          rw [List.take_succ_eq_append_getElem h1.1, h1.2]
          intro d hd
          rcases List.mem_append.1 hd with hd | hd
          · exact HR.out d hd
          · rw [List.mem_singleton.1 hd]; exact hs
        rw [hs] at HS
        clear hs
        go_wp2_with (go_at_call 133; refine HS.out.mono ?_; rintro e w1 ⟨rfl, hw1⟩; replace hw1 := hw1.symm; subst hw1)
        go_roundg g
        case rel => exact ⟨k + 1, by omega, by first | rfl | (simp; done), rfl, E⟩
        case measure => omega
      | false =>
        have E : K = false := by
          rw [HE.out, List.all_eq_false]
          exact ⟨c, List.mem_of_getElem? HC.out, by simp [hs]⟩
        subst E
        rw [hs] at HS
        clear hs
        go_wp2_with (go_at_call 133; refine HS.out.mono ?_; rintro e w1 ⟨rfl, hw1⟩; replace hw1 := hw1.symm; subst hw1)
        go_ret
        exact ⟨rfl, rfl⟩
theorem bl_succ (k : Nat) : DC.bl (k + 1) = DC.bl k ++ [32] := by
  unfold DC.bl
  rw [List.replicate_succ']
set_option maxHeartbeats 8000000 in
/-- So many blanks behind bytes of the call's own. -/
theorem rin_any (base : Nat) (v : Value) (bs : List UInt8) (k : Nat) (w : World) (ho : Own w base 5 v (bv bs)) (hb : base ≤ w.heap.size) (hl : bs.length + k ≤ 10000000) :
    Calls Tryz.prog 56 #[v, .int .i64 (k : Int)] w fun e w' => ∃ v', e = .returned v' ∧ Own w' base 5 v' (bv (bs ++ DC.bl k)) ∧ Below base w w' := by
  have HO := Lib.hid ho
  have HL := Lib.hid hl
  have HB : Hid (Below base w w) := Lib.hid (Below.refl _ _)
  have HZ := Lib.hid hb
  clear ho hl hb
  go_enter Tryz.func56, Tryz.ntmps56
  go_wp2
  go_loopg [0, 5] k (fun g s0 s5 wx => ∃ (i : Nat) (u : Value), i + g = k ∧ s5 = .int .i64 (i : Int) ∧ u = s0 ∧ Hid (Below base w wx) ∧ Hid (Own wx base 5 u (bv (bs ++ DC.bl i))))
  case atStart => exact ⟨0, v, by omega, rfl, rfl, HB, by simpa [DC.bl] using HO⟩
  case round =>
    clear HO HB
    obtain ⟨i, u, hi, rfl, rfl, HB, HO⟩ := hrel
    cases gk with
    | zero =>
      obtain rfl : i = k := by omega
      go_wp2
      go_ret
      exact ⟨_, rfl, HO.out, HB.out⟩
    | succ g =>
      have hik : (i : Int) < (k : Int) := by omega
      have hkm : (k : Int) ≤ 10000000 := by have := HL.out; omega
      have HS := Lib.hid (show base ≤ wr.heap.size from Nat.le_trans HZ.out HB.out.size)
      go_wp2_with (at_builtin; refine wpList_append_bytes rfl (.tmp 11) (.tmp 12) 35 rfl base 5 Tryz.underlying35 Tryz.linfo_u8 (by rfl) (HO.out.alloc _) (by rfl) (one_rd (b := 32) rfl) (by have := HL.out; rw [List.length_append]; simp only [DC.bl, List.length_replicate, List.length_cons, List.length_nil]; omega) (Nat.le_trans HS.out (below_alloc _ _).size) ?_; intro u2 w2 ho2 hg2 hb2; have HO2 := Lib.hid ho2; have HB2 := Lib.hid ((HB.out.trans ((below_alloc wr (.cells #[.int .u8 32] 5)).mono HS.out)).trans hb2); clear ho2 hg2 hb2)
      go_roundg g
      case rel => exact ⟨i + 1, u2, by omega, by first | rfl | (simp; done), rfl, HB2, by rw [bl_succ, ← List.append_assoc]; exact HO2⟩
      case measure => omega
end Go.Proofs.YtmgalfdiiegjjaaGreatDoor

/- Nodes that a walk goes through are a tree's; such a document, written out, is parsed as it was, but for lines. No program is named here. -/
namespace Go.Proofs.YtmgalfdiiegjjaaGreatDoor
namespace SH
open LX (B Pc Lz)
open DC (Nd bl)

theorem keyb_key {k : B} (h : keyb k = true) : Key k := by
  unfold keyb at h
  simp only [Bool.and_eq_true, decide_eq_true_eq, List.all_eq_true] at h
  exact ⟨h.1.1, h.1.2, h.2⟩
abbrev step (ns : List Ni) (f d : Nat) (m : Nat) (k : Int) : Option Nat := if k = (m : Int) then wk ns f m (d + 1) else none
/-- What the walk of so much fuel tells. -/
def WkT (ns : List Ni) (f : Nat) : Prop := ∀ n d m, wk ns f n d = some m → ∃ t, okT t ∧ godT t ∧ depT t d ∧ m = n + sizeT t ∧ At ns n (flatT t n)
theorem wk_forest {ns : List Ni} {f : Nat} (ih : WkT ns f) : ∀ (kids : List Int) (keys : List B) (n d m : Nat), keys.length = kids.length → kids.foldlM (step ns f d) n = some m →
    ∃ k, keysF k = keys ∧ (kidsF k n).map (fun n : Nat => (n : Int)) = kids ∧ okF k ∧ godF k ∧ depF k (d + 1) ∧ m = n + sizeF k ∧ At ns n (flatF k n)
  | [], keys, n, d, m, hk, h => by
    have : keys = [] := List.length_eq_zero_iff.1 hk
    subst this
    have : n = m := by simpa using h
    subst this
    refine ⟨.nil, rfl, rfl, ?_, ?_, ?_, ?_, ?_⟩
    · rw [okF]; trivial
    · rw [godF]; trivial
    · rw [depF]; trivial
    · rw [sizeF]; rfl
    · rw [flatF]; intro i x hx; simp at hx
  | k :: kids, keys, n, d, m, hk, h => by
    obtain ⟨key, keys, rfl⟩ : ∃ a b, keys = a :: b := by
      cases keys with
      | nil => simp at hk
      | cons a b => exact ⟨a, b, rfl⟩
    rw [List.foldlM_cons] at h
    obtain ⟨n2, h1, h2⟩ := Option.bind_eq_some_iff.1 h
    unfold step at h1
    split at h1
    · rename_i e
      subst e
      obtain ⟨t, t1, t2, t3, t4, t5⟩ := ih _ _ _ h1
      subst t4
      obtain ⟨r, r1, r2, r3, r4, r5, r6, r7⟩ := wk_forest ih kids keys _ d m (by simpa using hk) h2
      refine ⟨.cons key t r, ?_, ?_, ?_, ?_, ?_, ?_, ?_⟩
      · rw [keysF, r1]
      · rw [kidsF, List.map_cons, r2]
      · rw [okF]; exact ⟨t1, r3⟩
      · rw [godF]; exact ⟨t2, r4⟩
      · rw [depF]; exact ⟨t3, r5⟩
      · rw [sizeF, r6]; omega
      · rw [flatF]
        exact t5.app (by rw [flatT_len]; exact r7)
    · cases h1
theorem kids_ne {k : Fo} {n : Nat} (h : (kidsF k n).map (fun n : Nat => (n : Int)) ≠ []) : k ≠ .nil := by
  rintro rfl
  exact h rfl
theorem rep_all {n : Nat} : ∀ x ∈ List.replicate n ([] : B), x = [] := fun _ hx => (List.mem_replicate.1 hx).2
theorem wk_tree (ns : List Ni) : ∀ f, WkT ns f
  | 0 => by intro n d m h; cases h
  | f + 1 => by
    intro n d m h
    rw [wk] at h
    split at h
    · cases h
    rename_i x hx
    split at h
    · rename_i hd
      obtain ⟨hd, hf⟩ := hd
      obtain ⟨kd, ln, tx, q, ks, is⟩ := x
      unfold fits at hf
      simp only at hf h
      split at hf
      · rename_i h1
        simp only [Bool.and_eq_true, decide_eq_true_eq, Bool.or_eq_true] at hf
        obtain ⟨⟨rfl, rfl, hl⟩, hp⟩ := hf
        subst h1
        have : n + 1 = m := by simpa using h
        refine ⟨.text tx q, ?_, ?_, ?_, ?_, ?_⟩
        · rw [okT]; trivial
        · rw [godT]
          cases q with
          | true => exact leaf_quo hl
          | false =>
            have hp' : plainb tx = true := by simpa using hp
            exact leaf_plain hp'
        · rw [depT]; exact hd
        · rw [sizeT]; omega
        · rw [flatT]
          exact At.cons hx rfl (by intro i y hy; simp at hy)
      split at hf
      · rename_i _ h2
        simp only [decide_eq_true_eq] at hf
        obtain ⟨rfl, hk, rfl, rfl⟩ := hf
        subst h2
        obtain ⟨k, k1, k2, k3, k4, k5, k6, k7⟩ := wk_forest (wk_tree ns f) is (List.replicate is.length []) (n + 1) d m (by simp) h
        refine ⟨.list k, ?_, ?_, ?_, ?_, ?_⟩
        · rw [okT]; exact ⟨kids_ne (by rw [k2]; exact hk), by rw [k1]; exact rep_all, k3⟩
        · rw [godT]; exact k4
        · rw [depT]; exact ⟨hd, k5⟩
        · rw [sizeT, k6]; omega
        · rw [flatT]
          exact At.cons hx (by unfold zi up; rw [k2]) k7
      split at hf
      · rename_i _ _ h3
        simp only [Bool.and_eq_true, decide_eq_true_eq, List.all_eq_true] at hf
        obtain ⟨⟨hkl, hk, rfl, rfl, hnd⟩, hka⟩ := hf
        subst h3
        obtain ⟨k, k1, k2, k3, k4, k5, k6, k7⟩ := wk_forest (wk_tree ns f) is ks (n + 1) d m hkl h
        refine ⟨.map k, ?_, ?_, ?_, ?_, ?_⟩
        · rw [okT]; exact ⟨kids_ne (by rw [k2]; exact hk), by rw [k1]; exact hnd, k3⟩
        · rw [godT]; exact ⟨by rw [k1]; exact fun x hx => keyb_key (hka x hx), k4⟩
        · rw [depT]; exact ⟨hd, k5⟩
        · rw [sizeT, k6]; omega
        · rw [flatT, k1]
          exact At.cons hx (by unfold zi up; rw [k2]) k7
      · cases hf
    · cases h
/-- May those nodes be a document? -/
def chk (ns : List Ni) : Prop := 1 ≤ ns.length ∧ ns.length ≤ 2000 ∧ wk ns 25 0 1 = some ns.length
theorem chk_tree {ns : List Ni} (h : chk ns) : ∃ t, okT t ∧ godT t ∧ depT t 1 ∧ sizeT t ≤ 2000 ∧ (flatT t 0).map up = ns.map zi := by
  obtain ⟨_, h2, h3⟩ := h
  obtain ⟨t, t1, t2, t3, t4, t5⟩ := wk_tree ns 25 _ _ _ h3
  rw [Nat.zero_add] at t4
  refine ⟨t, t1, t2, t3, by omega, ?_⟩
  apply List.ext_getElem?
  intro i
  by_cases hi : i < ns.length
  · have h1 : i < (flatT t 0).length := by rw [flatT_len]; omega
    have := t5 i _ (List.getElem?_eq_getElem h1)
    rw [Nat.zero_add] at this
    rw [List.getElem?_map, List.getElem?_map, this, List.getElem?_eq_getElem h1]; rfl
  · rw [List.getElem?_eq_none (by rw [List.length_map, flatT_len]; omega), List.getElem?_eq_none (by rw [List.length_map]; omega)]
/-- A document that may be, written out, is parsed as it was, but for lines. -/
theorem parse_shown {ns : List Ni} {t : Tr} (ht : okT t ∧ godT t ∧ depT t 1 ∧ sizeT t ≤ 2000 ∧ (flatT t 0).map up = ns.map zi) (hl : (showT t 0).length ≤ 16384) : ∃ ms, DC.parse (showT t 0) = .ok ms ∧ (ms.map up).map zi = ns.map zi := by
  obtain ⟨t1, t2, t3, t4, t5⟩ := ht
  obtain ⟨ms, h1, h2⟩ := parse_tree t t2 t1 t3 t4 hl
  refine ⟨ms, h1, ?_⟩
  rw [← t5, ← h2, List.map_map, List.map_map]
  rfl
end SH
end Go.Proofs.YtmgalfdiiegjjaaGreatDoor
