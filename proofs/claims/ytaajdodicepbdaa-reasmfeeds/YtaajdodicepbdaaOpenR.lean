/- An argument that is a slice of slices of bytes, opened for a walk. -/
import Derived.Test.YtaajdodicepbdaaSlcR
import Derived.Test.YtaajdodicepbdaaOpenB
import Derived.Deep.Matrix
namespace Go.Proofs.Ytaajdodicepbdaa
open Go.RowKit Go.ChangeShapes Go.WideShapes

theorem open_rows {H : Type} {enc : TypeId × Value → H} {P : Program} {W : World} {t e q : TypeId} {a : Option Addr} {len cap : Nat} {d : DataW H} {p : List MemPlace} (ht : P.underlying t = some (.slice e)) (he : P.underlying e = some (.slice q)) (hq : P.underlying q = some (.int .u8)) (ce : P.cellsOf e = 1) (cq : P.cellsOf q = 1)
    (h : DataW.Trod enc P W 0 (fun _ => true) true t (.slice a len cap) d p) : ∃ bss : List (List UInt8), Rdl W (.slice a len cap) bss := by
  obtain ⟨fuel, hf⟩ := h
  rcases Deep.open_int_rows ht he hq ce cq hf with ⟨hcs, hx⟩ | ⟨x, l, c, A, L, C, Z, hcs, _, hl, hm, hx, hrow⟩
  · simp [Value.cells] at hcs
    obtain ⟨rfl, rfl, rfl⟩ := hcs
    exact ⟨[], Rdl.nil W⟩
  · simp [Value.cells] at hcs
    obtain ⟨rfl, rfl, rfl⟩ := hcs
    have each : ∀ r, r < len → ∃ bs : List UInt8, bs.length = L r ∧ Rdv W (.slice (A r) (L r) (C r)) (bv bs) := by
      intro r hr
      obtain ⟨_, h1, h2, h3, h4, h5, h6⟩ := hrow r (by omega)
      obtain ⟨bs, hb⟩ := bytes_of_ints ((Z r).take (L r)) (fun n hn => h4 n (List.mem_of_mem_take hn))
      have hbl : bs.length = L r := by
        have := congrArg List.length hb
        simp [bv] at this
        omega
      refine ⟨bs, hbl, A r, C r, by rw [bv_len, hbl], by rw [bv_len]; omega, h2, h5, fun j u hu => ?_⟩
      have hj : j < L r := by
        have := (List.getElem?_eq_some_iff.1 hu).1
        rw [bv_len] at this; omega
      cases hA : A r with
      | none => have := h5 hA; omega
      | some a' =>
        refine ⟨a', rfl, ?_⟩
        rw [← hb, List.getElem?_map, List.getElem?_take, if_pos hj] at hu
        rw [(h6 a' hA).2 j (by omega)]
        rw [List.getElem?_eq_getElem (by omega : j < (Z r).length)] at hu
        simp only [Option.map_some] at hu
        rw [← hu]
        simp [List.getD, show j < (Z r).length by omega]
    obtain ⟨f, hf⟩ := Deep.choose_lt each
    refine ⟨(List.range len).map f, (List.range len).map (fun r => .slice (A r) (L r) (C r)), ⟨some x, cap, by simp, by simpa using hl, hm, (by intro h; cases h), fun j u hu => ⟨x, rfl, ?_⟩⟩, by simp, fun j u bs hu hb => ?_⟩
    · have hj : j < len := by
        have := (List.getElem?_eq_some_iff.1 hu).1
        simpa using this
      rw [List.getElem?_map, List.getElem?_range hj] at hu
      simp only [Option.map_some] at hu
      rw [← Option.some.inj hu]
      exact (hrow j (by omega)).1
    · have hj : j < len := by
        have := (List.getElem?_eq_some_iff.1 hu).1
        simpa using this
      rw [List.getElem?_map, List.getElem?_range hj] at hu hb
      simp only [Option.map_some] at hu hb
      rw [← Option.some.inj hu, ← Option.some.inj hb]
      exact (hf j hj).2
end Go.Proofs.Ytaajdodicepbdaa
