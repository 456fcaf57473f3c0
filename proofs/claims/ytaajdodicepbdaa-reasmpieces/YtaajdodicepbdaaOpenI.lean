/- An argument that is a slice of numbers, opened for a walk. -/
import Derived.Test.YtaajdodicepbdaaSlcI
import Derived.ProofKit
import Derived.OpenShut
import Derived.ChangeOld
namespace Go.Proofs.Ytaajdodicepbdaa
open Go.RowKit Go.ChangeShapes Go.WideShapes
theorem open_nums {H : Type} {enc : TypeId × Value → H} {P : Program} {W : World} {t e : TypeId} {q : IntKind} {a : Option Addr} {len cap : Nat} {d : DataW H} {p : List MemPlace} (ht : P.underlying t = some (.slice e)) (he : P.underlying e = some (.int q)) (hc : P.cellsOf e = 1)
    (h : DataW.Trod enc P W 0 (fun _ => true) true t (.slice a len cap) d p) : ∃ zs : List Int, Rdv W (.slice a len cap) (iv q zs) ∧ ∀ z ∈ zs, (Lit.int q z).wf = true := by
  obtain ⟨fuel, hf⟩ := h
  rcases open_ints ht he hc hf with ⟨hcs, hx⟩ | ⟨x, l, c, zs, hcs, _, hl, hm, hz, hx, hcell, hwz⟩
  · simp [Value.cells] at hcs
    obtain ⟨rfl, rfl, rfl⟩ := hcs
    exact ⟨[], Rdv.nil W, by simp⟩
  · simp [Value.cells] at hcs
    obtain ⟨rfl, rfl, rfl⟩ := hcs
    simp only [if_true] at hz
    have hbl : (zs.take len).length = len := by simp; omega
    refine ⟨zs.take len, ⟨some x, cap, by rw [iv_len, hbl], by rw [iv_len]; omega, hm, (by intro h; cases h), fun j u hu => ⟨x, rfl, ?_⟩⟩, fun n hn => hwz n (List.mem_of_mem_take hn)⟩
    have hj : j < len := by
      have := (List.getElem?_eq_some_iff.1 hu).1
      rw [iv_len] at this; omega
    rw [iv, List.getElem?_map, List.getElem?_take, if_pos hj] at hu
    rw [hcell j (by omega)]
    rw [List.getElem?_eq_getElem (by omega : j < zs.length)] at hu
    simp only [Option.map_some] at hu
    rw [← hu]
    simp [List.getD, show j < zs.length by omega]
end Go.Proofs.Ytaajdodicepbdaa
