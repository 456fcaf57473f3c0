/- An argument that is a slice of bytes, opened for a walk. -/
import Derived.Test.YthhngkoopaolkaaGreatDoorSlc
import Derived.ProofKit
import Derived.OpenShut
import Derived.ChangeOld
import Derived.SizedLaws
namespace Go.Proofs.YthhngkoopaolkaaGreatDoor
open Go.RowKit Go.ChangeShapes Go.WideShapes

theorem bytes_of_ints : ∀ (zs : List Int), (∀ n ∈ zs, (Lit.int .u8 n).wf = true) → ∃ bs : List UInt8, zs.map (Value.int .u8) = bv bs
  | [], _ => ⟨[], rfl⟩
  | z :: zs, h => by
    obtain ⟨bs, hb⟩ := bytes_of_ints zs (fun n hn => h n (List.mem_cons_of_mem _ hn))
    have hz := h z List.mem_cons_self
    simp [Lit.wf, IntKind.min, IntKind.max, IntKind.signed, IntKind.bits] at hz
    refine ⟨UInt8.ofNat z.toNat :: bs, ?_⟩
    have e : ((UInt8.ofNat z.toNat).toNat : Int) = z := by simp; omega
    rw [List.map_cons, hb]
    show _ = Value.int .u8 ((UInt8.ofNat z.toNat).toNat : Int) :: bv bs
    rw [e]

theorem open_bytes {H : Type} {enc : TypeId × Value → H} {P : Program} {W : World} {t e : TypeId} {a : Option Addr} {len cap : Nat} {d : DataW H} {p : List MemPlace} (ht : P.underlying t = some (.slice e)) (he : P.underlying e = some (.int .u8)) (hc : P.cellsOf e = 1)
    (h : DataW.Trod enc P W 0 (fun _ => true) true t (.slice a len cap) d p) : ∃ bs : List UInt8, Rdv W (.slice a len cap) (bv bs) ∧ (d = .nil ∧ bs = [] ∨ ∃ elems spare, d = .slice elems spare ∧ elems.length = bs.length) := by
  obtain ⟨fuel, hf⟩ := h
  rcases open_ints ht he hc hf with ⟨hcs, hx⟩ | ⟨x, l, c, zs, hcs, _, hl, hm, hz, hx, hcell, hwz⟩
  · simp [Value.cells] at hcs
    obtain ⟨rfl, rfl, rfl⟩ := hcs
    exact ⟨[], Rdv.nil W, Or.inl ⟨congrArg Prod.fst hx, rfl⟩⟩
  · simp [Value.cells] at hcs
    obtain ⟨rfl, rfl, rfl⟩ := hcs
    simp only [if_true] at hz
    obtain ⟨bs, hb⟩ := bytes_of_ints (zs.take len) (fun n hn => hwz n (List.mem_of_mem_take hn))
    have hbl : bs.length = len := by
      have := congrArg List.length hb
      simp [bv] at this
      omega
    refine ⟨bs, ⟨some x, cap, by rw [bv_len, hbl], by rw [bv_len]; omega, hm, (by intro h; cases h), fun j u hu => ⟨x, rfl, ?_⟩⟩, Or.inr ⟨_, _, congrArg Prod.fst hx, by simp [lits]; omega⟩⟩
    have hj : j < len := by
      have := (List.getElem?_eq_some_iff.1 hu).1
      rw [bv_len] at this; omega
    rw [← hb, List.getElem?_map, List.getElem?_take, if_pos hj] at hu
    rw [hcell j (by omega)]
    rw [List.getElem?_eq_getElem (by omega : j < zs.length)] at hu
    simp only [Option.map_some] at hu
    rw [← hu]
    simp [List.getD, show j < zs.length by omega]
end Go.Proofs.YthhngkoopaolkaaGreatDoor
