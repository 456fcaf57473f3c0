/- An argument that is a slice of structs of two texts, opened for a walk. -/
import Derived.Test.YtokmpfkmkhnopaaDsE
import Derived.Test.YtokmpfkmkhnopaaOpenB
import Derived.Deep.SlicePairs
import Derived.Lib.SmallJoins
namespace Go.Proofs.Ytokmpfkmkhnopaa
open Go.RowKit Go.ChangeShapes Go.WideShapes Go.Joins

/-- A slice of entries. -/
theorem open_ents {H : Type} {enc : TypeId × Value → H} {P : Program} {W : World} {s e : TypeId} {f0 f1 : Field} {u : Value} {n : Nat} {x : DataW H × List MemPlace}
    (hs : P.underlying s = some (.slice e)) (he : P.underlying e = some (.struct #[f0, f1])) (ce : P.cellsOf e = 2) (o0 : f0.offset = 0) (o1 : f1.offset = 1)
    (u0 : P.underlying f0.type = some .string) (u1 : P.underlying f1.type = some .string) (c0 : P.cellsOf f0.type = 1) (c1 : P.cellsOf f1.type = 1)
    (h2 : DataW.trod enc P W 0 (fun _ => true) true n s [u] = some x) : ∃ es : List D.E, Rde W u es ∧ Fits es := by
  rcases Deep.open_slice_pairs hs he ce o0 o1 c0 c1 h2 with ⟨hcs, _⟩ | ⟨a, len, cap, m, n', V0, V1, D0, D1, P0, P1, hcs, _, hl, hm, hmm, _, hrow⟩
  · obtain rfl : u = .slice none 0 0 := by simpa using hcs
    exact ⟨[], Rde.nil W, fun _ hh => by cases hh⟩
  · obtain rfl : u = .slice (some a) len cap := by simpa using hcs
    simp only [if_true] at hmm
    have each : ∀ i, i < len → ∃ e : D.E, W.cell? (a.add (i * 2)) = some (tv e.1) ∧ W.cell? (a.add (i * 2 + 1)) = some (tv e.2) ∧ e.1.length ≤ 9223372036854775807 ∧ e.2.length ≤ 9223372036854775807 := by
      intro i hi
      obtain ⟨k0, k1, t0, t1⟩ := hrow i (by omega)
      obtain ⟨s0, hs0, _, z0⟩ := DataW.trod_string u0 t0
      obtain ⟨s1, hs1, _, z1⟩ := DataW.trod_string u1 t1
      obtain ⟨⟨l0⟩⟩ := s0
      obtain ⟨⟨l1⟩⟩ := s1
      refine ⟨(l0, l1), ?_, ?_, ?_, ?_⟩
      · rw [k0, (by simpa using hs0 : V0 i = _)]; rfl
      · rw [k1, (by simpa using hs1 : V1 i = _)]; rfl
      · have : l0.length ≤ maxLen := z0
        unfold maxLen at this; omega
      · have : l1.length ≤ maxLen := z1
        unfold maxLen at this; omega
    obtain ⟨F, hF⟩ := Deep.choose_lt each
    refine ⟨(List.range len).map F, ⟨some a, cap, by simp, by simpa using hl, hm, by simp, fun j e he => ?_⟩, fun e he => ?_⟩
    · have hj : j < len := by
        have := (List.getElem?_eq_some_iff.1 he).1
        simpa using this
      rw [List.getElem?_map, List.getElem?_range hj] at he
      simp only [Option.map_some] at he
      obtain rfl := Option.some.inj he
      obtain ⟨k0, k1, _⟩ := hF j hj
      obtain ⟨b, off, spot⟩ := a
      have hspot : spot = none := by simpa [Addr.add] using World.cell?_spot (hF 0 (by omega)).1
      subst hspot
      rw [Addr.add_lit] at k0 k1
      exact ⟨b, off, rfl, k0, by rw [Nat.add_assoc]; exact k1⟩
    · obtain ⟨j, hj, rfl⟩ := List.mem_map.1 he
      exact (hF j (List.mem_range.1 hj)).2.2
end Go.Proofs.Ytokmpfkmkhnopaa
