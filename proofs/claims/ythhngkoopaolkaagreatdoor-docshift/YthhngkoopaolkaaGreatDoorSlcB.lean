/- Append of bytes at a step of a region that draws. No program is named here. -/
import Derived.Test.YthhngkoopaolkaaGreatDoorSlc
import Derived.Deep.AppendLies
namespace Go.Proofs.YthhngkoopaolkaaGreatDoor
open Go.RowKit

/-- 'append(s, x...)' of bytes, at a step of a region that draws. -/
theorem step_append_bytes {P : Program} {w : World} {ops : Array Oper} {o : Oper} {a : Act} {K : Act → World → Prop} {Q : Exit → Act → World → Prop} {E : Prop} (hgd : o.guard = none) (s x : Operand) (t : TypeId)
    (ho : o.op = .call { callee := .builtin .append, args := #[s, x], argTypes := #[t, t] })
    (base : Nat) (e : TypeId) (ht : P.underlying t = some (.slice e)) (hinfo : (P.info? e).map (fun i => (i.zero, i.size, i.bytes)) = some (some (.int .u8 0), 1, 1))
    {v vx : Value} {xs news : List UInt8} (hs : a.eval s = v) (hown : Own w base e v (bv xs)) (hx : a.eval x = vx) (hrd : Rdv w vx (bv news)) (hne : 0 < news.length)
    (hlen : xs.length + news.length ≤ 140737488355328) (hbase : base ≤ w.heap.size)
    (h : ∀ g cap w', Own w' base e (.slice (some ⟨g, 0, none⟩) (xs.length + news.length) cap) (bv (xs ++ news)) → Below base w w' → K (a.put o.dst (.slice (some ⟨g, 0, none⟩) (xs.length + news.length) cap)) w') :
    if Region.wanted o (yielded ops a.tmps) = true then Oper.wp P o a w K Q else E := by
  obtain ⟨i, hi, hz0, hz1, hz2⟩ := info_parts hinfo
  obtain ⟨b, off, cap, rfl, _, hc⟩ := hrd.at hne
  refine step_append_lies _ hgd s x t ho base e i (.int .u8 0) 1 1 ht hi hz0 hz1 hz2 rfl (by decide) v (bv xs).length (bv xs) hs hown ⟨b, off, none⟩ news.length cap (bv news) hx (by simp [bv_len]) ?_ bv_one hne (by rw [bv_len]; unfold maxLen; omega) (by rw [bv_len]; omega) hbase _ rfl ?_
  · intro j u hu
    have hj : j < news.length := by
      have := (List.getElem?_eq_some_iff.1 hu).1
      rwa [bv_len] at this
    rw [bv_get hj] at hu
    rw [Addr.add_lit, hc j hj, ← hu]
  · intro g cap' w' ho' hg _ _
    rw [bv_len] at ho' ⊢
    refine h g cap' w' ?_ (below_of_grown hown hg hbase)
    show w'.ownsRow base e 1 _ (bv (xs ++ news)).length (bv (xs ++ news))
    rw [bv_len, bv_app, List.length_append]; exact ho'
end Go.Proofs.YthhngkoopaolkaaGreatDoor
