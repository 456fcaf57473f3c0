/- Descriptors over lists: what may be. No program is named here. -/
namespace Go.Proofs.YthhngkoopaolkaaGreatDoor
namespace D

/-- 1 to 64 bytes, all to be seen. -/
def vis (c : UInt8) : Bool := decide (33 ≤ c.toNat ∧ c.toNat ≤ 126)
def nm (l : List UInt8) : Bool := decide (1 ≤ l.length) && decide (l.length ≤ 64) && l.all vis

abbrev E := List UInt8 × List UInt8
def okE (e : E) : Bool := nm e.1 && decide (e.2.length ≤ 128)
def chk (es : List E) : Bool := decide (1 ≤ es.length) && decide (es.length ≤ 8) && es.all okE
theorem chk_ne {es : List E} (h : chk es = true) : es ≠ [] := by
  rintro rfl; revert h; decide
theorem chk_len {es : List E} (h : chk es = true) : 1 ≤ es.length ∧ es.length ≤ 8 := by
  unfold chk at h
  simp only [Bool.and_eq_true, decide_eq_true_eq] at h
  exact h.1
end D
end Go.Proofs.YthhngkoopaolkaaGreatDoor
