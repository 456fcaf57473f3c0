/- Texts as lists of bytes, for walks. -/
import Derived.Test.YthhngkoopaolkaaGreatDoorRows
import Derived.Test.YthhngkoopaolkaaGreatDoorDsD
import Derived.Test.YthhngkoopaolkaaGreatDoorSlc
import Derived.Lib.ConvBytes
import Derived.WalkSmall
namespace Go.Proofs.YthhngkoopaolkaaGreatDoor
open Go.RowKit

theorem below_trans {a b c : World} (h : Below a.heap.size a b) (k : Below b.heap.size b c) : Below a.heap.size a c := h.trans (k.mono h.size)
theorem below_drew (w : World) : Below w.heap.size w w.drew := ⟨rfl, rfl, rfl, Nat.le_refl _, fun _ _ => rfl⟩
theorem below_drewN (w : World) (n : Nat) : Below w.heap.size w (w.drewN n) := ⟨rfl, rfl, rfl, Nat.le_refl _, fun _ _ => rfl⟩
theorem str_app (a b : List UInt8) : (⟨a.toArray⟩ : ByteArray) ++ ⟨b.toArray⟩ = ⟨(a ++ b).toArray⟩ := ByteArray.mk_append_mk a b
theorem str_size (l : List UInt8) : (⟨l.toArray⟩ : ByteArray).size = l.length := by simp [ByteArray.size]
theorem ret_s {a b : List UInt8} {P : Prop} (h : a = b) (hp : P) : Ending.returned (.string ⟨a.toArray⟩) = .returned (.string ⟨b.toArray⟩) ∧ P := ⟨by rw [h], hp⟩
theorem ret_b {a b : Bool} {P : Prop} (h : a = b) (hp : P) : Ending.returned (.bool a) = .returned (.bool b) ∧ P := ⟨by rw [h], hp⟩
theorem ret_sb {a b : List UInt8} {x y : Bool} {P : Prop} (h : a = b) (h2 : x = y) (hp : P) : Ending.returned (.tuple #[.string ⟨a.toArray⟩, .bool x]) = .returned (.tuple #[.string ⟨b.toArray⟩, .bool y]) ∧ P := ⟨by rw [h, h2], hp⟩
theorem ret_ssb {a b c d : List UInt8} {x y : Bool} {P : Prop} (h : a = b) (h2 : c = d) (h3 : x = y) (hp : P) : Ending.returned (.tuple #[.string ⟨a.toArray⟩, .string ⟨c.toArray⟩, .bool x]) = .returned (.tuple #[.string ⟨b.toArray⟩, .string ⟨d.toArray⟩, .bool y]) ∧ P := ⟨by rw [h, h2, h3], hp⟩
theorem str_eq (a b : List UInt8) : ((⟨a.toArray⟩ : ByteArray) = ⟨b.toArray⟩) ↔ a = b := ⟨fun h => by simpa using h, fun h => by rw [h]⟩

theorem at_s {l : List UInt8} {p : Nat} {c : UInt8} (hc : l[p]? = some c) (hlt : p < (⟨l.toArray⟩ : ByteArray).size) : ((⟨l.toArray⟩ : ByteArray)[p]'hlt) = c := by
  have h1 : p < l.length := by rw [str_size] at hlt; exact hlt
  have h2 : ((⟨l.toArray⟩ : ByteArray)[p]'hlt) = l[p]'h1 := rfl
  rw [h2]
  rw [List.getElem?_eq_getElem h1] at hc
  exact Option.some.inj hc
theorem i_of {b c : UInt8} {z : Int} (h : b = c) (hz : (c.toNat : Int) = z) : ((b.toNat : Nat) : Int) = z := by rw [h, hz]
theorem at_z {l : List UInt8} {p : Nat} {c : UInt8} {z : Int} (hc : l[p]? = some c) (hz : (c.toNat : Int) = z) (hlt : p < (⟨l.toArray⟩ : ByteArray).size) : ((((⟨l.toArray⟩ : ByteArray)[p]'hlt).toNat : Nat) : Int) = z := i_of (at_s hc hlt) hz

/-- '[]byte(s)': a new row, of which the call reads the text's bytes. -/
theorem bytes_of (l : List UInt8) (w : World) : ∃ (W : World) (cap : Nat), (convert 9 22 (.string ⟨l.toArray⟩)).run Tryz.prog w = .ok (.slice (some ⟨w.heap.size, 0, none⟩) l.length cap) W ∧ Below w.heap.size w W ∧ ∀ j c, l[j]? = some c → W.cell? ⟨w.heap.size, j, none⟩ = some (.int .u8 (c.toNat : Int)) := by
  have h := Lib.run_convert_string_bytes (P := Tryz.prog) w 9 22 5 ⟨l.toArray⟩ (u := .string) Tryz.underlying9 Tryz.underlying22 Tryz.underlying5
  rw [str_size] at h
  refine ⟨_, _, h, ?_, ?_⟩
  · refine ⟨rfl, rfl, rfl, ?_, ?_⟩
    · rw [Lib.bytesWorld_size]; omega
    · intro j hj
      exact Lib.bytesWorld_at_old _ _ _ _ hj
  · intro j c hc
    have hj : j < l.length := by
      rcases Nat.lt_or_ge j l.length with h1 | h1
      · exact h1
      · rw [List.getElem?_eq_none h1] at hc; cases hc
    have := Lib.bytesWorld_cell w 5 ⟨l.toArray⟩ j (by rw [str_size]; exact hj)
    rw [this]
    have e : (⟨l.toArray⟩ : ByteArray).data.toList = l := rfl
    rw [e, List.getD_eq_getElem?_getD, hc]; rfl
end Go.Proofs.YthhngkoopaolkaaGreatDoor
