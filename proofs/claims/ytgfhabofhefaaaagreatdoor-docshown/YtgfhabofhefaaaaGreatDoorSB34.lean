/- A part of the proof. -/
import Derived.Test.YtgfhabofhefaaaaGreatDoorSB33
import Derived.Test.YtgfhabofhefaaaaGreatDoorSB25
namespace Go.Proofs.YtgfhabofhefaaaaGreatDoor
open Go.RowKit
set_option maxRecDepth 4000 in
set_option maxHeartbeats 4000000 in
theorem wputk_any {w0 w : World} {p T : Nat} {ns : List SH.Ni} (h : Wnt w0 w p T ns) (n : Nat) (key s : LX.B) (q : Bool) (hn : n < ns.length) (hl : ns.length ≤ 18900) (hT : T ≤ 100000) :
    Calls Tryz.prog 22 #[.pointer (some ⟨p, 0, none⟩), .int .i64 (n : Int), .string ⟨key.toArray⟩, .string ⟨s.toArray⟩, .bool q] w fun e w' => e = .returned (.tuple #[]) ∧ Wnt w0 w' p (T + 1) (CF.put n key s q ns) ∧ Kw w w' := by
  have HT := Lib.hid (ctext_any h (by omega) s q)
  have HK := Lib.hid (fun (u : World) (hu : Wnt w0 u p T (CF.txt s q ns)) => wkey_any hu n key ns.length (by simp [CF.txt]; omega) (by simp [CF.txt]; omega) hT)
  clear h hn hl hT
  go_enter Tryz.func22, Tryz.ntmps22
  go_wp2_with (first
    | (go_at_call 42; refine HT.out.mono ?_; rintro e w2 ⟨rfl, h2, k2⟩; have H2 := Lib.hid h2; have K2 := Lib.hid k2; clear h2 k2)
    | (go_at_call 20; refine (HK.out _ H2.out).mono ?_; rintro e w3 ⟨rfl, h3, k3⟩; have H3 := Lib.hid h3; have K3 := Lib.hid k3; clear h3 k3))
  go_end0
  exact ⟨rfl, H3.out, K2.out.trans K3.out⟩
def Wn (s : Nat) (w0 w : World) (p : Nat) (ns : List SH.Ni) : Prop := ∃ T, T + s ≤ ns.length ∧ Wnt w0 w p T ns
theorem Wn.calm {s : Nat} {w0 w w' : World} {p : Nat} {ns : List SH.Ni} (h : Wn s w0 w p ns) (hb : Below w.heap.size w w') : Wn s w0 w' p ns := by
  obtain ⟨T, h1, h2⟩ := h
  exact ⟨T, h1, h2.calm hb⟩
theorem Wn.bl {s : Nat} {w0 w : World} {p : Nat} {ns : List SH.Ni} (h : Wn s w0 w p ns) : Below w0.heap.size w0 w := by
  obtain ⟨T, _, h2⟩ := h
  exact h2.bl
theorem len_opn (k : Int) (ns : List SH.Ni) : (CF.opn k ns).length = ns.length + 1 := by simp [CF.opn]
theorem len_txt (s : LX.B) (q : Bool) (ns : List SH.Ni) : (CF.txt s q ns).length = ns.length + 1 := by simp [CF.txt]
theorem len_addK (n : Nat) (key : LX.B) (k : Nat) (ns : List SH.Ni) : (CF.addK n key k ns).length = ns.length := by simp [CF.addK]
theorem len_addI (n k : Nat) (ns : List SH.Ni) : (CF.addI n k ns).length = ns.length := by simp [CF.addI]
theorem len_put (n : Nat) (key s : LX.B) (q : Bool) (ns : List SH.Ni) : (CF.put n key s q ns).length = ns.length + 1 := by rw [CF.put, len_addK, len_txt]
theorem Wn.put {z : Nat} {w0 w : World} {p : Nat} {ns : List SH.Ni} (h : Wn z w0 w p ns) (n : Nat) (key s : LX.B) (q : Bool) (hn : n < ns.length) (hl : ns.length ≤ 18900) :
    Calls Tryz.prog 22 #[.pointer (some ⟨p, 0, none⟩), .int .i64 (n : Int), .string ⟨key.toArray⟩, .string ⟨s.toArray⟩, .bool q] w fun e w' => e = .returned (.tuple #[]) ∧ Wn z w0 w' p (CF.put n key s q ns) ∧ Kw w w' := by
  obtain ⟨T, h1, h2⟩ := h
  refine (wputk_any h2 n key s q hn hl (by omega)).mono ?_
  rintro e w' ⟨r1, r2, r3⟩
  exact ⟨r1, ⟨T + 1, by rw [len_put]; omega, r2⟩, r3⟩
theorem Wn.open {z : Nat} {w0 w : World} {p : Nat} {ns : List SH.Ni} (h : Wn z w0 w p ns) (k : Int) (hl : ns.length ≤ 18900) :
    Calls Tryz.prog 19 #[.pointer (some ⟨p, 0, none⟩), .int .i64 k] w fun e w' => e = .returned (.int .i64 (ns.length : Int)) ∧ Wn (z + 1) w0 w' p (CF.opn k ns) ∧ Kw w w' := by
  obtain ⟨T, h1, h2⟩ := h
  refine (wopen_any h2 (by omega) k).mono ?_
  rintro e w' ⟨r1, r2, r3⟩
  exact ⟨r1, ⟨T, by rw [len_opn]; omega, r2⟩, r3⟩
theorem Wn.item {z : Nat} {w0 w : World} {p : Nat} {ns : List SH.Ni} (h : Wn (z + 1) w0 w p ns) (n k : Nat) (hn : n < ns.length) (hl : ns.length ≤ 18900) :
    Calls Tryz.prog 21 #[.pointer (some ⟨p, 0, none⟩), .int .i64 (n : Int), .int .i64 (k : Int)] w fun e w' => e = .returned (.tuple #[]) ∧ Wn z w0 w' p (CF.addI n k ns) ∧ Kw w w' := by
  obtain ⟨T, h1, h2⟩ := h
  refine (witem_any h2 n k hn (by omega) (by omega)).mono ?_
  rintro e w' ⟨r1, r2, r3⟩
  exact ⟨r1, ⟨T + 1, by rw [len_addI]; omega, r2⟩, r3⟩
theorem Wn.key {z : Nat} {w0 w : World} {p : Nat} {ns : List SH.Ni} (h : Wn (z + 1) w0 w p ns) (n : Nat) (key : LX.B) (k : Nat) (hn : n < ns.length) (hl : ns.length ≤ 18900) :
    Calls Tryz.prog 20 #[.pointer (some ⟨p, 0, none⟩), .int .i64 (n : Int), .string ⟨key.toArray⟩, .int .i64 (k : Int)] w fun e w' => e = .returned (.tuple #[]) ∧ Wn z w0 w' p (CF.addK n key k ns) ∧ Kw w w' := by
  obtain ⟨T, h1, h2⟩ := h
  refine (wkey_any h2 n key k hn (by omega) (by omega)).mono ?_
  rintro e w' ⟨r1, r2, r3⟩
  exact ⟨r1, ⟨T + 1, by rw [len_addK]; omega, r2⟩, r3⟩
theorem len_inRule (r : CF.Ru) (m : Nat) (ns : List SH.Ni) : ns.length ≤ (CF.inRule r m ns).length ∧ (CF.inRule r m ns).length ≤ ns.length + 3 := by
  unfold CF.inRule
  split
  · rw [len_put]; omega
  · rw [len_put, len_put, len_put]; omega
theorem len_named (r : CF.Ru) (m : Nat) (ns : List SH.Ni) : ns.length ≤ (CF.named r m ns).length ∧ (CF.named r m ns).length ≤ ns.length + 1 := by
  unfold CF.named
  split
  · omega
  · rw [len_put]; omega
theorem len_valued (b : CF.Br) (m : Nat) (ns : List SH.Ni) : ns.length ≤ (CF.valued b m ns).length ∧ (CF.valued b m ns).length ≤ ns.length + 1 := by
  unfold CF.valued
  split
  · omega
  · rw [len_put]; omega
theorem len_shaded (r : CF.Ru) (m : Nat) (ns : List SH.Ni) : ns.length ≤ (CF.shaded r m ns).length ∧ (CF.shaded r m ns).length ≤ ns.length + 1 := by
  unfold CF.shaded
  split
  · rw [len_put]; omega
  · omega
theorem len_ruled (r : CF.Ru) (n : Nat) (ns : List SH.Ni) : ns.length ≤ (CF.ruled r n ns).length ∧ (CF.ruled r n ns).length ≤ ns.length + 6 := by
  unfold CF.ruled
  have h1 := len_shaded r n (CF.named r ns.length (CF.inRule r ns.length (CF.addK n CF.kRate ns.length (CF.opn 3 ns))))
  have h2 := len_named r ns.length (CF.inRule r ns.length (CF.addK n CF.kRate ns.length (CF.opn 3 ns)))
  have h3 := len_inRule r ns.length (CF.addK n CF.kRate ns.length (CF.opn 3 ns))
  rw [len_addK, len_opn] at h3
  omega
theorem len_hasR (b : CF.Br) (n : Nat) (ns : List SH.Ni) : ns.length ≤ (CF.hasR b n ns).length ∧ (CF.hasR b n ns).length ≤ ns.length + 6 := by
  unfold CF.hasR
  split
  · exact len_ruled _ _ _
  · omega
structure Bw (z : Nat) (w0 wa w : World) (p P a : Nat) (cv bs : Array Value) (ns : List SH.Ni) : Prop where
  wn : Wn z w0 w p ns
  cf : Str w P 33 cv
  br : Str w a 92 bs
  kw : Kw wa w
theorem Bw.step {z z' : Nat} {w0 wa w w' : World} {p P a : Nat} {cv bs : Array Value} {ns ns' : List SH.Ni} (h : Bw z w0 wa w p P a cv bs ns) (hw : Wn z' w0 w' p ns') (hk : Kw w w') : Bw z' w0 wa w' p P a cv bs ns' :=
  ⟨hw, hk.str h.cf (by decide) (by decide) (by decide) (by decide), hk.str h.br (by decide) (by decide) (by decide) (by decide), h.kw.trans hk⟩
theorem Bw.calm {z : Nat} {w0 wa w w' : World} {p P a : Nat} {cv bs : Array Value} {ns : List SH.Ni} (h : Bw z w0 wa w p P a cv bs ns) (hb : Below w.heap.size w w') : Bw z w0 wa w' p P a cv bs ns :=
  ⟨h.wn.calm hb, h.cf.below hb, h.br.below hb, h.kw.trans (Kw.of_below hb)⟩
end Go.Proofs.YtgfhabofhefaaaaGreatDoor
