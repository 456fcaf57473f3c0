/- The law DocShift. -/
import Derived.Test.YthhngkoopaolkaaGreatDoorDcV
import Derived.Test.YthhngkoopaolkaaGreatDoorShelfJ
namespace Go.Proofs.YthhngkoopaolkaaGreatDoor
open Go.RowKit

namespace DC
open LX (B)
/-- A text's rows, each but the first so many blanks in. -/
def inB (k : Nat) (l : B) : B := l.flatMap fun c => if c = 10 then 10 :: bl k else [c]
theorem ic_cons (s a b : B) (xs : List B) : s.intercalate (a :: b :: xs) = a ++ s ++ s.intercalate (b :: xs) := by
  simp [List.intercalate, List.intersperse]
theorem ic_one (s a : B) : s.intercalate [a] = a := by simp [List.intercalate, List.intersperse]
theorem join_in (k : Nat) : ∀ l : B, Lib.join (LN.rows l) (10 :: bl k) = inB k l
  | [] => rfl
  | c :: l => by
    obtain ⟨h, t, e⟩ := LN.rows_ne l
    have ih := join_in k l
    rw [e] at ih
    unfold Lib.join at ih ⊢
    rw [LN.rows, e]
    by_cases hc : c = 10
    · subst hc
      rw [if_pos rfl, ic_cons, ih]
      show [] ++ (10 :: bl k) ++ inB k l = _
      simp [inB]
    · rw [if_neg hc]
      show List.intercalate (10 :: bl k) ((c :: h) :: t) = _
      have e2 : inB k (c :: l) = c :: inB k l := by simp [inB, hc]
      rw [e2, ← ih]
      cases t with
      | nil => rw [ic_one, ic_one]
      | cons b t => rw [ic_cons, ic_cons]; rfl
theorem inB_len (k : Nat) : ∀ l : B, (inB k l).length ≤ l.length * (k + 1)
  | [] => by simp [inB]
  | c :: l => by
    have ih := inB_len k l
    have e : inB k (c :: l) = (if c = 10 then 10 :: bl k else [c]) ++ inB k l := by simp [inB]
    rw [e, List.length_append, List.length_cons, Nat.add_mul, Nat.one_mul]
    have : (if c = 10 then 10 :: bl k else [c]).length ≤ k + 1 := by
      split
      · simp [bl]
      · simp
    omega
theorem inB_rows (k : Nat) : ∀ l : B, (inB k l).length + k = l.length + (LN.rows l).length * k
  | [] => by simp [inB, LN.rows]
  | c :: l => by
    have ih := inB_rows k l
    obtain ⟨h, t, e⟩ := LN.rows_ne l
    have e2 : inB k (c :: l) = (if c = 10 then 10 :: bl k else [c]) ++ inB k l := by simp [inB]
    rw [e2, List.length_append, List.length_cons, LN.rows]
    rw [e] at ih ⊢
    by_cases hc : c = 10
    · subst hc
      rw [if_pos rfl, if_pos rfl]
      simp only [List.length_cons, bl, List.length_replicate] at ih ⊢
      rw [Nat.add_mul _ 1 k, Nat.one_mul] 
      omega
    · rw [if_neg hc, if_neg hc]
      simp only [List.length_cons, List.length_nil] at ih ⊢
      omega
theorem rep_bl : ∀ k : Nat, Lib.repeatL [32] k = bl k
  | 0 => rfl
  | k + 1 => by rw [Lib.repeatL, rep_bl k]; rfl
theorem shT_eq (k : Nat) (l : B) : shT k l = bl k ++ inB k l := rfl
end DC
theorem bl_any (k : Nat) (hk : k ≤ 20) (u : World) : Calls Tryz.prog 15 #[.string ⟨#[32]⟩, .int .i64 (k : Int)] u fun e w' => e = .returned (.string ⟨(DC.bl k).toArray⟩) ∧ Below u.heap.size u w' := by
  have := Tryz.strings_Repeat ⟨#[32]⟩ k u (by omega) (by show 1 * k ≤ _; omega)
  have e : Lib.repeatL (⟨#[32]⟩ : ByteArray).data.toList k = DC.bl k := DC.rep_bl k
  rw [e] at this
  exact this
theorem sp10_any (bs : List UInt8) (w : World) (hl : bs.length ≤ 4000) (hm : MaxIs w) : Calls Tryz.prog 14 #[.string ⟨bs.toArray⟩, .string ⟨#[10]⟩] w fun e w' =>
    ∃ vs : List ByteArray, vs.map (·.data.toList) = LN.rows bs ∧ e = .returned (.slice (some ⟨w.heap.size, 0, none⟩) (LN.rows bs).length (LN.rows bs).length) ∧ w' = w.alloc (.cells (vs.map Value.string).toArray 9) := by
  obtain ⟨m, hm⟩ := hm
  have h := Tryz.strings_Split ⟨bs.toArray⟩ ⟨#[10]⟩ m w (by rw [str_size]; omega) hm (by decide)
  refine h.mono ?_
  rintro e w' ⟨rfl, rfl⟩
  have e1 : Lib.countB ⟨bs.toArray⟩ ⟨#[10]⟩ = Lib.count bs [10] := rfl
  have e2 : (Lib.splitB ⟨#[10]⟩ 0 (Lib.countB ⟨bs.toArray⟩ ⟨#[10]⟩) ⟨bs.toArray⟩).map (·.data.toList) = LN.rows bs := by
    rw [Lib.splitB_data, e1]
    exact LN.split_all bs
  have e3 : Lib.countB ⟨bs.toArray⟩ ⟨#[10]⟩ + 1 = (LN.rows bs).length := by rw [e1, LN.rows_len, Lib.count_one]
  refine ⟨_, e2, ?_, rfl⟩
  rw [e3]
theorem join10_any (bs : List UInt8) (k g : Nat) (vs : List ByteArray) (w : World) (hl : bs.length ≤ 4000) (hk : k ≤ 20) (hv : vs.map (·.data.toList) = LN.rows bs) (hs : Str w g 9 (vs.map Value.string).toArray) :
    Calls Tryz.prog 16 #[.slice (some ⟨g, 0, none⟩) (LN.rows bs).length (LN.rows bs).length, .string ⟨(10 :: DC.bl k).toArray⟩] w fun e w' => e = .returned (.string ⟨(DC.inB k bs).toArray⟩) ∧ Below w.heap.size w w' := by
  have hvl : vs.length = (LN.rows bs).length := by rw [← hv, List.length_map]
  have hrl : (LN.rows bs).length ≤ 4001 := by
    rw [LN.rows_len]
    have := List.count_le_length (a := (10 : UInt8)) (l := bs)
    omega
  have e1 : Lib.join (vs.map (·.data.toList)) (⟨(10 :: DC.bl k).toArray⟩ : ByteArray).data.toList = DC.inB k bs := by
    rw [hv]; exact DC.join_in k bs
  have h := Tryz.strings_Join g 0 (LN.rows bs).length vs ⟨(10 :: DC.bl k).toArray⟩ w (fun j x hx => by
    have h1 := hs.cell j
    rw [Nat.zero_add, h1]
    simp [hx]) hs.lt (by omega) (by omega) (by
    rw [e1]
    have h1 := DC.inB_len k bs
    have h2 : bs.length * (k + 1) ≤ 4000 * 21 := Nat.mul_le_mul hl (by omega)
    omega)
  rw [e1, hvl] at h
  exact h
end Go.Proofs.YthhngkoopaolkaaGreatDoor
