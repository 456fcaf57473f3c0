/- Texts that the laws of chapter 12 make: lists in lists, many items; what they are parsed as. No program is named here. -/
import Derived.Test.YthhngkoopaolkaaDoorDcShift
import Derived.Lib.Repeat
namespace Go.Proofs.YthhngkoopaolkaaDoor
namespace DC
open LX (B Pc Lz)

/-! ### Many items -/
def itemB : B := [45, 32, 97, 10]
def manyB (n : Nat) : B := Lib.repeatL itemB n
def itemP (i : Int) : List Pc := [(1, i, 0, [], false), (3, i, 2, [97], false)]
def itemsP : Nat → Int → List Pc
  | 0, _ => []
  | n + 1, i => itemP i ++ itemsP n (i + 1)
def itemsZ : Nat → Int → List Lz
  | 0, _ => []
  | n + 1, i => (i, 0, [45, 32, 97]) :: itemsZ n (i + 1)
theorem many_succ (n : Nat) : manyB (n + 1) = 45 :: 32 :: 97 :: 10 :: manyB n := rfl
theorem many_len : ∀ n, (manyB n).length = 4 * n
  | 0 => rfl
  | n + 1 => by rw [many_succ]; simp only [List.length_cons, many_len n]; omega
theorem many_rows : ∀ n, LN.rows (manyB n) = List.replicate n [45, 32, 97] ++ [[]]
  | 0 => rfl
  | n + 1 => by
    rw [many_succ]
    simp only [LN.rows, many_rows n]
    rfl
theorem kind_item : LN.kind [45, 32, 97] = 0 := by decide +kernel
theorem said_item : LN.said [45, 32, 97] = [45, 32, 97] := by decide +kernel
theorem ind_item : LN.ind [45, 32, 97] = 0 := by decide +kernel
theorem many_flt : ∀ (n k : Nat), LN.flt k (List.replicate n [45, 32, 97] ++ [[]]) = (0, 0)
  | 0, k => by
    show LN.flt k [[]] = (0, 0)
    rw [LN.flt, if_pos (by decide +kernel)]; rfl
  | n + 1, k => by
    rw [List.replicate_succ, List.cons_append, LN.flt, if_pos kind_item, many_flt n]
theorem many_lns : ∀ (n k : Nat), (LN.lns k (List.replicate n [45, 32, 97] ++ [[]])).map zl = itemsZ n (k : Int)
  | 0, k => by
    show (LN.lns k [[]]).map zl = []
    rw [LN.lns, if_pos (by decide +kernel)]; rfl
  | n + 1, k => by
    rw [List.replicate_succ, List.cons_append, LN.lns, said_item, if_neg (by decide), ind_item, List.map_cons, many_lns n (k + 1)]
    rfl
theorem item_row (i : Int) : LX.row (i, 0, [45, 32, 97]) = (0, itemP i) := by
  have h1 : LX.tl [45, 32, 97] = [45, 32, 97] := by decide +kernel
  have h2 : LX.dash [45, 32, 97] = true := by decide +kernel
  have h3 : LX.tl (List.drop 1 [45, 32, 97]) = [97] := by decide +kernel
  have h4 : LX.dash [97] = false := by decide +kernel
  have h5 : LX.key [97] = 0 := by decide +kernel
  have h6 : LX.txt [97] = (0, [97], false) := by decide +kernel
  unfold LX.row
  rw [if_neg (by simp only; omega)]
  simp only [h1]
  rw [show ([45, 32, 97] : B).length = 2 + 1 from rfl, LX.go_dash h2, h3, LX.go_mid h4, LX.mid, if_pos h5, LX.fin, if_neg (by simp), h6, if_pos rfl]
  rfl
theorem many_all : ∀ (n : Nat) (i : Int), LX.all (itemsZ n i) = ((0, itemsP n i), 0)
  | 0, _ => rfl
  | n + 1, i => by
    rw [itemsZ, LX.all_ok (item_row i), many_all n (i + 1)]
    rfl
theorem itemsP_succ (n : Nat) (i : Int) : itemsP (n + 1) i = (1, i, 0, [], false) :: (3, i, 2, [97], false) :: itemsP n (i + 1) := rfl
theorem many_comes (n : Nat) (i : Int) : comes 1 0 (itemsP (n + 1) i) = true := rfl
theorem items_len : ∀ (n : Nat) (i : Int), (itemsP n i).length = 2 * n
  | 0, _ => rfl
  | n + 1, i => by rw [itemsP_succ]; simp only [List.length_cons, items_len n]; omega
theorem many_itm : ∀ (m f N : Nat) (i : Int), 2 * (itemsP m i).length + 1 ≤ f → N ≤ 2000 →
    (N + m ≤ 2000 → ∃ is ns, itm f 1 0 2 N [] (itemsP m i) = .ok ([], is, ns, []) ∧ ns.length = m) ∧ (2000 < N + m → itm f 1 0 2 N [] (itemsP m i) = .bad 9 (i + (2000 - N : Nat)))
  | 0, f, N, i, hf, hN => by
    obtain ⟨f, rfl⟩ : ∃ g, f = g + 1 := ⟨f - 1, by omega⟩
    exact ⟨fun _ => ⟨[], [], by simp [itemsP, itm], rfl⟩, fun h => by omega⟩
  | m + 1, f, N, i, hf, hN => by
    rw [items_len] at hf
    obtain ⟨f, rfl⟩ : ∃ g, f = g + 1 := ⟨f - 1, by omega⟩
    obtain ⟨f', rfl⟩ : ∃ g, f = g + 1 := ⟨f - 1, by omega⟩
    have hc := many_comes m i
    rw [itemsP_succ] at hc ⊢
    have hlow : low (0 : Int) ((3, i, 2, [97], false) :: itemsP m (i + 1)) = false := rfl
    by_cases h2 : 2000 ≤ N
    · have hu : und (f' + 1) i 0 2 N ((3, i, 2, [97], false) :: itemsP m (i + 1)) = .bad 9 i := by
        rw [und, if_neg (by rw [hlow]; simp), blk_many (show nk 3 ≠ 0 by decide) (by decide) h2]
      refine ⟨fun h => by omega, fun h => ?_⟩
      rw [itm_no hc (by simp) hu]
      simp
      omega
    · have hu : und (f' + 1) i 0 2 N ((3, i, 2, [97], false) :: itemsP m (i + 1)) = .ok ([leaf (3, i, 2, [97], false)], itemsP m (i + 1)) := by
        rw [und, if_neg (by rw [hlow]; simp), blk_text rfl (by decide) h2]
      rw [itm_go hc (by simp) hu]
      obtain ⟨h3, h4⟩ := many_itm m (f' + 1) (N + 1) (i + 1) (by rw [items_len]; omega) (by omega)
      refine ⟨fun h => ?_, fun h => ?_⟩
      · obtain ⟨is, ns, e, hl⟩ := h3 (by omega)
        refine ⟨N :: is, leaf (3, i, 2, [97], false) :: ns, ?_, by simp [hl]⟩
        simp only [List.length_cons, List.length_nil]
        rw [if_neg (by decide), if_neg (by decide), e]
        rfl
      · simp only [List.length_cons, List.length_nil]
        rw [if_neg (by decide), if_neg (by decide), h4 (by omega)]
        simp only [plus, Out.bind, Out.bad.injEq, true_and]
        omega
theorem many_parse (n : Nat) (h1 : 1 ≤ n) (h2 : n ≤ 2100) : (n + 1 ≤ 2000 → ∃ ns, parse (manyB n) = .ok ns ∧ ns.length = n + 1) ∧ (2000 < n + 1 → parse (manyB n) = .bad 9 2000) := by
  have hlen := many_len n
  have hF : LN.outF (manyB n) = (0, 0) := by
    unfold LN.outF
    rw [if_neg (by omega), many_rows, many_flt]
  have hL : (LN.outL (manyB n)).map zl = itemsZ n 1 := by
    unfold LN.outL
    rw [if_pos hF, many_rows]
    exact many_lns n 1
  have hp : parse (manyB n) = doc (itemsP n 1) := by
    unfold parse
    rw [hF, hL, many_all]
    simp
  obtain ⟨m, rfl⟩ : ∃ m, n = m + 1 := ⟨n - 1, by omega⟩
  rw [hp]
  unfold doc
  rw [if_neg (by rw [itemsP_succ]; simp), fuel, itemsP_succ, blk_in (.inl rfl) (by decide) (by decide), ← itemsP_succ]
  obtain ⟨h3, h4⟩ := many_itm (m + 1) (2 * (itemsP (m + 1) 1).length + 1) 1 1 (Nat.le_refl _) (by omega)
  refine ⟨fun h => ?_, fun h => ?_⟩
  · obtain ⟨is, ns, e, hl⟩ := h3 (by omega)
    simp only [Nat.zero_add, Nat.reduceAdd]
    rw [e]
    exact ⟨_, rfl, by simp [hl]⟩
  · simp only [Nat.zero_add, Nat.reduceAdd]
    rw [h4 (by omega)]
    rfl

/-! ### Lists in lists -/
def deepB (n : Nat) : B := Lib.repeatL [45, 32] n ++ [97]
def deepS : Nat → B
  | 0 => []
  | n + 1 => deepS n ++ Lib.repeatL [32] n ++ [45, 10]
def deepL (n : Nat) : B := deepS n ++ Lib.repeatL [32] n ++ [97]
def Right (o : Out (List Nd)) (n : Nat) (line : Int) : Bool := match o with
  | .ok ns => decide (n + 1 ≤ 24) && decide (ns.length = n + 1)
  | .bad k l => decide (24 < n + 1) && decide (k = 8) && decide (l = line)
theorem deep_one : ∀ n : Fin 41, Right (parse (deepB n.val)) n.val 1 = true := by decide +kernel
theorem deep_two : ∀ n : Fin 41, Right (parse (deepL n.val)) n.val 25 = true := by decide +kernel
/-! ### By hand -/
def forms : List (B × Int × Int) := [
  ([], 10, 1),
  ([35, 32, 97, 10, 10], 10, 1),
  ([97, 58, 32, 98, 10, 97, 58, 32, 99], 7, 2),
  ([97, 58, 10, 98, 58, 32, 99], 10, 1),
  ([97, 58, 32, 98, 10, 32, 32, 99, 58, 32, 100], 6, 2),
  ([45, 32, 97, 10, 32, 98], 6, 2),
  ([45, 32, 97, 10, 45, 98], 6, 2),
  ([97, 58, 10, 32, 32, 98, 58, 32, 99, 10, 32, 100, 58, 32, 101], 6, 3),
  ([97, 58, 32, 98, 58, 32, 99], 4, 1),
  ([97, 58, 32, 45, 32, 98], 4, 1),
  ([45], 10, 1),
  ([97, 58, 32, 39, 98], 3, 1),
  ([97, 58, 32, 34, 98, 92, 113, 34], 3, 1),
  ([97, 58, 32, 123, 98, 125], 4, 1),
  ([97, 10, 98], 6, 2),
  ([97, 58, 32, 98, 10, 45, 32, 99], 6, 2),
  ([97, 58, 10, 45, 32, 98], 10, 1),
  ([97, 58, 10, 32, 32, 45, 32, 98, 10, 32, 32, 99, 58, 32, 100], 6, 3),
  ([9, 97, 58, 32, 98], 2, 1),
  ([97, 58, 10, 32, 32, 45, 32, 45, 32, 98, 10, 32, 32, 32, 32, 45, 32, 99], 0, 0),
  ([45, 32, 97, 58, 32, 98, 10, 32, 32, 99, 58, 32, 100, 10, 45, 32, 32, 32, 101], 0, 0),
  ([97, 58, 10, 32, 98], 0, 0),
  ([39, 97, 58, 32, 98, 39], 0, 0),
  ([97, 58, 32, 98, 35, 99], 0, 0)]
def RightF (x : B × Int × Int) : Bool := match parse x.1 with
  | .ok ns => decide (x.2.1 = 0) && decide (x.2.2 = 0) && decide (0 < ns.length)
  | .bad k l => decide (x.2.1 = k) && decide (x.2.2 = l) && decide (k ≠ 0)
theorem forms_right : ∀ x ∈ forms, RightF x = true := by decide +kernel
end DC
end Go.Proofs.YthhngkoopaolkaaDoor
