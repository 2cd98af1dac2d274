import Derived.Test.YtlaoaiffgbdnpaaRow1
namespace Go.Proofs.Ytlaoaiffgbdnpaa
open Go.RowKit
set_option linter.unusedVariables false

theorem info4 : (Try.prog.info? 4).map (fun i => (i.zero, i.size, i.bytes)) = some (some (.bool false), 1, 1) := by kernel_rfl

def takenV (n : Nat) (A : List Nat) : List Value := (List.range n).map (fun a => .bool (decide (a ∈ A)))
theorem takenV_at (n : Nat) (A : List Nat) (a : Nat) (h : a < n) : (takenV n A)[a]? = some (.bool (decide (a ∈ A))) := by simp [takenV, h]
theorem takenV_nil (n : Nat) : madeCells #[Value.bool false] n = (takenV n []).toArray := by
  apply Array.ext'
  rw [toList_madeCells_one]
  apply List.ext_getElem?
  intro a
  by_cases h : a < n
  · rw [takenV_at n [] a h]; simp [h]
  · rw [List.getElem?_eq_none (by simp; omega), List.getElem?_eq_none (by simp [takenV]; omega)]
theorem takenV_set (n : Nat) (A : List Nat) (r : Nat) (h : r < n) : (takenV n A).toArray.setIfInBounds r (.bool true) = (takenV n (A ++ [r])).toArray := by
  apply Array.ext'
  rw [Array.toList_setIfInBounds]
  apply List.ext_getElem?
  intro a
  rw [List.getElem?_set]
  by_cases ha : a < n
  · by_cases e : r = a
    · rw [if_pos e, if_pos (by simp [takenV]; omega)]
      show _ = (takenV n (A ++ [r]))[a]?
      rw [takenV_at n _ a ha]; simp [e]
    · rw [if_neg e]
      show (takenV n A)[a]? = (takenV n (A ++ [r]))[a]?
      rw [takenV_at n _ a ha, takenV_at n _ a ha]
      have : (a ∈ A ++ [r]) ↔ a ∈ A := by simp [Ne.symm e]
      simp [this]
  · rw [if_neg (by omega)]
    show (takenV n A)[a]? = (takenV n (A ++ [r]))[a]?
    rw [List.getElem?_eq_none (by simp [takenV]; omega), List.getElem?_eq_none (by simp [takenV]; omega)]

def partV (g k : Nat) (A : List Nat) : List Value := A.map (fun a => .slice (some ⟨g + 1 + a, 0, none⟩) k k)
theorem partV_snoc (g k : Nat) (A : List Nat) (a : Nat) : partV g k (A ++ [a]) = partV g k A ++ [.slice (some ⟨g + 1 + a, 0, none⟩) k k] := by simp [partV]
def PM (k : Nat) (A : List Nat) : List (List Nat) := A.map (Gf.genRow k)
theorem PM_tbl (k : Nat) (A : List Nat) (h : A.length = k) : Gf.Tbl k k (PM k A) := by
  refine ⟨by simp [PM, h], ?_⟩
  intro i hi
  have : Gf.row (PM k A) i = Gf.genRow k A[i] := by simp [Gf.row, PM, List.getElem?_eq_getElem (show i < A.length by omega)]
  rw [this]
  exact ⟨Gf.genRow_length k _, Gf.genRow_lt k _⟩
theorem PM_row (k : Nat) (A : List Nat) (i a : Nat) (h : A[i]? = some a) : Gf.row (PM k A) i = Gf.genRow k a := by simp [Gf.row, PM, h]

theorem part_view {w0 w1 w' : World} {g k n P cap : Nat} {A : List Nat} (hS : Stack w0 w1 g k n n (Gf.genRow k)) (hb : Below w1.heap.size w1 w') (hA : A.length = k) (hlt : ∀ a ∈ A, a < n) (hk : k ≤ 32) {B : Nat}
    (ho : w'.ownsRow B 27 1 (.slice (some ⟨P, 0, none⟩) k cap) k (partV g k A)) : View w' P 0 k (partV g k A) (PM k A) := by
  refine ⟨by simp [partV, hA], by simp [PM, hA], ?_, ?_⟩
  · intro i r hr
    have hi : i < k := by have := (List.getElem?_eq_some_iff.1 hr).1; simpa [partV, hA] using this
    rw [Nat.zero_add, ho.cellAt i (by omega)]; exact hr
  · intro i r x hr hx
    simp only [partV, List.getElem?_map, Option.map_eq_some_iff] at hr
    obtain ⟨a, ha, rfl⟩ := hr
    simp only [PM, List.getElem?_map, ha, Option.map_some, Option.some.injEq] at hx
    subst hx
    have hl := Gf.genRow_length k a
    have han := hlt a (List.mem_of_getElem? ha)
    have hr := hS.rows a han
    refine ⟨_, _, by rw [hl], ?_, by omega, by omega⟩
    refine cells_block ?_
    rw [hb.block _ (block_lt hr)]
    exact hr

theorem genRow_ent (k a j : Nat) (h : j < k) : Gf.ent (Gf.genRow k a) j = Gf.genEntry k a j := Gf.ent_some (Gf.genRow_at k a j h)
theorem part_good {k n : Nat} (hk : 1 ≤ k) (hn : n ≤ 32) (hkn : k ≤ n) (A : List Nat) (hA : A.length = k) : ¬ Bad k (PM k A) := by
  rintro (h | h)
  · omega
  · apply h
    intro x hx
    simp only [PM, List.mem_map] at hx
    obtain ⟨a, _, rfl⟩ := hx
    exact Gf.genRow_length k a
theorem part_ker {k n : Nat} (hn : n ≤ 32) (hkn : k ≤ n) (A : List Nat) (hA : A.length = k) (hnd : A.Nodup) (hlt : ∀ a ∈ A, a < n) : ¬ Ker k (PM k A) := by
  rintro ⟨x, hx, ⟨j, hj, hne⟩, hz⟩
  refine hne (Gf.rows_free hn hkn A hA hnd hlt x hx ?_ j hj)
  intro a ha
  obtain ⟨i, hi⟩ := List.getElem?_of_mem ha
  have hik : i < k := by have := (List.getElem?_eq_some_iff.1 hi).1; omega
  have := hz i hik
  unfold Gf.res at this
  rw [Gf.aug_row k _ i hik, PM_row k A i a hi] at this
  rw [Gf.augRow_ent k _ i (k + k) (Gf.genRow_length k a), if_neg (by omega), if_neg (by omega), Nat.xor_zero] at this
  rw [← this]
  refine Gf.xsum_congr _ _ _ (fun j hj => ?_)
  rw [Gf.augRow_ent k _ i j (Gf.genRow_length k a), if_pos hj, genRow_ent k a j hj]

theorem right_tbl {n : Nat} {T : List (List Nat)} (h : Gf.Tbl n (n + n) T) : Gf.Tbl n n (rightOf n T) := by
  refine ⟨by simp [rightOf, h.1], ?_⟩
  intro i hi
  have hr : Gf.row (rightOf n T) i = (Gf.row T i).drop n := by simp [Gf.row, rightOf, List.getElem?_eq_getElem (show i < T.length by rw [h.1]; exact hi)]
  rw [hr]
  refine ⟨by rw [List.length_drop, (h.2 i hi).1]; omega, fun x hx => (h.2 i hi).2 x (List.mem_of_mem_drop hx)⟩
theorem right_row {n : Nat} {T : List (List Nat)} (h : Gf.Tbl n (n + n) T) (i : Nat) (hi : i < n) : Gf.row (rightOf n T) i = (Gf.row T i).drop n := by
  simp [Gf.row, rightOf, List.getElem?_eq_getElem (show i < T.length by rw [h.1]; exact hi)]
theorem unit_left {n : Nat} {M T : List (List Nat)} (hM : Gf.Tbl n n M) (h : Gf.Reach n (n + n) n (Gf.aug n M) T) (r c : Nat) (hr : r < n) (hc : c < n) :
    Gf.xsum n (fun t => Gf.gm (Gf.ent (Gf.row (rightOf n T) r) t) (Gf.ent (Gf.row M t) c)) = if r = c then 1 else 0 := by
  rw [right_row h.tbl r hr]; exact h.left hM r c hr hc
theorem unit_right {n : Nat} {M T : List (List Nat)} (hM : Gf.Tbl n n M) (h : Gf.Reach n (n + n) n (Gf.aug n M) T) (r c : Nat) (hr : r < n) (hc : c < n) :
    Gf.xsum n (fun t => Gf.gm (Gf.ent (Gf.row M r) t) (Gf.ent (Gf.row (rightOf n T) t) c)) = if r = c then 1 else 0 := by
  rw [← h.right hM r c hr hc]
  exact Gf.xsum_congr _ _ _ (fun t ht => by rw [right_row h.tbl t ht])

/-- there is a row that has not been taken -/
theorem free_row (n : Nat) (A : List Nat) (h : A.length < n) : ∃ f, f < n ∧ f ∉ A := by
  by_cases hh : ∃ f, f < n ∧ f ∉ A
  · exact hh
  · exfalso
    have := Gf.nodup_sub (List.range n) A List.nodup_range (fun x hx => by
      by_cases hxA : x ∈ A
      · exact hxA
      · exact absurd ⟨x, List.mem_range.1 hx, hxA⟩ hh)
    rw [List.length_range] at this
    omega
end Go.Proofs.Ytlaoaiffgbdnpaa
