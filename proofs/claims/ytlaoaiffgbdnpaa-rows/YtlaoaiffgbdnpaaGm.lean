import Derived.Test.YtlaoaiffgbdnpaaGf
namespace Gf
/-- the entry of a Generator with k columns -/
def genEntry (k i j : Nat) : Nat := if i < k then (if i = j then 1 else 0) else gdiv 1 (i ^^^ j)
def genRow (k i : Nat) : List Nat := (List.range k).map (genEntry k i)
def gen (k n : Nat) : List (List Nat) := (List.range n).map (genRow k)
theorem genEntry_lt (k i j : Nat) : genEntry k i j < 256 := by
  unfold genEntry
  split
  · split <;> decide
  · exact gm_lt _ _ (by decide)
theorem genRow_length (k i : Nat) : (genRow k i).length = k := by simp [genRow]
theorem gen_length (k n : Nat) : (gen k n).length = n := by simp [gen]
theorem genRow_lt (k i : Nat) : ∀ x ∈ genRow k i, x < 256 := by
  intro x hx
  simp only [genRow, List.mem_map] at hx
  obtain ⟨j, _, rfl⟩ := hx
  exact genEntry_lt k i j
theorem genRow_at (k i j : Nat) (h : j < k) : (genRow k i)[j]? = some (genEntry k i j) := by simp [genRow, h]
theorem gen_at (k n i : Nat) (h : i < n) : (gen k n)[i]? = some (genRow k i) := by simp [gen, h]
theorem gen_succ (k n : Nat) : gen k (n + 1) = gen k n ++ [genRow k n] := by simp [gen, List.range_succ]
theorem genRow_take (k i j : Nat) (h : j < k) : (genRow k i).take (j + 1) = (genRow k i).take j ++ [genEntry k i j] := by
  rw [List.take_add_one, genRow_at k i j h]; rfl
theorem xor_ne_zero (i j : Nat) (h : i ≠ j) : i ^^^ j ≠ 0 := by
  intro e
  apply h
  have : i ^^^ j ^^^ j = j := by rw [e, Nat.zero_xor]
  rw [Nat.xor_assoc, Nat.xor_self, Nat.xor_zero] at this
  exact this
theorem xor_lt32 (i j : Nat) (hi : i < 32) (hj : j < 32) : i ^^^ j < 32 := Nat.xor_lt_two_pow (n := 5) hi hj
theorem genRow_unit (k i : Nat) (h : i < k) : genRow k i = (List.replicate k 0).set i 1 := by
  apply List.ext_getElem?
  intro j
  rw [List.getElem?_set]
  by_cases hj : j < k
  · rw [genRow_at k i j hj]
    unfold genEntry
    rw [if_pos h]
    by_cases e : i = j
    · subst e; simp [h]
    · simp [e, hj]
  · rw [List.getElem?_eq_none (by rw [genRow_length]; omega)]
    rw [if_neg (by omega), List.getElem?_eq_none (by simp; omega)]
end Gf
