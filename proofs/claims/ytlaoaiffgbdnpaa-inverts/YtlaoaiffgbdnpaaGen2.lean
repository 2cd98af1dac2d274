import Derived.Test.YtlaoaiffgbdnpaaGen1
namespace Go.Proofs.Ytlaoaiffgbdnpaa
open Go.RowKit
set_option linter.unusedVariables false

theorem gen_bad (K N : Int) (w : World) (h : K < 1 ∨ N < K ∨ 32 < N) :
    Calls Try.prog 19 #[.int .i64 K, .int .i64 N] w fun e w' => e = .returned (.tuple #[.slice none 0 0, .int .i64 1]) ∧ w' = w := by
  by_cases h1 : K < 1
  · have d1 : decide (K < 1) = true := decide_eq_true h1
    go_enter Try.func19, Try.ntmps19
    go_wp2
    go_ret2
    exact ⟨rfl, rfl⟩
  · have d1 : decide (K < 1) = false := decide_eq_false h1
    by_cases h2 : N < K
    · have d2 : decide (N < K) = true := decide_eq_true h2
      go_enter Try.func19, Try.ntmps19
      go_wp2
      go_ret2
      exact ⟨rfl, rfl⟩
    · have d2 : decide (N < K) = false := decide_eq_false h2
      have h3 : 32 < N := by omega
      have d3 : decide (32 < N) = true := decide_eq_true h3
      go_enter Try.func19, Try.ntmps19
      go_wp2
      go_ret2
      exact ⟨rfl, rfl⟩
theorem refGen_bad (K N : Int) (w : World) (h : K < 1 ∨ N < K ∨ 32 < N) :
    Calls Try.prog 18 #[.int .i64 K, .int .i64 N] w fun e w' => e = .returned (.tuple #[.slice none 0 0, .int .i64 1]) ∧ w' = w := by
  by_cases h1 : K < 1
  · have d1 : decide (K < 1) = true := decide_eq_true h1
    go_enter Try.func18, Try.ntmps18
    go_wp2
    go_ret2
    exact ⟨rfl, rfl⟩
  · have d1 : decide (K < 1) = false := decide_eq_false h1
    by_cases h2 : N < K
    · have d2 : decide (N < K) = true := decide_eq_true h2
      go_enter Try.func18, Try.ntmps18
      go_wp2
      go_ret2
      exact ⟨rfl, rfl⟩
    · have d2 : decide (N < K) = false := decide_eq_false h2
      have h3 : 32 < N := by omega
      have d3 : decide (32 < N) = true := decide_eq_true h3
      go_enter Try.func18, Try.ntmps18
      go_wp2
      go_ret2
      exact ⟨rfl, rfl⟩

/-- the rows of a Generator, one block behind the other -/
def rowsV (g k i : Nat) : List Value := (List.range i).map (fun t => .slice (some ⟨g + 1 + t, 0, none⟩) k k)
theorem rowsV_length (g k i : Nat) : (rowsV g k i).length = i := by simp [rowsV]
theorem rowsV_succ (g k i : Nat) : rowsV g k (i + 1) = rowsV g k i ++ [.slice (some ⟨g + 1 + i, 0, none⟩) k k] := by simp [rowsV, List.range_succ]
theorem rowsV_at (g k n i : Nat) (h : i < n) : (rowsV g k n)[i]? = some (.slice (some ⟨g + 1 + i, 0, none⟩) k k) := by simp [rowsV, h]

/-- rows that lie one block behind the other, and the list of them -/
structure Stack (w w' : World) (g k n i : Nat) (R : Nat → List Nat) : Prop where
  size : w'.heap.size = g + 1 + i
  top : w'.heap[g]? = some (.cells (splice (List.replicate n (.slice none 0 0)) 0 (rowsV g k i)).toArray 27 (0, 0))
  rows : ∀ t, t < i → w'.heap[g + 1 + t]? = some (.cells (bvs (R t)).toArray 5 (0, 0))
  below : Below g w w'

theorem Stack.mat {w w' : World} {g k n : Nat} {R : Nat → List Nat} {M : List (List Nat)} (h : Stack w w' g k n n R) (hn : n ≤ maxLen) (hk : k ≤ maxLen) (hM : M.length = n) (hR : ∀ t x, M[t]? = some x → R t = x ∧ x.length = k) :
    Mat w' g (.slice (some ⟨g, 0, none⟩) n n) (rowsV g k n) M := by
  refine ⟨?_, ?_, ?_⟩
  · rw [hM]
    refine ⟨by rw [rowsV_length]; omega, .inr ⟨g, n, _, rfl, Nat.le_refl _, h.top, Nat.le_refl _, hn, ?_, ?_⟩⟩
    · rw [List.size_toArray, length_splice _ _ _ (by simp [rowsV_length])]; simp
    · simp only [splice, List.take_zero, List.nil_append, Nat.mul_one]
      rw [List.drop_eq_nil_of_le (by simp [rowsV_length]), List.append_nil]
      rw [List.take_of_length_le (by simp [rowsV_length])]
  · intro i r x hr hx
    have hi : i < n := by have := (List.getElem?_eq_some_iff.1 hx).1; omega
    rw [rowsV_at g k n i hi] at hr
    simp only [Option.some.injEq] at hr
    subst hr
    obtain ⟨e1, e2⟩ := hR i x hx
    have := h.rows i hi
    rw [e1] at this
    rw [e2]
    exact owns_block this (by omega) e2 hk
  · intro i j r r' gg hij hr hr' hb hb'
    have hi : i < n := by have := (List.getElem?_eq_some_iff.1 hr).1; rw [rowsV_length] at this; omega
    have hj : j < n := by have := (List.getElem?_eq_some_iff.1 hr').1; rw [rowsV_length] at this; omega
    rw [rowsV_at g k n i hi] at hr
    rw [rowsV_at g k n j hj] at hr'
    simp only [Option.some.injEq] at hr hr'
    subst hr; subst hr'
    simp only [Value.ownBlock, Option.some.injEq] at hb hb'
    omega

theorem Stack.push {w w1 w2 : World} {g k n i : Nat} {R : Nat → List Nat} (h : Stack w w1 g k n i R) (hi : i < n) (hb : Below w1.heap.size w1 w2) (hs : w2.heap.size = w1.heap.size + 1) (hg : w2.heap[w1.heap.size]? = some (.cells (bvs (R i)).toArray 5 (0, 0))) :
    Stack w (w2.setCell ⟨g, i, none⟩ (.slice (some ⟨w1.heap.size, 0, none⟩) k k)) g k n (i + 1) R := by
  have sz := h.size
  have ht : w2.heap[g]? = some (.cells (splice (List.replicate n (.slice none 0 0)) 0 (rowsV g k i)).toArray 27 (0, 0)) := by rw [hb.block _ (by omega)]; exact h.top
  refine ⟨by simp; omega, ?_, ?_, ?_⟩
  · rw [heap_setCell_same _ _ _ _ 27 _ ht, rowsV_succ]
    have := splice_snoc (List.replicate n (Value.slice none 0 0)) (rowsV g k i) 0 (.slice (some ⟨w1.heap.size, 0, none⟩) k k) (by simp [rowsV_length]; exact hi)
    rw [rowsV_length, Nat.zero_add] at this
    rw [this, sz]
  · intro t ht'
    rw [heap_setCell_other _ _ _ _ (by simp; omega)]
    by_cases e : t = i
    · subst e; rw [← sz]; exact hg
    · rw [hb.block _ (by omega)]; exact h.rows t (by omega)
  · exact (h.below.trans (hb.mono (by omega))).setCell (Nat.le_refl _) _

set_option maxHeartbeats 400000 in
theorem gen_good (k n : Nat) (w : World) (hk : 1 ≤ k) (hkn : k ≤ n) (hn : n ≤ 32) :
    Calls Try.prog 19 #[.int .i64 k, .int .i64 n] w fun e w' => e = .returned (.tuple #[.slice (some ⟨w.heap.size, 0, none⟩) n n, .int .i64 0]) ∧ Stack w w' w.heap.size k n n (Gf.genRow k) := by
  have hmk := fun w => run_make_row' (P := Try.prog) 38 27 (.slice none 0 0) 24 Try.underlying38 info27 rfl .i64 .i64 n (by omega) (by omega) w
  have d1 : decide ((k : Int) < 1) = false := decide_eq_false (by omega)
  have d2 : decide ((n : Int) < (k : Int)) = false := decide_eq_false (by omega)
  have d2' : decide (n < k) = false := decide_eq_false (by omega)
  have d3 : decide ((32 : Int) < (n : Int)) = false := decide_eq_false (by omega)
  go_enter Try.func19, Try.ntmps19
  go_wp2
  clear hmk
  go_loopw [23] (fun ii w' => ∃ i : Nat, i ≤ n ∧ ii = .int .i64 i ∧ Stack w w' w.heap.size k n i (Gf.genRow k)) (fun ii _ => (n - intOf ii).toNat)
  case atStart =>
    refine ⟨0, by omega, rfl, by simp, ?_, fun t ht => by omega, (Below.refl _ _).alloc (Nat.le_refl _) _⟩
    rw [heap_alloc_new]
    have : madeCells #[Value.slice none 0 0] n = (splice (List.replicate n (Value.slice none 0 0)) 0 (rowsV w.heap.size k 0)).toArray := by
      apply Array.ext'
      rw [toList_madeCells_one]
      simp [splice, rowsV]
    rw [this]
  case round =>
    obtain ⟨i, hi, rfl, hS⟩ := hrel
    by_cases hlt : i < n
    · go_wp2_with fail
      refine (genRow_any k i _ (by omega) (by omega)).mono ?_
      rintro e w2 ⟨rfl, hb2, hs2, hg2⟩
      have hP := hS.push hlt hb2 hs2 hg2
      have sz := hS.size
      have ht : w2.heap[w.heap.size]? = some (.cells (splice (List.replicate n (.slice none 0 0)) 0 (rowsV w.heap.size k i)).toArray 27 (0, 0)) := by rw [hb2.block _ (by omega)]; exact hS.top
      obtain ⟨v0, c0⟩ : ∃ v0, w2.cell? ⟨w.heap.size, i, none⟩ = some v0 := by
        rw [cell_of_row w2 _ i _ 27 _ ht]
        exact ⟨_, Array.getElem?_eq_getElem (by rw [List.size_toArray, length_splice _ _ _ (by simp [rowsV_length]; omega)]; simpa using hlt)⟩
      have f0 : w2.frozen? ⟨w.heap.size, i, none⟩ = false := frozen_of_row w2 _ _ _ 27 ht
      have i1 : (0 : Int) ≤ (i : Int) := by omega
      have i2 : (i : Int) < (n : Int) := by omega
      clear ht hg2 hs2 hb2 sz hS
      go_wp2
      go_roundw
      case rel => exact ⟨i + 1, by omega, by go_num, hP⟩
      case measure => simp [intOf]; omega
    · obtain rfl : i = n := by omega
      go_wp2
      go_ret2
      exact ⟨rfl, hS⟩

theorem gen_mat {w w' : World} {k n : Nat} (h : Stack w w' w.heap.size k n n (Gf.genRow k)) (hn : n ≤ 32) (hkn : k ≤ n) : Mat w' w.heap.size (.slice (some ⟨w.heap.size, 0, none⟩) n n) (rowsV w.heap.size k n) (Gf.gen k n) := by
  refine h.mat (by unfold maxLen; omega) (by unfold maxLen; omega) (Gf.gen_length k n) ?_
  intro t x hx
  have ht : t < n := by have := (List.getElem?_eq_some_iff.1 hx).1; rw [Gf.gen_length] at this; omega
  rw [Gf.gen_at k n t ht] at hx
  simp only [Option.some.injEq] at hx
  subst hx
  exact ⟨rfl, Gf.genRow_length k t⟩
end Go.Proofs.Ytlaoaiffgbdnpaa
