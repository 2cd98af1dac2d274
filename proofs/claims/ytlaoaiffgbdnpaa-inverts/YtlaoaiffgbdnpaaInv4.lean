import Derived.Test.YtlaoaiffgbdnpaaInv3
namespace Go.Proofs.Ytlaoaiffgbdnpaa
open Go.RowKit
set_option linter.unusedVariables false

/-- a matrix that can be read -/
structure View (w : World) (g off n : Nat) (vs : List Value) (M : List (List Nat)) : Prop where
  lenV : vs.length = n
  lenM : M.length = n
  top : ∀ (k : Nat) (r : Value), vs[k]? = some r → w.cell? ⟨g, off + k, none⟩ = some r
  rows : ∀ (k : Nat) (r : Value) (x : List Nat), vs[k]? = some r → M[k]? = some x → ∃ a cap, r = .slice a x.length cap ∧ Cells w a x ∧ x.length ≤ cap ∧ x.length ≤ 140737488355328
theorem View.below {w w' : World} {g off n : Nat} {vs : List Value} {M : List (List Nat)} (h : View w g off n vs M) (hb : Below w.heap.size w w') : View w' g off n vs M :=
  ⟨h.lenV, h.lenM, fun k r hr => (hb.cell (p := ⟨g, off + k, none⟩) (World.block_lt_of_cell? _ _ (h.top k r hr))).trans (h.top k r hr), fun k r x hr hx => by
    obtain ⟨a, cap, h1, h2, h3, h4⟩ := h.rows k r x hr hx
    exact ⟨a, cap, h1, h2.keep hb, h3, h4⟩⟩
theorem View.at {w : World} {g off n : Nat} {vs : List Value} {M : List (List Nat)} (h : View w g off n vs M) {k : Nat} (hk : k < n) :
    ∃ a cap x, M[k]? = some x ∧ vs[k]? = some (.slice a x.length cap) ∧ w.cell? ⟨g, off + k, none⟩ = some (.slice a x.length cap) ∧ Cells w a x ∧ x.length ≤ cap ∧ x.length ≤ 140737488355328 := by
  obtain ⟨r, hr⟩ : ∃ r, vs[k]? = some r := ⟨_, List.getElem?_eq_getElem (by rw [h.lenV]; exact hk)⟩
  obtain ⟨x, hx⟩ : ∃ x, M[k]? = some x := ⟨_, List.getElem?_eq_getElem (by rw [h.lenM]; exact hk)⟩
  obtain ⟨a, cap, rfl, h2, h3, h4⟩ := h.rows k r x hr hx
  exact ⟨a, cap, x, hx, hr, h.top k _ hr, h2, h3, h4⟩

set_option maxHeartbeats 400000 in
theorem isSq_size (a : Option Addr) (n c : Nat) (w : World) (hn : n < 1 ∨ 32 < n) (hl : n ≤ 140737488355328) :
    Calls Try.prog 36 #[.slice a n c] w fun e w' => e = .returned (.bool false) ∧ w' = w := by
  by_cases h1 : n < 1
  · have d1 : decide ((n : Int) < 1) = true := decide_eq_true (by omega)
    go_enter Try.func36, Try.ntmps36
    go_wp2
    go_ret
    exact ⟨rfl, rfl⟩
  · have d1 : decide ((n : Int) < 1) = false := decide_eq_false (by omega)
    have d2 : decide ((32 : Int) < (n : Int)) = true := decide_eq_true (by omega)
    go_enter Try.func36, Try.ntmps36
    go_wp2
    go_ret
    exact ⟨rfl, rfl⟩
set_option maxHeartbeats 400000 in
theorem isSq_rows (g off n c : Nat) (vs : List Value) (M : List (List Nat)) (w : World) (hn : 1 ≤ n) (hn2 : n ≤ 32) (hV : View w g off n vs M) (b : Bool) (hb : b = true ↔ ∀ x ∈ M, x.length = n) :
    Calls Try.prog 36 #[.slice (some ⟨g, off, none⟩) n c] w fun e w' => e = .returned (.bool b) ∧ w' = w := by
  have d1 : decide ((n : Int) < 1) = false := decide_eq_false (by omega)
  have d2 : decide ((32 : Int) < (n : Int)) = false := decide_eq_false (by omega)
  have HB : Hid (b = true ↔ ∀ x ∈ M, x.length = n) := hb
  clear hb
  go_enter Try.func36, Try.ntmps36
  go_wp2
  go_loop [15] (fun kk => ∃ k : Nat, k ≤ n ∧ kk = .int .i64 k ∧ Hid (∀ t x, t < k → M[t]? = some x → x.length = n)) (fun kk => (n - intOf kk).toNat)
  case atStart => exact ⟨0, by omega, rfl, fun t x ht => by omega⟩
  case round =>
    obtain ⟨k, hk, rfl, hz⟩ := hrel
    by_cases hlt : k < n
    · obtain ⟨a, cap, x, hx, _, ca, _, _, hl⟩ := hV.at hlt
      have i1 : (0 : Int) ≤ (k : Int) := by omega
      have i2 : (k : Int) < (n : Int) := by omega
      by_cases e : x.length = n
      · have hne : ((x.length : Int) != (n : Int)) = false := by rw [bne_eq_false_iff_eq]; omega
        have hz' : Hid (∀ t x, t < k + 1 → M[t]? = some x → x.length = n) := by
          intro t y ht hy
          by_cases h : t = k
          · subst h; rw [hx] at hy; cases hy; exact e
          · exact hz.out t y (by omega) hy
        clear hz hx e
        go_wp2
        go_round
        case rel => exact ⟨k + 1, by omega, by go_num, hz'⟩
        case measure => simp [intOf]; omega
      · have hne : ((x.length : Int) != (n : Int)) = true := by rw [bne_iff_ne]; omega
        have hbf : b = false := by
          cases b
          · rfl
          · exact absurd (HB.out.1 rfl x (List.mem_of_getElem? hx)) e
        subst hbf
        clear hz hx e
        go_wp2
        go_ret
        exact ⟨rfl, rfl⟩
    · have hbt : b = true := by
        rw [HB.out]
        intro x hx
        obtain ⟨t, ht⟩ := List.getElem?_of_mem hx
        exact hz.out t x (by have := (List.getElem?_eq_some_iff.1 ht).1; rw [hV.lenM] at this; omega) ht
      subst hbt
      go_wp2
      go_ret
      exact ⟨rfl, rfl⟩

/-- one row more, whatever the order in which it was laid -/
theorem Stack.next {w w1 wf : World} {g k n i : Nat} {R : Nat → List Nat} (h : Stack w w1 g k n i R) (hi : i < n) (hos : wf.os = w1.os) (htp : wf.tape = w1.tape) (hou : wf.output = w1.output) (hs : wf.heap.size = w1.heap.size + 1)
    (hold : ∀ b, b < w1.heap.size → b ≠ g → wf.heap[b]? = w1.heap[b]?) (htop : wf.heap[g]? = some (.cells ((splice (List.replicate n (.slice none 0 0)) 0 (rowsV g k i)).toArray.setIfInBounds i (.slice (some ⟨w1.heap.size, 0, none⟩) k k)) 27 (0, 0)))
    (hrow : wf.heap[w1.heap.size]? = some (.cells (bvs (R i)).toArray 5 (0, 0))) : Stack w wf g k n (i + 1) R := by
  have sz := h.size
  refine ⟨by omega, ?_, ?_, ?_⟩
  · rw [htop, rowsV_succ]
    have := splice_snoc (List.replicate n (Value.slice none 0 0)) (rowsV g k i) 0 (.slice (some ⟨w1.heap.size, 0, none⟩) k k) (by simp [rowsV_length]; exact hi)
    rw [rowsV_length, Nat.zero_add] at this
    rw [this, sz]
  · intro t ht'
    by_cases e : t = i
    · subst e; rw [← sz]; exact hrow
    · rw [hold _ (by omega) (by omega)]; exact h.rows t (by omega)
  · have hb := h.below
    exact ⟨hos.trans hb.os, htp.trans hb.tape, hou.trans hb.output, by have := hb.size; omega, fun b hbg => by rw [hold b (by omega) (by omega)]; exact hb.block b hbg⟩
theorem stack_start {w : World} {k n : Nat} {R : Nat → List Nat} : Stack w (w.alloc (.cells (madeCells #[.slice none 0 0] n) 27)) w.heap.size k n 0 R := by
  refine ⟨by simp, ?_, fun t ht => by omega, (Below.refl _ _).alloc (Nat.le_refl _) _⟩
  rw [heap_alloc_new]
  have : madeCells #[Value.slice none 0 0] n = (splice (List.replicate n (Value.slice none 0 0)) 0 (rowsV w.heap.size k 0)).toArray := by
    apply Array.ext'
    rw [toList_madeCells_one]
    simp [splice, rowsV]
  rw [this]
theorem Stack.tab {w w' : World} {g W n : Nat} {R : Nat → List Nat} {T : List (List Nat)} (h : Stack w w' g W n n R) (hT : Gf.Tbl n W T) (hR : ∀ t, t < n → R t = Gf.row T t) : Tab w' g g n W (rowsV g W n) T := by
  refine ⟨?_, rowsV_length g W n, hT, ?_, Nat.le_refl _⟩
  · rw [h.top]
    have : splice (List.replicate n (Value.slice none 0 0)) 0 (rowsV g W n) = rowsV g W n := by
      simp only [splice, List.take_zero, List.nil_append]
      rw [List.drop_eq_nil_of_le (by simp [rowsV_length]), List.append_nil]
    rw [this]
  · intro k hk
    refine ⟨g + 1 + k, rowsV_at g W n k hk, by omega, ?_⟩
    rw [← hR k hk]; exact h.rows k hk
end Go.Proofs.Ytlaoaiffgbdnpaa
