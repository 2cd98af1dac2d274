import Derived.Test.YtlaoaiffgbdnpaaW3
import Derived.Deep.AppendLies
namespace Go.Proofs.Ytlaoaiffgbdnpaa
open Go.RowKit

theorem block_lt {w : World} {g : Nat} {o : Obj} (h : w.heap[g]? = some o) : g < w.heap.size := (Array.getElem?_eq_some_iff.1 h).1

/-- what is owned stays owned where nothing that was there turns -/
theorem owns_below {w w' : World} {B : Nat} {e : TypeId} {size : Nat} {v : Value} {n : Nat} {xs : List Value} (h : w.ownsRow B e size v n xs) (hb : Below w.heap.size w w') : w'.ownsRow B e size v n xs := by
  refine ⟨h.1, ?_⟩
  rcases h.2 with hn | ⟨g, cap, cur, rfl, hg, hgg, rest⟩
  · exact .inl hn
  · exact .inr ⟨g, cap, cur, rfl, hg, by rw [hb.block g (block_lt hgg)]; exact hgg, rest⟩
theorem owns_mono {w : World} {B B' : Nat} {e : TypeId} {size : Nat} {v : Value} {n : Nat} {xs : List Value} (h : w.ownsRow B e size v n xs) (hB : B' ≤ B) : w.ownsRow B' e size v n xs := by
  refine ⟨h.1, ?_⟩
  rcases h.2 with hn | ⟨g, cap, cur, rfl, hg, rest⟩
  · exact .inl hn
  · exact .inr ⟨g, cap, cur, rfl, by omega, rest⟩
/-- a whole block of bytes is owned -/
theorem owns_block {w : World} {B g n : Nat} {xs : List Nat} (hg : w.heap[g]? = some (.cells (bvs xs).toArray 5 (0, 0))) (hB : B ≤ g) (hn : xs.length = n) (hm : n ≤ maxLen) : w.ownsRow B 5 1 (.slice (some ⟨g, 0, none⟩) n n) n (bvs xs) := by
  refine ⟨by rw [bvs_length, hn]; omega, .inr ⟨g, n, _, rfl, hB, hg, Nat.le_refl _, hm, by simp [bvs_length, hn], ?_⟩⟩
  simp only [Nat.mul_one]
  rw [List.take_of_length_le (by rw [bvs_length]; omega)]
/-- what is owned can be read -/
theorem owns_cells {w : World} {B n m cap : Nat} {a : Option Addr} {xs : List Nat} (h : w.ownsRow B 5 1 (.slice a m cap) n (bvs xs)) : Cells w a xs ∧ xs.length = n ∧ m = n ∧ n ≤ cap ∧ cap ≤ maxLen := by
  have hl : xs.length = n := by have := h.1; rw [bvs_length] at this; omega
  rcases h.2 with ⟨hn, rfl⟩ | ⟨g, c, cur, e, hB, hg, h1, h2, h3, h4⟩
  · simp only [Value.slice.injEq] at hn
    obtain ⟨rfl, rfl, rfl⟩ := hn
    refine ⟨?_, hl, rfl, Nat.le_refl _, by unfold maxLen; omega⟩
    intro i x hx
    have := List.eq_nil_of_length_eq_zero hl
    subst this; simp at hx
  · simp only [Value.slice.injEq] at e
    obtain ⟨rfl, rfl, rfl⟩ := e
    refine ⟨?_, hl, rfl, h1, h2⟩
    intro i x hx
    refine ⟨g, 0, rfl, ?_⟩
    have hi : i < m := by have := (List.getElem?_eq_some_iff.1 hx).1; omega
    rw [Nat.zero_add, cell_of_row w g i cur 5 _ hg]
    have hb := bvs_at xs i x hx
    rw [← h4, Nat.mul_one, List.getElem?_take, if_pos hi] at hb
    simpa using hb
theorem owns_form {w : World} {B n : Nat} {v : Value} {xs : List Value} (h : w.ownsRow B 5 1 v n xs) : ∃ a cap, v = .slice a n cap := by
  rcases h.2 with ⟨rfl, rfl⟩ | ⟨g, c, cur, rfl, _⟩
  · exact ⟨_, _, rfl⟩
  · exact ⟨_, _, rfl⟩

set_option maxHeartbeats 400000 in
theorem same_pos (b1 o1 b2 o2 n c1 c2 : Nat) (xs : List Nat) (w : World) (hn : n ≤ 140737488360000) (hl : xs.length = n)
    (h1 : ∀ i x, xs[i]? = some x → w.cell? ⟨b1, o1 + i, none⟩ = some (.int .u8 (x : Nat)))
    (h2 : ∀ i x, xs[i]? = some x → w.cell? ⟨b2, o2 + i, none⟩ = some (.int .u8 (x : Nat))) :
    Calls Try.prog 16 #[.slice (some ⟨b1, o1, none⟩) n c1, .slice (some ⟨b2, o2, none⟩) n c2] w fun e w' => e = .returned (.bool true) ∧ w'.heap = w.heap ∧ Below w.heap.size w w' := by
  have hne : ((n : Int) != (n : Int)) = false := by simp
  have H1 : Hid (∀ i x, xs[i]? = some x → w.cell? ⟨b1, o1 + i, none⟩ = some (.int .u8 (x : Nat))) := h1
  have H2 : Hid (∀ i x, xs[i]? = some x → w.cell? ⟨b2, o2 + i, none⟩ = some (.int .u8 (x : Nat))) := h2
  have HL : Hid (xs.length = n) := hl
  clear h1 h2 hl
  go_enter Try.func16, Try.ntmps16
  go_wp2
  go_loopw [5] (fun i w' => ∃ k : Nat, k ≤ n ∧ i = .int .i64 k ∧ w'.heap = w.heap ∧ Below w.heap.size w w') (fun i _ => (n - intOf i).toNat)
  case atStart => exact ⟨0, by omega, rfl, rfl, Below.refl _ _⟩
  case round =>
    obtain ⟨k, hk, rfl, hh, hb⟩ := hrel
    have HH : Hid (wr.heap = w.heap) := hh
    by_cases hlt : k < n
    · obtain ⟨x, hx⟩ : ∃ x, xs[k]? = some x := ⟨_, List.getElem?_eq_getElem (by rw [HL.out]; exact hlt)⟩
      have g1 : wr.cell? ⟨b1, o1 + k, none⟩ = some (.int .u8 (x : Nat)) := by rw [World.cell?_of_block (w := w) (by rw [hh])]; exact H1.out k x hx
      have g2 : wr.cell? ⟨b2, o2 + k, none⟩ = some (.int .u8 (x : Nat)) := by rw [World.cell?_of_block (w := w) (by rw [hh])]; exact H2.out k x hx
      have hxx : ((x : Int) != (x : Int)) = false := by simp
      have i1 : (0 : Int) ≤ (k : Int) := by omega
      have i2 : (k : Int) < (n : Int) := by omega
      clear hh hx
      go_wp2
      go_region
      all_goals
        go_wp2
        go_roundw
        case rel => exact ⟨k + 1, by omega, by go_num, HH.out, hb.drew⟩
        case measure => simp [intOf]; omega
    · clear hh
      go_wp2
      go_ret
      exact ⟨rfl, HH.out, hb⟩

set_option maxHeartbeats 400000 in
theorem same_zero (a1 a2 : Option Addr) (c1 c2 : Nat) (w : World) :
    Calls Try.prog 16 #[.slice a1 0 c1, .slice a2 0 c2] w fun e w' => e = .returned (.bool true) ∧ w'.heap = w.heap ∧ Below w.heap.size w w' := by
  go_enter Try.func16, Try.ntmps16
  go_wp2
  refine wp_loop_rounds 1 ?_
  rw [rounds_succ]
  go_wp2
  go_ret
  exact ⟨rfl, rfl, Below.refl _ _⟩

theorem same_any (a1 a2 : Option Addr) (n c1 c2 : Nat) (xs : List Nat) (w : World) (hn : n ≤ 140737488360000) (hl : xs.length = n) (h1 : Cells w a1 xs) (h2 : Cells w a2 xs) :
    Calls Try.prog 16 #[.slice a1 n c1, .slice a2 n c2] w fun e w' => e = .returned (.bool true) ∧ w'.heap = w.heap ∧ Below w.heap.size w w' := by
  by_cases hp : 0 < n
  · obtain ⟨b1, o1, rfl, _, g1⟩ := h1.pos (by omega)
    obtain ⟨b2, o2, rfl, _, g2⟩ := h2.pos (by omega)
    exact same_pos b1 o1 b2 o2 n c1 c2 xs w hn hl g1 g2
  · obtain rfl : n = 0 := by omega
    exact same_zero a1 a2 c1 c2 w
end Go.Proofs.Ytlaoaiffgbdnpaa
