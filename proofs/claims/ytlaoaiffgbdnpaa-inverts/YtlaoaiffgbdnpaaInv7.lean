import Derived.Test.YtlaoaiffgbdnpaaInv2
import Derived.Test.YtlaoaiffgbdnpaaInv6
namespace Go.Proofs.Ytlaoaiffgbdnpaa
open Go.RowKit
set_option linter.unusedVariables false

theorem invert_size (a : Option Addr) (n c : Nat) (w : World) (hn : n < 1 ∨ 32 < n) (hl : n ≤ 140737488355328) :
    Calls Try.prog 23 #[.slice a n c] w fun e w' => e = .returned (.tuple #[.slice none 0 0, .int .i64 1]) ∧ w' = w := by
  go_enter Try.func23, Try.ntmps23
  go_wp2_with fail
  refine (isSq_size a n c _ hn hl).mono ?_
  rintro e w1 ⟨rfl, rfl⟩
  go_wp2
  go_ret2
  exact ⟨rfl, rfl⟩
theorem invert_ragged (g off n c : Nat) (vs : List Value) (M : List (List Nat)) (w : World) (hn : 1 ≤ n) (hn2 : n ≤ 32) (hV : View w g off n vs M) (hb : ¬ ∀ x ∈ M, x.length = n) :
    Calls Try.prog 23 #[.slice (some ⟨g, off, none⟩) n c] w fun e w' => e = .returned (.tuple #[.slice none 0 0, .int .i64 1]) ∧ w' = w := by
  go_enter Try.func23, Try.ntmps23
  go_wp2_with fail
  refine (isSq_rows g off n c vs M _ hn hn2 hV false ⟨fun h => (by cases h), fun h => absurd h hb⟩).mono ?_
  rintro e w1 ⟨rfl, rfl⟩
  go_wp2
  go_ret2
  exact ⟨rfl, rfl⟩

/-- the right halves -/
def rightOf (n : Nat) (T : List (List Nat)) : List (List Nat) := T.map (fun r => r.drop n)
theorem rightOf_at {n W : Nat} {T : List (List Nat)} (hT : Gf.Tbl n W T) {t : Nat} {x : List Nat} (h : (rightOf n T)[t]? = some x) : (Gf.row T t).drop n = x ∧ t < n := by
  simp only [rightOf, List.getElem?_map, Option.map_eq_some_iff] at h
  obtain ⟨r, hr, rfl⟩ := h
  exact ⟨by simp [Gf.row, hr], by have := (List.getElem?_eq_some_iff.1 hr).1; rw [hT.1] at this; exact this⟩

set_option maxHeartbeats 1000000 in
theorem invert_square (gm off n c : Nat) (vs : List Value) (M : List (List Nat)) (w : World) (hn : 1 ≤ n) (hn2 : n ≤ 32) (hV : View w gm off n vs M) (hM : Gf.Tbl n n M) :
    Calls Try.prog 23 #[.slice (some ⟨gm, off, none⟩) n c] w fun e w' =>
      (∃ g T, e = .returned (.tuple #[.slice (some ⟨g, 0, none⟩) n n, .int .i64 0]) ∧ Below w.heap.size w w' ∧ w.heap.size ≤ g ∧ g + 1 + n = w'.heap.size ∧ Gf.Reach n (n + n) n (Gf.aug n M) T ∧ Mat w' g (.slice (some ⟨g, 0, none⟩) n n) (rowsV g n n) (rightOf n T)) ∨
      (∃ T i, e = .returned (.tuple #[.slice none 0 0, .int .i64 2]) ∧ Below w.heap.size w w' ∧ Gf.Reach n (n + n) i (Gf.aug n M) T ∧ i < n ∧ ∀ r, i ≤ r → r < n → Gf.ent (Gf.row T r) i = 0) := by
  have hlen : ∀ x ∈ M, x.length = n := by
    intro x hx
    obtain ⟨t, ht⟩ := List.getElem?_of_mem hx
    have htn : t < n := by have := (List.getElem?_eq_some_iff.1 ht).1; rw [hM.1] at this; exact this
    have := (hM.2 t htn).1
    simpa [Gf.row, ht] using this
  go_enter Try.func23, Try.ntmps23
  go_wp2_with fail
  refine (isSq_rows gm off n c vs M _ hn hn2 hV true ⟨fun _ => hlen, fun _ => rfl⟩).mono ?_
  rintro e w1 ⟨rfl, rfl⟩
  go_wp2_with fail
  refine (beside_any gm off n c (n + n) vs M _ hn hn2 rfl hV hM).mono ?_
  rintro e w2 ⟨rfl, hS⟩
  have hb2 := hS.below
  have hT0 : Tab w2 w1.heap.size w1.heap.size n (n + n) (rowsV w1.heap.size (n + n) n) (Gf.aug n M) := hS.tab (Gf.aug_tbl hM) (fun t ht => (Gf.aug_row n M t ht).symm)
  clear hlen hS
  go_wp2_with fail
  go_loopw [13] (fun ii w' => ∃ (i : Nat) (T : List (List Nat)) (vs' : List Value), i ≤ n ∧ ii = .int .i64 i ∧ Below w1.heap.size w1 w' ∧ Tab w' w1.heap.size w1.heap.size n (n + n) vs' T ∧ Gf.Reach n (n + n) i (Gf.aug n M) T) (fun ii _ => (n - intOf ii).toNat)
  case atStart => exact ⟨0, _, _, by omega, rfl, hb2, hT0, Gf.Reach.start hM⟩
  case round =>
    clear hT0 hb2
    obtain ⟨i, T, vs', hi, rfl, hb, hT, hR⟩ := hrel
    by_cases hlt : i < n
    · go_wp2_with fail
      refine (raise_any w1.heap.size w1.heap.size n (n + n) i vs' T _ hn2 (by omega) (by omega) hlt hT).mono ?_
      rintro e w3 (⟨j, vs3, rfl, hij, hj, hp, hb3, hT3⟩ | ⟨rfl, rfl, hz⟩)
      · have hb03 := hb.trans hb3
        have hstep := hR.step hlt hij hj hp
        clear hb3 hT hR hb
        go_wp2_with fail
        refine (clear_any w1.heap.size w1.heap.size n (n + n) i vs3 _ _ hn2 (by omega) (by omega) hlt hT3).mono ?_
        rintro e w4 ⟨rfl, hb4, vs4, hT4⟩
        have hb04 := hb03.trans hb4
        clear hb4 hT3 hb03
        go_wp2_with fail
        go_roundw
        case rel => exact ⟨i + 1, _, _, by omega, by go_num, hb04, hT4, hstep⟩
        case measure => simp [intOf]; omega
      · clear hT
        go_wp2
        go_ret2
        exact .inr ⟨T, i, rfl, hb, hR, hlt, hz⟩
    · obtain rfl : i = n := by omega
      have hsz := hb.size
      go_wp2_with fail
      refine (right_any w1.heap.size w1.heap.size i (i + i) vs' T _ hn hn2 rfl hT).mono ?_
      rintro e w5 ⟨rfl, hS5⟩
      have hb5 : Below w1.heap.size w1 w5 := hb.trans (hS5.below.mono hsz)
      have hM5 : Mat w5 wr.heap.size (.slice (some ⟨wr.heap.size, 0, none⟩) i i) (rowsV wr.heap.size i i) (rightOf i T) := by
        refine hS5.mat (by unfold maxLen; omega) (by unfold maxLen; omega) (by simp [rightOf, hR.tbl.1]) ?_
        intro t x hx
        obtain ⟨h1, h2⟩ := rightOf_at hR.tbl hx
        refine ⟨h1, ?_⟩
        rw [← h1, List.length_drop, (hR.tbl.2 t h2).1]; omega
      have hs5 := hS5.size
      have HS5 : Hid (w5.heap.size = wr.heap.size + 1 + i) := hs5
      clear hS5 hT hs5
      go_wp2
      go_ret2
      exact .inl ⟨wr.heap.size, T, rfl, hb5, hsz, HS5.out.symm, hR, hM5⟩
end Go.Proofs.Ytlaoaiffgbdnpaa
