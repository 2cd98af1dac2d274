import Derived.Test.YtlfhbpihdjipeaaN4
namespace Go.Proofs.Ytlfhbpihdjipeaa
open Go.RowKit

set_option maxHeartbeats 400000 in
theorem sameInts_pos (b1 b2 n c1 c2 : Nat) (xs : List Nat) (w : World) (hn : n ≤ 16384) (hl : xs.length = n)
    (h1 : ∀ i x, xs[i]? = some x → w.cell? ⟨b1, i, none⟩ = some (.int .i64 (x : Nat)))
    (h2 : ∀ i x, xs[i]? = some x → w.cell? ⟨b2, i, none⟩ = some (.int .i64 (x : Nat))) :
    Calls Try.prog 19 #[.slice (some ⟨b1, 0, none⟩) n c1, .slice (some ⟨b2, 0, none⟩) n c2] w fun e w' => e = .returned (.bool true) ∧ Below w.heap.size w w' := by
  have hne : ((n : Int) != (n : Int)) = false := by simp
  have H1 : Hid (∀ i x, xs[i]? = some x → w.cell? ⟨b1, i, none⟩ = some (.int .i64 (x : Nat))) := h1
  have H2 : Hid (∀ i x, xs[i]? = some x → w.cell? ⟨b2, i, none⟩ = some (.int .i64 (x : Nat))) := h2
  have HL : Hid (xs.length = n) := hl
  clear h1 h2 hl
  go_enter Try.func19, Try.ntmps19
  go_wp2
  go_loopw [5] (fun i w' => ∃ k : Nat, k ≤ n ∧ i = .int .i64 k ∧ w'.heap = w.heap ∧ Below w.heap.size w w') (fun i _ => (n - intOf i).toNat)
  case atStart => exact ⟨0, by omega, rfl, rfl, Below.refl _ _⟩
  case round =>
    obtain ⟨k, hk, rfl, hh, hb⟩ := hrel
    have HH : Hid (wr.heap = w.heap) := hh
    by_cases hlt : k < n
    · obtain ⟨x, hx⟩ : ∃ x, xs[k]? = some x := ⟨_, List.getElem?_eq_getElem (by rw [HL.out]; exact hlt)⟩
      have g1 : wr.cell? ⟨b1, k, none⟩ = some (.int .i64 (x : Nat)) := by rw [cell_of (w := w) (by rw [hh])]; exact H1.out k x hx
      have g2 : wr.cell? ⟨b2, k, none⟩ = some (.int .i64 (x : Nat)) := by rw [cell_of (w := w) (by rw [hh])]; exact H2.out k x hx
      have hxx : ((x : Int) != (x : Int)) = false := by simp
      have i1 : (0 : Int) ≤ (k : Int) := by omega
      have i2 : (k : Int) < (n : Int) := by omega
      clear hh hx
      go_wp2
      go_region
      all_goals
        go_wp2
        go_roundw
        case rel => exact ⟨k + 1, by omega, by go_num, HH.out, hb.drew⟩
        case measure => simp [intOf]; omega
    · clear hh
      go_wp2
      go_ret
      exact ⟨rfl, hb⟩

set_option maxHeartbeats 400000 in
theorem sameInts_zero (a1 a2 : Option Addr) (c1 c2 : Nat) (w : World) :
    Calls Try.prog 19 #[.slice a1 0 c1, .slice a2 0 c2] w fun e w' => e = .returned (.bool true) ∧ Below w.heap.size w w' := by
  go_enter Try.func19, Try.ntmps19
  go_wp2
  refine wp_loop_rounds 1 ?_
  rw [rounds_succ]
  go_wp2
  go_ret
  exact ⟨rfl, Below.refl _ _⟩

theorem owns_row {w : World} {B n : Nat} {v : Value} {xs : List Nat} (h : w.ownsRow B 3 1 v n (ivs xs)) (hn : 0 < n) : ∃ g cap, v = .slice (some ⟨g, 0, none⟩) n cap ∧ ∀ i x, xs[i]? = some x → w.cell? ⟨g, i, none⟩ = some (.int .i64 (x : Nat)) := by
  have hl : xs.length = n := by have := h.1; rw [ivs_length] at this; omega
  rcases h.2 with ⟨rfl, h0⟩ | ⟨g, c, cur, rfl, hB, hg, h1, h2, h3, h4⟩
  · omega
  · refine ⟨g, c, rfl, fun i x hx => ?_⟩
    have hi : i < n := by have := (List.getElem?_eq_some_iff.1 hx).1; omega
    rw [cell_block hg]
    have hb := ivs_at xs i x hx
    rw [← h4, Nat.mul_one, List.getElem?_take, if_pos hi] at hb
    simpa using hb
theorem sameInts_any {w : World} {B1 B2 : Nat} {v1 v2 : Value} {xs : List Nat} (h1 : w.ownsRow B1 3 1 v1 xs.length (ivs xs)) (h2 : w.ownsRow B2 3 1 v2 xs.length (ivs xs)) (hn : xs.length ≤ 16384) :
    Calls Try.prog 19 #[v1, v2] w fun e w' => e = .returned (.bool true) ∧ Below w.heap.size w w' := by
  by_cases hp : 0 < xs.length
  · obtain ⟨g1, c1, rfl, k1⟩ := owns_row h1 hp
    obtain ⟨g2, c2, rfl, k2⟩ := owns_row h2 hp
    exact sameInts_pos g1 g2 _ c1 c2 xs w hn rfl k1 k2
  · obtain ⟨a1, c1, rfl⟩ := owns_form h1
    obtain ⟨a2, c2, rfl⟩ := owns_form h2
    have h0 : xs.length = 0 := by omega
    rw [h0]
    exact sameInts_zero a1 a2 c1 c2 w

set_option maxHeartbeats 1000000 in
theorem sameScan_any {w : World} {B1 B2 : Nat} {v1 v2 : Value} {xs : List Nat} (S K N B I L Q : Int) (h1 : w.ownsRow B1 3 1 v1 xs.length (ivs xs)) (h2 : w.ownsRow B2 3 1 v2 xs.length (ivs xs)) (hn : xs.length ≤ 16384) :
    Calls Try.prog 12 #[scanV S K N B I L v1 Q, scanV S K N B I L v2 Q] w fun e w' => e = .returned (.bool true) ∧ Below w.heap.size w w' := by
  obtain ⟨a1, c1, rfl⟩ := owns_form h1
  obtain ⟨a2, c2, rfl⟩ := owns_form h2
  have HC : Hid (∀ o1 o2 : Obj, Calls Try.prog 19 #[.slice a1 xs.length c1, .slice a2 xs.length c2] ((w.alloc o1).alloc o2) fun e w' => e = .returned (.bool true) ∧ Below ((w.alloc o1).alloc o2).heap.size ((w.alloc o1).alloc o2) w') :=
    fun o1 o2 => sameInts_any ((h1.alloc o1).alloc o2) ((h2.alloc o1).alloc o2) hn
  clear h1 h2
  go_enter Try.func12, Try.ntmps12
  go_wp2_with fail
  refine (HC.out _ _).mono ?_
  rintro e w1 ⟨rfl, hb⟩
  have X1 : w1.heap[w.heap.size]? = some (.cells #[.int .i64 S, .int .i64 K, .int .i64 N, .int .i64 B, .int .i64 I, .int .i64 L, .slice a1 xs.length c1, .int .i64 Q] 36) := by
    rw [hb.block _ (by simp; omega)]; exact heap_past (heap_new _ _) _
  have X2 : w1.heap[w.heap.size + 1]? = some (.cells #[.int .i64 S, .int .i64 K, .int .i64 N, .int .i64 B, .int .i64 I, .int .i64 L, .slice a2 xs.length c2, .int .i64 Q] 36) := by
    rw [hb.block _ (by simp)]
    have := heap_new (w.alloc (.cells #[.int .i64 S, .int .i64 K, .int .i64 N, .int .i64 B, .int .i64 I, .int .i64 L, .slice a1 xs.length c1, .int .i64 Q] 36)) (.cells #[.int .i64 S, .int .i64 K, .int .i64 N, .int .i64 B, .int .i64 I, .int .i64 L, .slice a2 xs.length c2, .int .i64 Q] 36)
    rw [World.size_alloc] at this
    exact this
  have BB : Below w.heap.size w w1 := (((Below.refl _ _).alloc (Nat.le_refl _) _).alloc (by simp) _).trans (hb.mono (by simp; omega))
  clear hb
  obtain ⟨⟨s0, s1, s2, s3⟩, s4, s5, s6, s7⟩ := cells8 X1
  obtain ⟨⟨t0, t1, t2, t3⟩, t4, t5, t6, t7⟩ := cells8 X2
  clear X1 X2
  go_wp2_with fail
  go_ret
  exact ⟨rfl, BB⟩

/-- both ways of Look answer the same -/
theorem looks_both (f : ByteArray) (hs : f.size ≤ 140737488355328) : ∃ (S K N B I L Q : Int) (xs : List Nat), xs.length ≤ 16384 ∧
    (∀ w : World, Calls Try.prog 11 #[.string f] w fun e w' => ∃ v, e = .returned (scanV S K N B I L v Q) ∧ Below w.heap.size w w' ∧ w'.ownsRow w.heap.size 3 1 v xs.length (ivs xs)) ∧
    (∀ w : World, Calls Try.prog 10 #[.string f] w fun e w' => ∃ v, e = .returned (scanV S K N B I L v Q) ∧ Below w.heap.size w w' ∧ w'.ownsRow w.heap.size 3 1 v xs.length (ivs xs)) := by
  by_cases h0 : f.size = 0
  · refine ⟨1, 0, 0, 0, 0, 0, 0, [], by simp, fun w => (look_empty f w h0).mono ?_, fun w => (refLook_empty f w h0).mono ?_⟩
    · rintro e w' ⟨rfl, hb⟩; exact ⟨_, rfl, hb, World.ownsRow_nil _ _ _ _⟩
    · rintro e w' ⟨rfl, hb⟩; exact ⟨_, rfl, hb, World.ownsRow_nil _ _ _ _⟩
  · by_cases hg : 18 ≤ f.size ∧ Gd f
    · have hok := hg.2.1
      have e1 := hok.may.k1
      have e2 := hok.may.b1
      have e3 := hok.lM
      have hst := st_le (numAt f 4 1) (numAt f 8 2) (numAt f 10 4) (by omega) (by omega)
      have hlen := bads_len f (numAt f 8 2) (numAt f 6 1) (st (numAt f 4 1) (numAt f 8 2) (numAt f 10 4))
      exact ⟨_, _, _, _, _, _, _, bads f (numAt f 8 2) (numAt f 6 1) (st (numAt f 4 1) (numAt f 8 2) (numAt f 10 4)), by omega,
        fun w => look_good f _ _ _ _ _ w hs hg.1 hg.2 rfl rfl rfl rfl rfl _ _ rfl rfl, fun w => refLook_good f _ _ _ _ _ w hs hg.1 hg.2 rfl rfl rfl rfl rfl _ _ rfl rfl⟩
    · refine ⟨2, 0, 0, 0, 0, 0, 0, [], by simp, fun w => ?_, fun w => (refLook_bad f w h0 hg).mono ?_⟩
      · by_cases h18 : 18 ≤ f.size
        · refine (look_bad f w h18 (fun h => hg ⟨h18, h⟩)).mono ?_
          rintro e w' ⟨rfl, hb⟩; exact ⟨_, rfl, hb, World.ownsRow_nil _ _ _ _⟩
        · refine (look_short f w h0 h18).mono ?_
          rintro e w' ⟨rfl, hb⟩; exact ⟨_, rfl, hb, World.ownsRow_nil _ _ _ _⟩
      · rintro e w' ⟨rfl, hb⟩; exact ⟨_, rfl, hb, World.ownsRow_nil _ _ _ _⟩

end Go.Proofs.Ytlfhbpihdjipeaa
