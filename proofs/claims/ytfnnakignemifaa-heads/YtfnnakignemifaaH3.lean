import Derived.Test.YtfnnakignemifaaH2
namespace Go.Proofs.Ytfnnakignemifaa
open Go.RowKit

/-- a header as a value -/
abbrev hdr (K N B I L : Int) : Value := .agg #[.int .i64 K, .int .i64 N, .int .i64 B, .int .i64 I, .int .i64 L]
abbrev prm (K N B : Int) : Value := .agg #[.int .i64 K, .int .i64 N, .int .i64 B]
/-- parameters that may be -/
structure May (K N B : Int) : Prop where
  k1 : 1 ≤ K
  kn : K ≤ N
  n32 : N ≤ 32
  b1 : 1 ≤ B
  b256 : B ≤ 256
/-- a header that may be -/
structure Hok (K N B I L : Int) : Prop where
  may : May K N B
  i0 : 0 ≤ I
  iN : I < N
  l0 : 0 ≤ L
  lM : L ≤ 16384

theorem within_yes (n lo hi : Int) (w : World) (h1 : lo ≤ n) (h2 : n ≤ hi) : Calls Try.prog 18 #[.int .i64 n, .int .i64 lo, .int .i64 hi] w fun e w' => e = .returned (.bool true) ∧ w' = w := by
  go_enter Try.func18, Try.ntmps18
  go_wp2
  go_ret
  exact ⟨rfl, rfl⟩
theorem within_low (n lo hi : Int) (w : World) (h1 : ¬ lo ≤ n) : Calls Try.prog 18 #[.int .i64 n, .int .i64 lo, .int .i64 hi] w fun e w' => e = .returned (.bool false) ∧ w' = w := by
  go_enter Try.func18, Try.ntmps18
  go_wp2
  go_ret
  exact ⟨rfl, rfl⟩
theorem within_high (n lo hi : Int) (w : World) (h1 : ¬ n ≤ hi) : Calls Try.prog 18 #[.int .i64 n, .int .i64 lo, .int .i64 hi] w fun e w' => e = .returned (.bool false) ∧ w' = w := by
  by_cases h2 : lo ≤ n
  · go_enter Try.func18, Try.ntmps18
    go_wp2
    go_ret
    exact ⟨rfl, rfl⟩
  · exact within_low n lo hi w h2
theorem within_no (n lo hi : Int) (w : World) (h : ¬ (lo ≤ n ∧ n ≤ hi)) : Calls Try.prog 18 #[.int .i64 n, .int .i64 lo, .int .i64 hi] w fun e w' => e = .returned (.bool false) ∧ w' = w := by
  by_cases h2 : lo ≤ n
  · exact within_high n lo hi w (fun h3 => h ⟨h2, h3⟩)
  · exact within_low n lo hi w h2

set_option maxHeartbeats 400000 in
theorem mayBe_yes (K N B : Int) (w : World) (h : May K N B) : Calls Try.prog 17 #[prm K N B] w fun e w' => e = .returned (.bool true) ∧ Below w.heap.size w w' := by
  obtain ⟨h1, h2, h3, h4, h5⟩ := h
  go_enter Try.func17, Try.ntmps17
  go_wp2_with (go_at_call 18; refine (within_yes _ _ _ _ (by omega) (by omega)).mono ?_; rintro e w' ⟨rfl, rfl⟩)
  go_ret
  exact ⟨rfl, (Below.refl _ _).alloc (Nat.le_refl _) _⟩
set_option maxHeartbeats 400000 in
theorem mayBe_no (K N B : Int) (w : World) (h : ¬ May K N B) : Calls Try.prog 17 #[prm K N B] w fun e w' => e = .returned (.bool false) ∧ Below w.heap.size w w' := by
  by_cases hN : 1 ≤ N ∧ N ≤ 32
  · by_cases hK : 1 ≤ K ∧ K ≤ N
    · have hB : ¬ (1 ≤ B ∧ B ≤ 256) := fun hB => h ⟨hK.1, hK.2, hN.2, hB.1, hB.2⟩
      go_enter Try.func17, Try.ntmps17
      go_wp2_with fail
      refine (within_yes _ _ _ _ hN.1 hN.2).mono ?_
      rintro e w' ⟨rfl, rfl⟩
      go_wp2_with fail
      refine (within_yes _ _ _ _ hK.1 hK.2).mono ?_
      rintro e w' ⟨rfl, rfl⟩
      go_wp2_with fail
      refine (within_no _ _ _ _ hB).mono ?_
      rintro e w' ⟨rfl, rfl⟩
      go_wp2_with fail
      go_ret
      exact ⟨rfl, (Below.refl _ _).alloc (Nat.le_refl _) _⟩
    · go_enter Try.func17, Try.ntmps17
      go_wp2_with fail
      refine (within_yes _ _ _ _ hN.1 hN.2).mono ?_
      rintro e w' ⟨rfl, rfl⟩
      go_wp2_with fail
      refine (within_no _ _ _ _ hK).mono ?_
      rintro e w' ⟨rfl, rfl⟩
      go_wp2_with fail
      go_ret
      exact ⟨rfl, (Below.refl _ _).alloc (Nat.le_refl _) _⟩
  · go_enter Try.func17, Try.ntmps17
    go_wp2_with (go_at_call 18; refine (within_no _ _ _ _ hN).mono ?_; rintro e w' ⟨rfl, rfl⟩)
    go_ret
    exact ⟨rfl, (Below.refl _ _).alloc (Nat.le_refl _) _⟩
set_option maxHeartbeats 400000 in
theorem refMay_yes (K N B : Int) (w : World) (h : May K N B) : Calls Try.prog 21 #[prm K N B] w fun e w' => e = .returned (.bool true) ∧ Below w.heap.size w w' := by
  obtain ⟨h1, h2, h3, h4, h5⟩ := h
  go_enter Try.func21, Try.ntmps21
  go_wp2
  go_ret
  exact ⟨rfl, (Below.refl _ _).alloc (Nat.le_refl _) _⟩
set_option maxHeartbeats 400000 in
theorem refMay_no (K N B : Int) (w : World) (h : ¬ May K N B) : Calls Try.prog 21 #[prm K N B] w fun e w' => e = .returned (.bool false) ∧ Below w.heap.size w w' := by
  by_cases h1 : 1 ≤ K
  · by_cases h2 : K ≤ N
    · by_cases h3 : N ≤ 32
      · by_cases h4 : 1 ≤ B
        · have h5 : ¬ B ≤ 256 := fun h5 => h ⟨h1, h2, h3, h4, h5⟩
          go_enter Try.func21, Try.ntmps21
          go_wp2
          go_ret
          exact ⟨rfl, (Below.refl _ _).alloc (Nat.le_refl _) _⟩
        · go_enter Try.func21, Try.ntmps21
          go_wp2
          go_ret
          exact ⟨rfl, (Below.refl _ _).alloc (Nat.le_refl _) _⟩
      · go_enter Try.func21, Try.ntmps21
        go_wp2
        go_ret
        exact ⟨rfl, (Below.refl _ _).alloc (Nat.le_refl _) _⟩
    · go_enter Try.func21, Try.ntmps21
      go_wp2
      go_ret
      exact ⟨rfl, (Below.refl _ _).alloc (Nat.le_refl _) _⟩
  · go_enter Try.func21, Try.ntmps21
    go_wp2
    go_ret
    exact ⟨rfl, (Below.refl _ _).alloc (Nat.le_refl _) _⟩
end Go.Proofs.Ytfnnakignemifaa
