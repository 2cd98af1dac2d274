import Derived.Test.YtlaoaiffgbdnpaaRef1
namespace Go.Proofs.Ytlaoaiffgbdnpaa
open Go.RowKit

theorem muls_zero (a : Nat) (w : World) (ha : a < 256) :
    Calls Try.prog 3 #[.int .u8 a, .int .u8 (0 : Nat)] w fun e w' => e = .returned (.bool true) ∧ Below w.heap.size w w' := by
  go_enter Try.func3, Try.ntmps3
  go_wp2_with fail
  refine (mul_any a 0 _ ha (by decide)).mono ?_
  rintro e w1 ⟨rfl, rfl⟩
  go_wp2_with fail
  refine (refMul_gm a 0 _ ha (by decide)).mono ?_
  rintro e w2 ⟨rfl, h2⟩
  go_wp2_with fail
  refine (div_zero a _).mono ?_
  rintro e w3 ⟨rfl, rfl⟩
  go_wp2_with fail
  refine (refDiv_zero a _).mono ?_
  rintro e w4 ⟨rfl, h4⟩
  go_wp2_with fail
  go_ret
  exact ⟨rfl, h2.trans (h4.mono h2.size)⟩

theorem muls_pos (a b : Nat) (w : World) (ha : a < 256) (hb : b < 256) (h0 : b ≠ 0) :
    Calls Try.prog 3 #[.int .u8 a, .int .u8 b] w fun e w' => e = .returned (.bool true) ∧ Below w.heap.size w w' := by
  go_enter Try.func3, Try.ntmps3
  go_wp2_with fail
  refine (mul_any a b _ ha hb).mono ?_
  rintro e w1 ⟨rfl, rfl⟩
  go_wp2_with fail
  refine (refMul_gm a b _ ha hb).mono ?_
  rintro e w2 ⟨rfl, h2⟩
  go_wp2_with fail
  refine (div_any a b _ ha hb h0).mono ?_
  rintro e w3 ⟨rfl, rfl⟩
  go_wp2_with fail
  refine (refDiv_any a b _ ha hb h0).mono ?_
  rintro e w4 ⟨rfl, h4⟩
  go_wp2_with fail
  go_ret
  exact ⟨rfl, h2.trans (h4.mono h2.size)⟩

theorem muls_walk (a b : Nat) (w : World) (ha : a < 256) (hb : b < 256) :
    Calls Try.prog 3 #[.int .u8 a, .int .u8 b] w fun e w' => e = .returned (.bool true) ∧ Below w.heap.size w w' := by
  by_cases h0 : b = 0
  · rw [h0]; exact muls_zero a w ha
  · exact muls_pos a b w ha hb h0
end Go.Proofs.Ytlaoaiffgbdnpaa
