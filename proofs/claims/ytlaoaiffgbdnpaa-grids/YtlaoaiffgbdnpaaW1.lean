import Derived.Test.YtlaoaiffgbdnpaaRows
import Derived.Test.YtlaoaiffgbdnpaaGf
import Derived.WalkKit
import Derived.WalkSpells
import Derived.WalkLawsBesides
import Derived.Laws.BitsAllLaws
namespace Go.Proofs.Ytlaoaiffgbdnpaa
open Go.RowKit

theorem ret_u64 {a b : Int} (h : a = b) : Ending.returned (.int .u64 a) = .returned (.int .u64 b) := by rw [h]
theorem ret_u8 {a b : Int} (h : a = b) : Ending.returned (.int .u8 a) = .returned (.int .u8 b) := by rw [h]

theorem dblI (x : Nat) (hx : x < 18446744073709551616) : bits BinOp.xor IntKind.u64
                        (IntKind.u64.wrap
                          (bits BinOp.xor IntKind.u64 (↑x) (bits BinOp.and IntKind.u64 (↑x) 9259542123273814144) * 2))
                        (IntKind.u64.wrap (bits BinOp.and IntKind.u64 (↑x) 9259542123273814144 / 128 * 29)) = ((Gf.dblW x : Nat) : Int) := by
  have e1 : bits BinOp.and IntKind.u64 (↑x) 9259542123273814144 = ((x &&& Gf.H : Nat) : Int) := u64_and_nat x 9259542123273814144 hx (by decide)
  have hh : x &&& Gf.H < 18446744073709551616 := Nat.lt_of_le_of_lt Nat.and_le_left hx
  rw [e1, u64_xor_nat _ _ hx hh, IntKind.wrap_u64, IntKind.wrap_u64]
  have l1 := Gf.half_lt x hx
  have l2 := Gf.high_lt x
  have m1 : ((x ^^^ (x &&& Gf.H) : Nat) : Int) * 2 % 18446744073709551616 = (((x ^^^ (x &&& Gf.H)) * 2 : Nat) : Int) := by omega
  have m2 : ((x &&& Gf.H : Nat) : Int) / 128 * 29 % 18446744073709551616 = (((x &&& Gf.H) / 128 * 29 : Nat) : Int) := by omega
  rw [m1, m2, u64_xor_nat _ _ l1 l2]
  rfl

set_option maxHeartbeats 400000 in
theorem dbl_any (x : Nat) (w : World) (hx : x < 18446744073709551616) :
    Calls Try.prog 42 #[.int .u64 x] w fun e w' => e = .returned (.int .u64 (Gf.dblW x : Nat)) ∧ w' = w := by
  go_enter Try.func42, Try.ntmps42
  go_wp2
  go_ret
  exact ⟨ret_u64 (dblI x hx), rfl⟩

set_option maxHeartbeats 400000 in
theorem mulWord_any (x c : Nat) (w : World) (hx : x < 18446744073709551616) (hc : c < 256) :
    Calls Try.prog 27 #[.int .u64 x, .int .u8 c] w fun e w' => e = .returned (.int .u64 (Gf.mulW x c : Nat)) ∧ w' = w := by
  go_enter Try.func27, Try.ntmps27
  go_wp2
  go_loop [0, 1, 5, 6] (fun a0 a1 p i => ∃ (k x' c' p' : Nat), k ≤ 8 ∧ x' < 18446744073709551616 ∧ c' < 256 ∧ p' < 18446744073709551616 ∧ i = .int .i64 k ∧ a0 = .int .u64 x' ∧ a1 = .int .u8 c' ∧ p = .int .u64 p' ∧ Gf.mulW x c = Gf.mulGo (8 - k) p' x' c') (fun _ _ _ i => (8 - intOf i).toNat)
  case atStart => exact ⟨0, x, c, 0, by omega, hx, hc, by decide, rfl, rfl, rfl, rfl, rfl⟩
  case round =>
    obtain ⟨k, x', c', p', hk, hx', hc', hp', rfl, rfl, rfl, rfl, hm⟩ := hrel
    have HM : Hid (Gf.mulW x c = Gf.mulGo (8 - k) p' x' c') := hm
    clear hm
    by_cases hlt : k < 8
    · have hb : bits BinOp.and IntKind.u8 (↑c') 1 = ((c' % 2 : Nat) : Int) := by
        have := u8_and_nat c' 1 hc' (by decide)
        rw [nat_mask1] at this; exact this
      by_cases hbit : c' % 2 = 1
      · have hb' : (bits BinOp.and IntKind.u8 (↑c') 1 == 1) = true := by rw [hb, hbit]; rfl
        go_wp2_with (go_at_call 42; refine (dbl_any _ _ hx').mono ?_; rintro e w' ⟨rfl, rfl⟩)
        go_round
        case rel => exact ⟨k + 1, Gf.dblW x', c' / 2, p' ^^^ x', by omega, Gf.dblW_lt64 _ hx', by omega, Nat.xor_lt_two_pow (n := 64) hp' hx', by go_num, rfl, by go_num, by rw [u64_xor_nat _ _ hp' hx'], by rw [HM.out, show 8 - k = (8 - (k + 1)) + 1 by omega]; simp only [Gf.mulGo, hbit, if_true]⟩
        case measure => simp [intOf]; omega
      · have hb' : (bits BinOp.and IntKind.u8 (↑c') 1 == 1) = false := by rw [hb]; simp; omega
        go_wp2_with (go_at_call 42; refine (dbl_any _ _ hx').mono ?_; rintro e w' ⟨rfl, rfl⟩)
        go_round
        case rel => exact ⟨k + 1, Gf.dblW x', c' / 2, p', by omega, Gf.dblW_lt64 _ hx', by omega, hp', by go_num, rfl, by go_num, rfl, by rw [HM.out, show 8 - k = (8 - (k + 1)) + 1 by omega]; simp only [Gf.mulGo, hbit, if_false]⟩
        case measure => simp [intOf]; omega
    · go_wp2
      go_ret
      have hk8 : k = 8 := by omega
      exact ⟨ret_u64 (by rw [HM.out, hk8]; rfl), rfl⟩

theorem gm_eq_mulW (a b : Nat) : Gf.mulW a b = Gf.gm a b := rfl

set_option maxHeartbeats 400000 in
theorem mul_any (a b : Nat) (w : World) (ha : a < 256) (hb : b < 256) :
    Calls Try.prog 9 #[.int .u8 a, .int .u8 b] w fun e w' => e = .returned (.int .u8 (Gf.gm a b : Nat)) ∧ w' = w := by
  have hg := Gf.gm_lt a b ha
  go_enter Try.func9, Try.ntmps9
  go_wp2_with (go_at_call 27; refine (mulWord_any _ _ _ (by omega) hb).mono ?_; rintro e w' ⟨rfl, rfl⟩)
  go_ret
  exact ⟨ret_u8 (by rw [gm_eq_mulW]; go_num), rfl⟩

set_option maxHeartbeats 400000 in
theorem inverse_any (b : Nat) (w : World) (hb : b < 256) :
    Calls Try.prog 29 #[.int .u8 b] w fun e w' => e = .returned (.int .u8 (Gf.inv b : Nat)) ∧ w' = w := by
  go_enter Try.func29, Try.ntmps29
  go_wp2
  go_loop [3, 4, 6] (fun s p i => ∃ (k s' p' : Nat), k ≤ 7 ∧ s' < 256 ∧ p' < 256 ∧ i = .int .i64 k ∧ s = .int .u8 s' ∧ p = .int .u8 p' ∧ Gf.inv b = Gf.invGo (7 - k) s' p') (fun _ _ i => (7 - intOf i).toNat)
  case atStart => exact ⟨0, b, 1, by omega, hb, by decide, rfl, rfl, rfl, rfl⟩
  case round =>
    obtain ⟨k, s', p', hk, hs', hp', rfl, rfl, rfl, hm⟩ := hrel
    have HM : Hid (Gf.inv b = Gf.invGo (7 - k) s' p') := hm
    clear hm
    by_cases hlt : k < 7
    · have h2 := Gf.gm_lt s' s' hs'
      go_wp2_with fail
      refine (mul_any _ _ _ hs' hs').mono ?_
      rintro e w' ⟨rfl, rfl⟩
      go_wp2_with fail
      refine (mul_any _ _ _ hp' h2).mono ?_
      rintro e w' ⟨rfl, rfl⟩
      go_wp2_with fail
      go_round
      case rel => exact ⟨k + 1, Gf.gm s' s', Gf.gm p' (Gf.gm s' s'), by omega, h2, Gf.gm_lt _ _ hp', by go_num, rfl, rfl, by rw [HM.out, show 7 - k = (7 - (k + 1)) + 1 by omega]; rfl⟩
      case measure => simp [intOf]; omega
    · go_wp2
      go_ret
      have hk8 : k = 7 := by omega
      exact ⟨ret_u8 (by rw [HM.out, hk8]; rfl), rfl⟩

set_option maxHeartbeats 400000 in
theorem div_zero (a : Nat) (w : World) :
    Calls Try.prog 11 #[.int .u8 a, .int .u8 0] w fun e w' => e = .returned (.tuple #[.int .u8 0, .int .i64 1]) ∧ w' = w := by
  go_enter Try.func11, Try.ntmps11
  go_wp2
  go_ret2
  exact ⟨rfl, rfl⟩

set_option maxHeartbeats 400000 in
theorem div_any (a b : Nat) (w : World) (ha : a < 256) (hb : b < 256) (h0 : b ≠ 0) :
    Calls Try.prog 11 #[.int .u8 a, .int .u8 b] w fun e w' => e = .returned (.tuple #[.int .u8 (Gf.gdiv a b : Nat), .int .i64 0]) ∧ w' = w := by
  have hb0 : ((b : Int) == 0) = false := by simp; omega
  have hi := Gf.inv_lt b hb
  go_enter Try.func11, Try.ntmps11
  go_wp2_with (first | (go_at_call 29; refine (inverse_any _ _ hb).mono ?_; rintro e w' ⟨rfl, rfl⟩) | (go_at_call 9; refine (mul_any _ _ _ ha hi).mono ?_; rintro e w' ⟨rfl, rfl⟩))
  go_ret2
  exact ⟨rfl, rfl⟩

end Go.Proofs.Ytlaoaiffgbdnpaa
