import Derived.Test.YtfnnakignemifaaRows
import Derived.Test.YtfnnakignemifaaGk
import Derived.WalkKit
import Derived.Handy
import Derived.Below
import Derived.WalkSpells
import Derived.WalkLawsBesides
import Derived.Laws.BitsAllLaws
namespace Go.Proofs.Ytfnnakignemifaa
open Go.RowKit

/-- a string's byte -/
def sb (s : ByteArray) (i : Nat) : Nat := (s.data[i]?.getD 0).toNat
theorem sb_lt (s : ByteArray) (i : Nat) : sb s i < 256 := (s.data[i]?.getD 0).toNat_lt

theorem sb_at (s : ByteArray) (k : Nat) (h : k < s.size) : s[k].toNat = sb s k := by
  unfold sb
  have h' : k < s.data.size := h
  rw [Array.getElem?_eq_getElem h']; rfl
theorem sb_xor (s : ByteArray) (k r : Nat) (h : k < s.size) (hr : r < 4294967296) : bits BinOp.xor IntKind.u32 (r : Int) ((s[k].toNat : Int) % 4294967296) = ((r ^^^ sb s k : Nat) : Int) := by
  have := sb_lt s k
  rw [sb_at s k h, show ((sb s k : Nat) : Int) % 4294967296 = ((sb s k : Nat) : Int) by omega, u32_xor_nat _ _ hr (by omega)]
theorem step_bits (r : Nat) (hr : r < 4294967296) : bits BinOp.xor IntKind.u32 ((r : Int) / 2) (bits BinOp.and IntKind.u32 (r : Int) 1 * 2197175160 % 4294967296) = ((Gk.step r : Nat) : Int) := by
  have e1 : bits BinOp.and IntKind.u32 (r : Int) 1 = ((r % 2 : Nat) : Int) := by
    have := u32_and_nat r 1 hr (by decide)
    rw [nat_mask1] at this; exact this
  rw [e1]
  have e2 : ((r % 2 : Nat) : Int) * 2197175160 % 4294967296 = ((r % 2 * 2197175160 : Nat) : Int) := by omega
  have e3 : (r : Int) / 2 = ((r / 2 : Nat) : Int) := by omega
  rw [e2, e3, u32_xor_nat _ _ (by omega) (by omega)]
  rfl

set_option maxHeartbeats 800000 in
theorem sum_any (s : ByteArray) (w : World) (hs : s.size ≤ 140737488355328) :
    Calls Try.prog 7 #[.string s] w fun e w' => e = .returned (.int .u32 ((4294967295 - Gk.crc (sb s) s.size : Nat) : Int)) ∧ w' = w := by
  go_enter Try.func7, Try.ntmps7
  go_wp2
  go_loopw [3, 8] (fun r i w' => ∃ k : Nat, k ≤ s.size ∧ r = .int .u32 ((Gk.crc (sb s) k : Nat) : Int) ∧ i = .int .i64 k ∧ w' = w) (fun _ i _ => (s.size - intOf i).toNat)
  case atStart => exact ⟨0, by omega, rfl, rfl, rfl⟩
  case round =>
    obtain ⟨k, hk, rfl, rfl, rfl⟩ := hrel
    by_cases hlt : k < s.size
    · have HC : Hid (Gk.crc (sb s) (k + 1) = Gk.steps 8 (Gk.crc (sb s) k ^^^ sb s k)) := rfl
      have hx := sb_xor s k _ hlt (Gk.crc_lt (sb s) (sb_lt s) k)
      have hl := Gk.xor_lt32 _ _ (Gk.crc_lt (sb s) (sb_lt s) k) (show sb s k < 4294967296 by have := sb_lt s k; omega)
      go_wp2
      generalize Gk.crc (sb s) k ^^^ sb s k = r0 at *
      go_loopw [3, 17] (fun r j w' => ∃ m : Nat, m ≤ 8 ∧ r = .int .u32 ((Gk.steps m r0 : Nat) : Int) ∧ j = .int .i64 m ∧ w' = wr) (fun _ j _ => (8 - intOf j).toNat)
      case atStart => exact ⟨0, by omega, rfl, rfl, rfl⟩
      case round =>
        obtain ⟨m, hm, rfl, rfl, rfl⟩ := hrel
        by_cases hmt : m < 8
        · have hr := step_bits _ (Gk.steps_lt m r0 hl)
          go_wp2
          go_roundw
          case rel => exact ⟨m + 1, by omega, by rfl, by go_num, trivial⟩
          case measure => simp [intOf]; omega
        · have hm8 : m = 8 := by omega
          subst hm8
          go_wp2
          go_roundw
          case rel => exact ⟨k + 1, by omega, by rw [HC.out], by go_num, trivial⟩
          case measure => simp [intOf]; omega
    · have hkn : k = s.size := by omega
      subst hkn
      have hl := Gk.crc_lt (sb s) (sb_lt s) s.size
      go_wp2
      go_ret
      refine ⟨?_, rfl⟩
      have hm : IntKind.u32.max = ((4294967295 : Nat) : Int) := rfl
      show Ending.returned (Value.int IntKind.u32 (bits BinOp.xor IntKind.u32 IntKind.u32.max _)) = _
      rw [hm, u32_xor_nat _ _ (by decide) hl, Gk.turn_all _ hl]
end Go.Proofs.Ytfnnakignemifaa
