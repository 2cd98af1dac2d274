import Derived.Test.YtlfhbpihdjipeaaL5
namespace Go.Proofs.Ytlfhbpihdjipeaa
open Go.RowKit

/-- how many stripes -/
def st (k b l : Nat) : Nat := (l + k * b - 1) / (k * b)
theorem st_lt (k b l n : Nat) (hk : 1 ≤ k) (hb : 1 ≤ b) : n < st k b l ↔ n * (k * b) < l := by
  have hz : 0 < k * b := Nat.mul_pos hk hb
  unfold st
  rw [← Nat.succ_le_iff, Nat.le_div_iff_mul_le hz, Nat.succ_mul]
  omega
theorem st_le (k b l : Nat) (hk : 1 ≤ k) (hb : 1 ≤ b) : st k b l ≤ l := by
  have h := st_lt k b l l hk hb
  have hz : 0 < k * b := Nat.mul_pos hk hb
  have : l ≤ l * (k * b) := Nat.le_mul_of_pos_right _ hz
  omega
theorem kb_le (k b : Nat) (hk : k ≤ 32) (hb : b ≤ 256) : k * b ≤ 8192 := by
  have := Nat.mul_le_mul hk hb; omega

theorem frameBytes_any (k n b : Nat) (w : World) (hb : b ≤ 256) : Calls Try.prog 42 #[.agg #[.int .i64 k, .int .i64 n, .int .i64 b]] w fun e w' => e = .returned (.int .i64 ((b + 8 : Nat) : Int)) ∧ Below w.heap.size w w' := by
  go_enter Try.func42, Try.ntmps42
  go_wp2
  go_ret
  exact ⟨by go_num, (Below.refl _ _).alloc (Nat.le_refl _) _⟩
theorem framePlace_any (k n b t : Nat) (w : World) (hb : b ≤ 256) (ht : t ≤ 16384) : Calls Try.prog 31 #[.agg #[.int .i64 k, .int .i64 n, .int .i64 b], .int .i64 t] w fun e w' => e = .returned (.int .i64 ((18 + t * (b + 8) : Nat) : Int)) ∧ Below w.heap.size w w' := by
  have h2 : t * (b + 8) ≤ 16384 * 264 := Nat.mul_le_mul ht (by omega)
  have M : Hid ((t : Int) * ((b : Int) + 8) = ((t * (b + 8) : Nat) : Int)) := by show _ = _; simp
  generalize hyy : t * (b + 8) = y at *
  have m : (t : Int) * ((b : Int) + 8) = (y : Int) := M.out
  clear hyy
  have f1 : IntKind.i64.wrap (y : Int) = (y : Int) := by simp [IntKind.wrap, IntKind.bits, IntKind.signed]; omega
  have f2 : IntKind.i64.wrap (18 + (y : Int)) = 18 + (y : Int) := by simp [IntKind.wrap, IntKind.bits, IntKind.signed]; omega
  go_enter Try.func31, Try.ntmps31
  go_wp2_with fail
  refine (frameBytes_any k n b _ hb).mono ?_
  rintro e w1 ⟨rfl, hb1⟩
  go_wp2_with fail
  go_ret
  exact ⟨by simp, ((Below.refl _ _).alloc (Nat.le_refl _) _).trans (hb1.mono (by simp))⟩
theorem blockOf_any (s : ByteArray) (w : World) (h4 : 8 ≤ s.size) (h5 : s.size ≤ 2 ^ 40) : Calls Try.prog 44 #[.string s] w fun e w' => e = .returned (.string (s.extract 4 (s.size - 4))) ∧ w' = w := by
  have f1 : ((s.size : Int) - 4).toNat = s.size - 4 := by omega
  go_enter Try.func44, Try.ntmps44
  go_wp2
  go_ret
  simp

set_option maxHeartbeats 400000 in
theorem stripes_any (k n b i l : Nat) (w : World) (hk : 1 ≤ k) (hk2 : k ≤ 32) (hb : 1 ≤ b) (hb2 : b ≤ 256) (hl : l ≤ 16384) :
    Calls Try.prog 28 #[hdr k n b i l] w fun e w' => e = .returned (.int .i64 (st k b l : Nat)) ∧ Below w.heap.size w w' := by
  have hz : 0 < k * b := Nat.mul_pos hk hb
  have hz2 := kb_le k b hk2 hb2
  have hst : Hid (st k b l = (l + k * b - 1) / (k * b)) := rfl
  have hm : (k : Int) * (b : Int) = ((k * b : Nat) : Int) := by simp
  have hm' : Hid ((k : Int) * (b : Int) = ((k * b : Nat) : Int)) := hm
  generalize hzz : k * b = z at *
  have hm2 : (k : Int) * (b : Int) = (z : Int) := hm'.out
  clear hm hzz hm'
  have hq : Hid (((l : Int) + (z : Int) - 1) / (z : Int) = (((l + z - 1) / z : Nat) : Int)) := by
    show _ = _
    rw [show (l : Int) + (z : Int) - 1 = ((l + z - 1 : Nat) : Int) by omega]
    exact (Int.natCast_ediv _ _).symm
  have hz0 : ¬ (z : Int) = 0 := by omega
  go_enter Try.func28, Try.ntmps28
  go_wp2
  go_ret
  refine ⟨?_, (Below.refl _ _).alloc (Nat.le_refl _) _⟩
  show Ending.returned (Value.int IntKind.i64 (((l : Int) + (z : Int) - 1) / (z : Int))) = _
  rw [hq.out, hst.out]

set_option maxHeartbeats 400000 in
theorem refStripes_any (k n b i l : Nat) (w : World) (hk : 1 ≤ k) (hk2 : k ≤ 32) (hb : 1 ≤ b) (hb2 : b ≤ 256) (hl : l ≤ 16384) :
    Calls Try.prog 14 #[hdr k n b i l] w fun e w' => e = .returned (.int .i64 (st k b l : Nat)) ∧ Below w.heap.size w w' := by
  have hz : 0 < k * b := Nat.mul_pos hk hb
  have hz2 := kb_le k b hk2 hb2
  have hs1 := st_le k b l hk hb
  have HS : Hid (∀ t, t < st k b l ↔ t * (k * b) < l) := fun t => st_lt k b l t hk hb
  have hbox := Box5.new w k n b i l 33
  have c0 := hbox.c0
  have c2 := hbox.c2
  have c4 := hbox.c4
  go_enter Try.func14, Try.ntmps14
  go_wp2
  generalize w.alloc (.cells #[.int .i64 k, .int .i64 n, .int .i64 b, .int .i64 i, .int .i64 l] 33) = wx at *
  go_loopw [3] (fun j w' => ∃ t : Nat, t ≤ st k b l ∧ j = .int .i64 t ∧ w' = wx) (fun j _ => (st k b l - intOf j).toNat)
  case atStart => exact ⟨0, by omega, rfl, rfl⟩
  case round =>
    obtain ⟨t, ht, rfl, rfl⟩ := hrel
    have h1 : t * k ≤ 16384 * 32 := Nat.mul_le_mul (by omega) hk2
    have h2 : t * (k * b) ≤ 16384 * 8192 := Nat.mul_le_mul (by omega) hz2
    have m1 : (t : Int) * (k : Int) = ((t * k : Nat) : Int) := by simp
    have m2 : ((t * k : Nat) : Int) * (b : Int) = ((t * (k * b) : Nat) : Int) := by rw [← Nat.mul_assoc]; simp
    have hS := HS.out t
    have M1 : Hid ((t : Int) * (k : Int) = ((t * k : Nat) : Int)) := m1
    have M2 : Hid (((t * k : Nat) : Int) * (b : Int) = ((t * (k * b) : Nat) : Int)) := m2
    clear m1 m2
    generalize t * (k * b) = y at *
    generalize t * k = x at *
    have m1 : (t : Int) * (k : Int) = (x : Int) := M1.out
    have m2 : (x : Int) * (b : Int) = (y : Int) := M2.out
    by_cases hlt : t < st k b l
    · have h3 : (y : Int) < (l : Int) := by have := hS.1 hlt; omega
      clear hS
      go_wp2
      go_roundw
      case rel => exact ⟨t + 1, by omega, by go_num, trivial⟩
      case measure => simp [intOf]; omega
    · have h3 : ¬ (y : Int) < (l : Int) := by intro h; exact hlt (hS.2 (by omega))
      have hts : t = st k b l := by omega
      clear hS hlt
      subst hts
      go_wp2
      go_ret
      exact ⟨rfl, hbox.below⟩
end Go.Proofs.Ytlfhbpihdjipeaa
