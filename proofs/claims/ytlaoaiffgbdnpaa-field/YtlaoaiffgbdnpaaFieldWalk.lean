import Derived.Test.YtlaoaiffgbdnpaaW1
namespace Go.Proofs.Ytlaoaiffgbdnpaa
open Go.RowKit

theorem bne_of {x y : Int} (h : x = y) : (x != y) = false := by simp [h]
theorem beq_of {x y : Int} (h : x = y) : (x == y) = true := by simp [h]

theorem mul_one_any (a : Nat) (w : World) (ha : a < 256) :
    Calls Try.prog 9 #[.int .u8 a, .int .u8 1] w fun e w' => e = .returned (.int .u8 (Gf.gm a 1 : Nat)) ∧ w' = w := mul_any a 1 w ha (by decide)
theorem mul_two_any (w : World) :
    Calls Try.prog 9 #[.int .u8 2, .int .u8 128] w fun e w' => e = .returned (.int .u8 (Gf.gm 2 128 : Nat)) ∧ w' = w := mul_any 2 128 w (by decide) (by decide)

set_option maxHeartbeats 1600000 in
theorem field_walk (a b c : Nat) (w : World) (ha : a < 256) (hb : b < 256) (hc : c < 256) :
    Calls Try.prog 5 #[.int .u8 a, .int .u8 b, .int .u8 c] w fun e w' => e = .returned (.bool true) ∧ w' = w := by
  have l1 := Gf.gm_lt a b ha
  have l2 := Gf.gm_lt b c hb
  have l3 := Gf.xor_lt b c hb hc
  have hx : bits .xor .u8 (b : Int) (c : Int) = ((b ^^^ c : Nat) : Int) := u8_xor_nat b c hb hc
  have l4 : Gf.gdiv a b < 256 := Gf.gm_lt _ _ ha
  have t1 : (((Gf.gm a b : Nat) : Int) != ((Gf.gm b a : Nat) : Int)) = false := bne_of (by rw [Gf.gm_comm a b ha hb])
  have t2 : (((Gf.gm (Gf.gm a b) c : Nat) : Int) != ((Gf.gm a (Gf.gm b c) : Nat) : Int)) = false := bne_of (by rw [Gf.gm_assoc a b c ha hb hc])
  have t3 : (((Gf.gm a (b ^^^ c) : Nat) : Int) != bits .xor .u8 ((Gf.gm a b : Nat) : Int) ((Gf.gm a c : Nat) : Int)) = false := bne_of (by rw [u8_xor_nat _ _ l1 (Gf.gm_lt a c ha), Gf.gm_xor_right])
  have t4 : (((Gf.gm a 1 : Nat) : Int) != (a : Int)) = false := bne_of (by rw [Gf.gm_one a ha])
  have t5 : (((Gf.gm 2 128 : Nat) : Int) != 29) = false := by decide +kernel
  obtain ⟨za, t8⟩ : ∃ z, ((a : Int) == 0) = z := ⟨_, rfl⟩
  obtain ⟨zb, t6⟩ : ∃ z, ((b : Int) == 0) = z := ⟨_, rfl⟩
  have t9 : (((Gf.gm a b : Nat) : Int) == 0) = (za || zb) := by
    rw [← t8, ← t6, Bool.eq_iff_iff]
    have := Gf.gm_eq_zero a b ha hb
    simp; exact this
  by_cases h0 : b = 0
  · have H0 : Hid (b = 0) := h0
    have hzb : zb = true := by rw [← t6]; simp; omega
    subst hzb
    have t9' : (((Gf.gm a b : Nat) : Int) == 0) = true := by rw [t9]; simp
    clear t9
    have dz : ∀ w, Calls Try.prog 11 #[.int .u8 a, .int .u8 b] w fun e w' => e = .returned (.tuple #[.int .u8 0, .int .i64 1]) ∧ w' = w := by
      intro w; rw [H0.out]; exact div_zero a w
    have DZ : Hid (∀ w, Calls Try.prog 11 #[.int .u8 a, .int .u8 b] w fun e w' => e = .returned (.tuple #[.int .u8 0, .int .i64 1]) ∧ w' = w) := dz
    clear h0 dz
    cases za
    all_goals
      go_enter Try.func5, Try.ntmps5
      go_wp2_with fail
      refine (mul_any _ _ _ ha hb).mono ?_
      rintro e w' ⟨rfl, rfl⟩
      go_wp2_with fail
      refine (mul_any _ _ _ hb ha).mono ?_
      rintro e w' ⟨rfl, rfl⟩
      go_wp2_with fail
      refine (mul_any _ _ _ hb hc).mono ?_
      rintro e w' ⟨rfl, rfl⟩
      go_wp2_with fail
      refine (mul_any _ _ _ l1 hc).mono ?_
      rintro e w' ⟨rfl, rfl⟩
      go_wp2_with fail
      refine (mul_any _ _ _ ha l2).mono ?_
      rintro e w' ⟨rfl, rfl⟩
      go_wp2_with fail
      refine (mul_any _ _ _ ha l3).mono ?_
      rintro e w' ⟨rfl, rfl⟩
      go_wp2_with fail
      refine (mul_any _ _ _ ha hc).mono ?_
      rintro e w' ⟨rfl, rfl⟩
      go_wp2_with fail
      refine (mul_one_any _ _ ha).mono ?_
      rintro e w' ⟨rfl, rfl⟩
      go_wp2_with fail
      refine (mul_two_any _).mono ?_
      rintro e w' ⟨rfl, rfl⟩
      go_wp2_with fail
      refine (DZ.out _).mono ?_
      rintro e w' ⟨rfl, rfl⟩
      go_wp2_with fail
      go_ret
      exact ⟨rfl, rfl⟩
  · have hzb : zb = false := by rw [← t6]; simp; omega
    subst hzb
    have t7 : (((Gf.gm (Gf.gdiv a b) b : Nat) : Int) == (a : Int)) = true := beq_of (by rw [Gf.gdiv_mul a b ha hb h0])
    cases za
    all_goals
      simp only [Bool.or_false] at t9
      go_enter Try.func5, Try.ntmps5
      go_wp2_with fail
      refine (mul_any _ _ _ ha hb).mono ?_
      rintro e w' ⟨rfl, rfl⟩
      go_wp2_with fail
      refine (mul_any _ _ _ hb ha).mono ?_
      rintro e w' ⟨rfl, rfl⟩
      go_wp2_with fail
      refine (mul_any _ _ _ hb hc).mono ?_
      rintro e w' ⟨rfl, rfl⟩
      go_wp2_with fail
      refine (mul_any _ _ _ l1 hc).mono ?_
      rintro e w' ⟨rfl, rfl⟩
      go_wp2_with fail
      refine (mul_any _ _ _ ha l2).mono ?_
      rintro e w' ⟨rfl, rfl⟩
      go_wp2_with fail
      refine (mul_any _ _ _ ha l3).mono ?_
      rintro e w' ⟨rfl, rfl⟩
      go_wp2_with fail
      refine (mul_any _ _ _ ha hc).mono ?_
      rintro e w' ⟨rfl, rfl⟩
      go_wp2_with fail
      refine (mul_one_any _ _ ha).mono ?_
      rintro e w' ⟨rfl, rfl⟩
      go_wp2_with fail
      refine (mul_two_any _).mono ?_
      rintro e w' ⟨rfl, rfl⟩
      go_wp2_with fail
      refine (div_any _ _ _ ha hb h0).mono ?_
      rintro e w' ⟨rfl, rfl⟩
      go_wp2_with fail
      refine (mul_any _ _ _ l4 hb).mono ?_
      rintro e w' ⟨rfl, rfl⟩
      go_wp2_with fail
      go_ret
      exact ⟨rfl, rfl⟩
end Go.Proofs.Ytlaoaiffgbdnpaa
