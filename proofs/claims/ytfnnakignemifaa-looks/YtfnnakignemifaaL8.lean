import Derived.Test.YtfnnakignemifaaL7
namespace Go.Proofs.Ytfnnakignemifaa
open Go.RowKit

set_option maxHeartbeats 400000 in
theorem part_no (s : ByteArray) (i n : Nat) (w : World) (hi : i ≤ 10000000) (hn : n ≤ 10000000) (h : s.size < i + n) :
    Calls Try.prog 37 #[.string s, .int .i64 i, .int .i64 n] w fun e w' => e = .returned (.string ⟨#[]⟩) ∧ w' = w := by
  have h1 : (s.size : Int) < (i : Int) + (n : Int) := by omega
  go_enter Try.func37, Try.ntmps37
  go_wp2
  go_ret
  exact ⟨rfl, rfl⟩
set_option maxHeartbeats 400000 in
theorem part_yes (s : ByteArray) (i n : Nat) (w : World) (hi : i ≤ 10000000) (hn : n ≤ 10000000) (h : i + n ≤ s.size) :
    Calls Try.prog 37 #[.string s, .int .i64 i, .int .i64 n] w fun e w' => e = .returned (.string (s.extract i (i + n))) ∧ w' = w := by
  have h1 : ¬ (s.size : Int) < (i : Int) + (n : Int) := by omega
  have h2 : (i : Int) + (n : Int) ≤ (s.size : Int) := by omega
  have h3 : ((i : Int) + (n : Int)).toNat = i + n := by omega
  go_enter Try.func37, Try.ntmps37
  go_wp2
  go_ret
  exact ⟨rfl, rfl⟩

set_option maxHeartbeats 400000 in
theorem refNumber_any (f : ByteArray) (a c : Nat) (w : World) (hc : c ≤ 4) (h : a + c ≤ f.size) :
    Calls Try.prog 38 #[.string (f.extract a (a + c))] w fun e w' => e = .returned (.int .i64 (numAt f a c : Nat)) ∧ w' = w := by
  have hsz : (f.extract a (a + c)).size = c := by rw [ByteArray.size_extract]; omega
  have HB : Hid (∀ j, j < c → sb (f.extract a (a + c)) j = sb f (a + j)) := fun j hj => sb_extract f a (a + c) j h (by omega)
  generalize f.extract a (a + c) = r at *
  go_enter Try.func38, Try.ntmps38
  go_wp2_with fail
  go_loopw [3, 4] (fun n j w' => ∃ m : Nat, m ≤ c ∧ n = .int .i64 ((numAt f a m : Nat) : Int) ∧ j = .int .i64 m ∧ w' = w) (fun _ j _ => (c - intOf j).toNat)
  case atStart => exact ⟨0, by omega, rfl, rfl, rfl⟩
  case round =>
    obtain ⟨m, hm, rfl, rfl, rfl⟩ := hrel
    by_cases hlt : m < c
    · have hr : m < r.size := by omega
      have eB : r[m].toNat = sb f (a + m) := (sb_at r m hr).trans (HB.out m hlt)
      have h256 := sb_lt f (a + m)
      have hn : numAt f a m < 16777216 := by
        have h1 := numAt_lt f a m
        have h2 : (256 : Nat) ^ m ≤ 256 ^ 3 := Nat.pow_le_pow_right (by decide) (by omega)
        have h3 : (256 : Nat) ^ 3 = 16777216 := by decide
        omega
      have HN : Hid (numAt f a (m + 1) = numAt f a m * 256 + sb f (a + m)) := rfl
      generalize numAt f a m = n at *
      generalize sb f (a + m) = x at *
      go_wp2
      go_roundw
      case rel => exact ⟨m + 1, by omega, by rw [HN.out]; go_num, by go_num, trivial⟩
      case measure => simp [intOf]; omega
    · have hmc : m = c := by omega
      subst hmc
      go_wp2
      go_ret
      exact ⟨rfl, rfl⟩

set_option maxHeartbeats 400000 in
theorem refGood_short (f : ByteArray) (k n b i l t : Nat) (w : World) (hb : 1 ≤ b) (hb2 : b ≤ 256) (ht : t ≤ 16384) (h : f.size < pos b t + (b + 8)) :
    Calls Try.prog 28 #[.string f, hdr k n b i l, .int .i64 t] w fun e w' => (∃ s, e = .returned (.tuple #[.string s, .bool false])) ∧ Below w.heap.size w w' := by
  have hbox := Box5.new w k n b i l 28
  have c2 := hbox.c2
  have c3 := hbox.c3
  have hB := hbox.below
  have hp : t * (b + 8) ≤ 16384 * 264 := Nat.mul_le_mul ht (by omega)
  have M : Hid ((t : Int) * ((b : Int) + 8) = ((t * (b + 8) : Nat) : Int)) := by show _ = _; simp
  have h' : f.size < 18 + t * (b + 8) + (b + 8) := h
  generalize t * (b + 8) = y at *
  have m : (t : Int) * ((b : Int) + 8) = (y : Int) := M.out
  have HP1 : Hid (∀ w, Calls Try.prog 37 #[.string f, .int .i64 (18 + (y : Int)), .int .i64 ((b : Int) + 8)] w fun e w' => e = .returned (.string ⟨#[]⟩) ∧ w' = w) := by
    intro w
    have := part_no f (18 + y) (b + 8) w (by omega) (by omega) h'
    simpa using this
  have HP2 : Hid (∀ w, Calls Try.prog 37 #[.string ⟨#[]⟩, .int .i64 4, .int .i64 b] w fun e w' => e = .returned (.string ⟨#[]⟩) ∧ w' = w) := by
    intro w
    exact part_no ⟨#[]⟩ 4 b w (by omega) (by omega) (by show 0 < 4 + b; omega)
  go_enter Try.func28, Try.ntmps28
  go_wp2_with fail
  refine (HP1.out _).mono ?_
  rintro e w1 ⟨rfl, rfl⟩
  go_wp2_with fail
  refine (HP2.out _).mono ?_
  rintro e w1 ⟨rfl, rfl⟩
  go_wp2_with fail
  refine (refFrame_no i t ⟨#[]⟩ _ (fun hf => by have := hf.z1; exact absurd this (by show ¬ 1 ≤ 0; omega))).mono ?_
  rintro e w2 ⟨rfl, hb3⟩
  have hB2 := hB.trans (hb3.mono (by simp))
  clear hb3
  go_wp2_with fail
  go_ret2
  exact ⟨⟨_, rfl⟩, hB2⟩

set_option maxHeartbeats 400000 in
theorem refGood_ok (f : ByteArray) (k n b i l t : Nat) (w : World) (hb : 1 ≤ b) (hb2 : b ≤ 256) (hi : i ≤ 31) (ht : t ≤ 16384) (h : pos b t + (b + 8) ≤ f.size) :
    Calls Try.prog 28 #[.string f, hdr k n b i l, .int .i64 t] w fun e w' => (∃ s, e = .returned (.tuple #[.string s, .bool ((fr i t (f.extract (pos b t + 4) (pos b t + (4 + b)))).toList == (f.extract (pos b t) (pos b t + (b + 8))).toList)])) ∧ Below w.heap.size w w' := by
  have hbox := Box5.new w k n b i l 28
  have c2 := hbox.c2
  have c3 := hbox.c3
  have hB := hbox.below
  have hp : t * (b + 8) ≤ 16384 * 264 := Nat.mul_le_mul ht (by omega)
  have M : Hid ((t : Int) * ((b : Int) + 8) = ((t * (b + 8) : Nat) : Int)) := by show _ = _; simp
  have HY : Hid (pos b t = 18 + t * (b + 8)) := rfl
  have h' : 18 + t * (b + 8) + (b + 8) ≤ f.size := h
  generalize hyy : t * (b + 8) = y at *
  have m : (t : Int) * ((b : Int) + 8) = (y : Int) := M.out
  clear hyy
  have HP1 : Hid (∀ w, Calls Try.prog 37 #[.string f, .int .i64 (18 + (y : Int)), .int .i64 ((b : Int) + 8)] w fun e w' => e = .returned (.string (f.extract (18 + y) (18 + y + (b + 8)))) ∧ w' = w) := by
    intro w
    have := part_yes f (18 + y) (b + 8) w (by omega) (by omega) h'
    simpa using this
  have hfs : (f.extract (18 + y) (18 + y + (b + 8))).size = b + 8 := by rw [ByteArray.size_extract]; omega
  have HP2 : Hid (∀ w, Calls Try.prog 37 #[.string (f.extract (18 + y) (18 + y + (b + 8))), .int .i64 4, .int .i64 b] w fun e w' => e = .returned (.string (f.extract (18 + y + 4) (18 + y + (4 + b)))) ∧ w' = w) := by
    intro w
    have := part_yes (f.extract (18 + y) (18 + y + (b + 8))) 4 b w (by omega) (by omega) (by omega)
    rw [ext_ext f (18 + y) _ 4 (4 + b) (by omega)] at this
    exact this
  have hbs : (f.extract (18 + y + 4) (18 + y + (4 + b))).size = b := by rw [ByteArray.size_extract]; omega
  generalize hF : f.extract (18 + y) (18 + y + (b + 8)) = F at *
  generalize hBk : f.extract (18 + y + 4) (18 + y + (4 + b)) = Bk at *
  have HF : Hid (f.extract (18 + y) (18 + y + (b + 8)) = F) := hF
  have HBk : Hid (f.extract (18 + y + 4) (18 + y + (4 + b)) = Bk) := hBk
  clear hF hBk
  go_enter Try.func28, Try.ntmps28
  go_wp2_with fail
  refine (HP1.out _).mono ?_
  rintro e w1 ⟨rfl, rfl⟩
  go_wp2_with fail
  refine (HP2.out _).mono ?_
  rintro e w1 ⟨rfl, rfl⟩
  go_wp2_with fail
  refine (refFrame_yes i t Bk _ ⟨by omega, by omega, by omega, by omega, by omega, by omega⟩).mono ?_
  rintro e w2 ⟨rfl, hb3⟩
  have hB2 := hB.trans (hb3.mono (by simp))
  clear hb3
  go_wp2_with fail
  go_ret2
  refine ⟨⟨Bk, ?_⟩, hB2⟩
  rw [HY.out, HF.out, HBk.out]
  rfl
end Go.Proofs.Ytfnnakignemifaa
