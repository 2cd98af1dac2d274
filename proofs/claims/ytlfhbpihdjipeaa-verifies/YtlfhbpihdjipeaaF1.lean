import Derived.Test.YtlfhbpihdjipeaaHeadsWalk
namespace Go.Proofs.Ytlfhbpihdjipeaa
open Go.RowKit

/-- a frame that may be -/
structure Fok (I T : Int) (z : Nat) : Prop where
  i0 : 0 ≤ I
  i31 : I ≤ 31
  t0 : 0 ≤ T
  tM : T ≤ 16384
  z1 : 1 ≤ z
  z256 : z ≤ 256
/-- a frame's bytes -/
def fr (i t : Nat) (s : ByteArray) : ByteArray := bs t 4 ++ s ++ bs (sumOf (bs i 1 ++ (bs t 4 ++ s))) 4
theorem fr_size (i t : Nat) (s : ByteArray) : (fr i t s).size = s.size + 8 := by simp [fr, ByteArray.size_append, bs_size]; omega

set_option maxHeartbeats 400000 in
theorem frame_no (I T : Int) (s : ByteArray) (w : World) (h : ¬ Fok I T s.size) : Calls Try.prog 43 #[.int .i64 I, .int .i64 T, .string s] w fun e w' => e = .returned (.tuple #[.string ⟨#[]⟩, .int .i64 1]) ∧ Below w.heap.size w w' := by
  by_cases hI : 0 ≤ I ∧ I ≤ 31
  · by_cases hT : 0 ≤ T ∧ T ≤ 16384
    · have hZ : ¬ (1 ≤ (s.size : Int) ∧ (s.size : Int) ≤ 256) := fun hZ => h ⟨hI.1, hI.2, hT.1, hT.2, by omega, by omega⟩
      go_enter Try.func43, Try.ntmps43
      go_wp2_with fail
      refine (within_yes _ _ _ _ hI.1 hI.2).mono ?_
      rintro e w' ⟨rfl, rfl⟩
      go_wp2_with fail
      refine (within_yes _ _ _ _ hT.1 hT.2).mono ?_
      rintro e w' ⟨rfl, rfl⟩
      go_wp2_with fail
      refine (within_no _ _ _ _ hZ).mono ?_
      rintro e w' ⟨rfl, rfl⟩
      go_wp2_with fail
      go_ret2
      exact ⟨rfl, Below.refl _ _⟩
    · go_enter Try.func43, Try.ntmps43
      go_wp2_with fail
      refine (within_yes _ _ _ _ hI.1 hI.2).mono ?_
      rintro e w' ⟨rfl, rfl⟩
      go_wp2_with fail
      refine (within_no _ _ _ _ hT).mono ?_
      rintro e w' ⟨rfl, rfl⟩
      go_wp2_with fail
      go_ret2
      exact ⟨rfl, Below.refl _ _⟩
  · go_enter Try.func43, Try.ntmps43
    go_wp2_with fail
    refine (within_no _ _ _ _ hI).mono ?_
    rintro e w' ⟨rfl, rfl⟩
    go_wp2_with fail
    go_ret2
    exact ⟨rfl, Below.refl _ _⟩

set_option maxHeartbeats 400000 in
theorem frame_yes (i t : Nat) (s : ByteArray) (w : World) (h : Fok i t s.size) : Calls Try.prog 43 #[.int .i64 i, .int .i64 t, .string s] w fun e w' => e = .returned (.tuple #[.string (fr i t s), .int .i64 0]) ∧ Below w.heap.size w w' := by
  obtain ⟨i0, i31, t0, tM, z1, z256⟩ := h
  have s1 := bs_size i 1
  have s4 := bs_size t 4
  have Z1 : (1 : Int) ≤ (s.size : Int) := by omega
  have Z2 : (s.size : Int) ≤ 256 := by omega
  go_enter Try.func43, Try.ntmps43
  go_wp2_with fail
  refine (within_yes _ _ _ _ i0 i31).mono ?_
  rintro e w' ⟨rfl, rfl⟩
  go_wp2_with fail
  refine (within_yes _ _ _ _ t0 tM).mono ?_
  rintro e w' ⟨rfl, rfl⟩
  go_wp2_with fail
  refine (within_yes _ _ _ _ Z1 Z2).mono ?_
  rintro e w' ⟨rfl, rfl⟩
  go_wp2_with fail
  refine (written4 t _).mono ?_
  rintro e w1 ⟨rfl, hb1⟩
  go_wp2_with fail
  refine (written1 i _).mono ?_
  rintro e w2 ⟨rfl, hb2⟩
  have hB2 := hb1.trans (hb2.mono hb1.size)
  clear hb1 hb2
  go_wp2_with fail
  refine (writtenSum_any _ _ (by simp [ByteArray.size_append, s1, s4]; omega)).mono ?_
  rintro e w3 ⟨rfl, hb3⟩
  have hB3 := hB2.trans (hb3.mono hB2.size)
  clear hb3 hB2
  have s5 := bs_size (sumOf (bs i 1 ++ (bs t 4 ++ s))) 4
  go_wp2_with fail
  go_ret2
  exact ⟨rfl, hB3⟩

set_option maxHeartbeats 400000 in
theorem refFrame_no (I T : Int) (s : ByteArray) (w : World) (h : ¬ Fok I T s.size) : Calls Try.prog 23 #[.int .i64 I, .int .i64 T, .string s] w fun e w' => e = .returned (.tuple #[.string ⟨#[]⟩, .int .i64 1]) ∧ Below w.heap.size w w' := by
  by_cases i0 : I < 0
  · go_enter Try.func23, Try.ntmps23
    go_wp2
    go_ret2
    exact ⟨rfl, Below.refl _ _⟩
  · by_cases i31 : I ≤ 31
    · by_cases t0 : T < 0
      · go_enter Try.func23, Try.ntmps23
        go_wp2
        go_ret2
        exact ⟨rfl, Below.refl _ _⟩
      · by_cases tM : T ≤ 16384
        · by_cases z1 : (s.size : Int) < 1
          · go_enter Try.func23, Try.ntmps23
            go_wp2
            go_ret2
            exact ⟨rfl, Below.refl _ _⟩
          · have z256 : ¬ (s.size : Int) ≤ 256 := fun z => h ⟨by omega, i31, by omega, tM, by omega, by omega⟩
            go_enter Try.func23, Try.ntmps23
            go_wp2
            go_ret2
            exact ⟨rfl, Below.refl _ _⟩
        · go_enter Try.func23, Try.ntmps23
          go_wp2
          go_ret2
          exact ⟨rfl, Below.refl _ _⟩
    · go_enter Try.func23, Try.ntmps23
      go_wp2
      go_ret2
      exact ⟨rfl, Below.refl _ _⟩

set_option maxHeartbeats 400000 in
theorem refFrame_yes (i t : Nat) (s : ByteArray) (w : World) (h : Fok i t s.size) : Calls Try.prog 23 #[.int .i64 i, .int .i64 t, .string s] w fun e w' => e = .returned (.tuple #[.string (fr i t s), .int .i64 0]) ∧ Below w.heap.size w w' := by
  obtain ⟨i0, i31, t0, tM, z1, z256⟩ := h
  have s1 := bs_size i 1
  have s4 := bs_size t 4
  have Z1 : ¬ (s.size : Int) < 1 := by omega
  have Z2 : (s.size : Int) ≤ 256 := by omega
  go_enter Try.func23, Try.ntmps23
  go_wp2_with fail
  refine (refWr 1 i 1 _ rfl (by omega) (by omega)).mono ?_
  rintro e w1 ⟨rfl, hb1⟩
  go_wp2_with fail
  refine (refWr 4 t 4 _ rfl (by omega) (by omega)).mono ?_
  rintro e w2 ⟨rfl, hb2⟩
  have hB2 := hb1.trans (hb2.mono hb1.size)
  clear hb1 hb2
  go_wp2_with fail
  refine (refSum_any _ _ (by simp [ByteArray.size_append, s1, s4]; omega)).mono ?_
  rintro e w3 ⟨rfl, hb3⟩
  have hB3 := hB2.trans (hb3.mono hB2.size)
  clear hb3 hB2
  have e1 : 4294967295 - Gk.crc (sb (bs i 1 ++ bs t 4 ++ s)) (bs i 1 ++ bs t 4 ++ s).size = sumOf (bs i 1 ++ (bs t 4 ++ s)) := by rw [ByteArray.append_assoc]; rfl
  rw [e1]
  clear e1
  have hsl := sumOf_le (bs i 1 ++ (bs t 4 ++ s))
  have s5 := bs_size (sumOf (bs i 1 ++ (bs t 4 ++ s))) 4
  have HF : Hid (fr i t s = bs t 4 ++ s ++ bs (sumOf (bs i 1 ++ (bs t 4 ++ s))) 4) := rfl
  generalize sumOf (bs i 1 ++ (bs t 4 ++ s)) = r at *
  go_wp2_with fail
  refine (refWr 4 t 4 _ rfl (by omega) (by omega)).mono ?_
  rintro e w4 ⟨rfl, hb4⟩
  have hB4 := hB3.trans (hb4.mono hB3.size)
  clear hb4 hB3
  go_wp2_with fail
  refine (refWr 4 r 4 _ rfl (by omega) (by omega)).mono ?_
  rintro e w5 ⟨rfl, hb5⟩
  have hB5 := hB4.trans (hb5.mono hB4.size)
  clear hb5 hB4
  go_wp2_with fail
  go_ret2
  exact ⟨by rw [HF.out]; rfl, hB5⟩

/-- both ways of Frame answer the same -/
theorem frames_both (I T : Int) (s : ByteArray) : ∃ (r : ByteArray) (c : Int), (∀ w : World, Calls Try.prog 43 #[.int .i64 I, .int .i64 T, .string s] w fun e w' => e = .returned (.tuple #[.string r, .int .i64 c]) ∧ Below w.heap.size w w') ∧
    (∀ w : World, Calls Try.prog 23 #[.int .i64 I, .int .i64 T, .string s] w fun e w' => e = .returned (.tuple #[.string r, .int .i64 c]) ∧ Below w.heap.size w w') := by
  by_cases h : Fok I T s.size
  · obtain ⟨i, rfl⟩ := nat_of I h.i0
    obtain ⟨t, rfl⟩ := nat_of T h.t0
    exact ⟨_, _, fun w => frame_yes i t s w h, fun w => refFrame_yes i t s w h⟩
  · exact ⟨_, _, fun w => frame_no I T s w h, fun w => refFrame_no I T s w h⟩

end Go.Proofs.Ytlfhbpihdjipeaa
