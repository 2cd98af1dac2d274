import Derived.Test.YtfnnakignemifaaH3
namespace Go.Proofs.Ytfnnakignemifaa
open Go.RowKit

/-- the sum of a string -/
def sumOf (s : ByteArray) : Nat := 4294967295 - Gk.crc (sb s) s.size
theorem sumOf_le (s : ByteArray) : sumOf s ≤ 4294967295 := by unfold sumOf; omega

theorem writtenSum_any (s : ByteArray) (w : World) (hs : s.size ≤ 140737488355328) : Calls Try.prog 20 #[.string s] w fun e w' => e = .returned (.string (bs (sumOf s) 4)) ∧ Below w.heap.size w w' := by
  have hle := sumOf_le s
  go_enter Try.func20, Try.ntmps20
  go_wp2_with fail
  refine (sum_any s _ hs).mono ?_
  rintro e w1 ⟨rfl, rfl⟩
  have e1 : 4294967295 - Gk.crc (sb s) s.size = sumOf s := rfl
  rw [e1]
  clear e1
  generalize hr : sumOf s = r at *
  have HR : Hid (sumOf s = r) := hr
  clear hr
  go_wp2_with fail
  refine (written4 r _).mono ?_
  rintro e w1 ⟨rfl, hb⟩
  go_wp2_with fail
  go_ret
  exact ⟨by rw [HR.out]; rfl, hb⟩

set_option maxHeartbeats 400000 in
theorem head_no (K N B I L : Int) (w : World) (h : ¬ Hok K N B I L) : Calls Try.prog 9 #[hdr K N B I L] w fun e w' => e = .returned (.tuple #[.string ⟨#[]⟩, .int .i64 1]) ∧ Below w.heap.size w w' := by
  by_cases hM : May K N B
  · have hN1 : 1 ≤ N := by have := hM.k1; have := hM.kn; omega
    have hN2 := hM.n32
    by_cases hI : 0 ≤ I ∧ I ≤ N - 1
    · have hL : ¬ (0 ≤ L ∧ L ≤ 16384) := fun hL => h ⟨hM, hI.1, by omega, hL.1, hL.2⟩
      go_enter Try.func9, Try.ntmps9
      go_wp2_with fail
      refine (mayBe_yes _ _ _ _ hM).mono ?_
      rintro e w1 ⟨rfl, hb⟩
      have hlt := hb.size
      simp only [World.size_alloc] at hlt hb
      have c1 : w1.cell? ⟨w.heap.size, 1, none⟩ = some (.int .i64 N) := (hb.cell (p := ⟨w.heap.size, 1, none⟩) (Nat.lt_succ_self _)).trans (by rw [cell_block (heap_new _ _)]; rfl)
      have c3 : w1.cell? ⟨w.heap.size, 3, none⟩ = some (.int .i64 I) := (hb.cell (p := ⟨w.heap.size, 3, none⟩) (Nat.lt_succ_self _)).trans (by rw [cell_block (heap_new _ _)]; rfl)
      have c4 : w1.cell? ⟨w.heap.size, 4, none⟩ = some (.int .i64 L) := (hb.cell (p := ⟨w.heap.size, 4, none⟩) (Nat.lt_succ_self _)).trans (by rw [cell_block (heap_new _ _)]; rfl)
      have hbb : Below w.heap.size w w1 := ((Below.refl _ _).alloc (Nat.le_refl _) _).trans (hb.mono (by omega))
      clear hb
      go_wp2_with fail
      refine (within_yes _ _ _ _ hI.1 hI.2).mono ?_
      rintro e w' ⟨rfl, rfl⟩
      go_wp2_with fail
      refine (within_no _ _ _ _ hL).mono ?_
      rintro e w' ⟨rfl, rfl⟩
      go_wp2_with fail
      go_ret2
      exact ⟨rfl, hbb⟩
    · go_enter Try.func9, Try.ntmps9
      go_wp2_with fail
      refine (mayBe_yes _ _ _ _ hM).mono ?_
      rintro e w1 ⟨rfl, hb⟩
      have hlt := hb.size
      simp only [World.size_alloc] at hlt hb
      have c1 : w1.cell? ⟨w.heap.size, 1, none⟩ = some (.int .i64 N) := (hb.cell (p := ⟨w.heap.size, 1, none⟩) (Nat.lt_succ_self _)).trans (by rw [cell_block (heap_new _ _)]; rfl)
      have c3 : w1.cell? ⟨w.heap.size, 3, none⟩ = some (.int .i64 I) := (hb.cell (p := ⟨w.heap.size, 3, none⟩) (Nat.lt_succ_self _)).trans (by rw [cell_block (heap_new _ _)]; rfl)
      have hbb : Below w.heap.size w w1 := ((Below.refl _ _).alloc (Nat.le_refl _) _).trans (hb.mono (by omega))
      clear hb
      go_wp2_with fail
      refine (within_no _ _ _ _ hI).mono ?_
      rintro e w' ⟨rfl, rfl⟩
      go_wp2_with fail
      go_ret2
      exact ⟨rfl, hbb⟩
  · go_enter Try.func9, Try.ntmps9
    go_wp2_with fail
    refine (mayBe_no _ _ _ _ hM).mono ?_
    rintro e w1 ⟨rfl, hb⟩
    have hlt := hb.size
    simp only [World.size_alloc] at hlt hb
    have hbb : Below w.heap.size w w1 := ((Below.refl _ _).alloc (Nat.le_refl _) _).trans (hb.mono (by omega))
    clear hb
    go_wp2_with fail
    go_ret2
    exact ⟨rfl, hbb⟩

/-- the first 14 bytes of a header -/
def hd14 (k n b i l : Nat) : ByteArray := ⟨#[77, 79, 83, 67]⟩ ++ bs k 1 ++ bs n 1 ++ bs i 1 ++ bs 0 1 ++ (bs b 2 ++ bs l 4)
theorem hd14_size (k n b i l : Nat) : (hd14 k n b i l).size = 14 := by simp [hd14, ByteArray.size_append, bs_size]; rfl
/-- a header's bytes -/
def hd (k n b i l : Nat) : ByteArray := hd14 k n b i l ++ bs (sumOf (hd14 k n b i l)) 4
theorem hd_size (k n b i l : Nat) : (hd k n b i l).size = 18 := by simp [hd, ByteArray.size_append, bs_size, hd14_size]

end Go.Proofs.Ytfnnakignemifaa
