import Derived.Test.YtfnnakignemifaaH5
namespace Go.Proofs.Ytfnnakignemifaa
open Go.RowKit

structure Box5i (w : World) (K N B I L : Int) (wx : World) : Prop where
  c0 : wx.cell? ⟨w.heap.size, 0, none⟩ = some (.int .i64 K)
  c1 : wx.cell? ⟨w.heap.size, 1, none⟩ = some (.int .i64 N)
  c2 : wx.cell? ⟨w.heap.size, 2, none⟩ = some (.int .i64 B)
  c3 : wx.cell? ⟨w.heap.size, 3, none⟩ = some (.int .i64 I)
  c4 : wx.cell? ⟨w.heap.size, 4, none⟩ = some (.int .i64 L)
  below : Below w.heap.size w wx
theorem Box5i.new {w : World} {K N B I L : Int} {t : TypeId} {w' : World} (hb : Below (w.alloc (.cells #[.int .i64 K, .int .i64 N, .int .i64 B, .int .i64 I, .int .i64 L] t)).heap.size (w.alloc (.cells #[.int .i64 K, .int .i64 N, .int .i64 B, .int .i64 I, .int .i64 L] t)) w') : Box5i w K N B I L w' := by
  refine ⟨?_, ?_, ?_, ?_, ?_, ((Below.refl _ _).alloc (Nat.le_refl _) _).trans (hb.mono (by simp))⟩
  · rw [hb.cell (p := ⟨w.heap.size, 0, none⟩) (by simp), cell_block (heap_new _ _)]; rfl
  · rw [hb.cell (p := ⟨w.heap.size, 1, none⟩) (by simp), cell_block (heap_new _ _)]; rfl
  · rw [hb.cell (p := ⟨w.heap.size, 2, none⟩) (by simp), cell_block (heap_new _ _)]; rfl
  · rw [hb.cell (p := ⟨w.heap.size, 3, none⟩) (by simp), cell_block (heap_new _ _)]; rfl
  · rw [hb.cell (p := ⟨w.heap.size, 4, none⟩) (by simp), cell_block (heap_new _ _)]; rfl

set_option maxHeartbeats 400000 in
theorem refHead_no (K N B I L : Int) (w : World) (h : ¬ Hok K N B I L) : Calls Try.prog 10 #[hdr K N B I L] w fun e w' => e = .returned (.tuple #[.string ⟨#[]⟩, .int .i64 1]) ∧ Below w.heap.size w w' := by
  by_cases hM : May K N B
  · by_cases i0 : I < 0
    · go_enter Try.func10, Try.ntmps10
      go_wp2_with fail
      refine (refMay_yes _ _ _ _ hM).mono ?_
      rintro e w1 ⟨rfl, hb⟩
      obtain ⟨c0, c1, c2, c3, c4, hbb⟩ := Box5i.new hb
      clear hb
      go_wp2_with fail
      go_ret2
      exact ⟨rfl, hbb⟩
    · by_cases iN : I < N
      · by_cases l0 : L < 0
        · go_enter Try.func10, Try.ntmps10
          go_wp2_with fail
          refine (refMay_yes _ _ _ _ hM).mono ?_
          rintro e w1 ⟨rfl, hb⟩
          obtain ⟨c0, c1, c2, c3, c4, hbb⟩ := Box5i.new hb
          clear hb
          go_wp2_with fail
          go_ret2
          exact ⟨rfl, hbb⟩
        · have lM : ¬ L ≤ 16384 := fun lM => h ⟨hM, by omega, by omega, by omega, lM⟩
          go_enter Try.func10, Try.ntmps10
          go_wp2_with fail
          refine (refMay_yes _ _ _ _ hM).mono ?_
          rintro e w1 ⟨rfl, hb⟩
          obtain ⟨c0, c1, c2, c3, c4, hbb⟩ := Box5i.new hb
          clear hb
          go_wp2_with fail
          go_ret2
          exact ⟨rfl, hbb⟩
      · go_enter Try.func10, Try.ntmps10
        go_wp2_with fail
        refine (refMay_yes _ _ _ _ hM).mono ?_
        rintro e w1 ⟨rfl, hb⟩
        obtain ⟨c0, c1, c2, c3, c4, hbb⟩ := Box5i.new hb
        clear hb
        go_wp2_with fail
        go_ret2
        exact ⟨rfl, hbb⟩
  · go_enter Try.func10, Try.ntmps10
    go_wp2_with fail
    refine (refMay_no _ _ _ _ hM).mono ?_
    rintro e w1 ⟨rfl, hb⟩
    obtain ⟨c0, c1, c2, c3, c4, hbb⟩ := Box5i.new hb
    clear hb
    go_wp2_with fail
    go_ret2
    exact ⟨rfl, hbb⟩

theorem hd14_flat (k n b i l : Nat) : (⟨#[77, 79, 83, 67]⟩ ++ bs k 1 ++ bs n 1 ++ bs i 1 ++ bs 0 1 ++ bs b 2 ++ bs l 4 : ByteArray) = hd14 k n b i l := by
  unfold hd14
  rw [ByteArray.append_assoc (c := bs l 4)]
theorem refWr (c n : Nat) (C : Int) (w : World) (hC : C = (c : Int)) (hc : c ≤ 4) (hn : n ≤ 4294967296) :
    Calls Try.prog 22 #[.int .i64 n, .int .i64 C] w fun e w' => e = .returned (.string (bs n c)) ∧ Below w.heap.size w w' := by
  subst hC; exact refWritten_any c n w hc hn
theorem refWr0 (w : World) :
    Calls Try.prog 22 #[.int .i64 0, .int .i64 1] w fun e w' => e = .returned (.string (bs 0 1)) ∧ Below w.heap.size w w' := refWritten_any 1 0 w (by omega) (by omega)

set_option maxHeartbeats 1000000 in
theorem refHead_yes (k n b i l : Nat) (w : World) (h : Hok k n b i l) : Calls Try.prog 10 #[hdr k n b i l] w fun e w' => e = .returned (.tuple #[.string (hd k n b i l), .int .i64 0]) ∧ Below w.heap.size w w' := by
  obtain ⟨hM, i0, iN, l0, lM⟩ := h
  have hn32 := hM.n32
  have hkn := hM.kn
  have hb256 := hM.b256
  go_enter Try.func10, Try.ntmps10
  go_wp2_with fail
  refine (refMay_yes _ _ _ _ hM).mono ?_
  rintro e w1 ⟨rfl, hb⟩
  have hS := (Box5.new w k n b i l 28).go hb
  have c0 := hS.c0
  have c1 := hS.c1
  have c2 := hS.c2
  have c3 := hS.c3
  have c4 := hS.c4
  clear hb
  go_wp2_with fail
  have sk := bs_size k 1
  have sn := bs_size n 1
  have si := bs_size i 1
  have s0 := bs_size 0 1
  have sb2 := bs_size b 2
  have sl4 := bs_size l 4
  have hS := hS.drew
  go_region_held3 (fun w' => w'.cell? ⟨w.heap.size, 0, none⟩ = some (.int .i64 k) ∧ w'.cell? ⟨w.heap.size, 1, none⟩ = some (.int .i64 n) ∧ w'.cell? ⟨w.heap.size, 2, none⟩ = some (.int .i64 b) ∧ w'.cell? ⟨w.heap.size, 3, none⟩ = some (.int .i64 i) ∧ w'.cell? ⟨w.heap.size, 4, none⟩ = some (.int .i64 l)) (exact ⟨hS.c0, hS.c1, hS.c2, hS.c3, hS.c4⟩) (first | (go_at_call 22; (first | with_reducible refine (refWr 1 k 1 _ rfl (by omega) (by omega)).mono ?_ | with_reducible refine (refWr 1 n 1 _ rfl (by omega) (by omega)).mono ?_ | with_reducible refine (refWr 1 i 1 _ rfl (by omega) (by omega)).mono ?_ | with_reducible refine (refWr0 _).mono ?_ | with_reducible refine (refWr 2 b 2 _ rfl (by omega) (by omega)).mono ?_ | with_reducible refine (refWr 4 l 4 _ rfl (by omega) (by omega)).mono ?_); rintro e w2 ⟨rfl, hb2⟩; have hS := hS.go hb2; clear hb2))
  clear c0 c1 c2 c3 c4
  go_wp2_with fail
  rw [hd14_flat]
  clear sb2 sl4 sk sn si s0
  have s14 := hd14_size k n b i l
  refine (refSum_any _ _ (by omega)).mono ?_
  rintro e w3 ⟨rfl, hb3⟩
  have hS := hS.go hb3
  have e1 : 4294967295 - Gk.crc (sb (hd14 k n b i l)) (hd14 k n b i l).size = sumOf (hd14 k n b i l) := rfl
  rw [e1]
  clear e1
  have hsl := sumOf_le (hd14 k n b i l)
  have s4 := bs_size (sumOf (hd14 k n b i l)) 4
  go_wp2_with fail
  refine (refWr 4 _ 4 _ rfl (by omega) (by omega)).mono ?_
  rintro e w4 ⟨rfl, hb4⟩
  have hS := hS.go hb4
  go_wp2_with fail
  go_ret2
  exact ⟨rfl, hS.below⟩
end Go.Proofs.Ytfnnakignemifaa
