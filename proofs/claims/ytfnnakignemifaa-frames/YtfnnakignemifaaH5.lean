import Derived.Test.YtfnnakignemifaaH4
namespace Go.Proofs.Ytfnnakignemifaa
open Go.RowKit

/-- a header lies in a block of its own -/
structure Box5 (w : World) (k n b i l : Nat) (wx : World) : Prop where
  c0 : wx.cell? ⟨w.heap.size, 0, none⟩ = some (.int .i64 k)
  c1 : wx.cell? ⟨w.heap.size, 1, none⟩ = some (.int .i64 n)
  c2 : wx.cell? ⟨w.heap.size, 2, none⟩ = some (.int .i64 b)
  c3 : wx.cell? ⟨w.heap.size, 3, none⟩ = some (.int .i64 i)
  c4 : wx.cell? ⟨w.heap.size, 4, none⟩ = some (.int .i64 l)
  below : Below w.heap.size w wx
  lt : w.heap.size < wx.heap.size
theorem Box5.go {w : World} {k n b i l : Nat} {wx w' : World} (h : Box5 w k n b i l wx) (hb : Below wx.heap.size wx w') : Box5 w k n b i l w' := by
  have hl := h.lt
  have hs := hb.size
  refine ⟨?_, ?_, ?_, ?_, ?_, h.below.trans (hb.mono (by omega)), by omega⟩
  · rw [hb.cell (p := ⟨w.heap.size, 0, none⟩) hl]; exact h.c0
  · rw [hb.cell (p := ⟨w.heap.size, 1, none⟩) hl]; exact h.c1
  · rw [hb.cell (p := ⟨w.heap.size, 2, none⟩) hl]; exact h.c2
  · rw [hb.cell (p := ⟨w.heap.size, 3, none⟩) hl]; exact h.c3
  · rw [hb.cell (p := ⟨w.heap.size, 4, none⟩) hl]; exact h.c4
theorem Box5.drew {w : World} {k n b i l : Nat} {wx : World} (h : Box5 w k n b i l wx) : Box5 w k n b i l wx.drew := ⟨h.c0, h.c1, h.c2, h.c3, h.c4, h.below.drew, h.lt⟩
theorem Box5.new (w : World) (k n b i l : Nat) (t : TypeId) : Box5 w k n b i l (w.alloc (.cells #[.int .i64 k, .int .i64 n, .int .i64 b, .int .i64 i, .int .i64 l] t)) := by
  refine ⟨?_, ?_, ?_, ?_, ?_, (Below.refl _ _).alloc (Nat.le_refl _) _, by simp⟩ <;> (rw [cell_block (heap_new _ _)]; rfl)

theorem written1_0 (w : World) : Calls Try.prog 19 #[.int .i64 0, .int .i64 1] w fun e w' => e = .returned (.string (bs 0 1)) ∧ Below w.heap.size w w' := written1 0 w
set_option maxHeartbeats 400000 in
theorem head_yes (k n b i l : Nat) (w : World) (h : Hok k n b i l) : Calls Try.prog 9 #[hdr k n b i l] w fun e w' => e = .returned (.tuple #[.string (hd k n b i l), .int .i64 0]) ∧ Below w.heap.size w w' := by
  obtain ⟨hM, i0, iN, l0, lM⟩ := h
  have hn32 := hM.n32
  go_enter Try.func9, Try.ntmps9
  go_wp2_with fail
  refine (mayBe_yes _ _ _ _ hM).mono ?_
  rintro e w1 ⟨rfl, hb⟩
  have hS := (Box5.new w k n b i l 28).go hb
  have c0 := hS.c0
  have c1 := hS.c1
  have c3 := hS.c3
  have c4 := hS.c4
  clear hb
  go_wp2_with fail
  refine (within_yes _ _ _ _ i0 (by omega)).mono ?_
  rintro e w' ⟨rfl, rfl⟩
  go_wp2_with fail
  refine (within_yes _ _ _ _ l0 lM).mono ?_
  rintro e w' ⟨rfl, rfl⟩
  go_wp2_with fail
  have sk := bs_size k 1
  have sn := bs_size n 1
  have si := bs_size i 1
  have s0 := bs_size 0 1
  have hS := hS.drew
  go_region_held3 (fun w' => w'.cell? ⟨w.heap.size, 0, none⟩ = some (.int .i64 k) ∧ w'.cell? ⟨w.heap.size, 1, none⟩ = some (.int .i64 n) ∧ w'.cell? ⟨w.heap.size, 3, none⟩ = some (.int .i64 i)) (exact ⟨hS.c0, hS.c1, hS.c3⟩) (first | (go_at_call 19; (first | with_reducible refine (written1 k _).mono ?_ | with_reducible refine (written1 n _).mono ?_ | with_reducible refine (written1 i _).mono ?_ | with_reducible refine (written1_0 _).mono ?_); rintro e w2 ⟨rfl, hb2⟩; have hS := hS.go hb2; clear hb2))
  clear c0 c1 c3 c4 sk sn si s0
  go_wp2_with fail
  have c2 := hS.c2
  have c4 := hS.c4
  have sb2 := bs_size b 2
  have sl4 := bs_size l 4
  have sk := bs_size k 1
  have sn := bs_size n 1
  have si := bs_size i 1
  have s0 := bs_size 0 1
  have hS := hS.drew
  go_region_held3 (fun w' => w'.cell? ⟨w.heap.size, 2, none⟩ = some (.int .i64 b) ∧ w'.cell? ⟨w.heap.size, 4, none⟩ = some (.int .i64 l)) (exact ⟨hS.c2, hS.c4⟩) (first | (go_at_call 19; (first | with_reducible refine (written2 b _).mono ?_ | with_reducible refine (written4 l _).mono ?_); rintro e w2 ⟨rfl, hb2⟩; have hS := hS.go hb2; clear hb2))
  clear c2 c4
  go_wp2_with fail
  have e14 : (⟨#[77, 79, 83, 67]⟩ ++ bs k 1 ++ bs n 1 ++ bs i 1 ++ bs 0 1 ++ (bs b 2 ++ bs l 4) : ByteArray) = hd14 k n b i l := rfl
  rw [e14]
  clear e14 sb2 sl4 sk sn si s0
  have s14 := hd14_size k n b i l
  refine (writtenSum_any _ _ (by omega)).mono ?_
  rintro e w3 ⟨rfl, hb3⟩
  have hS := hS.go hb3
  have s4 := bs_size (sumOf (hd14 k n b i l)) 4
  go_wp2_with fail
  go_ret2
  exact ⟨rfl, hS.below⟩
end Go.Proofs.Ytfnnakignemifaa
