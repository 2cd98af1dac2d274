import Derived.Test.YtlfhbpihdjipeaaL8
namespace Go.Proofs.Ytlfhbpihdjipeaa
open Go.RowKit

theorem refHeadA (k n b i l : Nat) : ∃ s c, (∀ w : World, Calls Try.prog 22 #[hdr k n b i l] w fun e w' => e = .returned (.tuple #[.string s, .int .i64 c]) ∧ Below w.heap.size w w') ∧ (Hok k n b i l → s = hd k n b i l ∧ c = 0) ∧ (¬ Hok k n b i l → c = 1) := by
  by_cases h : Hok k n b i l
  · exact ⟨_, _, fun w => refHead_yes k n b i l w h, fun _ => ⟨rfl, rfl⟩, fun h' => absurd h h'⟩
  · exact ⟨_, _, fun w => refHead_no k n b i l w h, fun h' => absurd h' h, fun _ => rfl⟩

set_option maxHeartbeats 400000 in
theorem refHd_short (f : ByteArray) (w : World) (h : ¬ 18 ≤ f.size) :
    Calls Try.prog 13 #[.string f] w fun e w' => e = .returned (.tuple #[hdr 0 0 0 0 0, .bool false]) ∧ Below w.heap.size w w' := by
  go_enter Try.func13, Try.ntmps13
  go_wp2_with fail
  refine (part_no f 0 18 _ (by omega) (by omega) (by omega)).mono ?_
  rintro e w1 ⟨rfl, rfl⟩
  go_wp2_with fail
  refine bodyPost_ret (v := .tuple #[hdr 0 0 0 0 0, .bool false]) ?_ rfl ⟨rfl, (Below.refl _ _).alloc (Nat.le_refl _) _⟩
  simp [results, Try.results13, go_sem]

theorem numAt_one (f : ByteArray) (a : Nat) : numAt f a 1 = sb f a := by simp [numAt]

set_option maxHeartbeats 400000 in
theorem refHd_ok (f : ByteArray) (w : World) (h : 18 ≤ f.size) :
    Calls Try.prog 13 #[.string f] w fun e w' => (∃ G : Bool, (G = true ↔ Gd f) ∧ e = .returned (.tuple #[hdr (numAt f 4 1) (numAt f 5 1) (numAt f 8 2) (numAt f 6 1) (numAt f 10 4), .bool G])) ∧ Below w.heap.size w w' := by
  obtain ⟨s, c, hH, hy, hn⟩ := refHeadA (numAt f 4 1) (numAt f 5 1) (numAt f 8 2) (numAt f 6 1) (numAt f 10 4)
  have HH : Hid (∀ w : World, Calls Try.prog 22 #[hdr (numAt f 4 1) (numAt f 5 1) (numAt f 8 2) (numAt f 6 1) (numAt f 10 4)] w fun e w' => e = .returned (.tuple #[.string s, .int .i64 c]) ∧ Below w.heap.size w w') := hH
  have HY : Hid (Hok (numAt f 4 1) (numAt f 5 1) (numAt f 8 2) (numAt f 6 1) (numAt f 10 4) → s = hd (numAt f 4 1) (numAt f 5 1) (numAt f 8 2) (numAt f 6 1) (numAt f 10 4) ∧ c = 0) := hy
  have HN : Hid (¬ Hok (numAt f 4 1) (numAt f 5 1) (numAt f 8 2) (numAt f 6 1) (numAt f 10 4) → c = 1) := hn
  clear hH hy hn
  have hsz : (f.extract 0 18).size = 18 := by rw [ByteArray.size_extract]; omega
  have x1 : (f.extract 0 18).extract 8 10 = f.extract 8 10 := by have := ext_ext f 0 18 8 10 (by omega); simpa using this
  have x2 : (f.extract 0 18).extract 10 14 = f.extract 10 14 := by have := ext_ext f 0 18 10 14 (by omega); simpa using this
  have y4 : (f.extract 0 18)[4].toNat = numAt f 4 1 := by rw [numAt_one, sb_at _ 4 (by omega), sb_extract f 0 18 4 (by omega) (by omega)]
  have y5 : (f.extract 0 18)[5].toNat = numAt f 5 1 := by rw [numAt_one, sb_at _ 5 (by omega), sb_extract f 0 18 5 (by omega) (by omega)]
  have y6 : (f.extract 0 18)[6].toNat = numAt f 6 1 := by rw [numAt_one, sb_at _ 6 (by omega), sb_extract f 0 18 6 (by omega) (by omega)]
  have hne : ((f.extract 0 18).toList == (⟨#[]⟩ : ByteArray).toList) = false := by
    apply Bool.eq_false_iff.2
    intro hh
    rw [beq_str] at hh
    have : (f.extract 0 18).size = 0 := by rw [hh]; rfl
    omega
  have hne2 : (f.extract 0 18).toList.isEmpty = false := by
    apply Bool.eq_false_iff.2
    intro hh
    have h0 : (f.extract 0 18).toList = [] := by simpa using hh
    rw [ByteArray.toList_eq] at h0
    have : (f.extract 0 18).size = 0 := by
      show (f.extract 0 18).data.size = 0
      rw [← Array.length_toList, h0]; rfl
    omega
  have b4 : numAt f 4 1 < 256 := by rw [numAt_one]; exact sb_lt _ _
  have b5 : numAt f 5 1 < 256 := by rw [numAt_one]; exact sb_lt _ _
  have b6 : numAt f 6 1 < 256 := by rw [numAt_one]; exact sb_lt _ _
  clear hne
  go_enter Try.func13, Try.ntmps13
  go_wp2_with fail
  refine (part_yes f 0 18 _ (by omega) (by omega) (by omega)).mono ?_
  rintro e w1 ⟨rfl, rfl⟩
  go_wp2_with fail
  refine (refNumber_any f 8 2 _ (by omega) (by omega)).mono ?_
  rintro e w1 ⟨rfl, rfl⟩
  go_wp2_with fail
  refine (refNumber_any f 10 4 _ (by omega) (by omega)).mono ?_
  rintro e w1 ⟨rfl, rfl⟩
  go_wp2_with fail
  refine (HH.out _).mono ?_
  rintro e w2 ⟨rfl, hb⟩
  have hl := hb.size
  simp only [World.size_alloc] at hl
  have hk := heap_new (w.alloc (.cells z5 33)) (.cells #[.int .i64 (numAt f 4 1), .int .i64 (numAt f 5 1), .int .i64 (numAt f 8 2), .int .i64 (numAt f 6 1), .int .i64 (numAt f 10 4)] 33)
  rw [World.size_alloc] at hk
  have B1 : w2.heap[w.heap.size + 1]? = some (.cells #[.int .i64 (numAt f 4 1), .int .i64 (numAt f 5 1), .int .i64 (numAt f 8 2), .int .i64 (numAt f 6 1), .int .i64 (numAt f 10 4)] 33) := by
    rw [hb.block _ (by simp)]; exact hk
  have B0 : w2.heap[w.heap.size]? = some (.cells z5 33) := by
    rw [hb.block _ (by simp; omega)]; exact heap_past (heap_new _ _) _
  have HB : Below w.heap.size w w2 := (((Below.refl _ _).alloc (Nat.le_refl _) _).alloc (by simp) _).trans (hb.mono (by simp; omega))
  clear hb hk hl
  have d0 : w2.cell? ⟨w.heap.size + 1, 0, none⟩ = some (.int .i64 (numAt f 4 1)) := cell_block B1
  have d1 : w2.cell? ⟨w.heap.size + 1, 1, none⟩ = some (.int .i64 (numAt f 5 1)) := cell_block B1
  have d2 : w2.cell? ⟨w.heap.size + 1, 2, none⟩ = some (.int .i64 (numAt f 8 2)) := cell_block B1
  have d3 : w2.cell? ⟨w.heap.size + 1, 3, none⟩ = some (.int .i64 (numAt f 6 1)) := cell_block B1
  have d4 : w2.cell? ⟨w.heap.size + 1, 4, none⟩ = some (.int .i64 (numAt f 10 4)) := cell_block B1
  have r0 : w2.cell? ⟨w.heap.size, 0, none⟩ = some (.int .i64 0) := cell_block B0
  have r1 : w2.cell? ⟨w.heap.size, 1, none⟩ = some (.int .i64 0) := cell_block B0
  have r2 : w2.cell? ⟨w.heap.size, 2, none⟩ = some (.int .i64 0) := cell_block B0
  have r3 : w2.cell? ⟨w.heap.size, 3, none⟩ = some (.int .i64 0) := cell_block B0
  have r4 : w2.cell? ⟨w.heap.size, 4, none⟩ = some (.int .i64 0) := cell_block B0
  have z0 : w2.frozen? ⟨w.heap.size, 0, none⟩ = false := frozen_block B0
  have z1 : w2.frozen? ⟨w.heap.size, 1, none⟩ = false := frozen_block B0
  have z2 : w2.frozen? ⟨w.heap.size, 2, none⟩ = false := frozen_block B0
  have z3 : w2.frozen? ⟨w.heap.size, 3, none⟩ = false := frozen_block B0
  have z4 : w2.frozen? ⟨w.heap.size, 4, none⟩ = false := frozen_block B0
  have HB2 : Below w.heap.size w (set5 w2 w.heap.size (numAt f 4 1) (numAt f 5 1) (numAt f 8 2) (numAt f 6 1) (numAt f 10 4)) := ((((HB.setCell (p := ⟨w.heap.size, 0, none⟩) (Nat.le_refl _) _).setCell (p := ⟨w.heap.size, 1, none⟩) (Nat.le_refl _) _).setCell (p := ⟨w.heap.size, 2, none⟩) (Nat.le_refl _) _).setCell (p := ⟨w.heap.size, 3, none⟩) (Nat.le_refl _) _).setCell (p := ⟨w.heap.size, 4, none⟩) (Nat.le_refl _) _
  clear B1 B0 HB x1 x2 y4 y5 y6 hne2
  by_cases hk : Hok (numAt f 4 1) (numAt f 5 1) (numAt f 8 2) (numAt f 6 1) (numAt f 10 4)
  · obtain ⟨rfl, rfl⟩ := HY.out hk
    have HK : Hid (Hok (numAt f 4 1) (numAt f 5 1) (numAt f 8 2) (numAt f 6 1) (numAt f 10 4)) := hk
    clear hk
    go_wp2_with fail
    refine bodyPost_ret (v := .tuple #[hdr (numAt f 4 1) (numAt f 5 1) (numAt f 8 2) (numAt f 6 1) (numAt f 10 4), .bool ((hd (numAt f 4 1) (numAt f 5 1) (numAt f 8 2) (numAt f 6 1) (numAt f 10 4)).toList == (f.extract 0 18).toList)]) ?_ rfl ⟨⟨_, ?_, rfl⟩, HB2⟩
    · simp [results, Try.results13, go_sem, r0, r1, r2, r3, r4]
    · rw [beq_str]
      exact ⟨fun hh => ⟨HK.out, hh⟩, fun hh => hh.2⟩
  · obtain rfl := HN.out hk
    have HK : Hid (¬ Hok (numAt f 4 1) (numAt f 5 1) (numAt f 8 2) (numAt f 6 1) (numAt f 10 4)) := hk
    clear hk
    go_wp2_with fail
    refine bodyPost_ret (v := .tuple #[hdr (numAt f 4 1) (numAt f 5 1) (numAt f 8 2) (numAt f 6 1) (numAt f 10 4), .bool false]) ?_ rfl ⟨⟨_, ?_, rfl⟩, HB2⟩
    · simp [results, Try.results13, go_sem, r0, r1, r2, r3, r4]
    · exact ⟨fun hh => (by cases hh), fun hh => absurd hh.1 HK.out⟩
end Go.Proofs.Ytlfhbpihdjipeaa
