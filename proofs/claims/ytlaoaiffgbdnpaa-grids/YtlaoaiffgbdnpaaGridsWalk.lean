import Derived.Test.YtlaoaiffgbdnpaaGen5
namespace Go.Proofs.Ytlaoaiffgbdnpaa
open Go.RowKit
set_option linter.unusedVariables false

set_option maxHeartbeats 1000000 in
theorem grids_bad (K N : Int) (w : World) (h : K < 1 ∨ N < K ∨ 32 < N) :
    Calls Try.prog 6 #[.int .i64 K, .int .i64 N] w fun e w' => e = .returned (.bool true) ∧ Below w.heap.size w w' := by
  go_enter Try.func6, Try.ntmps6
  go_wp2_with fail
  refine (refGen_bad K N _ h).mono ?_
  rintro e w1 ⟨rfl, rfl⟩
  go_wp2_with fail
  refine (gen_bad K N _ h).mono ?_
  rintro e w1 ⟨rfl, rfl⟩
  go_wp2_with fail
  refine (gen_bad K N _ h).mono ?_
  rintro e w1 ⟨rfl, rfl⟩
  go_wp2_with fail
  refine (sameRows_nil _).mono ?_
  rintro e w1 ⟨rfl, rfl⟩
  go_wp2_with fail
  refine (sameRows_nil _).mono ?_
  rintro e w1 ⟨rfl, rfl⟩
  go_wp2_with fail
  refine (rowsOf_nil _).mono ?_
  rintro e w1 ⟨rfl, rfl⟩
  go_wp2_with fail
  refine (mixed_nil _).mono ?_
  rintro e w1 ⟨rfl, rfl⟩
  go_wp2_with fail
  go_ret
  exact ⟨rfl, Below.refl _ _⟩

theorem gen_rows32 (k n : Nat) (hk : k ≤ 32) : ∀ x ∈ Gf.gen k n, x.length ≤ 32 := by
  intro x hx
  simp only [Gf.gen, List.mem_map] at hx
  obtain ⟨i, _, rfl⟩ := hx
  rw [Gf.genRow_length]; exact hk

theorem rowsV_block (g k n i gg : Nat) (r : Value) (h : (rowsV g k n)[i]? = some r) (hb : r.ownBlock = some gg) : gg = g + 1 + i ∧ i < n := by
  have hi : i < n := by have := (List.getElem?_eq_some_iff.1 h).1; rw [rowsV_length] at this; exact this
  rw [rowsV_at g k n i hi] at h
  simp only [Option.some.injEq] at h
  subst h
  simp only [Value.ownBlock, Option.some.injEq] at hb
  exact ⟨hb.symm, hi⟩

set_option maxHeartbeats 2000000 in
theorem grids_good (k n : Nat) (w : World) (hk : 1 ≤ k) (hkn : k ≤ n) (hn : n ≤ 32) :
    Calls Try.prog 6 #[.int .i64 k, .int .i64 n] w fun e w' => e = .returned (.bool true) ∧ Below w.heap.size w w' := by
  have HL := gen_rows32 k n (by omega)
  have HGL : Hid ((Gf.gen k n).length = n) := Gf.gen_length k n
  go_enter Try.func6, Try.ntmps6
  go_wp2_with fail
  refine (refGen_good k n _ hk hkn hn).mono ?_
  rintro e w1 ⟨v1, vs1, rfl, hb1, hM1⟩
  obtain ⟨gw, cw, rfl⟩ : ∃ g c, v1 = .slice (some ⟨g, 0, none⟩) n c := by
    have := hM1.top
    rw [HGL.out] at this
    rcases this.2 with ⟨_, h0⟩ | ⟨g, c, cur, h, _⟩
    · omega
    · exact ⟨g, c, h⟩
  have s1 := hb1.size
  go_wp2_with fail
  refine (gen_good k n _ hk hkn hn).mono ?_
  rintro e w2 ⟨rfl, hS2⟩
  have hM2 := gen_mat hS2 hn hkn
  have s2 := hS2.size
  have S2 : Hid (w2.heap.size = w1.heap.size + 1 + n) := s2
  have s2' : w1.heap.size + 1 + n ≤ w2.heap.size := by omega
  have s2'' : w2.heap.size ≤ w1.heap.size + 1 + n := by omega
  have b12 := hS2.below
  have HS2 := hS2.top
  have T2 : Hid (w2.heap[w1.heap.size]? = some (.cells (splice (List.replicate n (.slice none 0 0)) 0 (rowsV w1.heap.size k n)).toArray 27 (0, 0))) := HS2
  clear s2 hS2 HS2
  go_wp2_with fail
  refine (gen_good k n _ hk hkn hn).mono ?_
  rintro e w3 ⟨rfl, hS3⟩
  have hM3 := gen_mat hS3 hn hkn
  have s3 := hS3.size
  have s3' : w2.heap.size + 1 + n ≤ w3.heap.size := by omega
  have b23 := hS3.below
  have HS3 := hS3.top
  have T3 : Hid (w3.heap[w2.heap.size]? = some (.cells (splice (List.replicate n (.slice none 0 0)) 0 (rowsV w2.heap.size k n)).toArray 27 (0, 0))) := HS3
  have b13 : Below w1.heap.size w1 w3 := b12.trans (b23.mono (by omega))
  have hM1' := hM1.below b13
  have hM2' := hM2.below b23
  clear s3 hS3 HS3 hM1 hM2
  go_wp2_with fail
  refine (sameRows_pos _ _ _ _ n _ _ _ _ _ _ HGL.out hn HL hM2' hM1').mono ?_
  rintro e w4 ⟨rfl, h4, b4⟩
  have H4 : Hid (w4.heap = w3.heap) := h4
  have hM1'' := hM1'.below (w' := w4) b4
  have hM3'' := hM3.below (w' := w4) b4
  have hM2'' := hM2'.below (w' := w4) b4
  clear h4
  go_wp2_with fail
  refine (sameRows_pos _ _ _ _ n _ _ _ _ _ _ HGL.out hn HL hM3'' hM1'').mono ?_
  rintro e w5 ⟨rfl, h5, b5⟩
  have H5 : Hid (w5.heap = w3.heap) := h5.trans H4.out
  have b45 : Below w4.heap.size w4 w5 := b5
  have b35 : Below w3.heap.size w3 w5 := b4.trans (by rw [H4.out] at b45; exact b45)
  have hA := hM2'.below b35
  have hB := hM3.below b35
  have s5 := b35.size
  have T2' : Hid (w5.heap[w1.heap.size]? = some (.cells (splice (List.replicate n (.slice none 0 0)) 0 (rowsV w1.heap.size k n)).toArray 27 (0, 0))) := by show _ = _; rw [H5.out, b23.block _ (by omega)]; exact T2.out
  have T3' : Hid (w5.heap[w2.heap.size]? = some (.cells (splice (List.replicate n (.slice none 0 0)) 0 (rowsV w2.heap.size k n)).toArray 27 (0, 0))) := by show _ = _; rw [H5.out]; exact T3.out
  have b05 : Below w.heap.size w w5 := (hb1.trans (b13.mono s1)).trans (b35.mono (by omega))
  clear h5 b5 b45 b4 hM1' hM2' hM1'' hM3'' hM2'' hM3 H4 H5 T2 T3
  go_wp2_with fail
  refine (rowsOf_pos _ _ _ _ n _ _ _ _ _ _ _ HGL.out HGL.out hn (by omega) hA hB).mono ?_
  rintro e w6 ⟨A, cap, rfl, b56, ho6⟩
  have s6 := b56.size
  have hAlt := ho6.lt A rfl
  have hPh : Ph w6 w1.heap.size A cap (entsA (rowsV w1.heap.size k n) 1 n ++ entsA (rowsV w2.heap.size k n) 101 n) 0 0 32 := by
    refine ph_rows hA hB HGL.out HGL.out b56 (Nat.le_refl _) (by omega) (by omega) HL HL ?_ ho6
    intro i j r r' g hr hr' hg hg'
    have a := rowsV_block _ _ _ _ _ _ hr hg
    have b := rowsV_block _ _ _ _ _ _ hr' hg'
    omega
  have hOff : Off (fun x => x < w1.heap.size ∨ x = w1.heap.size ∨ x = w2.heap.size) (entsA (rowsV w1.heap.size k n) 1 n ++ entsA (rowsV w2.heap.size k n) 101 n) := by
    intro v m g hm hg hS
    rw [List.mem_append] at hm
    rcases hm with hm | hm
    · obtain ⟨j, hj⟩ := List.getElem?_of_mem hm
      have a := entsA_at _ _ _ _ _ _ hj (by rw [rowsV_length]; exact Nat.le_refl _)
      have b := rowsV_block _ _ _ _ _ _ a.1 hg
      omega
    · obtain ⟨j, hj⟩ := List.getElem?_of_mem hm
      have a := entsA_at _ _ _ _ _ _ hj (by rw [rowsV_length]; exact Nat.le_refl _)
      have b := rowsV_block _ _ _ _ _ _ a.1 hg
      omega
  have HE : Hid ((entsA (rowsV w1.heap.size k n) 1 n ++ entsA (rowsV w2.heap.size k n) 101 n).length = n + n) := by show _ = _; rw [List.length_append, entsA_length, entsA_length]
  have T2 : Hid (w6.heap[w1.heap.size]? = some (.cells (splice (List.replicate n (.slice none 0 0)) 0 (rowsV w1.heap.size k n)).toArray 27 (0, 0))) := by show _ = _; rw [b56.block _ (by omega)]; exact T2'.out
  have T3 : Hid (w6.heap[w2.heap.size]? = some (.cells (splice (List.replicate n (.slice none 0 0)) 0 (rowsV w2.heap.size k n)).toArray 27 (0, 0))) := by show _ = _; rw [b56.block _ (by omega)]; exact T3'.out
  have b06 : Below w.heap.size w w6 := b05.trans (b56.mono (by omega))
  clear hA hB ho6 T2' T3' b05 b56 b35 b13 b12 b23
  go_wp2_with fail
  refine (mixed_kept w6 (fun x => x < w1.heap.size ∨ x = w1.heap.size ∨ x = w2.heap.size) ?s1 w1.heap.size A cap (n + n) 32 _ ?s2 hOff (by omega) HE.out (by omega) (by omega) hPh).mono ?_
  case s1 => intro x hx; omega
  case s2 => intro hx; omega
  rintro e w7 ⟨rfl, hK⟩
  have s7 := hK.size
  have t2 : w7.heap[w1.heap.size]? = some (.cells (splice (List.replicate n (.slice none 0 0)) 0 (rowsV w1.heap.size k n)).toArray 27 (0, 0)) := by rw [hK.block _ (by omega)]; exact T2.out
  have t3 : w7.heap[w2.heap.size]? = some (.cells (splice (List.replicate n (.slice none 0 0)) 0 (rowsV w2.heap.size k n)).toArray 27 (0, 0)) := by rw [hK.block _ (by omega)]; exact T3.out
  have hcell : ∀ g : Nat, (splice (List.replicate n (Value.slice none 0 0)) 0 (rowsV g k n)).toArray[0]? = some (.slice (some ⟨g + 1, 0, none⟩) k k) := by
    intro g
    rw [List.getElem?_toArray, splice_at _ _ _ _ (by simp [rowsV_length]), if_neg (by omega), if_pos (by rw [rowsV_length]; omega)]
    have := rowsV_at g k n 0 (by omega)
    simpa using this
  have c2 : w7.cell? ⟨w1.heap.size, 0, none⟩ = some (.slice (some ⟨w1.heap.size + 1, 0, none⟩) k k) := by rw [cell_of_row w7 _ 0 _ 27 _ t2]; exact hcell _
  have c3 : w7.cell? ⟨w2.heap.size, 0, none⟩ = some (.slice (some ⟨w2.heap.size + 1, 0, none⟩) k k) := by rw [cell_of_row w7 _ 0 _ 27 _ t3]; exact hcell _
  have f2 : w7.frozen? ⟨w1.heap.size, 0, none⟩ = false := frozen_of_row w7 _ _ _ 27 t2
  have b07 : Below w.heap.size w w7 := b06.trans (hK.mono (T := (· < w.heap.size)) (fun x hx => by left; omega)).below
  have i1 : (0 : Int) < (n : Int) := by omega
  have i2 : ((n : Int) == 0) = false := by rw [beq_eq_false_iff_ne]; omega
  have i3 : w1.heap.size ≠ w2.heap.size := by omega
  have c3' : (w7.setCell ⟨w1.heap.size, 0, none⟩ (.slice none 0 0)).cell? ⟨w2.heap.size, 0, none⟩ = some (.slice (some ⟨w2.heap.size + 1, 0, none⟩) k k) := by
    rw [World.cell?_setCell_far _ _ _ _ i3]; exact c3
  clear t2 t3 hcell hK T2 T3 b06 hOff hPh S2
  go_wp2_with fail
  go_ret
  exact ⟨rfl, b07.setCell (by simpa using s1) _⟩
end Go.Proofs.Ytlaoaiffgbdnpaa
