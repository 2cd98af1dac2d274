import Derived.Test.YtlaoaiffgbdnpaaInv1
namespace Go.Proofs.Ytlaoaiffgbdnpaa
open Go.RowKit
set_option linter.unusedVariables false

set_option maxHeartbeats 1000000 in
theorem raise_any (B g n W i : Nat) (vs : List Value) (T : List (List Nat)) (w : World) (hn : n ≤ 32) (hW : W ≤ 1000) (hiW : i < W) (hi : i < n) (hT : Tab w B g n W vs T) :
    Calls Try.prog 38 #[.slice (some ⟨g, 0, none⟩) n n, .int .i64 i] w fun e w' =>
      (∃ j vs', e = .returned (.bool true) ∧ i ≤ j ∧ j < n ∧ Gf.ent (Gf.row T j) i ≠ 0 ∧ Below B w w' ∧ Tab w' B g n W vs' (Gf.pivT T W i j (Gf.gdiv 1 (Gf.ent (Gf.row T j) i)))) ∨
      (e = .returned (.bool false) ∧ w' = w ∧ ∀ r, i ≤ r → r < n → Gf.ent (Gf.row T r) i = 0) := by
  have hB : B ≤ w.heap.size := Nat.le_trans hT.base (Nat.le_of_lt (block_lt hT.top))
  go_enter Try.func38, Try.ntmps38
  go_wp2
  go_loop [5] (fun jj => ∃ j : Nat, i ≤ j ∧ j ≤ n ∧ jj = .int .i64 j ∧ Hid (∀ r, i ≤ r → r < j → Gf.ent (Gf.row T r) i = 0)) (fun jj => (n - intOf jj).toNat)
  case atStart => exact ⟨i, by omega, by omega, rfl, fun r h1 h2 => by omega⟩
  case round =>
    obtain ⟨j, hij, hj, rfl, hz⟩ := hrel
    by_cases hlt : j < n
    · obtain ⟨bj, v1, B1, G1⟩ := hT.rows j hlt
      have tj := hT.tbl.2 j hlt
      have c1 := hT.cell v1
      have c3 : w.cell? ⟨bj, i, none⟩ = some (.int .u8 ((Gf.ent (Gf.row T j) i : Nat) : Int)) := row_cell G1 (by rw [tj.1]; exact hiW)
      have i1 : (0 : Int) ≤ (j : Int) := by omega
      have i2 : (j : Int) < (n : Int) := by omega
      have i3 : (0 : Int) ≤ (i : Int) := by omega
      have i4 : (i : Int) < (n : Int) := by omega
      have i5 : (i : Int) < (W : Int) := by omega
      by_cases h0 : Gf.ent (Gf.row T j) i = 0
      · rw [h0] at c3
        have hz' : Hid (∀ r, i ≤ r → r < j + 1 → Gf.ent (Gf.row T r) i = 0) := by
          intro r h1 h2
          by_cases e : r = j
          · rw [e]; exact h0
          · exact hz.out r h1 (by omega)
        clear h0 G1 hz
        go_wp2
        go_round
        case rel => exact ⟨j + 1, by omega, by omega, by go_num, hz'⟩
        case measure => simp [intOf]; omega
      · have hne : (((Gf.ent (Gf.row T j) i : Nat) : Int) != 0) = true := by rw [bne_iff_ne]; omega
        obtain ⟨bi, v2, B2, G2⟩ := hT.rows i hi
        have ti := hT.tbl.2 i hi
        have c2 := hT.cell v2
        have f1 : w.frozen? ⟨g, j, none⟩ = false := frozen_of_row w g _ _ 27 hT.top
        have f2 : w.frozen? ⟨g, i, none⟩ = false := frozen_of_row w g _ _ 27 hT.top
        have hgl : g < w.heap.size := block_lt hT.top
        -- the table behind the exchange
        have gne : ∀ (b' : Nat) (c : Array Value), w.heap[b']? = some (.cells c 5 (0, 0)) → b' ≠ g := by
          intro b' c hc e
          subst e
          rw [hT.top] at hc
          simp at hc
        have hS1 := hT.set i bj (Gf.row T j) hi tj B1 G1
        have hS2 := hS1.set j bi (Gf.row T i) hlt ti B2 (by rw [heap_setCell_other _ _ _ _ (gne bi _ G2)]; exact G2)
        generalize hw1 : (w.setCell ⟨g, i, none⟩ (.slice (some ⟨bj, 0, none⟩) W W)).setCell ⟨g, j, none⟩ (.slice (some ⟨bi, 0, none⟩) W W) = w1 at hS2
        have b1 : Below B w w1 := by rw [← hw1]; exact ((Below.refl _ _).setCell (by simpa using hT.base) _).setCell (by simpa using hT.base) _
        have s1 : w1.heap.size = w.heap.size := by rw [← hw1]; simp
        have G3 : w1.heap[bj]? = some (.cells (bvs (Gf.row T j)).toArray 5 (0, 0)) := by
          rw [← hw1, heap_setCell_other _ _ _ _ (gne bj _ G1), heap_setCell_other _ _ _ _ (gne bj _ G1)]; exact G1
        have c4 : w1.cell? ⟨g, i, none⟩ = some (.slice (some ⟨bj, 0, none⟩) W W) := by
          refine hS2.cell ?_
          by_cases e : i = j
          · subst e
            rw [v1] at v2
            simp only [Option.some.injEq, Value.slice.injEq, Addr.mk.injEq] at v2
            rw [List.getElem?_set_self (by simp [hT.len, hi]), v2.1.1]
          · rw [List.getElem?_set_ne (Ne.symm e), List.getElem?_set_self (by rw [hT.len]; exact hi)]
        have TO : Hid (∀ wx : World, wx.heap = w1.heap → Calls Try.prog 44 #[.slice (some ⟨bj, 0, none⟩) W W, .int .i64 i] wx fun e w' => ∃ g', e = .returned (.slice (some ⟨g', 0, none⟩) W W) ∧ w1.heap.size ≤ g' ∧
            Below w1.heap.size wx w' ∧ w'.heap[g']? = some (.cells (bvs (Gf.mulAdd (List.replicate W 0) (Gf.row T j) (Gf.gdiv 1 (Gf.ent (Gf.row T j) i)))).toArray 5 (0, 0))) := by
          intro wx hw
          have := toOne_any bj W i (Gf.row T j) wx hW hiW tj h0 (by rw [hw]; exact G3)
          rw [hw] at this
          exact this
        have f4 : w1.frozen? ⟨g, i, none⟩ = false := frozen_of_row w1 g _ _ 27 hS2.top
        have HW : Hid ((w.setCell ⟨g, i, none⟩ (.slice (some ⟨bj, 0, none⟩) W W)).setCell ⟨g, j, none⟩ (.slice (some ⟨bi, 0, none⟩) W W) = w1) := hw1
        clear hw1 hS1 gne G1 G2 G3 c4 f4
        by_cases e : i = j
        · subst e
          have hbb : bi = bj := by
            rw [v1] at v2
            simp only [Option.some.injEq, Value.slice.injEq, Addr.mk.injEq] at v2
            exact v2.1.1.symm
          subst hbb
          go_wp2_with fail
          go_region
          go_wp2_with fail
          refine (TO.out _ (by rw [← HW.out]; rfl)).mono ?_
          rintro e5 w5 ⟨g', rfl, hg', hb5, hg5⟩
          have b15 : Below w1.heap.size w1 w5 := by
            rw [HW.out] at hb5
            exact (Below.refl _ _).drew.trans hb5
          have hT5 := hS2.below b15
          have sz5 := b15.size
          have hT6 := hT5.set i g' _ hi (Gf.bytes_mulAdd (Gf.bytes_zero W) tj (Gf.gdiv 1 (Gf.ent (Gf.row T i) i))) (by omega) hg5
          obtain ⟨v0, c5⟩ : ∃ v0, w5.cell? ⟨g, i, none⟩ = some v0 := by
            rw [cell_of_row w5 g i _ 27 _ hT5.top]
            exact ⟨_, Array.getElem?_eq_getElem (by simp [hT.len]; exact hi)⟩
          have f5 : w5.frozen? ⟨g, i, none⟩ = false := frozen_of_row w5 g _ _ 27 hT5.top
          have hb6 : Below B w (w5.setCell ⟨g, i, none⟩ (.slice (some ⟨g', 0, none⟩) W W)) := (b1.trans (b15.mono (by omega))).setCell (by simpa using hT.base) _
          clear hT5 b15 hg5 hb5 HW TO hS2 b1 c1 c2 c3 f1 f2
          go_wp2_with fail
          go_ret
          exact .inl ⟨i, _, rfl, hij, hlt, h0, hb6, hT6⟩
        · have e' : ¬ j = i := fun h => e h.symm
          go_wp2_with fail
          go_region
          go_wp2_with fail
          refine (TO.out _ (by rw [← HW.out]; rfl)).mono ?_
          rintro e5 w5 ⟨g', rfl, hg', hb5, hg5⟩
          have b15 : Below w1.heap.size w1 w5 := by
            rw [HW.out] at hb5
            exact (Below.refl _ _).drew.trans hb5
          have hT5 := hS2.below b15
          have sz5 := b15.size
          have hT6 := hT5.set i g' _ hi (Gf.bytes_mulAdd (Gf.bytes_zero W) tj (Gf.gdiv 1 (Gf.ent (Gf.row T j) i))) (by omega) hg5
          obtain ⟨v0, c5⟩ : ∃ v0, w5.cell? ⟨g, i, none⟩ = some v0 := by
            rw [cell_of_row w5 g i _ 27 _ hT5.top]
            exact ⟨_, Array.getElem?_eq_getElem (by simp [hT.len]; exact hi)⟩
          have f5 : w5.frozen? ⟨g, i, none⟩ = false := frozen_of_row w5 g _ _ 27 hT5.top
          have hb6 : Below B w (w5.setCell ⟨g, i, none⟩ (.slice (some ⟨g', 0, none⟩) W W)) := (b1.trans (b15.mono (by omega))).setCell (by simpa using hT.base) _
          clear hT5 b15 hg5 hb5 HW TO hS2 b1 c1 c2 c3 f1 f2
          go_wp2_with fail
          go_ret
          exact .inl ⟨j, _, rfl, hij, hlt, h0, hb6, hT6⟩
    · go_wp2
      go_ret
      exact .inr ⟨rfl, rfl, fun r h1 h2 => hz.out r h1 (by omega)⟩
end Go.Proofs.Ytlaoaiffgbdnpaa
