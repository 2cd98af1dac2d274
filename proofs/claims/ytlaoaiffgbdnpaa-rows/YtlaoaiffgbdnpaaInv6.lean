import Derived.Test.YtlaoaiffgbdnpaaInv5
namespace Go.Proofs.Ytlaoaiffgbdnpaa
open Go.RowKit
set_option linter.unusedVariables false

theorem splice_full (n : Nat) (v : Value) (cs : List Value) (h : cs.length = n) : splice (List.replicate n v) 0 cs = cs := by
  simp only [splice, List.take_zero, List.nil_append, Nat.zero_add]
  have : List.drop cs.length (List.replicate n v) = [] := List.drop_eq_nil_of_le (by simp; omega)
  rw [this, List.append_nil]

set_option maxHeartbeats 1000000 in
theorem right_any (B gm n W : Nat) (vs : List Value) (T : List (List Nat)) (w : World) (hn : 1 ≤ n) (hn2 : n ≤ 32) (hW : W = n + n) (hT : Tab w B gm n W vs T) :
    Calls Try.prog 40 #[.slice (some ⟨gm, 0, none⟩) n n] w fun e w' => e = .returned (.slice (some ⟨w.heap.size, 0, none⟩) n n) ∧ Stack w w' w.heap.size n n n (fun t => (Gf.row T t).drop n) := by
  have hmk := fun w => run_make_row' (P := Try.prog) 38 27 (.slice none 0 0) 24 Try.underlying38 info27 rfl .i64 .i64 n (by omega) (by omega) w
  have hmk2 := fun w => run_make_row' (P := Try.prog) 27 5 (.int .u8 0) 1 Try.underlying27 info5 rfl .i64 .i64 n (by omega) (by omega) w
  have hW1 : W ≤ n + n := by omega
  have hW2 : n + n ≤ W := by omega
  clear hW
  go_enter Try.func40, Try.ntmps40
  go_wp2
  clear hmk
  go_loopw [10] (fun ii w' => ∃ i : Nat, i ≤ n ∧ ii = .int .i64 i ∧ Stack w w' w.heap.size n n i (fun t => (Gf.row T t).drop n)) (fun ii _ => (n - intOf ii).toNat)
  case atStart => exact ⟨0, by omega, rfl, stack_start⟩
  case round =>
    obtain ⟨i, hi, rfl, hS⟩ := hrel
    by_cases hlt : i < n
    · have sz := hS.size
      have sz' : w.heap.size < wr.heap.size := by omega
      obtain ⟨v0, c0⟩ : ∃ v0, wr.cell? ⟨w.heap.size, i, none⟩ = some v0 := by
        rw [cell_of_row wr _ i _ 27 _ hS.top]
        exact ⟨_, Array.getElem?_eq_getElem (by rw [List.size_toArray, length_splice _ _ _ (by simp [rowsV_length]; omega)]; simpa using hlt)⟩
      have f0 : wr.frozen? ⟨w.heap.size, i, none⟩ = false := frozen_of_row wr _ _ _ 27 hS.top
      have i1 : (0 : Int) ≤ (i : Int) := by omega
      have i2 : (i : Int) < (n : Int) := by omega
      clear sz
      obtain ⟨bx, hvx, hBb, hbx⟩ := hT.rows i hlt
      have hbxl := block_lt hbx
      have tx := hT.tbl.2 i hlt
      have cmx := hT.cell hvx
      have hgm : gm < w.heap.size := block_lt hT.top
      have hWn : ¬ W = n := by omega
      have i8 : (n : Int) ≤ (W : Int) := by omega
      have i9 : (0 : Int) ≤ (n : Int) := by omega
      go_wp2_with fail
      generalize hw2 : (wr.setCell ⟨w.heap.size, i, none⟩ (.slice (some ⟨wr.heap.size, 0, none⟩) n n)).alloc (.cells (madeCells #[.int .u8 0] n) 5) = w2
      have old2 : ∀ b, b < wr.heap.size → b ≠ w.heap.size → w2.heap[b]? = wr.heap[b]? := by
        intro b hb hne
        rw [← hw2, Below.heap_alloc _ _ _ (by simpa using hb), heap_setCell_other _ _ _ _ hne]
      have top2 : w2.heap[w.heap.size]? = some (.cells ((splice (List.replicate n (.slice none 0 0)) 0 (rowsV w.heap.size n i)).toArray.setIfInBounds i (.slice (some ⟨wr.heap.size, 0, none⟩) n n)) 27 (0, 0)) := by
        rw [← hw2, Below.heap_alloc _ _ _ (by simpa using sz'), heap_setCell_same _ _ _ _ 27 _ hS.top]
      have row2 : w2.heap[wr.heap.size]? = some (.cells (List.replicate n (Value.int .u8 0)).toArray 5 (0, 0)) := by
        rw [← hw2]
        have h1 := heap_alloc_new (wr.setCell ⟨w.heap.size, i, none⟩ (.slice (some ⟨wr.heap.size, 0, none⟩) n n)) (.cells (madeCells #[.int .u8 0] n) 5)
        rw [World.size_setCell] at h1
        rw [h1]
        have : madeCells #[Value.int .u8 0] n = (List.replicate n (Value.int .u8 0)).toArray := by apply Array.ext'; rw [toList_madeCells_one]
        rw [this]
      have size2 : Hid (w2.heap.size = wr.heap.size + 1) := by show _ = _; rw [← hw2]; simp
      have os2 : Hid (w2.os = wr.os ∧ w2.tape = wr.tape ∧ w2.output = wr.output) := by rw [← hw2]; exact ⟨rfl, rfl, rfl⟩
      have bold : ∀ b, b < w.heap.size → w2.heap[b]? = w.heap[b]? := fun b hb => (old2 b (by omega) (by omega)).trans (hS.below.block b hb)
      have cA : w2.cell? ⟨w.heap.size, i, none⟩ = some (.slice (some ⟨wr.heap.size, 0, none⟩) n n) := by
        rw [cell_of_row w2 _ i _ 27 _ top2, Array.getElem?_setIfInBounds_self_of_lt]
        rw [List.size_toArray, length_splice _ _ _ (by simp [rowsV_length]; omega)]; simpa using hlt
      have cM : w2.cell? ⟨gm, i, none⟩ = some (.slice (some ⟨bx, 0, none⟩) W W) := by
        rw [World.cell?_of_block (w := w) (bold gm hgm)]; exact cmx
      have HW : Hid ((wr.setCell ⟨w.heap.size, i, none⟩ (.slice (some ⟨wr.heap.size, 0, none⟩) n n)).alloc (.cells (madeCells #[.int .u8 0] n) 5) = w2) := hw2
      have OLD2 : Hid (∀ b, b < wr.heap.size → b ≠ w.heap.size → w2.heap[b]? = wr.heap[b]?) := old2
      have TOP2 : Hid (w2.heap[w.heap.size]? = some (.cells ((splice (List.replicate n (.slice none 0 0)) 0 (rowsV w.heap.size n i)).toArray.setIfInBounds i (.slice (some ⟨wr.heap.size, 0, none⟩) n n)) 27 (0, 0))) := top2
      have ROW2 : Hid (w2.heap[wr.heap.size]? = some (.cells (List.replicate n (Value.int .u8 0)).toArray 5 (0, 0))) := row2
      have hxd : ((Gf.row T i).drop n).length = n := by rw [List.length_drop, tx.1]; omega
      have SRC : Hid (∀ j v, (bvs ((Gf.row T i).drop n))[j]? = some v → w2.cell? ((⟨bx, n, none⟩ : Addr).add j) = some v) := by
        intro j v hv
        simp only [bvs, List.getElem?_map, Option.map_eq_some_iff] at hv
        obtain ⟨y, hy, rfl⟩ := hv
        have ha : (⟨bx, n, none⟩ : Addr).add j = ⟨bx, n + j, none⟩ := by simp [Addr.add]
        rw [List.getElem?_drop] at hy
        have hjl := (List.getElem?_eq_some_iff.1 hy).1
        rw [ha, World.cell?_of_block (w := w) (bold bx hbxl), row_cell hbx hjl, Gf.ent_some hy]
      have HXN : Hid (((Gf.row T i).drop n).length = n) := hxd
      have HMIN : Hid ((bvs ((Gf.row T i).drop n)).length = Nat.min (W - n) n) := by show _ = _; rw [bvs_length, hxd]; exact (Nat.min_eq_right (by omega)).symm
      clear hw2 old2 top2 row2 c0 f0 cmx hvx hxd hbx bold
      go_region_held3 (fun w' => w'.cell? ⟨w.heap.size, i, none⟩ = some (.slice (some ⟨wr.heap.size, 0, none⟩) n n) ∧ w'.cell? ⟨gm, i, none⟩ = some (.slice (some ⟨bx, 0, none⟩) W W)) (first | exact ⟨(World.cell?_of_block (w := w2) (a := ⟨w.heap.size, i, none⟩) (hw3.out.old w.heap.size (by omega))).trans cA, (World.cell?_of_block (w := w2) (a := ⟨gm, i, none⟩) (hw3.out.old gm (by omega))).trans cM⟩ | go_keep) (first | (refine step_copy_wrote (by rfl) (.tmp 22) (.tmp 29) 27 27 (by rfl) 5 Try.underlying27 size5 wr.heap.size 0 n n ⟨bx, n, none⟩ (W - n) (W - n) (by rfl) (by rfl) (List.replicate n (Value.int .u8 0)) 5 (by exact ROW2.out) (bvs ((Gf.row T i).drop n)) (by exact HMIN.out) (by exact SRC.out) (by rw [bvs_length, HXN.out]; simp) (bvs_one _) w2 (by exact ⟨rfl, rfl, rfl, rfl⟩) ?_; intro w3 hw3))
      have hfull := splice_full n (Value.int .u8 0) (bvs ((Gf.row T i).drop n)) (by rw [bvs_length, HXN.out])
      have W4 := hw3.out
      rw [hfull] at W4
      have hP : Stack w w3 w.heap.size n n (i + 1) (fun t => (Gf.row T t).drop n) := by
        refine hS.next hlt (W4.os.1.trans os2.out.1) (W4.os.2.1.trans os2.out.2.1) (W4.os.2.2.trans os2.out.2.2) (W4.size.trans size2.out) ?_ ?_ ?_
        · intro b hb hne; rw [W4.old b (by omega)]; exact OLD2.out b hb hne
        · rw [W4.old _ (by omega)]; exact TOP2.out
        · exact W4.row
      clear W4 hw3 cA cM OLD2 TOP2 ROW2 SRC HW HMIN os2 size2 hfull
      go_wp2_with fail
      go_roundw
      case rel => exact ⟨i + 1, by omega, by go_num, hP⟩
      case measure => simp [intOf]; omega
    · obtain rfl : i = n := by omega
      go_wp2
      go_ret
      exact ⟨rfl, hS⟩
end Go.Proofs.Ytlaoaiffgbdnpaa
