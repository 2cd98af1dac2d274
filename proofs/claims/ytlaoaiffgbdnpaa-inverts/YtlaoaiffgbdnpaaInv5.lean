import Derived.Test.YtlaoaiffgbdnpaaInv4
namespace Go.Proofs.Ytlaoaiffgbdnpaa
open Go.RowKit
set_option linter.unusedVariables false

/-- copy as one step of a region, the row that it leaves written out -/
theorem step_copy_exact {P : Program} {ops : Array Oper} {o : Oper} {a : Act} {w : World} {K : Act → World → Prop} {Q : Exit → Act → World → Prop} {E : Prop} (hgd : o.guard = none) (d s : Operand) (dT sT : TypeId)
    (ho : o.op = .call { callee := .builtin .copy, args := #[d, s], argTypes := #[dT, sT] }) (elem : TypeId) (hu : P.underlying dT = some (.slice elem)) (hsz : (P.info? elem).map (·.size) = some 1)
    (g off dLen dCap : Nat) (ad : Addr) (sLen sCap : Nat) (hd : a.eval d = .slice (some ⟨g, off, none⟩) dLen dCap) (hs : a.eval s = .slice (some ad) sLen sCap)
    (cur : Array Value) (t : TypeId) (hg : w.heap[g]? = some (.cells cur t (0, 0))) (cs : List Value) (hn : cs.length = Nat.min sLen dLen)
    (hsrc : ∀ j v, cs[j]? = some v → w.cell? (ad.add j) = some v) (hfit : off + cs.length ≤ cur.size) (h1 : ∀ v ∈ cs, v.oneCell' = true)
    (h : K (a.put o.dst (goInt cs.length)) (w.setRow g (cur.toList.take off ++ (cs ++ cur.toList.drop (off + cs.length))).toArray)) :
    if Region.wanted o (yielded ops a.tmps) = true then Oper.wp P o a w K Q else E := by
  have hw : Region.wanted o (yielded ops a.tmps) = true := by simp [Region.wanted, hgd]
  rw [if_pos hw]
  have hrun := run_copy_row (P := P) w dT sT o.type elem g off dLen dCap ad sLen sCap cur t cs hu hsz hg hn hsrc hfit h1
  unfold Oper.wp
  simp [execOp, ho, resolve, invoke, builtin, hd, hs, hrun, Result.andThen]
  exact h

/-- one row is written, and nothing else -/
structure Wrote (w w' : World) (g : Nat) (cs : List Value) (t : TypeId) : Prop where
  row : w'.heap[g]? = some (.cells cs.toArray t (0, 0))
  old : ∀ b, b ≠ g → w'.heap[b]? = w.heap[b]?
  size : w'.heap.size = w.heap.size
  os : w'.os = w.os ∧ w'.tape = w.tape ∧ w'.output = w.output
theorem Wrote.setCell {w w' : World} {g j : Nat} {cs ds : List Value} {t : TypeId} {v : Value} (h : Wrote w w' g cs t) (hd : cs.toArray.setIfInBounds j v = ds.toArray) : Wrote w (w'.setCell ⟨g, j, none⟩ v) g ds t :=
  ⟨by rw [heap_setCell_same _ _ _ _ t _ h.row, hd], fun b hb => by rw [heap_setCell_other _ _ _ _ hb]; exact h.old b hb, by simpa using h.size, h.os⟩
theorem step_copy_wrote {P : Program} {ops : Array Oper} {o : Oper} {a : Act} {w : World} {K : Act → World → Prop} {Q : Exit → Act → World → Prop} {E : Prop} (hgd : o.guard = none) (d s : Operand) (dT sT : TypeId)
    (ho : o.op = .call { callee := .builtin .copy, args := #[d, s], argTypes := #[dT, sT] }) (elem : TypeId) (hu : P.underlying dT = some (.slice elem)) (hsz : (P.info? elem).map (·.size) = some 1)
    (g off dLen dCap : Nat) (ad : Addr) (sLen sCap : Nat) (hd : a.eval d = .slice (some ⟨g, off, none⟩) dLen dCap) (hs : a.eval s = .slice (some ad) sLen sCap)
    (cur : List Value) (t : TypeId) (hg : w.heap[g]? = some (.cells cur.toArray t (0, 0))) (cs : List Value) (hn : cs.length = Nat.min sLen dLen)
    (hsrc : ∀ j v, cs[j]? = some v → w.cell? (ad.add j) = some v) (hfit : off + cs.length ≤ cur.length) (h1 : ∀ v ∈ cs, v.oneCell' = true) (w0 : World) (hw0 : w.heap = w0.heap ∧ w.os = w0.os ∧ w.tape = w0.tape ∧ w.output = w0.output)
    (h : ∀ w', Hid (Wrote w0 w' g (splice cur off cs) t) → K (a.put o.dst (goInt cs.length)) w') :
    if Region.wanted o (yielded ops a.tmps) = true then Oper.wp P o a w K Q else E := by
  refine step_copy_exact hgd d s dT sT ho elem hu hsz g off dLen dCap ad sLen sCap hd hs cur.toArray t hg cs hn hsrc (by simpa using hfit) h1 (h _ ?_)
  refine ⟨?_, ?_, ?_, ?_⟩
  · have := setRow_heap w g _ (cur.toArray.toList.take off ++ (cs ++ cur.toArray.toList.drop (off + cs.length))).toArray t _ hg
    simpa [splice] using this
  · intro b hb; rw [setRow_other _ _ _ _ hb, hw0.1]
  · rw [size_setRow, hw0.1]
  · exact ⟨hw0.2.1, hw0.2.2.1, hw0.2.2.2⟩

theorem aug_cells (n W i : Nat) (x : List Nat) (hx : x.length = n) (hW : W = n + n) (hi : i < n) :
    (splice (List.replicate W (Value.int .u8 0)) 0 (bvs x)).toArray.setIfInBounds (n + i) (.int .u8 1) = (bvs (Gf.augRow n x i)).toArray := by
  apply Array.ext'
  subst hW
  simp only [Array.toList_setIfInBounds, splice, List.take_zero, List.nil_append, Nat.zero_add, bvs_length, hx]
  have e : List.drop n (List.replicate (n + n) (Value.int .u8 0)) = List.replicate n (Value.int .u8 0) := by rw [List.drop_replicate]; congr 1; omega
  rw [e]
  have e2 : bvs (Gf.augRow n x i) = bvs x ++ (List.replicate n (Value.int .u8 0)).set i (.int .u8 1) := by
    simp only [bvs, Gf.augRow, List.map_append, List.map_set, List.map_replicate]
    rfl
  rw [e2, List.set_append_right _ _ (by rw [bvs_length]; omega), bvs_length, hx]
  congr 2
  omega

set_option maxHeartbeats 1000000 in
theorem beside_any (gm off n c W : Nat) (vs : List Value) (M : List (List Nat)) (w : World) (hn : 1 ≤ n) (hn2 : n ≤ 32) (hW : W = n + n) (hV : View w gm off n vs M) (hM : Gf.Tbl n n M) :
    Calls Try.prog 37 #[.slice (some ⟨gm, off, none⟩) n c] w fun e w' => e = .returned (.slice (some ⟨w.heap.size, 0, none⟩) n n) ∧ Stack w w' w.heap.size W n n (fun t => Gf.augRow n (Gf.row M t) t) := by
  have hmk := fun w => run_make_row' (P := Try.prog) 38 27 (.slice none 0 0) 24 Try.underlying38 info27 rfl .i64 .i64 n (by omega) (by omega) w
  have hmk2 := fun w => run_make_row' (P := Try.prog) 27 5 (.int .u8 0) 1 Try.underlying27 info5 rfl .i64 .i64 W (by omega) (by omega) w
  have eW : 2 * (n : Int) = (W : Int) := by omega
  have hW1 : W ≤ n + n := by omega
  have hW2 : n + n ≤ W := by omega
  clear hW
  go_enter Try.func37, Try.ntmps37
  go_wp2
  clear hmk
  go_loopw [10] (fun ii w' => ∃ i : Nat, i ≤ n ∧ ii = .int .i64 i ∧ Stack w w' w.heap.size W n i (fun t => Gf.augRow n (Gf.row M t) t)) (fun ii _ => (n - intOf ii).toNat)
  case atStart => exact ⟨0, by omega, rfl, stack_start⟩
  case round =>
    obtain ⟨i, hi, rfl, hS⟩ := hrel
    by_cases hlt : i < n
    · have sz := hS.size
      have sz' : w.heap.size < wr.heap.size := by omega
      obtain ⟨v0, c0⟩ : ∃ v0, wr.cell? ⟨w.heap.size, i, none⟩ = some v0 := by
        rw [cell_of_row wr _ i _ 27 _ hS.top]
        exact ⟨_, Array.getElem?_eq_getElem (by rw [List.size_toArray, length_splice _ _ _ (by simp [rowsV_length]; omega)]; simpa using hlt)⟩
      have f0 : wr.frozen? ⟨w.heap.size, i, none⟩ = false := frozen_of_row wr _ _ _ 27 hS.top
      have i1 : (0 : Int) ≤ (i : Int) := by omega
      have i2 : (i : Int) < (n : Int) := by omega
      clear sz
      obtain ⟨a, cap, x, hx, hvx, cmx, cellx, hxc, hxl⟩ := (hV.below (w' := w) (Below.refl _ _)).at hlt
      have hrx : Gf.row M i = x := by simp [Gf.row, hx]
      have hxn : x.length = n := by rw [← hrx]; exact (hM.2 i hlt).1
      rw [hxn] at cmx
      obtain ⟨bx, ox, rfl, hbx, hcx⟩ := cellx.pos (by omega)
      have hgm : gm < w.heap.size := World.block_lt_of_cell? _ _ cmx
      go_wp2_with fail
      generalize hw2 : (wr.setCell ⟨w.heap.size, i, none⟩ (.slice (some ⟨wr.heap.size, 0, none⟩) W W)).alloc (.cells (madeCells #[.int .u8 0] W) 5) = w2
      have old2 : ∀ b, b < wr.heap.size → b ≠ w.heap.size → w2.heap[b]? = wr.heap[b]? := by
        intro b hb hne
        rw [← hw2, Below.heap_alloc _ _ _ (by simpa using hb), heap_setCell_other _ _ _ _ hne]
      have top2 : w2.heap[w.heap.size]? = some (.cells ((splice (List.replicate n (.slice none 0 0)) 0 (rowsV w.heap.size W i)).toArray.setIfInBounds i (.slice (some ⟨wr.heap.size, 0, none⟩) W W)) 27 (0, 0)) := by
        rw [← hw2, Below.heap_alloc _ _ _ (by simpa using sz'), heap_setCell_same _ _ _ _ 27 _ hS.top]
      have row2 : w2.heap[wr.heap.size]? = some (.cells (List.replicate W (Value.int .u8 0)).toArray 5 (0, 0)) := by
        rw [← hw2]
        have h1 := heap_alloc_new (wr.setCell ⟨w.heap.size, i, none⟩ (.slice (some ⟨wr.heap.size, 0, none⟩) W W)) (.cells (madeCells #[.int .u8 0] W) 5)
        rw [World.size_setCell] at h1
        rw [h1]
        have : madeCells #[Value.int .u8 0] W = (List.replicate W (Value.int .u8 0)).toArray := by apply Array.ext'; rw [toList_madeCells_one]
        rw [this]
      have size2 : Hid (w2.heap.size = wr.heap.size + 1) := by show _ = _; rw [← hw2]; simp
      have os2 : Hid (w2.os = wr.os ∧ w2.tape = wr.tape ∧ w2.output = wr.output) := by rw [← hw2]; exact ⟨rfl, rfl, rfl⟩
      have bold : ∀ b, b < w.heap.size → w2.heap[b]? = w.heap[b]? := fun b hb => (old2 b (by omega) (by omega)).trans (hS.below.block b hb)
      have cA : w2.cell? ⟨w.heap.size, i, none⟩ = some (.slice (some ⟨wr.heap.size, 0, none⟩) W W) := by
        rw [cell_of_row w2 _ i _ 27 _ top2, Array.getElem?_setIfInBounds_self_of_lt]
        rw [List.size_toArray, length_splice _ _ _ (by simp [rowsV_length]; omega)]; simpa using hlt
      have cM : w2.cell? ⟨gm, off + i, none⟩ = some (.slice (some ⟨bx, ox, none⟩) n cap) := by
        rw [World.cell?_of_block (w := w) (bold gm hgm)]; exact cmx
      have HW : Hid ((wr.setCell ⟨w.heap.size, i, none⟩ (.slice (some ⟨wr.heap.size, 0, none⟩) W W)).alloc (.cells (madeCells #[.int .u8 0] W) 5) = w2) := hw2
      have OLD2 : Hid (∀ b, b < wr.heap.size → b ≠ w.heap.size → w2.heap[b]? = wr.heap[b]?) := old2
      have TOP2 : Hid (w2.heap[w.heap.size]? = some (.cells ((splice (List.replicate n (.slice none 0 0)) 0 (rowsV w.heap.size W i)).toArray.setIfInBounds i (.slice (some ⟨wr.heap.size, 0, none⟩) W W)) 27 (0, 0))) := top2
      have ROW2 : Hid (w2.heap[wr.heap.size]? = some (.cells (List.replicate W (Value.int .u8 0)).toArray 5 (0, 0))) := row2
      have SRC : Hid (∀ j v, (bvs x)[j]? = some v → w2.cell? ((⟨bx, ox, none⟩ : Addr).add j) = some v) := by
        intro j v hv
        simp only [bvs, List.getElem?_map, Option.map_eq_some_iff] at hv
        obtain ⟨y, hy, rfl⟩ := hv
        have ha : (⟨bx, ox, none⟩ : Addr).add j = ⟨bx, ox + j, none⟩ := by simp [Addr.add]
        rw [ha, World.cell?_of_block (w := w) (bold bx hbx)]; exact hcx j y hy
      have HXN : Hid (x.length = n) := hxn
      have HMIN : Hid ((bvs x).length = Nat.min n W) := by show _ = _; rw [bvs_length, hxn]; exact (Nat.min_eq_left (by omega)).symm
      have hgm2 : gm < wr.heap.size := by omega
      clear hw2 old2 top2 row2 c0 f0 hcx cellx cmx hvx hx hxn bold
      go_region_held3 (fun w' => w'.cell? ⟨w.heap.size, i, none⟩ = some (.slice (some ⟨wr.heap.size, 0, none⟩) W W) ∧ w'.cell? ⟨gm, off + i, none⟩ = some (.slice (some ⟨bx, ox, none⟩) n cap)) (first | exact ⟨(World.cell?_of_block (w := w2) (a := ⟨w.heap.size, i, none⟩) (hw3.out.old w.heap.size (by omega))).trans cA, (World.cell?_of_block (w := w2) (a := ⟨gm, off + i, none⟩) (hw3.out.old gm (by omega))).trans cM⟩ | go_keep) (first | (refine step_copy_wrote (by rfl) (.tmp 23) (.tmp 27) 27 27 (by rfl) 5 Try.underlying27 size5 wr.heap.size 0 W W ⟨bx, ox, none⟩ n cap (by rfl) (by rfl) (List.replicate W (Value.int .u8 0)) 5 (by exact ROW2.out) (bvs x) (by exact HMIN.out) (by exact SRC.out) (by rw [bvs_length, HXN.out]; simp; omega) (bvs_one x) w2 (by exact ⟨rfl, rfl, rfl, rfl⟩) ?_; intro w3 hw3))
      have cA3 : w3.cell? ⟨w.heap.size, i, none⟩ = some (.slice (some ⟨wr.heap.size, 0, none⟩) W W) := (World.cell?_of_block (w := w2) (a := ⟨w.heap.size, i, none⟩) (hw3.out.old w.heap.size (by omega))).trans cA
      obtain ⟨v3, c3⟩ : ∃ v3, w3.cell? ⟨wr.heap.size, n + i, none⟩ = some v3 := by
        rw [cell_of_row w3 _ _ _ 5 _ hw3.out.row]
        exact ⟨_, Array.getElem?_eq_getElem (by rw [List.size_toArray, length_splice _ _ _ (by rw [bvs_length, HXN.out]; simp; omega)]; simp; omega)⟩
      have f3 : w3.frozen? ⟨wr.heap.size, n + i, none⟩ = false := frozen_of_row w3 _ _ _ 5 hw3.out.row
      have W4 := hw3.out.setCell (aug_cells n W i x HXN.out (by omega) hlt)
      have hP : Stack w (w3.setCell ⟨wr.heap.size, n + i, none⟩ (.int .u8 1)) w.heap.size W n (i + 1) (fun t => Gf.augRow n (Gf.row M t) t) := by
        refine hS.next hlt (W4.os.1.trans os2.out.1) (W4.os.2.1.trans os2.out.2.1) (W4.os.2.2.trans os2.out.2.2) (W4.size.trans size2.out) ?_ ?_ ?_
        · intro b hb hne; rw [W4.old b (by omega)]; exact OLD2.out b hb hne
        · rw [W4.old _ (by omega)]; exact TOP2.out
        · rw [hrx]; exact W4.row
      have i6 : (n : Int) + (i : Int) < (W : Int) := by omega
      have i7 : (0 : Int) ≤ (n : Int) + (i : Int) := by omega
      clear W4 hw3 cA cM OLD2 TOP2 ROW2 SRC HW HMIN os2 size2
      go_wp2_with fail
      go_roundw
      case rel => exact ⟨i + 1, by omega, by go_num, hP⟩
      case measure => simp [intOf]; omega
    · obtain rfl : i = n := by omega
      go_wp2
      go_ret
      exact ⟨rfl, hS⟩
end Go.Proofs.Ytlaoaiffgbdnpaa
