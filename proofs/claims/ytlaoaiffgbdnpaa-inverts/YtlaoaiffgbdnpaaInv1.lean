import Derived.Test.YtlaoaiffgbdnpaaGen5
import Derived.Test.YtlaoaiffgbdnpaaGj
namespace Go.Proofs.Ytlaoaiffgbdnpaa
open Go.RowKit
set_option linter.unusedVariables false

/-- a table in memory: the list of its rows in the block g, each row a whole block; all of them at B or behind it -/
structure Tab (w : World) (B g n W : Nat) (vs : List Value) (T : List (List Nat)) : Prop where
  top : w.heap[g]? = some (.cells vs.toArray 27 (0, 0))
  len : vs.length = n
  tbl : Gf.Tbl n W T
  rows : ∀ k, k < n → ∃ b, vs[k]? = some (.slice (some ⟨b, 0, none⟩) W W) ∧ B ≤ b ∧ w.heap[b]? = some (.cells (bvs (Gf.row T k)).toArray 5 (0, 0))
  base : B ≤ g

theorem Tab.below {w w' : World} {B g n W : Nat} {vs : List Value} {T : List (List Nat)} (h : Tab w B g n W vs T) (hb : Below w.heap.size w w') : Tab w' B g n W vs T := by
  refine ⟨by rw [hb.block _ (block_lt h.top)]; exact h.top, h.len, h.tbl, ?_, h.base⟩
  intro k hk
  obtain ⟨b, h1, h2, h3⟩ := h.rows k hk
  exact ⟨b, h1, h2, by rw [hb.block _ (block_lt h3)]; exact h3⟩
theorem Tab.heap {w w' : World} {B g n W : Nat} {vs : List Value} {T : List (List Nat)} (h : Tab w B g n W vs T) (hb : w'.heap = w.heap) : Tab w' B g n W vs T :=
  ⟨by rw [hb]; exact h.top, h.len, h.tbl, fun k hk => by rw [hb]; exact h.rows k hk, h.base⟩
/-- a row's pointer is laid anew -/
theorem Tab.set {w : World} {B g n W : Nat} {vs : List Value} {T : List (List Nat)} (h : Tab w B g n W vs T) (k b : Nat) (x : List Nat) (hk : k < n) (hx : Gf.Bytes W x) (hB : B ≤ b) (hb : w.heap[b]? = some (.cells (bvs x).toArray 5 (0, 0))) :
    Tab (w.setCell ⟨g, k, none⟩ (.slice (some ⟨b, 0, none⟩) W W)) B g n W (vs.set k (.slice (some ⟨b, 0, none⟩) W W)) (T.set k x) := by
  have hne : ∀ (b' : Nat) (c : Array Value), w.heap[b']? = some (.cells c 5 (0, 0)) → b' ≠ g := by
    intro b' c hc e
    subst e
    rw [h.top] at hc
    simp at hc
  refine ⟨?_, by simpa using h.len, h.tbl.set hx, ?_, h.base⟩
  · rw [heap_setCell_same _ _ _ _ 27 _ h.top]
    simp
  · intro k' hk'
    rw [Gf.row_set _ _ _ _ (by rw [h.tbl.1]; exact hk)]
    by_cases e : k = k'
    · subst e
      refine ⟨b, by rw [List.getElem?_set_self (by rw [h.len]; exact hk)], hB, ?_⟩
      rw [if_pos rfl, heap_setCell_other _ _ _ _ (hne b _ hb)]; exact hb
    · obtain ⟨b', h1, h2, h3⟩ := h.rows k' hk'
      refine ⟨b', by rw [List.getElem?_set_ne e]; exact h1, h2, ?_⟩
      rw [if_neg e, heap_setCell_other _ _ _ _ (hne b' _ h3)]; exact h3
theorem Tab.cell {w : World} {B g n W : Nat} {vs : List Value} {T : List (List Nat)} (h : Tab w B g n W vs T) {k : Nat} {r : Value} (hr : vs[k]? = some r) : w.cell? ⟨g, k, none⟩ = some r := by
  rw [cell_of_row w g k _ 27 _ h.top]; simpa using hr
theorem row_cell {w : World} {b j : Nat} {x : List Nat} (h : w.heap[b]? = some (.cells (bvs x).toArray 5 (0, 0))) (hj : j < x.length) : w.cell? ⟨b, j, none⟩ = some (.int .u8 ((Gf.ent x j : Nat) : Int)) := by
  rw [cell_of_row w b j _ 5 _ h]
  have h1 : x[j]? = some x[j] := List.getElem?_eq_getElem hj
  rw [Gf.ent_some h1]
  have := bvs_at x j _ h1
  simpa using this

set_option maxHeartbeats 400000 in
theorem addTimes_any (b1 b2 W c : Nat) (x y : List Nat) (w : World) (hW : W ≤ 140737488355328) (hc : c < 256) (hx : Gf.Bytes W x) (hy : Gf.Bytes W y)
    (h1 : w.heap[b1]? = some (.cells (bvs x).toArray 5 (0, 0))) (h2 : w.heap[b2]? = some (.cells (bvs y).toArray 5 (0, 0))) :
    Calls Try.prog 45 #[.slice (some ⟨b1, 0, none⟩) W W, .slice (some ⟨b2, 0, none⟩) W W, .int .u8 c] w fun e w' => e = .returned (.slice (some ⟨w.heap.size, 0, none⟩) W W) ∧
      Below w.heap.size w w' ∧ w'.heap.size = w.heap.size + 1 ∧ w'.heap[w.heap.size]? = some (.cells (bvs (Gf.mulAdd x y c)).toArray 5 (0, 0)) := by
  have cx : Cells w (some ⟨b1, 0, none⟩) x := by
    intro i z hz
    have hi := (List.getElem?_eq_some_iff.1 hz).1
    exact ⟨b1, 0, rfl, by rw [Nat.zero_add, row_cell h1 hi, Gf.ent_some hz]⟩
  have cy : Cells w (some ⟨b2, 0, none⟩) y := by
    intro i z hz
    have hi := (List.getElem?_eq_some_iff.1 hz).1
    exact ⟨b2, 0, rfl, by rw [Nat.zero_add, row_cell h2 hi, Gf.ent_some hz]⟩
  go_enter Try.func45, Try.ntmps45
  go_wp2_with fail
  refine (mulAdd_same _ _ W W W c x y _ hW (Nat.le_refl _) (Nat.le_refl _) hc hx.1 hy.1 hx.2 hy.2 cx cy).mono ?_
  rintro e w1 ⟨rfl, hb, hs, hg⟩
  have HG : Hid (w1.heap[w.heap.size]? = some (.cells (bvs (Gf.mulAdd x y c)).toArray 5 (0, 0))) := hg
  have HS : Hid (w1.heap.size = w.heap.size + 1) := hs
  clear hg hs
  go_wp2
  go_ret
  exact ⟨rfl, hb, HS.out, HG.out⟩

set_option maxHeartbeats 400000 in
theorem toOne_any (b W i : Nat) (x : List Nat) (w : World) (hW : W ≤ 1000) (hi : i < W) (hx : Gf.Bytes W x) (hp : Gf.ent x i ≠ 0) (h1 : w.heap[b]? = some (.cells (bvs x).toArray 5 (0, 0))) :
    Calls Try.prog 44 #[.slice (some ⟨b, 0, none⟩) W W, .int .i64 i] w fun e w' => ∃ g, e = .returned (.slice (some ⟨g, 0, none⟩) W W) ∧ w.heap.size ≤ g ∧
      Below w.heap.size w w' ∧ w'.heap[g]? = some (.cells (bvs (Gf.mulAdd (List.replicate W 0) x (Gf.gdiv 1 (Gf.ent x i)))).toArray 5 (0, 0)) := by
  have hmk := fun w => run_make_row' (P := Try.prog) 27 5 (.int .u8 0) 1 Try.underlying27 info5 rfl .i64 .i64 W (by omega) (by omega) w
  have c0 : w.cell? ⟨b, i, none⟩ = some (.int .u8 ((Gf.ent x i : Nat) : Int)) := row_cell h1 (by rw [hx.1]; exact hi)
  have hl := Gf.ent_lt hx i
  have hlt := block_lt h1
  have H1 : Hid (w.heap[b]? = some (.cells (bvs x).toArray 5 (0, 0))) := h1
  have i1 : (0 : Int) ≤ (i : Int) := by omega
  have i2 : (i : Int) < (W : Int) := by omega
  have hf : Gf.gdiv 1 (Gf.ent x i) < 256 := Gf.gm_lt _ _ (by decide)
  clear h1
  go_enter Try.func44, Try.ntmps44
  go_wp2_with fail
  refine (div_one (Gf.ent x i) _ hl hp).mono ?_
  rintro e w1 ⟨rfl, rfl⟩
  have g0 : (w1.alloc (.cells (madeCells #[.int .u8 0] W) 5)).heap[w1.heap.size]? = some (.cells (bvs (List.replicate W 0)).toArray 5 (0, 0)) := by
    rw [heap_alloc_new]
    have : madeCells #[Value.int .u8 0] W = (bvs (List.replicate W 0)).toArray := by
      apply Array.ext'; rw [toList_madeCells_one]; simp [bvs]
    rw [this]
  have g1 : (w1.alloc (.cells (madeCells #[.int .u8 0] W) 5)).heap[b]? = some (.cells (bvs x).toArray 5 (0, 0)) := by
    rw [Below.heap_alloc _ _ _ hlt]; exact H1.out
  have G0 : Hid ((w1.alloc (.cells (madeCells #[.int .u8 0] W) 5)).heap[w1.heap.size]? = some (.cells (bvs (List.replicate W 0)).toArray 5 (0, 0))) := g0
  have G1 : Hid ((w1.alloc (.cells (madeCells #[.int .u8 0] W) 5)).heap[b]? = some (.cells (bvs x).toArray 5 (0, 0))) := g1
  clear g0 g1
  go_wp2_with fail
  refine (addTimes_any _ _ W _ _ _ _ (by omega) hf (Gf.bytes_zero W) hx G0.out G1.out).mono ?_
  rintro e w2 ⟨rfl, hb, hs, hg⟩
  have HG : Hid (w2.heap[w1.heap.size + 1]? = some (.cells (bvs (Gf.mulAdd (List.replicate W 0) x (Gf.gdiv 1 (Gf.ent x i)))).toArray 5 (0, 0))) := by show _ = _; simpa using hg
  have hb2 : Below w1.heap.size w1 w2 := ((Below.refl _ _).alloc (Nat.le_refl _) _).trans (hb.mono (by simp))
  clear hg hs hmk
  go_wp2
  go_ret
  exact ⟨w1.heap.size + 1, rfl, by omega, hb2, HG.out⟩
end Go.Proofs.Ytlaoaiffgbdnpaa
