import Derived.Test.YtfnnakignemifaaS1
import Derived.Deep.RegionHeld3
import Derived.BigRegion
import Derived.Deep.AppendLies
namespace Go.Proofs.Ytfnnakignemifaa
open Go.RowKit

theorem info3 : (Try.prog.info? 3).map (fun i => (i.zero, i.size, i.bytes)) = some (some (.int .i64 0), 1, 8) := by kernel_rfl
theorem info5 : (Try.prog.info? 5).map (fun i => (i.zero, i.size, i.bytes)) = some (some (.int .u8 0), 1, 1) := by kernel_rfl

abbrev bV (a t : Nat) : Value := .int .i64 ((Gk.bt a t : Nat) : Int)
abbrev bits8 (a : Nat) : Array Value := #[bV a 0, bV a 1, bV a 2, bV a 3, bV a 4, bV a 5, bV a 6, bV a 7]
theorem bt0 (a : Nat) : (a : Int) % 2 = ((Gk.bt a 0 : Nat) : Int) := by simp [Gk.bt]
theorem bt1 (a : Nat) : (a : Int) / 2 % 2 = ((Gk.bt a 1 : Nat) : Int) := by simp [Gk.bt]
theorem bt2 (a : Nat) : (a : Int) / 2 / 2 % 2 = ((Gk.bt a 2 : Nat) : Int) := by simp [Gk.bt]; omega
theorem bt3 (a : Nat) : (a : Int) / 2 / 2 / 2 % 2 = ((Gk.bt a 3 : Nat) : Int) := by simp [Gk.bt]; omega
theorem bt4 (a : Nat) : (a : Int) / 2 / 2 / 2 / 2 % 2 = ((Gk.bt a 4 : Nat) : Int) := by simp [Gk.bt]; omega
theorem bt5 (a : Nat) : (a : Int) / 2 / 2 / 2 / 2 / 2 % 2 = ((Gk.bt a 5 : Nat) : Int) := by simp [Gk.bt]; omega
theorem bt6 (a : Nat) : (a : Int) / 2 / 2 / 2 / 2 / 2 / 2 % 2 = ((Gk.bt a 6 : Nat) : Int) := by simp [Gk.bt]; omega
theorem bt7 (a : Nat) : (a : Int) / 2 / 2 / 2 / 2 / 2 / 2 / 2 % 2 = ((Gk.bt a 7 : Nat) : Int) := by simp [Gk.bt]; omega
theorem bits8_at (a t : Nat) (h : t < 8) : (bits8 a)[t]? = some (.int .i64 ((Gk.bt a t : Nat) : Int)) := by
  have : t = 0 ∨ t = 1 ∨ t = 2 ∨ t = 3 ∨ t = 4 ∨ t = 5 ∨ t = 6 ∨ t = 7 := by omega
  rcases this with rfl | rfl | rfl | rfl | rfl | rfl | rfl | rfl <;> rfl

set_option maxHeartbeats 1000000 in
theorem terms_any (a : Nat) (w : World) (ha : a < 256) :
    Calls Try.prog 16 #[.int .u8 a] w fun e w' => e = .returned (.agg (bits8 a)) ∧ Below w.heap.size w w' := by
  go_enter Try.func16, Try.ntmps16
  go_wp2
  refine wp_loop_rounds 9 ?_
  iterate 9 (rw [rounds_succ]; go_wp2)
  refine bodyPost_ret (v := .agg (bits8 a)) ?_ rfl ⟨rfl, ?_⟩
  · rw [bt0, bt1, bt2, bt3, bt4, bt5, bt6, bt7]
    simp [results, Try.results16, go_sem]
  · exact ((Below.refl _ _).alloc (Nat.le_refl _) _).alloc (by simp) _

/-- numbers as values -/
def ivs (xs : List Nat) : List Value := xs.map fun x => .int .i64 ((x : Nat) : Int)
theorem ivs_length (xs : List Nat) : (ivs xs).length = xs.length := by simp [ivs]
theorem ivs_snoc (xs : List Nat) (x : Nat) : ivs (xs ++ [x]) = ivs xs ++ [.int .i64 ((x : Nat) : Int)] := by simp [ivs]
theorem ivs_at (xs : List Nat) (i x : Nat) (h : xs[i]? = some x) : (ivs xs)[i]? = some (.int .i64 ((x : Nat) : Int)) := by simp [ivs, h]
/-- the first k numbers of f -/
def fst (f : Nat → Nat) (k : Nat) : List Nat := (List.range k).map f
theorem fst_succ (f : Nat → Nat) (k : Nat) : fst f (k + 1) = fst f k ++ [f k] := by simp [fst, List.range_succ]
theorem fst_length (f : Nat → Nat) (k : Nat) : (fst f k).length = k := by simp [fst]
theorem fst_at (f : Nat → Nat) (k i : Nat) (h : i < k) : (fst f k)[i]? = some (f i) := by simp [fst, h]

theorem owns_below {w w' : World} {B : Nat} {e : TypeId} {size : Nat} {v : Value} {n : Nat} {xs : List Value} (h : w.ownsRow B e size v n xs) (hb : Below w.heap.size w w') : w'.ownsRow B e size v n xs := by
  refine ⟨h.1, ?_⟩
  rcases h.2 with hn | ⟨g, cap, cur, rfl, hg, hgg, rest⟩
  · exact .inl hn
  · exact .inr ⟨g, cap, cur, rfl, hg, by rw [hb.block g (Array.getElem?_eq_some_iff.1 hgg).1]; exact hgg, rest⟩
theorem owns_apart {w : World} {B : Nat} {e e' : TypeId} {size : Nat} {v : Value} {n tb : Nat} {xs : List Value} {cs : Array Value} (h : w.ownsRow B e size v n xs) (ht : w.heap[tb]? = some (.cells cs e')) (hne : e' ≠ e) : some tb ≠ v.ownBlock := by
  rcases h.2 with ⟨rfl, _⟩ | ⟨g, cap, cur, rfl, hg, hgg, rest⟩
  · intro hh; simp [Value.ownBlock] at hh
  · intro hh
    simp only [Value.ownBlock, Option.some.injEq] at hh
    subst hh
    rw [ht] at hgg
    simp at hgg
    exact hne hgg.2
theorem cell_block {w : World} {tb t : Nat} {cs : Array Value} {e : TypeId} (h : w.heap[tb]? = some (.cells cs e)) : w.cell? ⟨tb, t, none⟩ = cs[t]? := by
  simp [World.cell?, h]

/-- a list of numbers in its own block, from lo on -/
structure Lst (w w' : World) (g lo N : Nat) (f : Nat → Nat) : Prop where
  below : Below w.heap.size w w'
  old : w.heap.size ≤ g
  new : g < w'.heap.size
  cell : ∀ j, lo ≤ j → j < N → w'.cell? ⟨g, j, none⟩ = some (.int .i64 ((f j : Nat) : Int))
  fz : ∀ j, lo ≤ j → j < N → w'.frozen? ⟨g, j, none⟩ = false
theorem Lst.of {w w' : World} {v : Value} {N : Nat} {f : Nat → Nat} (h : w'.ownsRow w.heap.size 3 1 v N (ivs (fst f N))) (hN : 0 < N) (hb : Below w.heap.size w w') : ∃ g cap, v = .slice (some ⟨g, 0, none⟩) N cap ∧ Lst w w' g 0 N f := by
  rcases h.2 with ⟨rfl, h0⟩ | ⟨g, c, cur, rfl, hB, hg, h1, h2, h3, h4⟩
  · omega
  · refine ⟨g, c, rfl, hb, hB, (Array.getElem?_eq_some_iff.1 hg).1, ?_, ?_⟩
    · intro j _ hj
      rw [cell_block hg]
      have hb := ivs_at _ _ _ (fst_at f N j hj)
      rw [← h4, Nat.mul_one, List.getElem?_take, if_pos hj] at hb
      simpa using hb
    · intro j _ hj
      simp [World.frozen?, hg]
theorem Lst.set {w w' : World} {g lo N : Nat} {f f' : Nat → Nat} (h : Lst w w' g lo N f) (k : Nat) (x : Int) (hk : lo ≤ k) (hkN : k < N) (hx : x = ((f' k : Nat) : Int)) (hf : ∀ j, lo ≤ j → j < N → j ≠ k → f' j = f j) : Lst w (w'.setCell ⟨g, k, none⟩ (.int .i64 x)) g lo N f' := by
  refine ⟨h.below.setCell h.old _, h.old, by simpa using h.new, ?_, ?_⟩
  · intro j hj hjN
    by_cases e : j = k
    · subst e; rw [World.cell?_setCell_same (h := h.cell j hj hjN), hx]
    · rw [World.cell?_setCell_other (h := by intro e2; cases e2; exact e rfl), hf j hj hjN e]; exact h.cell j hj hjN
  · intro j hj hjN; rw [World.frozen?_setCell]; exact h.fz j hj hjN
theorem Lst.drew {w w' : World} {g lo N : Nat} {f : Nat → Nat} (h : Lst w w' g lo N f) : Lst w w'.drew g lo N f := ⟨h.below.drew, h.old, h.new, h.cell, h.fz⟩
theorem Lst.alloc {w w' : World} {g lo N : Nat} {f : Nat → Nat} (h : Lst w w' g lo N f) (o : Obj) : Lst w (w'.alloc o) g lo N f := by
  have h1 := h.new
  have h2 := h.old
  refine ⟨h.below.alloc (by omega) _, h.old, by simp; omega, ?_, ?_⟩
  · intro j hj hjN; rw [World.cell?_alloc_past _ _ _ (by omega)]; exact h.cell j hj hjN
  · intro j hj hjN; rw [World.frozen?_alloc_past _ _ _ (by omega)]; exact h.fz j hj hjN
theorem Lst.re {w w' : World} {g lo N : Nat} {f : Nat → Nat} (h : Lst w w' g lo N f) (lo' : Nat) (f' : Nat → Nat) (hl : lo ≤ lo') (hf : ∀ j, lo' ≤ j → j < N → f' j = f j) : Lst w w' g lo' N f' := by
  refine ⟨h.below, h.old, h.new, ?_, ?_⟩
  · intro j hj hjN; rw [hf j hj hjN]; exact h.cell j (by omega) hjN
  · intro j hj hjN; exact h.fz j (by omega) hjN
abbrev pwArr : Array Value := #[.int .i64 32, .int .i64 28, .int .i64 27, .int .i64 26, .int .i64 25, .int .i64 23, .int .i64 22, .int .i64 20, .int .i64 19, .int .i64 18, .int .i64 14, .int .i64 13, .int .i64 11, .int .i64 10, .int .i64 9, .int .i64 8, .int .i64 6, .int .i64 0]
theorem pw_at (t : Nat) (h : t < 18) : pwArr[t]? = some (.int .i64 ((Gk.pw.getD t 0 : Nat) : Int)) := by
  have : t = 0 ∨ t = 1 ∨ t = 2 ∨ t = 3 ∨ t = 4 ∨ t = 5 ∨ t = 6 ∨ t = 7 ∨ t = 8 ∨ t = 9 ∨ t = 10 ∨ t = 11 ∨ t = 12 ∨ t = 13 ∨ t = 14 ∨ t = 15 ∨ t = 16 ∨ t = 17 := by omega
  rcases this with rfl | rfl | rfl | rfl | rfl | rfl | rfl | rfl | rfl | rfl | rfl | rfl | rfl | rfl | rfl | rfl | rfl | rfl <;> rfl
theorem heap_new (w : World) (o : Obj) : (w.alloc o).heap[w.heap.size]? = some o := by
  show (w.heap.push o)[w.heap.size]? = _
  rw [Array.getElem?_push, if_pos rfl]
end Go.Proofs.Ytfnnakignemifaa
