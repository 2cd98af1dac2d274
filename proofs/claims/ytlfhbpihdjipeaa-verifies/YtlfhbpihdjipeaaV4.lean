import Derived.Test.YtlfhbpihdjipeaaS2
import Derived.Laws.CopyOwn
import Derived.Laws.OwnMore
import Derived.Deep.OwnRows
import Derived.Deep.RegionHeld3
import Derived.BigRegion
namespace Go.Proofs.Ytlfhbpihdjipeaa
open Go.RowKit

def svs (fs : List ByteArray) : List Value := fs.map .string
theorem svs_length (fs : List ByteArray) : (svs fs).length = fs.length := by simp [svs]
theorem svs_at (fs : List ByteArray) (i : Nat) (f : ByteArray) (h : fs[i]? = some f) : (svs fs)[i]? = some (.string f) := by simp [svs, h]
theorem svs_one (fs : List ByteArray) : ∀ v ∈ svs fs, v.oneCell' = true := by
  intro v hv
  simp only [svs, List.mem_map] at hv
  obtain ⟨x, _, rfl⟩ := hv
  rfl
theorem size9 : (Try.prog.info? 9).map (·.size) = some 1 := by kernel_rfl
theorem info9 : (Try.prog.info? 9).map (fun i => (i.zero, i.size, i.bytes)) = some (some (.string ⟨#[]⟩), 1, 16) := by kernel_rfl

/-- a list of texts in memory -/
def Texts (w : World) (a : Option Addr) (fs : List ByteArray) : Prop := ∀ i f, fs[i]? = some f → ∃ b off, a = some ⟨b, off, none⟩ ∧ w.cell? ⟨b, off + i, none⟩ = some (.string f)
theorem Texts.pos {w : World} {a : Option Addr} {fs : List ByteArray} (h : Texts w a fs) (hp : 0 < fs.length) : ∃ b off, a = some ⟨b, off, none⟩ ∧ b < w.heap.size ∧ ∀ i f, fs[i]? = some f → w.cell? ⟨b, off + i, none⟩ = some (.string f) := by
  obtain ⟨b, off, rfl, hc⟩ := h 0 _ (List.getElem?_eq_getElem hp)
  refine ⟨b, off, rfl, World.block_lt_of_cell? _ _ hc, ?_⟩
  intro i x hx
  obtain ⟨b', off', e, hc'⟩ := h i x hx
  simp only [Option.some.injEq, Addr.mk.injEq, and_true] at e
  obtain ⟨rfl, rfl⟩ := e
  exact hc'
theorem Texts.keep {w w' : World} {a : Option Addr} {fs : List ByteArray} (h : Texts w a fs) (hb : Below w.heap.size w w') : Texts w' a fs := by
  intro i x hx
  obtain ⟨b, off, rfl, hc⟩ := h i x hx
  exact ⟨b, off, rfl, by rw [hb.cell (p := ⟨b, off + i, none⟩) (World.block_lt_of_cell? _ _ hc)]; exact hc⟩
theorem Texts.of_block {w : World} {g : Nat} {fs : List ByteArray} {z : Nat × Nat} (h : w.heap[g]? = some (.cells (svs fs).toArray 9 z)) : Texts w (some ⟨g, 0, none⟩) fs := by
  intro i f hf
  refine ⟨g, 0, rfl, ?_⟩
  rw [Nat.zero_add, cell_of_row w g i _ 9 _ h]
  simpa using svs_at fs i f hf
theorem Texts.left {w : World} {a : Option Addr} {fs gs : List ByteArray} (h : Texts w a (fs ++ gs)) : Texts w a fs := by
  intro i f hf
  exact h i f (by rw [List.getElem?_append_left (List.getElem?_eq_some_iff.1 hf).1]; exact hf)

theorem splice_at (cur us : List Value) (off j : Nat) (hu : off + us.length ≤ cur.length) : (splice cur off us)[j]? = if j < off then cur[j]? else if j < off + us.length then us[j - off]? else cur[j]? := by
  simp only [splice, List.getElem?_append, List.length_take, List.getElem?_take, List.getElem?_drop]
  rw [show min off cur.length = off by omega]
  by_cases a : j < off
  · simp [a]
  · by_cases b : j < off + us.length
    · simp [a, b]; omega
    · have b' : ¬ j - off < us.length := by omega
      simp only [a, b, b', if_false]
      congr 1; omega

abbrev s1 : ByteArray := ⟨#[98, 101, 121, 111, 110, 100]⟩
abbrev s2 : ByteArray := ⟨#[102, 117, 114, 116, 104, 101, 114]⟩
theorem lent_cells (xs : List ByteArray) (n : Nat) (hl : xs.length = n) : (((splice (List.replicate (n + 2) (Value.string ⟨#[]⟩)) 0 (svs xs)).toArray.setIfInBounds n (.string s1)).setIfInBounds (n + 1) (.string s2)) = (svs (xs ++ [s1, s2])).toArray := by
  apply Array.ext'
  simp only [Array.toList_setIfInBounds]
  apply List.ext_getElem?
  intro i
  rw [List.getElem?_set, List.getElem?_set]
  have hb : (svs xs).length = n := by rw [svs_length, hl]
  rw [splice_at _ _ _ _ (by simp [hb])]
  simp only [List.length_set]
  rw [length_splice _ _ _ (by simp [hb])]
  simp only [List.length_replicate, hb]
  rcases Nat.lt_trichotomy i n with h | h | h
  · rw [if_neg (by omega), if_neg (by omega), if_neg (by omega), if_pos (by omega)]
    simp [svs, List.getElem?_append, hl, h]
  · subst h
    rw [if_neg (by omega), if_pos rfl, if_pos (by omega)]
    simp [svs, hl]
  · by_cases h2 : i = n + 1
    · subst h2
      rw [if_pos rfl, if_pos (by omega)]
      simp [svs, hl]
    · rw [if_neg (by omega), if_neg (by omega), if_neg (by omega), if_neg (by omega)]
      rw [List.getElem?_eq_none (by simp; omega), List.getElem?_eq_none (by rw [svs_length]; simp; omega)]

set_option maxHeartbeats 400000 in
theorem lentTexts_any (a : Option Addr) (n cap : Nat) (xs : List ByteArray) (w : World) (hn : n ≤ 8796093022207) (hl : xs.length = n) (hc : Texts w a xs) :
    Calls Try.prog 4 #[.slice a n cap] w fun e w' => e = .returned (.slice (some ⟨w.heap.size, 0, none⟩) (n + 2) (n + 2)) ∧ Below w.heap.size w w' ∧ w'.heap[w.heap.size]? = some (.cells (svs (xs ++ [s1, s2])).toArray 9 (0, 0)) := by
  have hmk := fun w => run_make_row' (P := Try.prog) 22 9 (.string ⟨#[]⟩) 16 Try.underlying22 info9 rfl .i64 .i64 (n + 2) (by omega) (by omega) w
  have e2 : ((n + 2 : Nat) : Int) = (n : Int) + 2 := by omega
  rw [e2] at hmk
  have HC : Hid (Texts w a xs) := hc
  have HL : Hid (xs.length = n) := hl
  clear hc hl e2
  have hb0 : Below w.heap.size w (w.alloc (.cells (madeCells #[.string ⟨#[]⟩] (n + 2)) 9)) := (Below.refl _ _).alloc (Nat.le_refl _) _
  have hg0 : (w.alloc (.cells (madeCells #[.string ⟨#[]⟩] (n + 2)) 9)).heap[w.heap.size]? = some (.cells (List.replicate (n + 2) (Value.string ⟨#[]⟩)).toArray 9 (0, 0)) := by
    rw [heap_alloc_new, ← toList_madeCells_one]
  have HB := hb0
  have HG : Hid ((w.alloc (.cells (madeCells #[.string ⟨#[]⟩] (n + 2)) 9)).heap[w.heap.size]? = some (.cells (List.replicate (n + 2) (Value.string ⟨#[]⟩)).toArray 9 (0, 0))) := hg0
  clear hb0 hg0
  go_enter Try.func4, Try.ntmps4
  go_wp2_with (refine wpList_copy_splice rfl (.tmp 10) (.tmp 11) 22 22 rfl 9 Try.underlying22 size9 (some ⟨w.heap.size, 0, none⟩) a (n + 2) (n + 2) n cap rfl rfl w.heap.size 0 (List.replicate (n + 2) (Value.string ⟨#[]⟩)) 9 HG.out (svs xs) ?c1 ?c2 ?c3 (svs_one xs) w.heap.size w HB (Nat.le_refl _) ?_)
  case c1 => rw [svs_length, HL.out]; simp
  case c2 =>
    intro hp
    rw [svs_length] at hp
    obtain ⟨b, off, rfl, hlt, hcell⟩ := HC.out.pos hp
    refine ⟨_, rfl, ?_⟩
    intro j v hv
    simp only [svs, List.getElem?_map, Option.map_eq_some_iff] at hv
    obtain ⟨x, hx, rfl⟩ := hv
    have : (⟨b, off, none⟩ : Addr).add j = ⟨b, off + j, none⟩ := by simp [Addr.add]
    rw [this, HB.cell (p := ⟨b, off + j, none⟩) hlt]
    exact hcell j x hx
  case c3 => rw [svs_length, HL.out]; simp
  intro w1 hg1 hb1
  have hsz : (splice (List.replicate (n + 2) (Value.string ⟨#[]⟩)) 0 (svs xs)).length = n + 2 := by rw [length_splice _ _ _ (by rw [svs_length, HL.out]; simp)]; simp
  obtain ⟨v0, c0⟩ : ∃ v0, w1.cell? ⟨w.heap.size, n, none⟩ = some v0 := by
    rw [cell_of_row w1 _ n _ 9 _ hg1.out]; exact ⟨_, Array.getElem?_eq_getElem (by simp only [List.size_toArray]; omega)⟩
  obtain ⟨v1, c1⟩ : ∃ v1, w1.cell? ⟨w.heap.size, n + 1, none⟩ = some v1 := by
    rw [cell_of_row w1 _ (n + 1) _ 9 _ hg1.out]; exact ⟨_, Array.getElem?_eq_getElem (by simp only [List.size_toArray]; omega)⟩
  have f0 : w1.frozen? ⟨w.heap.size, n, none⟩ = false := frozen_of_row w1 _ _ _ 9 hg1.out
  have f1 : w1.frozen? ⟨w.heap.size, n + 1, none⟩ = false := frozen_of_row w1 _ _ _ 9 hg1.out
  have hfin : ((w1.setCell ⟨w.heap.size, n, none⟩ (.string s1)).setCell ⟨w.heap.size, n + 1, none⟩ (.string s2)).heap[w.heap.size]? = some (.cells (svs (xs ++ [s1, s2])).toArray 9 (0, 0)) := by
    rw [heap_setCell_same _ _ _ _ 9 _ (heap_setCell_same _ _ _ _ 9 _ hg1.out), lent_cells xs n HL.out]
  have HF : Hid (((w1.setCell ⟨w.heap.size, n, none⟩ (.string s1)).setCell ⟨w.heap.size, n + 1, none⟩ (.string s2)).heap[w.heap.size]? = some (.cells (svs (xs ++ [s1, s2])).toArray 9 (0, 0))) := hfin
  have k1 : (n : Int) < (n : Int) + 2 := by omega
  have k2 : (n : Int) + 1 < (n : Int) + 2 := by omega
  clear hfin hsz hmk
  go_wp2
  go_ret
  exact ⟨rfl, (hb1.setCell (Nat.le_refl _) _).setCell (Nat.le_refl _) _, HF.out⟩

set_option maxHeartbeats 400000 in
theorem sameTexts_pos (b1 o1 b2 o2 n c1 c2 : Nat) (xs : List ByteArray) (w : World) (hn : n ≤ 140737488360000) (hl : xs.length = n)
    (h1 : ∀ i x, xs[i]? = some x → w.cell? ⟨b1, o1 + i, none⟩ = some (.string x))
    (h2 : ∀ i x, xs[i]? = some x → w.cell? ⟨b2, o2 + i, none⟩ = some (.string x)) :
    Calls Try.prog 8 #[.slice (some ⟨b1, o1, none⟩) n c1, .slice (some ⟨b2, o2, none⟩) n c2] w fun e w' => e = .returned (.bool true) ∧ w'.heap = w.heap ∧ Below w.heap.size w w' := by
  have hne : ((n : Int) != (n : Int)) = false := by simp
  have H1 : Hid (∀ i x, xs[i]? = some x → w.cell? ⟨b1, o1 + i, none⟩ = some (.string x)) := h1
  have H2 : Hid (∀ i x, xs[i]? = some x → w.cell? ⟨b2, o2 + i, none⟩ = some (.string x)) := h2
  have HL : Hid (xs.length = n) := hl
  clear h1 h2 hl
  go_enter Try.func8, Try.ntmps8
  go_wp2
  go_loopw [5] (fun i w' => ∃ k : Nat, k ≤ n ∧ i = .int .i64 k ∧ w'.heap = w.heap ∧ Below w.heap.size w w') (fun i _ => (n - intOf i).toNat)
  case atStart => exact ⟨0, by omega, rfl, rfl, Below.refl _ _⟩
  case round =>
    obtain ⟨k, hk, rfl, hh, hb⟩ := hrel
    have HH : Hid (wr.heap = w.heap) := hh
    by_cases hlt : k < n
    · obtain ⟨x, hx⟩ : ∃ x, xs[k]? = some x := ⟨_, List.getElem?_eq_getElem (by rw [HL.out]; exact hlt)⟩
      have g1 : wr.cell? ⟨b1, o1 + k, none⟩ = some (.string x) := by rw [World.cell?_of_block (w := w) (by rw [hh])]; exact H1.out k x hx
      have g2 : wr.cell? ⟨b2, o2 + k, none⟩ = some (.string x) := by rw [World.cell?_of_block (w := w) (by rw [hh])]; exact H2.out k x hx
      have hxx : (x.toList == x.toList) = true := by simp
      have i1 : (0 : Int) ≤ (k : Int) := by omega
      have i2 : (k : Int) < (n : Int) := by omega
      clear hh hx
      go_wp2
      go_region
      all_goals
        go_wp2
        go_roundw
        case rel => exact ⟨k + 1, by omega, by go_num, HH.out, hb.drew⟩
        case measure => simp [intOf]; omega
    · clear hh
      go_wp2
      go_ret
      exact ⟨rfl, HH.out, hb⟩
end Go.Proofs.Ytlfhbpihdjipeaa
