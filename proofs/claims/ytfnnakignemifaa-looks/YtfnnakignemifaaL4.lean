import Derived.Test.YtfnnakignemifaaL3
namespace Go.Proofs.Ytfnnakignemifaa
open Go.RowKit

theorem heap_set {w : World} {b j : Nat} {cs : Array Value} {t : TypeId} {v : Value} (h : w.heap[b]? = some (.cells cs t)) : (w.setCell ⟨b, j, none⟩ v).heap[b]? = some (.cells (cs.setIfInBounds j v) t) := by
  simp [World.setCell, Array.getElem?_modify, h]
theorem frozen_block {w : World} {b j : Nat} {cs : Array Value} {t : TypeId} (h : w.heap[b]? = some (.cells cs t)) : w.frozen? ⟨b, j, none⟩ = false := by
  simp [World.frozen?, h]
theorem heap_past {w : World} {b : Nat} {x : Obj} (h : w.heap[b]? = some x) (o : Obj) : (w.alloc o).heap[b]? = some x := by
  rw [Below.heap_alloc _ _ _ (Array.getElem?_eq_some_iff.1 h).1]; exact h
theorem heap_far {w : World} {b b' j : Nat} {x : Obj} {v : Value} (h : w.heap[b]? = some x) (hne : b ≠ b') : (w.setCell ⟨b', j, none⟩ v).heap[b]? = some x := by
  rw [Below.heap_setCell _ _ _ _ hne]; exact h
theorem gb_high {a w : World} {row : Option Nat} (h : a.grownBy w row) {b j : Nat} (hb : a.heap.size ≤ b) (v : Value) : a.grownBy (w.setCell ⟨b, j, none⟩ v) row :=
  ⟨h.os, h.tape, h.output, by have := h.size; simpa [World.setCell] using this, fun i hi hne => (Below.heap_setCell _ _ _ _ (fun e => by simp only at e; omega)).trans (h.block i hi hne)⟩

/-- five stores into a block -/
abbrev set5 (w : World) (b : Nat) (K N B I L : Int) : World := ((((w.setCell ⟨b, 0, none⟩ (.int .i64 K)).setCell ⟨b, 1, none⟩ (.int .i64 N)).setCell ⟨b, 2, none⟩ (.int .i64 B)).setCell ⟨b, 3, none⟩ (.int .i64 I)).setCell ⟨b, 4, none⟩ (.int .i64 L)
theorem set5_at {w : World} {b : Nat} {x0 x1 x2 x3 x4 : Value} {t : TypeId} (K N B I L : Int) (h : w.heap[b]? = some (.cells #[x0, x1, x2, x3, x4] t)) : (set5 w b K N B I L).heap[b]? = some (.cells #[.int .i64 K, .int .i64 N, .int .i64 B, .int .i64 I, .int .i64 L] t) := by
  have := heap_set (j := 4) (v := .int .i64 L) (heap_set (j := 3) (v := .int .i64 I) (heap_set (j := 2) (v := .int .i64 B) (heap_set (j := 1) (v := .int .i64 N) (heap_set (j := 0) (v := .int .i64 K) h))))
  simpa using this
theorem set5_far {w : World} {b b' : Nat} {x : Obj} (K N B I L : Int) (h : w.heap[b']? = some x) (hne : b' ≠ b) : (set5 w b K N B I L).heap[b']? = some x :=
  heap_far (heap_far (heap_far (heap_far (heap_far h hne) hne) hne) hne) hne
theorem set5_high {a w : World} {row : Option Nat} (h : a.grownBy w row) {b : Nat} (hb : a.heap.size ≤ b) (K N B I L : Int) : a.grownBy (set5 w b K N B I L) row :=
  gb_high (gb_high (gb_high (gb_high (gb_high h hb _) hb _) hb _) hb _) hb _
theorem cell_of {w w' : World} {b j : Nat} (h : w'.heap[b]? = w.heap[b]?) : w'.cell? ⟨b, j, none⟩ = w.cell? ⟨b, j, none⟩ := World.cell?_of_block (w := w) (a := ⟨b, j, none⟩) h
theorem frozen_of {w w' : World} {b j : Nat} (h : w'.heap[b]? = w.heap[b]?) : w'.frozen? ⟨b, j, none⟩ = w.frozen? ⟨b, j, none⟩ := by simp [World.frozen?, h]
theorem set5_same (w : World) (b b' : Nat) (K N B I L : Int) (hne : b' ≠ b) : (set5 w b K N B I L).heap[b']? = w.heap[b']? := by
  simp only [set5]
  rw [Below.heap_setCell _ _ _ _ hne, Below.heap_setCell _ _ _ _ hne, Below.heap_setCell _ _ _ _ hne, Below.heap_setCell _ _ _ _ hne, Below.heap_setCell _ _ _ _ hne]

/-- what readHeader's inner function leaves: a: where the reader stands -/
structure RH (w : World) (g : Nat) (K N B I L : Int) (G : Bool) (w' : World) : Prop where
  kept : w.grownBy w' (some g)
  h : w'.heap[w.heap.size + 1]? = some (.cells #[.int .i64 K, .int .i64 N, .int .i64 B, .int .i64 I, .int .i64 L] 28)
  gd : w'.heap[w.heap.size + 2]? = some (.cells #[.bool G] 4)
theorem RH.alloc {w : World} {g : Nat} {K N B I L : Int} {G : Bool} {w' : World} (h : RH w g K N B I L G w') (o : Obj) : RH w g K N B I L G (w'.alloc o) :=
  ⟨gb_trans h.kept (gb_alloc _ _ _), heap_past h.h _, heap_past h.gd _⟩

abbrev z5 : Array Value := #[.int .i64 0, .int .i64 0, .int .i64 0, .int .i64 0, .int .i64 0]
/-- the world in which readHeader's inner function is called -/
abbrev wRH (w : World) (g : Nat) : World := ((w.alloc (.cells #[.pointer (some ⟨g, 0, none⟩)] 47)).alloc (.cells z5 28)).alloc (.cells #[.bool false] 4)

/-- is the header that stands at the front good? -/
abbrev Gd (f : ByteArray) : Prop := Hok (numAt f 4 1) (numAt f 5 1) (numAt f 8 2) (numAt f 6 1) (numAt f 10 4) ∧ hd (numAt f 4 1) (numAt f 5 1) (numAt f 8 2) (numAt f 6 1) (numAt f 10 4) = f.extract 0 18

theorem headA (k n b i l : Nat) : ∃ s c, (∀ w : World, Calls Try.prog 9 #[hdr k n b i l] w fun e w' => e = .returned (.tuple #[.string s, .int .i64 c]) ∧ Below w.heap.size w w') ∧ (Hok k n b i l → s = hd k n b i l) ∧ (¬ Hok k n b i l → s = ⟨#[]⟩) := by
  by_cases h : Hok k n b i l
  · exact ⟨_, _, fun w => head_yes k n b i l w h, fun _ => rfl, fun h' => absurd h h'⟩
  · exact ⟨_, _, fun w => head_no k n b i l w h, fun h' => absurd h' h, fun _ => rfl⟩

theorem beq_str (a b : ByteArray) : (a.toList == b.toList) = true ↔ a = b := by
  rw [beq_iff_eq, ByteArray.toList_eq, ByteArray.toList_eq]
  constructor
  · intro h
    cases a; cases b
    simp only [Array.toList_inj] at h
    rw [h]
  · rintro rfl; rfl

set_option maxHeartbeats 1000000 in
theorem rh1_ok (f : ByteArray) (g : Nat) (w : World) (h : 18 ≤ f.size) (hg : w.cell? ⟨g, 0, none⟩ = some (.string (tl f 0))) (hz : w.frozen? ⟨g, 0, none⟩ = false) :
    Calls Try.prog 31 #[.pointer (some ⟨w.heap.size, 0, none⟩), .pointer (some ⟨w.heap.size + 1, 0, none⟩), .pointer (some ⟨w.heap.size + 2, 0, none⟩)] (wRH w g) fun e w' =>
      e = .returned (.tuple #[]) ∧ ∃ G : Bool, (G = true ↔ Gd f) ∧ RH w g (numAt f 4 1) (numAt f 5 1) (numAt f 8 2) (numAt f 6 1) (numAt f 10 4) G w' ∧ w'.cell? ⟨g, 0, none⟩ = some (.string (tl f 18)) ∧ w'.frozen? ⟨g, 0, none⟩ = false := by
  have hlt := World.block_lt_of_cell? _ _ hg
  obtain ⟨s, c, hH, hy, hn⟩ := headA (numAt f 4 1) (numAt f 5 1) (numAt f 8 2) (numAt f 6 1) (numAt f 10 4)
  have HH : Hid (∀ w : World, Calls Try.prog 9 #[hdr (numAt f 4 1) (numAt f 5 1) (numAt f 8 2) (numAt f 6 1) (numAt f 10 4)] w fun e w' => e = .returned (.tuple #[.string s, .int .i64 c]) ∧ Below w.heap.size w w') := hH
  have HY : Hid (Hok (numAt f 4 1) (numAt f 5 1) (numAt f 8 2) (numAt f 6 1) (numAt f 10 4) → s = hd (numAt f 4 1) (numAt f 5 1) (numAt f 8 2) (numAt f 6 1) (numAt f 10 4)) := hy
  have HN : Hid (¬ Hok (numAt f 4 1) (numAt f 5 1) (numAt f 8 2) (numAt f 6 1) (numAt f 10 4) → s = ⟨#[]⟩) := hn
  clear hH hy hn
  obtain ⟨wx, hwx⟩ : ∃ wx, wRH w g = wx := ⟨_, rfl⟩
  have hb0 : wx.heap[w.heap.size]? = some (.cells #[.pointer (some ⟨g, 0, none⟩)] 47) := by rw [← hwx]; exact heap_past (heap_past (heap_new _ _) _) _
  have hb1 : wx.heap[w.heap.size + 1]? = some (.cells z5 28) := by rw [← hwx]; exact heap_past (by have := heap_new (w.alloc (.cells #[.pointer (some ⟨g, 0, none⟩)] 47)) (.cells z5 28); simpa using this) _
  have hb2 : wx.heap[w.heap.size + 2]? = some (.cells #[.bool false] 4) := by
    rw [← hwx]
    have := heap_new ((w.alloc (.cells #[.pointer (some ⟨g, 0, none⟩)] 47)).alloc (.cells z5 28)) (.cells #[.bool false] 4)
    simpa using this
  have kx : w.grownBy wx (some g) := by rw [← hwx]; exact gb_trans (gb_alloc _ _ _) (gb0 _ _ _ _)
  have cg : wx.cell? ⟨g, 0, none⟩ = some (.string (tl f 0)) := by rw [← hwx]; exact al1 (al2 hg _ _) _
  have zg : wx.frozen? ⟨g, 0, none⟩ = false := by rw [← hwx]; exact al1f (al2 hg _ _) (al2f hg hz _ _) _
  rw [hwx]
  clear hwx hg hz
  have c0 : wx.cell? ⟨w.heap.size, 0, none⟩ = some (.pointer (some ⟨g, 0, none⟩)) := cell_block hb0
  have hcut : (tl f 0).extract 0 18 = f.extract 0 18 := tl_cut f 0 18 h
  have hts : (tl f 0).size = f.size := tl_size f 0
  go_enter Try.func31, Try.ntmps31
  go_wp2_with fail
  refine (header_ok f g wx h cg zg).mono ?_
  rintro e w1 ⟨rfl, hR⟩
  have b0 : w1.heap[w.heap.size]? = some (.cells #[.pointer (some ⟨g, 0, none⟩)] 47) := by
    rw [hR.kept.block _ (Array.getElem?_eq_some_iff.1 hb0).1 (by simp; omega)]; exact hb0
  have b1 : w1.heap[w.heap.size + 1]? = some (.cells z5 28) := by
    rw [hR.kept.block _ (Array.getElem?_eq_some_iff.1 hb1).1 (by simp; omega)]; exact hb1
  have b2 : w1.heap[w.heap.size + 2]? = some (.cells #[.bool false] 4) := by
    rw [hR.kept.block _ (Array.getElem?_eq_some_iff.1 hb2).1 (by simp; omega)]; exact hb2
  have k1 := gb_trans kx hR.kept
  have cg1 := hR.cell
  have zg1 := hR.fz
  clear hR hb0 hb1 hb2 kx cg zg c0
  have d0 : w1.cell? ⟨w.heap.size + 1, 0, none⟩ = some (.int .i64 0) := cell_block b1
  have d1 : w1.cell? ⟨w.heap.size + 1, 1, none⟩ = some (.int .i64 0) := cell_block b1
  have d2 : w1.cell? ⟨w.heap.size + 1, 2, none⟩ = some (.int .i64 0) := cell_block b1
  have d3 : w1.cell? ⟨w.heap.size + 1, 3, none⟩ = some (.int .i64 0) := cell_block b1
  have d4 : w1.cell? ⟨w.heap.size + 1, 4, none⟩ = some (.int .i64 0) := cell_block b1
  have e0 : w1.frozen? ⟨w.heap.size + 1, 0, none⟩ = false := frozen_block b1
  have e1 : w1.frozen? ⟨w.heap.size + 1, 1, none⟩ = false := frozen_block b1
  have e2 : w1.frozen? ⟨w.heap.size + 1, 2, none⟩ = false := frozen_block b1
  have e3 : w1.frozen? ⟨w.heap.size + 1, 3, none⟩ = false := frozen_block b1
  have e4 : w1.frozen? ⟨w.heap.size + 1, 4, none⟩ = false := frozen_block b1
  go_wp2_with fail
  refine (HH.out _).mono ?_
  rintro e w2 ⟨rfl, hb⟩
  have hb' : Below (set5 w1 (w.heap.size + 1) (numAt f 4 1) (numAt f 5 1) (numAt f 8 2) (numAt f 6 1) (numAt f 10 4)).heap.size (set5 w1 (w.heap.size + 1) (numAt f 4 1) (numAt f 5 1) (numAt f 8 2) (numAt f 6 1) (numAt f 10 4)) w2 := hb
  have sz5 : (set5 w1 (w.heap.size + 1) (numAt f 4 1) (numAt f 5 1) (numAt f 8 2) (numAt f 6 1) (numAt f 10 4)).heap.size = w1.heap.size := by simp [World.setCell]
  have l2 : w.heap.size + 2 < w1.heap.size := (Array.getElem?_eq_some_iff.1 b2).1
  have B1 : w2.heap[w.heap.size + 1]? = some (.cells #[.int .i64 (numAt f 4 1), .int .i64 (numAt f 5 1), .int .i64 (numAt f 8 2), .int .i64 (numAt f 6 1), .int .i64 (numAt f 10 4)] 28) := by
    rw [hb'.block _ (by omega)]; exact set5_at _ _ _ _ _ b1
  have B2 : w2.heap[w.heap.size + 2]? = some (.cells #[.bool false] 4) := by
    rw [hb'.block _ (by omega)]; exact set5_far _ _ _ _ _ b2 (by omega)
  have K2 : w.grownBy w2 (some g) := gb_trans (set5_high k1 (by omega) _ _ _ _ _) (gb_below _ hb')
  have eg : w2.heap[g]? = w1.heap[g]? := by
    rw [hb'.block _ (by omega), set5_same _ _ _ _ _ _ _ _ (by omega)]
  have cg2 := (cell_of (j := 0) eg).trans cg1
  have zg2 := (frozen_of (j := 0) eg).trans zg1
  clear hb hb' k1 cg1 zg1 eg b0 b1 b2 d0 d1 d2 d3 d4 e0 e1 e2 e3 e4 l2 sz5
  have p0 : w2.cell? ⟨w.heap.size + 2, 0, none⟩ = some (.bool false) := cell_block B2
  have p1 : w2.frozen? ⟨w.heap.size + 2, 0, none⟩ = false := frozen_block B2
  go_wp2_with fail
  go_end0
  have hG : (s.toList == (f.extract 0 18).toList) = true ↔ Gd f := by
    rw [beq_str]
    by_cases hk : Hok (numAt f 4 1) (numAt f 5 1) (numAt f 8 2) (numAt f 6 1) (numAt f 10 4)
    · rw [HY.out hk]
      exact ⟨fun hh => ⟨hk, hh⟩, fun hh => hh.2⟩
    · constructor
      · intro hh
        rw [HN.out hk] at hh
        have h0 : (⟨#[]⟩ : ByteArray).size = (f.extract 0 18).size := by rw [hh]
        rw [ByteArray.size_extract] at h0
        have h1 : (⟨#[]⟩ : ByteArray).size = 0 := rfl
        omega
      · intro hh; exact absurd hh.1 hk
  have hne : g ≠ w.heap.size + 2 := by omega
  refine ⟨rfl, _, hG, ⟨gb_high K2 (by omega) _, heap_far B1 (by omega), by simpa using heap_set (j := 0) (v := .bool (s.toList == (f.extract 0 18).toList)) B2⟩, ?_, ?_⟩
  · rw [cell_of (Below.heap_setCell _ _ _ _ hne)]; exact cg2
  · rw [frozen_of (Below.heap_setCell _ _ _ _ hne)]; exact zg2

set_option maxHeartbeats 1000000 in
theorem rh1_short (f : ByteArray) (g : Nat) (w : World) (h : ¬ 18 ≤ f.size) (hg : w.cell? ⟨g, 0, none⟩ = some (.string (tl f 0))) (hz : w.frozen? ⟨g, 0, none⟩ = false) :
    Calls Try.prog 31 #[.pointer (some ⟨w.heap.size, 0, none⟩), .pointer (some ⟨w.heap.size + 1, 0, none⟩), .pointer (some ⟨w.heap.size + 2, 0, none⟩)] (wRH w g) fun e w' =>
      e = .panicked [short] ∧ RH w g 0 0 0 0 0 false w' := by
  have hlt := World.block_lt_of_cell? _ _ hg
  obtain ⟨wx, hwx⟩ : ∃ wx, wRH w g = wx := ⟨_, rfl⟩
  have hb0 : wx.heap[w.heap.size]? = some (.cells #[.pointer (some ⟨g, 0, none⟩)] 47) := by rw [← hwx]; exact heap_past (heap_past (heap_new _ _) _) _
  have hb1 : wx.heap[w.heap.size + 1]? = some (.cells z5 28) := by rw [← hwx]; exact heap_past (by have := heap_new (w.alloc (.cells #[.pointer (some ⟨g, 0, none⟩)] 47)) (.cells z5 28); simpa using this) _
  have hb2 : wx.heap[w.heap.size + 2]? = some (.cells #[.bool false] 4) := by
    rw [← hwx]
    have := heap_new ((w.alloc (.cells #[.pointer (some ⟨g, 0, none⟩)] 47)).alloc (.cells z5 28)) (.cells #[.bool false] 4)
    simpa using this
  have kx : w.grownBy wx (some g) := by rw [← hwx]; exact gb_trans (gb_alloc _ _ _) (gb0 _ _ _ _)
  have cg : wx.cell? ⟨g, 0, none⟩ = some (.string (tl f 0)) := by rw [← hwx]; exact al1 (al2 hg _ _) _
  have zg : wx.frozen? ⟨g, 0, none⟩ = false := by rw [← hwx]; exact al1f (al2 hg _ _) (al2f hg hz _ _) _
  rw [hwx]
  clear hwx hg hz
  have c0 : wx.cell? ⟨w.heap.size, 0, none⟩ = some (.pointer (some ⟨g, 0, none⟩)) := cell_block hb0
  go_enter Try.func31, Try.ntmps31
  go_wp2_with fail
  refine (header_short f g wx h cg zg).mono ?_
  rintro e w1 ⟨rfl, hR⟩
  refine ⟨rfl, rfl, gb_trans kx hR, ?_, ?_⟩
  · rw [hR.block _ (Array.getElem?_eq_some_iff.1 hb1).1 (by simp; omega)]; exact hb1
  · rw [hR.block _ (Array.getElem?_eq_some_iff.1 hb2).1 (by simp; omega)]; exact hb2

end Go.Proofs.Ytfnnakignemifaa
