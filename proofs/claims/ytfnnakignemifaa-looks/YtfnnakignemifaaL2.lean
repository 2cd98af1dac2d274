import Derived.Test.YtfnnakignemifaaL1
namespace Go.Proofs.Ytfnnakignemifaa
open Go.RowKit

theorem al1 {w : World} {g : Nat} {v : Value} (h : w.cell? ⟨g, 0, none⟩ = some v) (o1 : Obj) : (w.alloc o1).cell? ⟨g, 0, none⟩ = some v := by
  rw [World.cell?_alloc_past _ _ _ (World.block_lt_of_cell? _ _ h)]; exact h
theorem al1f {w : World} {g : Nat} {v : Value} (h : w.cell? ⟨g, 0, none⟩ = some v) (hz : w.frozen? ⟨g, 0, none⟩ = false) (o1 : Obj) : (w.alloc o1).frozen? ⟨g, 0, none⟩ = false := by
  rw [World.frozen?_alloc_past _ _ _ (World.block_lt_of_cell? _ _ h)]; exact hz
theorem al2 {w : World} {g : Nat} {v : Value} (h : w.cell? ⟨g, 0, none⟩ = some v) (o1 o2 : Obj) : ((w.alloc o1).alloc o2).cell? ⟨g, 0, none⟩ = some v := al1 (al1 h o1) o2
theorem al2f {w : World} {g : Nat} {v : Value} (h : w.cell? ⟨g, 0, none⟩ = some v) (hz : w.frozen? ⟨g, 0, none⟩ = false) (o1 o2 : Obj) : ((w.alloc o1).alloc o2).frozen? ⟨g, 0, none⟩ = false := al1f (al1 h o1) (al1f h hz o1) o2
theorem sc {w : World} {g : Nat} {v : Value} (h : w.cell? ⟨g, 0, none⟩ = some v) (x : Value) : (w.setCell ⟨g, 0, none⟩ x).cell? ⟨g, 0, none⟩ = some x := World.cell?_setCell_same (h := h) ..
theorem scf {w : World} {g : Nat} (hz : w.frozen? ⟨g, 0, none⟩ = false) (x : Value) : (w.setCell ⟨g, 0, none⟩ x).frozen? ⟨g, 0, none⟩ = false := by rw [World.frozen?_setCell]; exact hz

theorem set_set (w : World) (g : Nat) (x y : Value) : (w.setCell ⟨g, 0, none⟩ x).setCell ⟨g, 0, none⟩ y = w.setCell ⟨g, 0, none⟩ y := by
  unfold World.setCell
  congr 1
  apply Array.ext_getElem?
  intro i
  simp only [Array.getElem?_modify]
  split
  · cases w.heap[i]? with
    | none => rfl
    | some o => cases o <;> simp
  · rfl

/-- the reader stands at a; nothing else that was there has turned -/
structure Rd (w : World) (f : ByteArray) (g a : Nat) (w' : World) : Prop where
  kept : w.grownBy w' (some g)
  cell : w'.cell? ⟨g, 0, none⟩ = some (.string (tl f a))
  fz : w'.frozen? ⟨g, 0, none⟩ = false
theorem gb_trans {a w w' : World} {row : Option Nat} (h : a.grownBy w row) (k : w.grownBy w' row) : a.grownBy w' row :=
  ⟨k.os.trans h.os, k.tape.trans h.tape, k.output.trans h.output, Nat.le_trans h.size k.size, fun i hi hne => (k.block i (Nat.lt_of_lt_of_le hi h.size) hne).trans (h.block i hi hne)⟩
theorem gb_set (w : World) (g : Nat) (x : Value) : w.grownBy (w.setCell ⟨g, 0, none⟩ x) (some g) :=
  ⟨rfl, rfl, rfl, by simp [World.setCell], fun i _ hne => Below.heap_setCell _ _ _ _ (fun e => hne (by rw [e]))⟩
theorem gb_below {w w' : World} (row : Option Nat) (h : Below w.heap.size w w') : w.grownBy w' row := ⟨h.os, h.tape, h.output, h.size, fun i hi _ => h.block i hi⟩
theorem gb_alloc (w : World) (o : Obj) (row : Option Nat) : w.grownBy (w.alloc o) row := gb_below row ((Below.refl _ _).alloc (Nat.le_refl _) _)
theorem gb0 (w : World) (g : Nat) (o1 o2 : Obj) : w.grownBy ((w.alloc o1).alloc o2) (some g) := gb_trans (gb_alloc _ _ _) (gb_alloc _ _ _)
theorem gb2 (w : World) (g : Nat) (x : Value) (o1 o2 : Obj) : w.grownBy (((w.setCell ⟨g, 0, none⟩ x).alloc o1).alloc o2) (some g) := gb_trans (gb_set _ _ _) (gb0 _ _ _ _)

set_option maxHeartbeats 400000 in
theorem header_ok (f : ByteArray) (g : Nat) (w : World) (h : 18 ≤ f.size) (hg : w.cell? ⟨g, 0, none⟩ = some (.string (tl f 0))) (hz : w.frozen? ⟨g, 0, none⟩ = false) :
    Calls Try.prog 32 #[.pointer (some ⟨g, 0, none⟩)] w fun e w' => e = .returned (hdr (numAt f 4 1) (numAt f 5 1) (numAt f 8 2) (numAt f 6 1) (numAt f 10 4)) ∧ Rd w f g 18 w' := by
  have hlt := World.block_lt_of_cell? _ _ hg
  have hss := fun x y => set_set w g x y
  go_enter Try.func32, Try.ntmps32
  go_wp2_with fail
  refine (take_ok f 0 4 g _ (by omega) (al2 hg _ _) (al2f hg hz _ _)).mono ?_
  rintro e w1 ⟨rfl, rfl⟩
  go_wp2_with fail
  refine (number_ok f 4 1 g _ (by omega) (by omega) (al2 (sc hg _) _ _) (al2f (sc hg _) (scf hz _) _ _)).mono ?_
  rintro e w1 ⟨rfl, rfl⟩
  go_wp2_with fail
  refine (number_ok f 5 1 g _ (by omega) (by omega) (al2 (sc hg _) _ _) (al2f (sc hg _) (scf hz _) _ _)).mono ?_
  rintro e w1 ⟨rfl, rfl⟩
  go_wp2_with fail
  refine (number_ok f 6 1 g _ (by omega) (by omega) (al2 (sc hg _) _ _) (al2f (sc hg _) (scf hz _) _ _)).mono ?_
  rintro e w1 ⟨rfl, rfl⟩
  go_wp2_with fail
  refine (take_ok f 7 1 g _ (by omega) (al2 (sc hg _) _ _) (al2f (sc hg _) (scf hz _) _ _)).mono ?_
  rintro e w1 ⟨rfl, rfl⟩
  go_wp2_with fail
  refine (number_ok f 8 2 g _ (by omega) (by omega) (al2 (sc hg _) _ _) (al2f (sc hg _) (scf hz _) _ _)).mono ?_
  rintro e w1 ⟨rfl, rfl⟩
  go_wp2_with fail
  refine (number_ok f 10 4 g _ (by omega) (by omega) (al2 (sc hg _) _ _) (al2f (sc hg _) (scf hz _) _ _)).mono ?_
  rintro e w1 ⟨rfl, rfl⟩
  go_wp2_with fail
  refine (take_ok f 14 4 g _ (by omega) (al2 (sc hg _) _ _) (al2f (sc hg _) (scf hz _) _ _)).mono ?_
  rintro e w1 ⟨rfl, rfl⟩
  go_wp2_with fail
  refine bodyPost_ret (v := hdr (numAt f 4 1) (numAt f 5 1) (numAt f 8 2) (numAt f 6 1) (numAt f 10 4)) ?_ rfl ⟨rfl, gb2 _ _ _ _ _, al2 (sc hg _) _ _, al2f (sc hg _) (scf hz _) _ _⟩
  simp [results, Try.results32, go_sem]

set_option maxHeartbeats 400000 in
theorem header_short (f : ByteArray) (g : Nat) (w : World) (h : ¬ 18 ≤ f.size) (hg : w.cell? ⟨g, 0, none⟩ = some (.string (tl f 0))) (hz : w.frozen? ⟨g, 0, none⟩ = false) :
    Calls Try.prog 32 #[.pointer (some ⟨g, 0, none⟩)] w fun e w' => e = .panicked [short] ∧ w.grownBy w' (some g) := by
  have hlt := World.block_lt_of_cell? _ _ hg
  have hss := fun x y => set_set w g x y
  go_enter Try.func32, Try.ntmps32
  go_wp2_with fail
  by_cases q0 : f.size < 4
  · refine (take_short f 0 4 g _ (by omega) (by omega) (al2 hg _ _)).mono ?_
    rintro e w1 ⟨rfl, rfl⟩
    exact ⟨rfl, rfl, gb0 _ _ _ _⟩
  refine (take_ok f 0 4 g _ (by omega) (al2 hg _ _) (al2f hg hz _ _)).mono ?_
  rintro e w1 ⟨rfl, rfl⟩
  go_wp2_with fail
  by_cases q1 : f.size < 5
  · refine (number_short f 4 1 g _ (by omega) (by omega) (al2 (sc hg _) _ _)).mono ?_
    rintro e w1 ⟨rfl, rfl⟩
    exact ⟨rfl, rfl, gb2 _ _ _ _ _⟩
  refine (number_ok f 4 1 g _ (by omega) (by omega) (al2 (sc hg _) _ _) (al2f (sc hg _) (scf hz _) _ _)).mono ?_
  rintro e w1 ⟨rfl, rfl⟩
  go_wp2_with fail
  by_cases q2 : f.size < 6
  · refine (number_short f 5 1 g _ (by omega) (by omega) (al2 (sc hg _) _ _)).mono ?_
    rintro e w1 ⟨rfl, rfl⟩
    exact ⟨rfl, rfl, gb2 _ _ _ _ _⟩
  refine (number_ok f 5 1 g _ (by omega) (by omega) (al2 (sc hg _) _ _) (al2f (sc hg _) (scf hz _) _ _)).mono ?_
  rintro e w1 ⟨rfl, rfl⟩
  go_wp2_with fail
  by_cases q3 : f.size < 7
  · refine (number_short f 6 1 g _ (by omega) (by omega) (al2 (sc hg _) _ _)).mono ?_
    rintro e w1 ⟨rfl, rfl⟩
    exact ⟨rfl, rfl, gb2 _ _ _ _ _⟩
  refine (number_ok f 6 1 g _ (by omega) (by omega) (al2 (sc hg _) _ _) (al2f (sc hg _) (scf hz _) _ _)).mono ?_
  rintro e w1 ⟨rfl, rfl⟩
  go_wp2_with fail
  by_cases q4 : f.size < 8
  · refine (take_short f 7 1 g _ (by omega) (by omega) (al2 (sc hg _) _ _)).mono ?_
    rintro e w1 ⟨rfl, rfl⟩
    exact ⟨rfl, rfl, gb2 _ _ _ _ _⟩
  refine (take_ok f 7 1 g _ (by omega) (al2 (sc hg _) _ _) (al2f (sc hg _) (scf hz _) _ _)).mono ?_
  rintro e w1 ⟨rfl, rfl⟩
  go_wp2_with fail
  by_cases q5 : f.size < 10
  · refine (number_short f 8 2 g _ (by omega) (by omega) (al2 (sc hg _) _ _)).mono ?_
    rintro e w1 ⟨rfl, rfl⟩
    exact ⟨rfl, rfl, gb2 _ _ _ _ _⟩
  refine (number_ok f 8 2 g _ (by omega) (by omega) (al2 (sc hg _) _ _) (al2f (sc hg _) (scf hz _) _ _)).mono ?_
  rintro e w1 ⟨rfl, rfl⟩
  go_wp2_with fail
  by_cases q6 : f.size < 14
  · refine (number_short f 10 4 g _ (by omega) (by omega) (al2 (sc hg _) _ _)).mono ?_
    rintro e w1 ⟨rfl, rfl⟩
    exact ⟨rfl, rfl, gb2 _ _ _ _ _⟩
  refine (number_ok f 10 4 g _ (by omega) (by omega) (al2 (sc hg _) _ _) (al2f (sc hg _) (scf hz _) _ _)).mono ?_
  rintro e w1 ⟨rfl, rfl⟩
  go_wp2_with fail
  refine (take_short f 14 4 g _ (by omega) (by omega) (al2 (sc hg _) _ _)).mono ?_
  rintro e w1 ⟨rfl, rfl⟩
  exact ⟨rfl, rfl, gb2 _ _ _ _ _⟩
end Go.Proofs.Ytfnnakignemifaa
