import Derived.Test.YtfnnakignemifaaM3
import Derived.Deep.MidRow
namespace Go.Proofs.Ytfnnakignemifaa
open Go.RowKit

/-- a Scan as a value -/
abbrev scanV (S K N B I L : Int) (v : Value) (Q : Int) : Value := .agg #[.int .i64 S, .int .i64 K, .int .i64 N, .int .i64 B, .int .i64 I, .int .i64 L, v, .int .i64 Q]
abbrev z8 : Array Value := #[.int .i64 0, .int .i64 0, .int .i64 0, .int .i64 0, .int .i64 0, .int .i64 0, .slice none 0 0, .int .i64 0]
theorem tl_zero (f : ByteArray) : tl f 0 = f := by simp [tl]
theorem notEmpty (f : ByteArray) (h : f.size ≠ 0) : f.toList.isEmpty = false := by
  apply Bool.eq_false_iff.2
  intro hh
  have h0 : f.toList = [] := by simpa using hh
  rw [ByteArray.toList_eq] at h0
  have : f.size = 0 := by
    show f.data.size = 0
    rw [← Array.length_toList, h0]; rfl
  omega
theorem isEmptyStr (f : ByteArray) (h : f.size = 0) : f.toList.isEmpty = true := by
  rw [ByteArray.toList_eq]
  have h1 : f.data.toList.length = 0 := by rw [Array.length_toList]; exact h
  rw [List.eq_nil_of_length_eq_zero h1]; rfl

theorem size37 : (Try.prog.info? 37).map (·.size) = some 8 := by kernel_rfl
theorem size28 : (Try.prog.info? 28).map (·.size) = some 5 := by kernel_rfl
theorem setCells_at (b : Nat) (t : TypeId) : ∀ (vs : List Value) (o : Nat) (w : World) (old : Array Value), w.heap[b]? = some (.cells old t) → ∃ cs, (w.setCells b o vs).heap[b]? = some (.cells cs t) ∧ cs.size = old.size ∧ (∀ j, j < o → cs[j]? = old[j]?) ∧ (∀ j v, vs[j]? = some v → o + j < old.size → cs[o + j]? = some v)
  | [], o, w, old, h => ⟨old, h, rfl, fun _ _ => rfl, fun j v hv => by simp at hv⟩
  | x :: r, o, w, old, h => by
    obtain ⟨cs, h1, h2, h3, h4⟩ := setCells_at b t r (o + 1) (w.setCell ⟨b, o, none⟩ x) (old.setIfInBounds o x) (heap_set h)
    refine ⟨cs, h1, by simpa using h2, ?_, ?_⟩
    · intro j hj
      rw [h3 j (by omega), Array.getElem?_setIfInBounds_ne (by omega)]
    · intro j v hv hlt
      cases j with
      | zero =>
        simp at hv; subst hv
        rw [Nat.add_zero, h3 o (by omega), Array.getElem?_setIfInBounds_self_of_lt (by omega)]
      | succ j =>
        have := h4 j v (by simpa using hv) (by simp; omega)
        rw [show o + (j + 1) = o + 1 + j by omega]; exact this
theorem setCells_whole {w : World} {b : Nat} {t : TypeId} {old : Array Value} (cells : Array Value) (h : w.heap[b]? = some (.cells old t)) (hs : old.size = cells.size) : (w.setCells b 0 cells.toList).heap[b]? = some (.cells cells t) := by
  obtain ⟨cs, h1, h2, _, h4⟩ := setCells_at b t cells.toList 0 w old h
  rw [h1]
  congr 2
  apply Array.ext_getElem?
  intro j
  by_cases hj : j < cells.size
  · have := h4 j cells[j] (by simp [hj]) (by omega)
    rw [Nat.zero_add] at this
    rw [this, Array.getElem?_eq_getElem hj]
  · rw [Array.getElem?_eq_none (by omega), Array.getElem?_eq_none (by omega)]
theorem setCells_gb (b : Nat) : ∀ (vs : List Value) (o : Nat) (w : World), w.grownBy (w.setCells b o vs) (some b)
  | [], _, w => World.grownBy.refl w _
  | x :: r, o, w => gb_trans (gb_setj w b o x) (setCells_gb b r (o + 1) _)
/-- a struct that lies whole in its block is written over -/
theorem wpList_store_whole {P : Program} {ops : Array Oper} {rest : List Oper} {op : Oper} {a : Act} {w : World} {Q : Exit → Act → World → Prop} (hgd : op.guard = none) (ty : TypeId) (x y : Operand) (ho : op.op = .store ty x y)
    (b : Nat) (cells old : Array Value) (t : TypeId) (hx : a.eval x = .pointer (some ⟨b, 0, none⟩)) (hy : a.eval y = .agg cells)
    (hB : w.heap[b]? = some (.cells old t)) (hs : old.size = cells.size) (hi : (P.info? ty).map (·.size) = some cells.size) (h1 : cells.all (·.oneCell') = true)
    (h : ∀ w', w'.heap[b]? = some (.cells cells t) → w.grownBy w' (some b) → wpList P ops Q rest (a.put op.dst undef) w') : wpList P ops Q (op :: rest) a w :=
  wpList_store_mid hgd ty x y ho b 0 cells hx hy (fun j hj => by
      rw [Nat.zero_add, cell_block hB, frozen_block hB, Array.getElem?_eq_getElem (by omega)]; exact ⟨rfl, rfl⟩) hi h1
    (h _ (setCells_whole cells hB hs) (setCells_gb b _ _ _))
/-- and read -/
theorem wpList_load_whole {P : Program} {ops : Array Oper} {rest : List Oper} {op : Oper} {a : Act} {w : World} {Q : Exit → Act → World → Prop} (hgd : op.guard = none) (ty : TypeId) (x : Operand) (ho : op.op = .load ty x)
    (b : Nat) (cells : List Value) (t : TypeId) (d : TypeDesc) (hx : a.eval x = .pointer (some ⟨b, 0, none⟩)) (hB : w.heap[b]? = some (.cells cells.toArray t))
    (hu : P.underlying ty = some d) (hd : d.isRow = true) (hi : (P.info? ty).map (·.size) = some cells.length)
    (h : wpList P ops Q rest (a.put op.dst (.agg cells.toArray)) w) : wpList P ops Q (op :: rest) a w :=
  wpList_load_mid hgd ty x ho b 0 hx cells d (fun j v hv => by
      rw [Nat.zero_add, cell_block hB]; simpa using hv) hu hd hi h

theorem one8 (S K N B I L : Int) (a : Option Addr) (m c : Nat) (Q : Int) : (#[.int .i64 S, .int .i64 K, .int .i64 N, .int .i64 B, .int .i64 I, .int .i64 L, .slice a m c, .int .i64 Q] : Array Value).all (·.oneCell') = true := by
  simp [Value.oneCell']

theorem cells8 {w : World} {b : Nat} {x0 x1 x2 x3 x4 x5 x6 x7 : Value} (h : w.heap[b]? = some (.cells #[x0, x1, x2, x3, x4, x5, x6, x7] 37)) :
    (w.cell? ⟨b, 0, none⟩ = some x0 ∧ w.cell? ⟨b, 1, none⟩ = some x1 ∧ w.cell? ⟨b, 2, none⟩ = some x2 ∧ w.cell? ⟨b, 3, none⟩ = some x3) ∧ w.cell? ⟨b, 4, none⟩ = some x4 ∧ w.cell? ⟨b, 5, none⟩ = some x5 ∧ w.cell? ⟨b, 6, none⟩ = some x6 ∧ w.cell? ⟨b, 7, none⟩ = some x7 :=
  ⟨⟨cell_block h, cell_block h, cell_block h, cell_block h⟩, cell_block h, cell_block h, cell_block h, cell_block h⟩

set_option maxHeartbeats 400000 in
theorem look_empty (f : ByteArray) (w : World) (h : f.size = 0) :
    Calls Try.prog 13 #[.string f] w fun e w' => e = .returned (scanV 1 0 0 0 0 0 (.slice none 0 0) 0) ∧ Below w.heap.size w w' := by
  have h1 := isEmptyStr f h
  go_enter Try.func13, Try.ntmps13
  go_wp2
  refine bodyPost_ret (v := scanV 1 0 0 0 0 0 (.slice none 0 0) 0) (by simp [results, Try.results13, go_sem]) rfl ⟨rfl, (Below.refl _ _).alloc (Nat.le_refl _) _⟩

set_option maxHeartbeats 400000 in
theorem look_short (f : ByteArray) (w : World) (h : f.size ≠ 0) (h2 : ¬ 18 ≤ f.size) :
    Calls Try.prog 13 #[.string f] w fun e w' => e = .returned (scanV 2 0 0 0 0 0 (.slice none 0 0) 0) ∧ Below w.heap.size w w' := by
  have h1 := notEmpty f h
  have hgc : ((w.alloc (.cells z8 37)).alloc (.cells #[.string f] 49)).cell? ⟨w.heap.size + 1, 0, none⟩ = some (.string (tl f 0)) := by
    rw [tl_zero]
    have := heap_new (w.alloc (.cells z8 37)) (.cells #[.string f] 49)
    rw [World.size_alloc] at this
    exact cell_block this
  have hgz : ((w.alloc (.cells z8 37)).alloc (.cells #[.string f] 49)).frozen? ⟨w.heap.size + 1, 0, none⟩ = false := by
    have := heap_new (w.alloc (.cells z8 37)) (.cells #[.string f] 49)
    rw [World.size_alloc] at this
    exact frozen_block this
  have HC := readHeader_short f (w.heap.size + 1) _ h2 hgc hgz
  clear hgc hgz
  have HCC : Hid (Calls Try.prog 23 #[.pointer (some ⟨w.heap.size + 1, 0, none⟩)] ((w.alloc (.cells z8 37)).alloc (.cells #[.string f] 49)) fun e w' => e = .returned (.tuple #[hdr 0 0 0 0 0, .bool false]) ∧ ((w.alloc (.cells z8 37)).alloc (.cells #[.string f] 49)).grownBy w' (some (w.heap.size + 1))) := HC
  clear HC
  go_enter Try.func13, Try.ntmps13
  go_wp2_with fail
  refine HCC.out.mono ?_
  rintro e w1 ⟨rfl, hk⟩
  have R0 : w1.heap[w.heap.size]? = some (.cells z8 37) := by
    rw [hk.block _ (by simp; omega) (by simp)]; exact heap_past (heap_new _ _) _
  have hl : w.heap.size + 2 ≤ w1.heap.size := by have := hk.size; simpa using this
  have HB : Below w.heap.size w w1 := ⟨hk.os, hk.tape, hk.output, by omega, fun q hq => by
    rw [hk.block q (by simp; omega) (by simp; omega), Below.heap_alloc _ _ _ (by simp; omega), Below.heap_alloc _ _ _ hq]⟩
  clear hk
  have hlw : w.heap.size < w1.heap.size := by omega
  have HB' : Hid (Below w.heap.size w w1) := HB
  clear HB
  go_wp2_with (refine wpList_store_whole rfl 37 _ _ (by rfl) w.heap.size #[.int .i64 2, .int .i64 0, .int .i64 0, .int .i64 0, .int .i64 0, .int .i64 0, .slice none 0 0, .int .i64 0] z8 37 (by rfl) (by rfl) (heap_past R0 _) rfl size37 (one8 2 0 0 0 0 0 none 0 0 0) ?_; intro w2 hR2 hk2)
  obtain ⟨⟨r0, r1, r2, r3⟩, r4, r5, r6, r7⟩ := cells8 hR2
  have HB2 : Below w.heap.size w w2 := (HB'.out.alloc (by omega) _).grown hk2 (by simp; omega) (fun k hk => by cases hk; omega)
  refine bodyPost_ret (v := scanV 2 0 0 0 0 0 (.slice none 0 0) 0) (by simp [results, Try.results13, go_sem, r0, r1, r2, r3, r4, r5, r6, r7]) rfl ⟨rfl, HB2⟩
end Go.Proofs.Ytfnnakignemifaa
