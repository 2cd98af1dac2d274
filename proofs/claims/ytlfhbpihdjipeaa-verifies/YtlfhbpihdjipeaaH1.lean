import Derived.Test.YtlfhbpihdjipeaaS3
import Derived.Laws.IdiomStrings
import Derived.Laws.BytesArg
import Derived.Deep.OwnRows
import Derived.Deep.DrawnRows
namespace Go.Proofs.Ytlfhbpihdjipeaa
open Go.RowKit
attribute [local go_sem ↓] Go.wp_at_zero Go.wp_at_succ

/-- a number as c bytes, the highest first -/
def be : Nat → Nat → List UInt8
  | _, 0 => []
  | n, c + 1 => be (n / 256) c ++ [UInt8.ofNat (n % 256)]
theorem be_length (n c : Nat) : (be n c).length = c := by
  induction c generalizing n with
  | zero => rfl
  | succ c ih => simp [be, ih]
/-- the same as a string -/
def bs (n c : Nat) : ByteArray := ⟨(be n c).toArray⟩
theorem bs_size (n c : Nat) : (bs n c).size = c := by
  show (be n c).toArray.size = c
  rw [List.size_toArray, be_length]
theorem bs_succ (n c : Nat) : bs n (c + 1) = bs (n / 256) c ++ bs n 1 := by
  unfold bs
  rw [ByteArray.mk_append_mk]; rfl
theorem bs_zero (n : Nat) : bs n 0 = ⟨#[]⟩ := rfl
theorem bs_one (n : Nat) : strOfNums [((n : Int) % 256)] = bs n 1 := by
  have : ((n : Int) % 256).toNat = n % 256 := by omega
  simp [strOfNums, bs, be, this]
theorem bs_two (n : Nat) : strOfNums [((n : Int) / 256 % 256), ((n : Int) % 256)] = bs n 2 := by
  have e0 : ((n : Int) % 256).toNat = n % 256 := by omega
  have e1 : ((n : Int) / 256 % 256).toNat = n / 256 % 256 := by omega
  simp [strOfNums, bs, be, e0, e1]
theorem bs_four (n : Nat) : strOfNums [((n : Int) / 16777216 % 256), ((n : Int) / 65536 % 256), ((n : Int) / 256 % 256), ((n : Int) % 256)] = bs n 4 := by
  have e0 : ((n : Int) % 256).toNat = n % 256 := by omega
  have e1 : ((n : Int) / 256 % 256).toNat = n / 256 % 256 := by omega
  have e2 : ((n : Int) / 65536 % 256).toNat = n / 256 / 256 % 256 := by omega
  have e3 : ((n : Int) / 16777216 % 256).toNat = n / 256 / 256 / 256 % 256 := by omega
  simp [strOfNums, bs, be, e0, e1, e2, e3]

theorem conv_row (u : World) (g cap : Nat) (xs : List Int) (h : ∀ i, i < xs.length → u.cell? ⟨g, i, none⟩ = some (.int .u8 (xs.getD i 0))) :
    (convert 75 9 (.slice (some ⟨g, 0, none⟩) xs.length cap)).run Try.prog u = .ok (.string (strOfNums xs)) u :=
  run_convert_bytes_arg u 75 5 Try.underlying75 Try.underlying5 g 0 xs.length cap xs rfl (by intro i hi; rw [Nat.zero_add]; exact h i hi) 9 Try.underlying9
theorem conv_new1 (u : World) (a : Int) : (convert 75 9 (.slice (some ⟨u.heap.size, 0, none⟩) 1 1)).run Try.prog (u.alloc (.cells #[.int .u8 a] 5)) = .ok (.string (strOfNums [a])) (u.alloc (.cells #[.int .u8 a] 5)) := by
  refine conv_row _ _ 1 [a] ?_
  intro i hi
  have : i = 0 := by simpa using hi
  subst this
  rw [cell_block (heap_new _ _)]; rfl
theorem conv_new2 (u : World) (a b : Int) : (convert 75 9 (.slice (some ⟨u.heap.size, 0, none⟩) 2 2)).run Try.prog (u.alloc (.cells #[.int .u8 a, .int .u8 b] 5)) = .ok (.string (strOfNums [a, b])) (u.alloc (.cells #[.int .u8 a, .int .u8 b] 5)) := by
  refine conv_row _ _ 2 [a, b] ?_
  intro i hi
  have : i = 0 ∨ i = 1 := by simp at hi; omega
  rw [cell_block (heap_new _ _)]
  rcases this with rfl | rfl <;> rfl
theorem conv_new4 (u : World) (a b c d : Int) : (convert 75 9 (.slice (some ⟨u.heap.size, 0, none⟩) 4 4)).run Try.prog (u.alloc (.cells #[.int .u8 a, .int .u8 b, .int .u8 c, .int .u8 d] 5)) = .ok (.string (strOfNums [a, b, c, d])) (u.alloc (.cells #[.int .u8 a, .int .u8 b, .int .u8 c, .int .u8 d] 5)) := by
  refine conv_row _ _ 4 [a, b, c, d] ?_
  intro i hi
  have : i = 0 ∨ i = 1 ∨ i = 2 ∨ i = 3 := by simp at hi; omega
  rw [cell_block (heap_new _ _)]
  rcases this with rfl | rfl | rfl | rfl <;> rfl

theorem made1 : madeCells #[Value.int .u8 0] 1 = #[.int .u8 0] := by apply Array.toList_inj.1; rw [toList_madeCells_one]; rfl
theorem made2 : madeCells #[Value.int .u8 0] 2 = #[.int .u8 0, .int .u8 0] := by apply Array.toList_inj.1; rw [toList_madeCells_one]; rfl
theorem made4 : madeCells #[Value.int .u8 0] 4 = #[.int .u8 0, .int .u8 0, .int .u8 0, .int .u8 0] := by apply Array.toList_inj.1; rw [toList_madeCells_one]; rfl
set_option maxHeartbeats 1000000 in
theorem written1 (n : Nat) (w : World) :
    Calls Try.prog 40 #[.int .i64 n, .int .i64 1] w fun e w' => e = .returned (.string (bs n 1)) ∧ Below w.heap.size w w' := by
  have hmk : ∀ u : World, (Instr.makeSlice 75 (.int .i64 1) (.int .i64 1)).run Try.prog u = .ok (.slice (some ⟨u.heap.size, 0, none⟩) 1 1) (u.alloc (.cells #[.int .u8 0] 5)) := by
    intro u
    have h := run_make_row' (P := Try.prog) 75 5 (.int .u8 0) 1 Try.underlying75 info5 rfl .i64 .i64 1 (by omega) (by omega) u
    rw [made1] at h
    exact h
  have hcv := conv_new1
  have hbs := bs_one n
  go_enter Try.func40, Try.ntmps40
  go_wp2
  refine wp_loop_rounds 2 ?_
  iterate 2 (rw [rounds_succ]; go_wp2)
  go_ret
  exact ⟨rfl, (Below.refl _ _).alloc (Nat.le_refl _) _⟩
set_option maxHeartbeats 1000000 in
theorem written2 (n : Nat) (w : World) :
    Calls Try.prog 40 #[.int .i64 n, .int .i64 2] w fun e w' => e = .returned (.string (bs n 2)) ∧ Below w.heap.size w w' := by
  have hmk : ∀ u : World, (Instr.makeSlice 75 (.int .i64 2) (.int .i64 2)).run Try.prog u = .ok (.slice (some ⟨u.heap.size, 0, none⟩) 2 2) (u.alloc (.cells #[.int .u8 0, .int .u8 0] 5)) := by
    intro u
    have h := run_make_row' (P := Try.prog) 75 5 (.int .u8 0) 1 Try.underlying75 info5 rfl .i64 .i64 2 (by omega) (by omega) u
    rw [made2] at h
    exact h
  have hcv := conv_new2
  have hbs := bs_two n
  go_enter Try.func40, Try.ntmps40
  go_wp2
  refine wp_loop_rounds 3 ?_
  iterate 3 (rw [rounds_succ]; go_wp2)
  go_ret
  exact ⟨rfl, (Below.refl _ _).alloc (Nat.le_refl _) _⟩
set_option maxHeartbeats 1000000 in
theorem written4 (n : Nat) (w : World) :
    Calls Try.prog 40 #[.int .i64 n, .int .i64 4] w fun e w' => e = .returned (.string (bs n 4)) ∧ Below w.heap.size w w' := by
  have hmk : ∀ u : World, (Instr.makeSlice 75 (.int .i64 4) (.int .i64 4)).run Try.prog u = .ok (.slice (some ⟨u.heap.size, 0, none⟩) 4 4) (u.alloc (.cells #[.int .u8 0, .int .u8 0, .int .u8 0, .int .u8 0] 5)) := by
    intro u
    have h := run_make_row' (P := Try.prog) 75 5 (.int .u8 0) 1 Try.underlying75 info5 rfl .i64 .i64 4 (by omega) (by omega) u
    rw [made4] at h
    exact h
  have hcv := conv_new4
  have hbs := bs_four n
  go_enter Try.func40, Try.ntmps40
  go_wp2
  refine wp_loop_rounds 5 ?_
  iterate 5 (rw [rounds_succ]; go_wp2)
  go_ret
  exact ⟨rfl, (Below.refl _ _).alloc (Nat.le_refl _) _⟩

end Go.Proofs.Ytlfhbpihdjipeaa
