import Derived.Test.YtlaoaiffgbdnpaaLen2
namespace Go.Proofs.Ytlaoaiffgbdnpaa
open Go.RowKit
set_option linter.unusedVariables false

set_option maxHeartbeats 1000000 in
theorem inverts_none (a : Option Addr) (c : Nat) (w : World) :
    Calls Try.prog 7 #[.slice a 0 c] w fun e w' => e = .returned (.bool true) ∧ Below w.heap.size w w' := by
  have hmk := fun w => run_make_row' (P := Try.prog) 38 27 (.slice none 0 0) 24 Try.underlying38 info27 rfl .i64 .i64 1 (by omega) (by omega) w
  have e1 : ((1 : Nat) : Int) = 1 := rfl
  rw [e1] at hmk
  clear e1
  have hc : (w.alloc (.cells (madeCells #[.slice none 0 0] 1) 27)).cell? ⟨w.heap.size, 0, none⟩ = some (.slice none 0 0) := by
    rw [World.cell?_alloc_at _ _ _ _ rfl]
    have : (madeCells #[Value.slice none 0 0] 1)[0]? = (madeCells #[Value.slice none 0 0] 1).toList[0]? := by simp
    rw [this, toList_madeCells_one]; rfl
  go_enter Try.func7, Try.ntmps7
  go_wp2_with fail
  refine (refInvert_size a 0 c _ (.inl (by omega)) (by omega)).mono ?_
  rintro e w1 ⟨rfl, rfl⟩
  go_wp2_with fail
  refine wp_loop_rounds 1 ?_
  rw [rounds_succ]
  go_wp2_with fail
  refine (invert_size _ 0 1 _ (.inl (by omega)) (by omega)).mono ?_
  rintro e w2 ⟨rfl, rfl⟩
  go_wp2_with fail
  refine (invert_size _ 0 1 _ (.inl (by omega)) (by omega)).mono ?_
  rintro e w3 ⟨rfl, rfl⟩
  go_wp2_with fail
  refine (sameRows_nil _).mono ?_
  rintro e w4 ⟨rfl, rfl⟩
  go_wp2_with fail
  refine (sameRows_nil _).mono ?_
  rintro e w5 ⟨rfl, rfl⟩
  go_wp2_with fail
  refine (rowsOf_nil _).mono ?_
  rintro e w6 ⟨rfl, rfl⟩
  go_wp2_with fail
  refine (mixed_nil _).mono ?_
  rintro e w7 ⟨rfl, rfl⟩
  go_wp2_with fail
  refine wp_loop_rounds 1 ?_
  rw [rounds_succ]
  go_wp2_with fail
  go_ret
  exact ⟨rfl, (Below.refl _ _).alloc (Nat.le_refl _) _⟩
end Go.Proofs.Ytlaoaiffgbdnpaa
