import Derived.Test.YtlfhbpihdjipeaaH1
import Derived.Deep.RegionWith
namespace Go.Proofs.Ytlfhbpihdjipeaa
open Go.RowKit

set_option maxHeartbeats 400000 in
theorem refWritten_any (c n : Nat) (w : World) (hc : c ≤ 4) (hn : n ≤ 4294967296) :
    Calls Try.prog 33 #[.int .i64 n, .int .i64 c] w fun e w' => e = .returned (.string (bs n c)) ∧ Below w.heap.size w w' := by
  induction c generalizing n w with
  | zero =>
    go_enter Try.func33, Try.ntmps33
    go_wp2
    go_ret
    exact ⟨rfl, Below.refl _ _⟩
  | succ c ih =>
    have hcv := conv_new1
    have hcv2 : ∀ u' : World, u'.cell? ⟨w.heap.size, 0, none⟩ = some (.int .u8 ((n : Int) % 256)) → (convert 75 9 (.slice (some ⟨w.heap.size, 0, none⟩) 1 1)).run Try.prog u' = .ok (.string (strOfNums [((n : Int) % 256)])) u' := by
      intro u' h
      refine conv_row _ _ 1 [_] ?_
      intro i hi
      have : i = 0 := by simpa using hi
      subst this
      exact h
    have hbs := bs_one n
    have hs1 := bs_size (n / 256) c
    have hs2 := bs_size n 1
    have IH : Hid (∀ w : World, Calls Try.prog 33 #[.int .i64 ((n : Int) / 256), .int .i64 c] w fun e w' => e = .returned (.string (bs (n / 256) c)) ∧ Below w.heap.size w w') := by
      intro w
      have h := ih (n / 256) w (by omega) (by omega)
      have e : ((n / 256 : Nat) : Int) = (n : Int) / 256 := by omega
      rw [e] at h
      exact h
    have f1 : IntKind.i64.wrap ((n : Int) / 256) = (n : Int) / 256 := by simp [IntKind.wrap, IntKind.bits, IntKind.signed]; omega
    have f2 : IntKind.i64.wrap (c : Int) = (c : Int) := by simp [IntKind.wrap, IntKind.bits, IntKind.signed]; omega
    have f3 : IntKind.i64.wrap ((n : Int) % 256) = (n : Int) % 256 := by simp [IntKind.wrap, IntKind.bits, IntKind.signed]; omega
    have f5 : ((n : Int)).tmod 256 = (n : Int) % 256 := Int.tmod_eq_emod_of_nonneg (by omega)
    have f4 : IntKind.u8.wrap ((n : Int) % 256) = (n : Int) % 256 := by simp [IntKind.wrap, IntKind.bits, IntKind.signed]
    have HS : Hid (bs n (c + 1) = bs (n / 256) c ++ bs n 1) := bs_succ n c
    clear ih
    generalize bs (n / 256) c = X at *
    generalize bs n 1 = Y at *
    have hadd : ¬ (9223372036854775807 < X.size + Y.size) := by omega
    clear hs1 hs2
    go_enter Try.func33, Try.ntmps33
    go_wp2
    go_region_with (first | (go_at_call 33; refine (IH.out _).mono ?_; rintro e w1 ⟨rfl, hb⟩; try (have hc : w1.cell? ⟨w.heap.size, 0, none⟩ = some (.int .u8 ((n : Int) % 256)) := (hb.cell (p := ⟨w.heap.size, 0, none⟩) (by simp)).trans (by show (w.alloc (.cells #[.int .u8 ((n : Int) % 256)] 5)).cell? _ = _; rw [cell_block (heap_new _ _)]; rfl))))
    all_goals go_wp2
    all_goals go_ret
    all_goals (refine ⟨by rw [HS.out]; rfl, ?_⟩)
    · exact ((Below.refl _ _).drew.trans hb).alloc hb.size _
    · exact (((Below.refl _ _).alloc (Nat.le_refl _) _).drew).trans (hb.mono (by show _ ≤ (w.alloc _).heap.size; simp))
    · exact (((Below.refl _ _).alloc (Nat.le_refl _) _).drew).trans (hb.mono (by show _ ≤ (w.alloc _).heap.size; simp))
end Go.Proofs.Ytlfhbpihdjipeaa
