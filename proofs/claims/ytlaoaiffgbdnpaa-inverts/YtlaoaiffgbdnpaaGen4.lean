import Derived.Test.YtlaoaiffgbdnpaaGen3
import Derived.Test.YtlaoaiffgbdnpaaMix3
namespace Go.Proofs.Ytlaoaiffgbdnpaa
open Go.RowKit
set_option linter.unusedVariables false

theorem Cells.heap {w w' : World} {a : Option Addr} {xs : List Nat} (h : Cells w a xs) (e : w'.heap = w.heap) : Cells w' a xs := by
  intro i x hx
  obtain ⟨b, off, rfl, hc⟩ := h i x hx
  exact ⟨b, off, rfl, by rw [World.cell?_of_block (w := w) (by rw [e])]; exact hc⟩

set_option maxHeartbeats 800000 in
theorem sameRows_pos (B1 B2 g1 g2 n c1 c2 : Nat) (vs1 vs2 : List Value) (M : List (List Nat)) (w : World) (hn : M.length = n) (hn32 : n ≤ 32) (hl : ∀ x ∈ M, x.length ≤ 32)
    (h1 : Mat w B1 (.slice (some ⟨g1, 0, none⟩) n c1) vs1 M) (h2 : Mat w B2 (.slice (some ⟨g2, 0, none⟩) n c2) vs2 M) :
    Calls Try.prog 20 #[.slice (some ⟨g1, 0, none⟩) n c1, .slice (some ⟨g2, 0, none⟩) n c2] w fun e w' => e = .returned (.bool true) ∧ w'.heap = w.heap ∧ Below w.heap.size w w' := by
  have hne : ((n : Int) != (n : Int)) = false := by simp
  have HN : Hid (M.length = n) := hn
  clear hn
  go_enter Try.func20, Try.ntmps20
  go_wp2
  clear hne
  go_loopw [5] (fun ii w' => ∃ k : Nat, k ≤ n ∧ ii = .int .i64 k ∧ Hid (w'.heap = w.heap) ∧ Below w.heap.size w w') (fun ii _ => (n - intOf ii).toNat)
  case atStart => exact ⟨0, by omega, rfl, rfl, Below.refl _ _⟩
  case round =>
    obtain ⟨k, hk, rfl, hh, hb⟩ := hrel
    by_cases hlt : k < n
    · obtain ⟨x, hx⟩ : ∃ x, M[k]? = some x := ⟨_, List.getElem?_eq_getElem (by rw [HN.out]; exact hlt)⟩
      obtain ⟨r1, hr1⟩ : ∃ r, vs1[k]? = some r := ⟨_, List.getElem?_eq_getElem (by rw [h1.length, HN.out]; exact hlt)⟩
      obtain ⟨r2, hr2⟩ : ∃ r, vs2[k]? = some r := ⟨_, List.getElem?_eq_getElem (by rw [h2.length, HN.out]; exact hlt)⟩
      have o1 := h1.rows k r1 x hr1 hx
      have o2 := h2.rows k r2 x hr2 hx
      obtain ⟨a1, cc1, rfl⟩ := owns_form o1
      obtain ⟨a2, cc2, rfl⟩ := owns_form o2
      have t1 := h1.top
      have t2 := h2.top
      rw [HN.out] at t1 t2
      have ca : wr.cell? ⟨g1, k, none⟩ = some (.slice a1 x.length cc1) := by rw [World.cell?_of_block (w := w) (by rw [hh.out]), t1.cellAt k (by omega)]; exact hr1
      have cb : wr.cell? ⟨g2, k, none⟩ = some (.slice a2 x.length cc2) := by rw [World.cell?_of_block (w := w) (by rw [hh.out]), t2.cellAt k (by omega)]; exact hr2
      have hq : x.length ≤ 32 := hl x (List.mem_of_getElem? hx)
      have e1 := (owns_cells o1).1
      have e2 := (owns_cells o2).1
      have SB : Hid (∀ wx : World, wx.heap = wr.heap → Calls Try.prog 16 #[.slice a1 x.length cc1, .slice a2 x.length cc2] wx fun e w' => e = .returned (.bool true) ∧ w'.heap = wx.heap ∧ Below wx.heap.size wx w') := by
        intro wx hw
        exact same_any a1 a2 x.length cc1 cc2 x wx (by omega) rfl (e1.heap (hw.trans hh.out)) (e2.heap (hw.trans hh.out))
      have i1 : (0 : Int) ≤ (k : Int) := by omega
      have i2 : (k : Int) < (n : Int) := by omega
      clear e1 e2 t1 t2 o1 o2 hr1 hr2 hx
      go_wp2_with fail
      go_region_held3 (fun w' => w'.cell? ⟨g1, k, none⟩ = some (.slice a1 x.length cc1) ∧ w'.cell? ⟨g2, k, none⟩ = some (.slice a2 x.length cc2)) (first | go_keep | exact ⟨by rw [World.cell?_of_block (w := wr) (by rw [hh5.out])]; exact ca, by rw [World.cell?_of_block (w := wr) (by rw [hh5.out])]; exact cb⟩) (first | (go_at_call 16; refine (SB.out _ ?_).mono ?_; exact rfl; rintro e w5 ⟨rfl, hh5', hb5⟩; have hh5 : Hid (w5.heap = wr.heap) := hh5'; clear hh5'))
      all_goals
        have hb6 : Below w.heap.size w w5 := hb.drew.trans (hb5.mono hb.size)
        have hh6 : Hid (w5.heap = w.heap) := hh5.out.trans hh.out
        go_wp2
        go_roundw
        case rel => exact ⟨k + 1, by omega, by go_num, hh6, hb6⟩
        case measure => simp [intOf]; omega
    · go_wp2
      go_ret
      exact ⟨rfl, hh.out, hb⟩

theorem sameRows_nil (w : World) :
    Calls Try.prog 20 #[.slice none 0 0, .slice none 0 0] w fun e w' => e = .returned (.bool true) ∧ w' = w := by
  go_enter Try.func20, Try.ntmps20
  go_wp2
  refine wp_loop_rounds 1 ?_
  rw [rounds_succ]
  go_wp2
  go_ret
  exact ⟨rfl, rfl⟩

theorem rowsOf_nil (w : World) :
    Calls Try.prog 21 #[.slice none 0 0, .slice none 0 0] w fun e w' => e = .returned (.slice none 0 0) ∧ w' = w := by
  go_enter Try.func21, Try.ntmps21
  go_wp2
  refine wp_loop_rounds 1 ?_
  rw [rounds_succ]
  go_wp2
  refine wp_loop_rounds 1 ?_
  rw [rounds_succ]
  go_wp2
  go_ret
  exact ⟨rfl, rfl⟩
end Go.Proofs.Ytlaoaiffgbdnpaa
