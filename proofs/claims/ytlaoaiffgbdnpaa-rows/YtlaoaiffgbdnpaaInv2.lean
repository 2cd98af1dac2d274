import Derived.Test.YtlaoaiffgbdnpaaInv1
import Derived.Deep.RegionWith
namespace Go.Proofs.Ytlaoaiffgbdnpaa
open Go.RowKit
set_option linter.unusedVariables false

set_option maxHeartbeats 1000000 in
theorem clear_any (B g n W i : Nat) (vs : List Value) (T : List (List Nat)) (w : World) (hn : n ≤ 32) (hW : W ≤ 1000) (hiW : i < W) (hi : i < n) (hT : Tab w B g n W vs T) :
    Calls Try.prog 39 #[.slice (some ⟨g, 0, none⟩) n n, .int .i64 i] w fun e w' => e = .returned (.tuple #[]) ∧ Below B w w' ∧ ∃ vs', Tab w' B g n W vs' (Gf.clearGo i T n) := by
  have hB : B ≤ w.heap.size := Nat.le_trans hT.base (Nat.le_of_lt (block_lt hT.top))
  have HT := hT.tbl
  go_enter Try.func39, Try.ntmps39
  go_wp2
  go_loopw [7] (fun jj w' => ∃ (j : Nat) (vs' : List Value), j ≤ n ∧ jj = .int .i64 j ∧ Below B w w' ∧ Tab w' B g n W vs' (Gf.clearGo i T j)) (fun jj _ => (n - intOf jj).toNat)
  case atStart => exact ⟨0, vs, by omega, rfl, Below.refl _ _, hT⟩
  case round =>
    clear hT
    obtain ⟨j, vs, hj, rfl, hb, hT⟩ := hrel
    have sz := hb.size
    by_cases hlt : j < n
    · by_cases hij : j = i
      · subst hij
        have hne : ((j : Int) != (j : Int)) = false := by simp
        have e1 : Gf.clearGo j T (j + 1) = Gf.clearGo j T j := by simp [Gf.clearGo]
        have HE : Hid (Gf.clearGo j T (j + 1) = Gf.clearGo j T j) := e1
        clear e1
        go_wp2
        go_roundw
        case rel => exact ⟨j + 1, vs, by omega, by go_num, hb, by rw [HE.out]; exact hT⟩
        case measure => simp [intOf]; omega
      · have hne : ((j : Int) != (i : Int)) = true := by rw [bne_iff_ne]; omega
        obtain ⟨bj, v1, B1, G1⟩ := hT.rows j hlt
        obtain ⟨bi, v2, B2, G2⟩ := hT.rows i hi
        have tj := hT.tbl.2 j hlt
        have ti := hT.tbl.2 i hi
        have c1 := hT.cell v1
        have c2 := hT.cell v2
        have c3 : wr.cell? ⟨bj, i, none⟩ = some (.int .u8 ((Gf.ent (Gf.row (Gf.clearGo i T j) j) i : Nat) : Int)) := row_cell G1 (by rw [tj.1]; exact hiW)
        have hlc := Gf.ent_lt tj i
        have AT : Hid (∀ wx : World, wx.heap = wr.heap → Calls Try.prog 45 #[.slice (some ⟨bj, 0, none⟩) W W, .slice (some ⟨bi, 0, none⟩) W W, .int .u8 ((Gf.ent (Gf.row (Gf.clearGo i T j) j) i : Nat) : Int)] wx fun e w' => e = .returned (.slice (some ⟨wr.heap.size, 0, none⟩) W W) ∧
            Below wr.heap.size wx w' ∧ w'.heap.size = wr.heap.size + 1 ∧ w'.heap[wr.heap.size]? = some (.cells (bvs (Gf.mulAdd (Gf.row (Gf.clearGo i T j) j) (Gf.row (Gf.clearGo i T j) i) (Gf.ent (Gf.row (Gf.clearGo i T j) j) i))).toArray 5 (0, 0))) := by
          intro wx hw
          have := addTimes_any bj bi W _ _ _ wx (by omega) hlc tj ti (by rw [hw]; exact G1) (by rw [hw]; exact G2)
          rw [hw] at this
          exact this
        have i1 : (0 : Int) ≤ (j : Int) := by omega
        have i2 : (j : Int) < (n : Int) := by omega
        have i3 : (0 : Int) ≤ (i : Int) := by omega
        have i4 : (i : Int) < (n : Int) := by omega
        have i5 : (i : Int) < (W : Int) := by omega
        have hgl : g < wr.heap.size := block_lt hT.top
        have f1 : wr.frozen? ⟨g, j, none⟩ = false := frozen_of_row wr g _ _ 27 hT.top
        have HT1 := hT
        clear G1 G2
        go_wp2_with fail
        go_region_with (first | (go_at_call 45; refine (AT.out _ ?_).mono ?_; exact rfl; rintro e w5 ⟨rfl, hb5, hs5, hg5⟩; have c5 : w5.cell? ⟨g, j, none⟩ = some (.slice (some ⟨bj, 0, none⟩) W W) := (hb5.cell (p := ⟨g, j, none⟩) hgl).trans c1; have f5 : w5.frozen? ⟨g, j, none⟩ = false := (hb5.frozen (p := ⟨g, j, none⟩) hgl).trans f1; have H5 : Hid (w5.heap[wr.heap.size]? = some (.cells (bvs (Gf.mulAdd (Gf.row (Gf.clearGo i T j) j) (Gf.row (Gf.clearGo i T j) i) (Gf.ent (Gf.row (Gf.clearGo i T j) j) i))).toArray 5 (0, 0))) := hg5; clear hg5 hs5))
        all_goals
          have b5 : Below wr.heap.size wr w5 := (Below.refl _ _).drew.trans hb5
          have hT5 := (HT1.below b5).set j wr.heap.size _ hlt (Gf.bytes_mulAdd tj ti _) (by omega) H5.out
          have hb6 : Below B w (w5.setCell ⟨g, j, none⟩ (.slice (some ⟨wr.heap.size, 0, none⟩) W W)) := (hb.trans (b5.mono (by omega))).setCell (by simpa using HT1.base) _
          have HE : Hid (Gf.clearGo i T (j + 1) = (Gf.clearGo i T j).set j (Gf.mulAdd (Gf.row (Gf.clearGo i T j) j) (Gf.row (Gf.clearGo i T j) i) (Gf.ent (Gf.row (Gf.clearGo i T j) j) i))) := by
            show _ = _
            rw [Gf.clearGo, if_neg hij]
          clear H5 c5 f5 hT c1 c2 c3 f1 hb5
          go_wp2_with fail
          go_roundw
          case rel => exact ⟨j + 1, _, by omega, by go_num, hb6, by rw [HE.out]; exact hT5⟩
          case measure => simp [intOf]; omega
    · obtain rfl : j = n := by omega
      go_wp2
      go_end0
      exact ⟨rfl, hb, vs, hT⟩
end Go.Proofs.Ytlaoaiffgbdnpaa
