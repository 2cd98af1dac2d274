import Derived.Test.YtlaoaiffgbdnpaaMem
import Derived.Test.YtlaoaiffgbdnpaaRef1
namespace Go.Proofs.Ytlaoaiffgbdnpaa
open Go.RowKit

theorem bvs_one (xs : List Nat) : ∀ v ∈ bvs xs, v.oneCell' = true := by
  intro v hv
  simp only [bvs, List.mem_map] at hv
  obtain ⟨x, _, rfl⟩ := hv
  rfl
theorem size5 : (Try.prog.info? 5).map (·.size) = some 1 := by kernel_rfl

theorem lent_cells (xs : List Nat) (n : Nat) (hl : xs.length = n) : (((splice (List.replicate (n + 2) (Value.int .u8 0)) 0 (bvs xs)).toArray.setIfInBounds n (.int .u8 77)).setIfInBounds (n + 1) (.int .u8 78)) = (bvs (xs ++ [77, 78])).toArray := by
  apply Array.ext'
  simp only [Array.toList_setIfInBounds]
  apply List.ext_getElem?
  intro i
  rw [List.getElem?_set, List.getElem?_set]
  have hb : (bvs xs).length = n := by rw [bvs_length, hl]
  rw [splice_at _ _ _ _ (by simp [hb])]
  simp only [List.length_set]
  rw [length_splice _ _ _ (by simp [hb])]
  simp only [List.length_replicate, hb]
  rcases Nat.lt_trichotomy i n with h | h | h
  · rw [if_neg (by omega), if_neg (by omega), if_neg (by omega), if_pos (by omega)]
    simp [bvs, List.getElem?_append, hl, h]
  · subst h
    rw [if_neg (by omega), if_pos rfl, if_pos (by omega)]
    simp [bvs, hl]
  · by_cases h2 : i = n + 1
    · subst h2
      rw [if_pos rfl, if_pos (by omega)]
      simp [bvs, hl]
    · rw [if_neg (by omega), if_neg (by omega), if_neg (by omega), if_neg (by omega)]
      rw [List.getElem?_eq_none (by simp; omega), List.getElem?_eq_none (by rw [bvs_length]; simp; omega)]

set_option maxHeartbeats 400000 in
theorem lent_any (a : Option Addr) (n cap : Nat) (xs : List Nat) (w : World) (hn : n ≤ 140737488355328) (hl : xs.length = n) (hc : Cells w a xs) :
    Calls Try.prog 13 #[.slice a n cap] w fun e w' => e = .returned (.slice (some ⟨w.heap.size, 0, none⟩) (n + 2) (n + 2)) ∧ Below w.heap.size w w' ∧ w'.heap[w.heap.size]? = some (.cells (bvs (xs ++ [77, 78])).toArray 5 (0, 0)) := by
  have hmk := fun w => run_make_row' (P := Try.prog) 27 5 (.int .u8 0) 1 Try.underlying27 info5 rfl .i64 .i64 (n + 2) (by omega) (by omega) w
  have e2 : ((n + 2 : Nat) : Int) = (n : Int) + 2 := by omega
  rw [e2] at hmk
  have HC : Hid (Cells w a xs) := hc
  have HL : Hid (xs.length = n) := hl
  clear hc hl e2
  have hb0 : Below w.heap.size w (w.alloc (.cells (madeCells #[.int .u8 0] (n + 2)) 5)) := (Below.refl _ _).alloc (Nat.le_refl _) _
  have hg0 : (w.alloc (.cells (madeCells #[.int .u8 0] (n + 2)) 5)).heap[w.heap.size]? = some (.cells (List.replicate (n + 2) (Value.int .u8 0)).toArray 5 (0, 0)) := by
    rw [heap_alloc_new, ← toList_madeCells_one]
  have HB := hb0
  have HG : Hid ((w.alloc (.cells (madeCells #[.int .u8 0] (n + 2)) 5)).heap[w.heap.size]? = some (.cells (List.replicate (n + 2) (Value.int .u8 0)).toArray 5 (0, 0))) := hg0
  clear hb0 hg0
  go_enter Try.func13, Try.ntmps13
  go_wp2_with (refine wpList_copy_splice rfl (.tmp 10) (.tmp 11) 27 27 rfl 5 Try.underlying27 size5 (some ⟨w.heap.size, 0, none⟩) a (n + 2) (n + 2) n cap rfl rfl w.heap.size 0 (List.replicate (n + 2) (Value.int .u8 0)) 5 HG.out (bvs xs) ?c1 ?c2 ?c3 (bvs_one xs) w.heap.size w HB (Nat.le_refl _) ?_)
  case c1 => rw [bvs_length, HL.out]; simp
  case c2 =>
    intro hp
    rw [bvs_length] at hp
    obtain ⟨b, off, rfl, hlt, hcell⟩ := HC.out.pos hp
    refine ⟨_, rfl, ?_⟩
    intro j v hv
    simp only [bvs, List.getElem?_map, Option.map_eq_some_iff] at hv
    obtain ⟨x, hx, rfl⟩ := hv
    have : (⟨b, off, none⟩ : Addr).add j = ⟨b, off + j, none⟩ := by simp [Addr.add]
    rw [this, HB.cell (p := ⟨b, off + j, none⟩) hlt]
    exact hcell j x hx
  case c3 => rw [bvs_length, HL.out]; simp
  intro w1 hg1 hb1
  have hsz : (splice (List.replicate (n + 2) (Value.int .u8 0)) 0 (bvs xs)).length = n + 2 := by rw [length_splice _ _ _ (by rw [bvs_length, HL.out]; simp)]; simp
  obtain ⟨v0, c0⟩ : ∃ v0, w1.cell? ⟨w.heap.size, n, none⟩ = some v0 := by
    rw [cell_of_row w1 _ n _ 5 _ hg1.out]; exact ⟨_, Array.getElem?_eq_getElem (by simp only [List.size_toArray]; omega)⟩
  obtain ⟨v1, c1⟩ : ∃ v1, w1.cell? ⟨w.heap.size, n + 1, none⟩ = some v1 := by
    rw [cell_of_row w1 _ (n + 1) _ 5 _ hg1.out]; exact ⟨_, Array.getElem?_eq_getElem (by simp only [List.size_toArray]; omega)⟩
  have f0 : w1.frozen? ⟨w.heap.size, n, none⟩ = false := frozen_of_row w1 _ _ _ 5 hg1.out
  have f1 : w1.frozen? ⟨w.heap.size, n + 1, none⟩ = false := frozen_of_row w1 _ _ _ 5 hg1.out
  have hfin : ((w1.setCell ⟨w.heap.size, n, none⟩ (.int .u8 77)).setCell ⟨w.heap.size, n + 1, none⟩ (.int .u8 78)).heap[w.heap.size]? = some (.cells (bvs (xs ++ [77, 78])).toArray 5 (0, 0)) := by
    rw [heap_setCell_same _ _ _ _ 5 _ (heap_setCell_same _ _ _ _ 5 _ hg1.out), lent_cells xs n HL.out]
  have HF : Hid (((w1.setCell ⟨w.heap.size, n, none⟩ (.int .u8 77)).setCell ⟨w.heap.size, n + 1, none⟩ (.int .u8 78)).heap[w.heap.size]? = some (.cells (bvs (xs ++ [77, 78])).toArray 5 (0, 0))) := hfin
  have k1 : (n : Int) < (n : Int) + 2 := by omega
  have k2 : (n : Int) + 1 < (n : Int) + 2 := by omega
  clear hfin hsz hmk
  go_wp2
  go_ret
  exact ⟨rfl, (hb1.setCell (Nat.le_refl _) _).setCell (Nat.le_refl _) _, HF.out⟩

theorem info27 : (Try.prog.info? 27).map (fun i => (i.zero, i.size, i.bytes)) = some (some (.slice none 0 0), 1, 24) := by kernel_rfl

set_option maxHeartbeats 400000 in
theorem refMulAdd_ne (ad sa : Option Addr) (n m cd cs c : Nat) (w : World) (h : n ≠ m) :
    Calls Try.prog 14 #[.slice ad n cd, .slice sa m cs, .int .u8 c] w fun e w' => e = .returned (.tuple #[.slice none 0 0, .int .i64 3]) ∧ w' = w := by
  have hne : ((n : Int) != (m : Int)) = true := by rw [bne_iff_ne]; omega
  go_enter Try.func14, Try.ntmps14
  go_wp2
  go_ret2
  exact ⟨rfl, rfl⟩

set_option maxHeartbeats 400000 in
theorem refMulAdd_zero (ad sa : Option Addr) (cd cs c : Nat) (w : World) :
    Calls Try.prog 14 #[.slice ad 0 cd, .slice sa 0 cs, .int .u8 c] w fun e w' => e = .returned (.tuple #[.slice none 0 0, .int .i64 0]) ∧ w' = w := by
  go_enter Try.func14, Try.ntmps14
  go_wp2
  refine wp_loop_rounds 1 ?_
  rw [rounds_succ]
  go_wp2
  go_ret2
  exact ⟨rfl, rfl⟩

set_option maxHeartbeats 800000 in
theorem refMulAdd_pos (bd od bs os n cd cs c : Nat) (ds ss : List Nat) (w : World) (hn : n ≤ 140737488355328) (hc : c < 256)
    (hdl : ds.length = n) (hsl : ss.length = n) (hd : ∀ x ∈ ds, x < 256) (hs : ∀ x ∈ ss, x < 256)
    (hdb : bd < w.heap.size) (hsb : bs < w.heap.size)
    (cD : ∀ i x, ds[i]? = some x → w.cell? ⟨bd, od + i, none⟩ = some (.int .u8 (x : Nat)))
    (cS : ∀ i x, ss[i]? = some x → w.cell? ⟨bs, os + i, none⟩ = some (.int .u8 (x : Nat))) :
    Calls Try.prog 14 #[.slice (some ⟨bd, od, none⟩) n cd, .slice (some ⟨bs, os, none⟩) n cs, .int .u8 c] w fun e w' => ∃ v, e = .returned (.tuple #[v, .int .i64 0]) ∧
      Below w.heap.size w w' ∧ w'.ownsRow w.heap.size 5 1 v n (bvs (Gf.mulAdd ds ss c)) := by
  have hne : ((n : Int) != (n : Int)) = false := by simp
  have CD : Hid (∀ i x, ds[i]? = some x → w.cell? ⟨bd, od + i, none⟩ = some (.int .u8 (x : Nat))) := cD
  have CS : Hid (∀ i x, ss[i]? = some x → w.cell? ⟨bs, os + i, none⟩ = some (.int .u8 (x : Nat))) := cS
  have HD : Hid (ds.length = n) := hdl
  have HSL : Hid (ss.length = n) := hsl
  have HM : Hid ((Gf.mulAdd ds ss c).length = n) := by show _ = _; rw [Gf.mulAdd_length _ _ _ (by omega), hdl]
  clear cD cS hdl hsl
  obtain ⟨i0, hi, hz0, hz1, hz2⟩ := info_parts info5
  go_enter Try.func14, Try.ntmps14
  go_wp2
  clear hne
  go_loopw [8, 9] (fun v i w' => ∃ k : Nat, i = .int .i64 k ∧ k ≤ n ∧ Below w.heap.size w w' ∧ w'.ownsRow w.heap.size 5 1 v k (bvs ((Gf.mulAdd ds ss c).take k))) (fun _ i _ => (n - intOf i).toNat)
  case atStart => exact ⟨0, rfl, by omega, Below.refl _ _, World.ownsRow_nil _ _ _ _⟩
  case round =>
    obtain ⟨k, rfl, hk, hb, hown⟩ := hrel
    by_cases hlt : k < n
    · obtain ⟨x, hx⟩ : ∃ x, ds[k]? = some x := ⟨_, List.getElem?_eq_getElem (by rw [HD.out]; exact hlt)⟩
      obtain ⟨y, hy⟩ : ∃ y, ss[k]? = some y := ⟨_, List.getElem?_eq_getElem (by rw [HSL.out]; exact hlt)⟩
      have hx8 := hd x (List.mem_of_getElem? hx)
      have hy8 := hs y (List.mem_of_getElem? hy)
      have gy : wr.cell? ⟨bs, os + k, none⟩ = some (.int .u8 (y : Nat)) := (hb.cell (p := ⟨bs, os + k, none⟩) hsb).trans (CS.out k y hy)
      have gx : wr.cell? ⟨bd, od + k, none⟩ = some (.int .u8 (x : Nat)) := (hb.cell (p := ⟨bd, od + k, none⟩) hdb).trans (CD.out k x hx)
      have hM := Gf.mulAdd_at ds ss c k x y hx hy
      have HT : Hid ((Gf.mulAdd ds ss c).take (k + 1) = (Gf.mulAdd ds ss c).take k ++ [x ^^^ Gf.gm y c]) := take_snoc' _ _ _ hM
      clear hx hy hM
      go_wp2_with fail
      refine (refMul_gm y c _ hy8 hc).mono ?_
      rintro e w1 ⟨rfl, h1⟩
      have hxor : bits .xor .u8 (x : Int) ((Gf.gm y c : Nat) : Int) = ((x ^^^ Gf.gm y c : Nat) : Int) := u8_xor_nat _ _ hx8 (Gf.gm_lt _ _ hy8)
      have gx1 : w1.cell? ⟨bd, od + k, none⟩ = some (.int .u8 (x : Nat)) := (h1.cell (p := ⟨bd, od + k, none⟩) (World.block_lt_of_cell? _ _ gx)).trans gx
      have hown1 := owns_below hown h1
      have sz := hb.size
      have sz1 := h1.size
      clear gy gx hown
      go_wp2_with (at_builtin; refine wpList_append_own _ rfl _ _ 27 rfl w.heap.size 5 i0 (.int .u8 0) 1 1 Try.underlying27 hi hz0 hz1 hz2 rfl (by decide) _ _ _ rfl (hown1.alloc _) ⟨w1.heap.size, 0, none⟩ 1 1 [.int .u8 ((x ^^^ Gf.gm y c : Nat) : Int)] rfl rfl ?c1 ?c2 ?c3 ?c4 ?c5 ?_)
      case c1 => exact cell_one_new _ _ _
      case c2 => intro u hu; simp at hu; subst hu; rfl
      case c3 => unfold maxLen; omega
      case c4 => omega
      case c5 => simp; omega
      intro v' w2 hown2 hgrow _
      have hb2 : Below w.heap.size w w2 := by
        refine Below.grown (((hb.trans (h1.mono sz)).alloc (by omega) _)) hgrow (by simp; omega) ?_
        intro g hg
        exact (hown1.lt g hg).1
      have HO : Hid (w2.ownsRow w.heap.size 5 1 v' (k + 1) (bvs ((Gf.mulAdd ds ss c).take (k + 1)))) := by
        show World.ownsRow _ _ _ _ _ _ _
        rw [HT.out, bvs_snoc]; exact hown2
      clear hown2 hgrow hown1 hb h1 gx1
      go_wp2
      go_roundw
      case rel => exact ⟨k + 1, by go_num, by omega, hb2, HO.out⟩
      case measure => simp [intOf]; omega
    · have hkn : k = n := by omega
      subst hkn
      go_wp2
      go_ret2
      refine ⟨_, rfl, hb, ?_⟩
      rw [List.take_of_length_le (by rw [HM.out]; exact Nat.le_refl _)] at hown
      exact hown
end Go.Proofs.Ytlaoaiffgbdnpaa
