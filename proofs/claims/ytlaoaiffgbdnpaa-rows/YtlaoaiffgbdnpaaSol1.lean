import Derived.Test.YtlaoaiffgbdnpaaInv5
import Derived.Test.YtlaoaiffgbdnpaaAddsWalk
import Derived.Test.YtlaoaiffgbdnpaaGs
namespace Go.Proofs.Ytlaoaiffgbdnpaa
open Go.RowKit
set_option linter.unusedVariables false

theorem splice_whole (n : Nat) (v : Value) (cs : List Value) (h : cs.length = n) : splice (List.replicate n v) 0 cs = cs := by
  simp only [splice, List.take_zero, List.nil_append, Nat.zero_add]
  have : List.drop cs.length (List.replicate n v) = [] := List.drop_eq_nil_of_le (by simp; omega)
  rw [this, List.append_nil]

set_option maxHeartbeats 400000 in
theorem own_any (a : Option Addr) (n cap : Nat) (xs : List Nat) (w : World) (hn : n ≤ 140737488355328) (hl : xs.length = n) (hc : Cells w a xs) :
    Calls Try.prog 34 #[.slice a n cap] w fun e w' => e = .returned (.slice (some ⟨w.heap.size, 0, none⟩) n n) ∧ Below w.heap.size w w' ∧ w'.heap[w.heap.size]? = some (.cells (bvs xs).toArray 5 (0, 0)) := by
  have hmk := fun w => run_make_row' (P := Try.prog) 27 5 (.int .u8 0) 1 Try.underlying27 info5 rfl .i64 .i64 n (by omega) (by omega) w
  have HC : Hid (Cells w a xs) := hc
  have HL : Hid (xs.length = n) := hl
  clear hc hl
  have hb0 : Below w.heap.size w (w.alloc (.cells (madeCells #[.int .u8 0] n) 5)) := (Below.refl _ _).alloc (Nat.le_refl _) _
  have hg0 : (w.alloc (.cells (madeCells #[.int .u8 0] n) 5)).heap[w.heap.size]? = some (.cells (List.replicate n (Value.int .u8 0)).toArray 5 (0, 0)) := by
    rw [heap_alloc_new, ← toList_madeCells_one]
  have HB := hb0
  have HG : Hid ((w.alloc (.cells (madeCells #[.int .u8 0] n) 5)).heap[w.heap.size]? = some (.cells (List.replicate n (Value.int .u8 0)).toArray 5 (0, 0))) := hg0
  clear hb0 hg0
  go_enter Try.func34, Try.ntmps34
  go_wp2_with (refine wpList_copy_splice rfl (.tmp 7) (.tmp 8) 27 27 rfl 5 Try.underlying27 size5 (some ⟨w.heap.size, 0, none⟩) a n n n cap rfl rfl w.heap.size 0 (List.replicate n (Value.int .u8 0)) 5 HG.out (bvs xs) ?c1 ?c2 ?c3 (bvs_one xs) w.heap.size w HB (Nat.le_refl _) ?_)
  case c1 => rw [bvs_length, HL.out]; exact (Nat.min_self n).symm
  case c2 =>
    intro hp
    rw [bvs_length] at hp
    obtain ⟨b, off, rfl, hlt, hcell⟩ := HC.out.pos hp
    refine ⟨_, rfl, ?_⟩
    intro j v hv
    simp only [bvs, List.getElem?_map, Option.map_eq_some_iff] at hv
    obtain ⟨x, hx, rfl⟩ := hv
    have : (⟨b, off, none⟩ : Addr).add j = ⟨b, off + j, none⟩ := by simp [Addr.add]
    rw [this, HB.cell (p := ⟨b, off + j, none⟩) hlt]
    exact hcell j x hx
  case c3 => rw [bvs_length, HL.out]; simp
  intro w1 hg1 hb1
  have HF : Hid (w1.heap[w.heap.size]? = some (.cells (bvs xs).toArray 5 (0, 0))) := by
    show _ = _
    rw [hg1.out, splice_whole n _ _ (by rw [bvs_length, HL.out])]
  clear hmk hg1
  go_wp2
  go_ret
  exact ⟨rfl, hb1, HF.out⟩

set_option maxHeartbeats 400000 in
theorem less_any (al ar bl br : Option Addr) (n c1 c2 c3 c4 c : Nat) (xl xr yl yr : List Nat) (w : World) (hn : n ≤ 140737488355328) (hc : c < 256)
    (h1 : Gf.Bytes n xl) (h2 : Gf.Bytes n xr) (h3 : Gf.Bytes n yl) (h4 : Gf.Bytes n yr) (k1 : Cells w al xl) (k2 : Cells w ar xr) (k3 : Cells w bl yl) (k4 : Cells w br yr) :
    Calls Try.prog 43 #[.agg #[.slice al n c1, .slice ar n c2], .agg #[.slice bl n c3, .slice br n c4], .int .u8 c] w fun e w' => ∃ vl vr, e = .returned (.agg #[vl, vr]) ∧ Below w.heap.size w w' ∧
      w'.ownsRow w.heap.size 5 1 vl n (bvs (Gf.mulAdd xl yl c)) ∧ w'.ownsRow w.heap.size 5 1 vr n (bvs (Gf.mulAdd xr yr c)) := by
  go_enter Try.func43, Try.ntmps43
  go_wp2_with fail
  generalize hw0 : ((w.alloc (.cells #[.slice al n c1, .slice ar n c2] 63)).alloc (.cells #[.slice bl n c3, .slice br n c4] 63)).alloc (.cells #[.slice none 0 0, .slice none 0 0] 63) = w0
  have b0 : Below w.heap.size w w0 := by rw [← hw0]; exact (((Below.refl _ _).alloc (Nat.le_refl _) _).alloc (by simp) _).alloc (by simp; omega) _
  have s0 : w0.heap.size = w.heap.size + 3 := by rw [← hw0]; simp
  have r0 : w0.cell? ⟨w.heap.size, 1, none⟩ = some (.slice ar n c2) := by
    rw [← hw0, World.cell?_alloc_past _ _ _ (by simp; omega), World.cell?_alloc_past _ _ _ (by simp), World.cell?_alloc_at _ _ _ _ rfl]; rfl
  have r1 : w0.cell? ⟨w.heap.size + 1, 1, none⟩ = some (.slice br n c4) := by
    rw [← hw0, World.cell?_alloc_past _ _ _ (by simp), World.cell?_alloc_at _ _ _ _ (by simp)]; rfl
  have r2 : w0.heap[w.heap.size + 2]? = some (.cells #[.slice none 0 0, .slice none 0 0] 63 (0, 0)) := by
    rw [← hw0]
    have := heap_alloc_new ((w.alloc (.cells #[.slice al n c1, .slice ar n c2] 63)).alloc (.cells #[.slice bl n c3, .slice br n c4] 63)) (.cells #[.slice none 0 0, .slice none 0 0] 63)
    simpa using this
  have S0 : Hid (w0.heap.size = w.heap.size + 3) := s0
  have s0' : w.heap.size + 3 ≤ w0.heap.size := by omega
  clear hw0 s0
  refine (refMulAdd_same al bl n c1 c3 c xl yl _ hn hc h1.1 h3.1 h1.2 h3.2 (k1.keep b0) (k3.keep b0)).mono ?_
  rintro e w1 ⟨vl, rfl, hb1, ho1⟩
  have q0 : w1.cell? ⟨w.heap.size, 1, none⟩ = some (.slice ar n c2) := (hb1.cell (p := ⟨w.heap.size, 1, none⟩) (by simp only; omega)).trans r0
  have q1 : w1.cell? ⟨w.heap.size + 1, 1, none⟩ = some (.slice br n c4) := (hb1.cell (p := ⟨w.heap.size + 1, 1, none⟩) (by simp only; omega)).trans r1
  have s1 := hb1.size
  have b01 : Below w.heap.size w w1 := b0.trans (hb1.mono (by omega))
  have r2' : Hid (w1.heap[w.heap.size + 2]? = some (.cells #[.slice none 0 0, .slice none 0 0] 63 (0, 0))) := by show _ = _; rw [hb1.block _ (by omega)]; exact r2
  have ho1' := owns_mono ho1 (show w.heap.size ≤ w0.heap.size by omega)
  clear r0 r1 r2 ho1 hb1 S0
  go_wp2_with fail
  refine (refMulAdd_same ar br n c2 c4 c xr yr _ hn hc h2.1 h4.1 h2.2 h4.2 (k2.keep b01) (k4.keep b01)).mono ?_
  rintro e w2 ⟨vr, rfl, hb2, ho2⟩
  have s2 := hb2.size
  have b02 : Below w.heap.size w w2 := b01.trans (hb2.mono (by omega))
  have ho1'' := owns_below ho1' hb2
  have ho2' := owns_mono ho2 (show w.heap.size ≤ w1.heap.size by omega)
  have hres : w2.heap[w.heap.size + 2]? = some (.cells #[.slice none 0 0, .slice none 0 0] 63 (0, 0)) := by rw [hb2.block _ (by omega)]; exact r2'.out
  have d0 : w2.cell? ⟨w.heap.size + 2, 0, none⟩ = some (.slice none 0 0) := by rw [cell_of_row w2 _ 0 _ 63 _ hres]; rfl
  have d1 : w2.cell? ⟨w.heap.size + 2, 1, none⟩ = some (.slice none 0 0) := by rw [cell_of_row w2 _ 1 _ 63 _ hres]; rfl
  have f0 : w2.frozen? ⟨w.heap.size + 2, 0, none⟩ = false := frozen_of_row w2 _ _ _ 63 hres
  have f1 : w2.frozen? ⟨w.heap.size + 2, 1, none⟩ = false := frozen_of_row w2 _ _ _ 63 hres
  obtain ⟨pl, ql, hvl⟩ := owns_form ho1''
  obtain ⟨pr, qr, hvr⟩ := owns_form ho2'
  subst hvl
  subst hvr
  clear ho1' ho2 hb2 r2' q0 q1
  have nl : (Value.slice pl n ql).ownBlock ≠ some (w.heap.size + 1 + 1) := by
    intro e
    obtain ⟨cur, hcur⟩ := owns_block_of ho1'' e
    rw [hres] at hcur
    simp at hcur
  have nr : (Value.slice pr n qr).ownBlock ≠ some (w.heap.size + 1 + 1) := by
    intro e
    obtain ⟨cur, hcur⟩ := owns_block_of ho2' e
    rw [hres] at hcur
    simp at hcur
  have OL : Hid (((w2.setCell ⟨w.heap.size + 1 + 1, 0, none⟩ (.slice pl n ql)).setCell ⟨w.heap.size + 1 + 1, 1, none⟩ (.slice pr n qr)).ownsRow w.heap.size 5 1 (.slice pl n ql) n (bvs (Gf.mulAdd xl yl c))) := ownsRow_setCell_other (a := ⟨w.heap.size + 1 + 1, 1, none⟩) (ownsRow_setCell_other (a := ⟨w.heap.size + 1 + 1, 0, none⟩) ho1'' nl _) nl _
  have OR : Hid (((w2.setCell ⟨w.heap.size + 1 + 1, 0, none⟩ (.slice pl n ql)).setCell ⟨w.heap.size + 1 + 1, 1, none⟩ (.slice pr n qr)).ownsRow w.heap.size 5 1 (.slice pr n qr) n (bvs (Gf.mulAdd xr yr c))) := ownsRow_setCell_other (a := ⟨w.heap.size + 1 + 1, 1, none⟩) (ownsRow_setCell_other (a := ⟨w.heap.size + 1 + 1, 0, none⟩) ho2' nr _) nr _
  have hc0 := heap_setCell_same w2 (w.heap.size + 1 + 1) 0 _ 63 (.slice pl n ql) hres
  have hc1 := heap_setCell_same _ (w.heap.size + 1 + 1) 1 _ 63 (.slice pr n qr) hc0
  have g0 : ((w2.setCell ⟨w.heap.size + 1 + 1, 0, none⟩ (.slice pl n ql)).setCell ⟨w.heap.size + 1 + 1, 1, none⟩ (.slice pr n qr)).cell? ⟨w.heap.size + 1 + 1, 0, none⟩ = some (.slice pl n ql) := by rw [cell_of_row _ _ 0 _ 63 _ hc1]; rfl
  have g1 : ((w2.setCell ⟨w.heap.size + 1 + 1, 0, none⟩ (.slice pl n ql)).setCell ⟨w.heap.size + 1 + 1, 1, none⟩ (.slice pr n qr)).cell? ⟨w.heap.size + 1 + 1, 1, none⟩ = some (.slice pr n qr) := by rw [cell_of_row _ _ 1 _ 63 _ hc1]; rfl
  clear hc0 hc1 nl nr ho1'' ho2' hres
  go_wp2_with fail
  refine bodyPost_ret (v := .agg #[.slice pl n ql, .slice pr n qr]) (by simp [results, Try.results43, go_sem, g0, g1]) rfl ⟨_, _, rfl, (b02.setCell (by simp; omega) _).setCell (by simp; omega) _, OL.out, OR.out⟩
end Go.Proofs.Ytlaoaiffgbdnpaa
