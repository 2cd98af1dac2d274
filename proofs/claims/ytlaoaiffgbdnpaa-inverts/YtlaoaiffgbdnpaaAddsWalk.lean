import Derived.Test.YtlaoaiffgbdnpaaMix2
import Derived.Test.YtlaoaiffgbdnpaaR2
namespace Go.Proofs.Ytlaoaiffgbdnpaa
open Go.RowKit

theorem refMulAdd_same (ad sa : Option Addr) (n cd cs c : Nat) (ds ss : List Nat) (w : World) (hn : n ≤ 140737488355328) (hc : c < 256)
    (hdl : ds.length = n) (hsl : ss.length = n) (hd : ∀ x ∈ ds, x < 256) (hs : ∀ x ∈ ss, x < 256) (cD : Cells w ad ds) (cS : Cells w sa ss) :
    Calls Try.prog 14 #[.slice ad n cd, .slice sa n cs, .int .u8 c] w fun e w' => ∃ v, e = .returned (.tuple #[v, .int .i64 0]) ∧
      Below w.heap.size w w' ∧ w'.ownsRow w.heap.size 5 1 v n (bvs (Gf.mulAdd ds ss c)) := by
  by_cases hp : 0 < n
  · obtain ⟨bd, od, rfl, hb1, h1⟩ := cD.pos (by omega)
    obtain ⟨bs, os, rfl, hb2, h2⟩ := cS.pos (by omega)
    exact refMulAdd_pos bd od bs os n cd cs c ds ss w hn hc hdl hsl hd hs hb1 hb2 h1 h2
  · obtain rfl : n = 0 := by omega
    obtain rfl : ds = [] := List.eq_nil_of_length_eq_zero hdl
    refine (refMulAdd_zero ad sa cd cs c w).mono ?_
    rintro e w' ⟨rfl, rfl⟩
    exact ⟨_, rfl, Below.refl _ _, World.ownsRow_nil _ _ _ _⟩

/-- a block whose head is xs is read as xs -/
theorem cells_head {w : World} {g : Nat} {xs ys : List Nat} (hg : w.heap[g]? = some (.cells (bvs (xs ++ ys)).toArray 5 (0, 0))) : Cells w (some ⟨g, 0, none⟩) xs := by
  intro i x hx
  refine ⟨g, 0, rfl, ?_⟩
  rw [Nat.zero_add, cell_of_row w g i _ 5 _ hg]
  have hi : i < xs.length := (List.getElem?_eq_some_iff.1 hx).1
  have := bvs_at (xs ++ ys) i x (by rw [List.getElem?_append_left hi]; exact hx)
  simpa using this
theorem cells_block {w : World} {g : Nat} {xs : List Nat} (hg : w.heap[g]? = some (.cells (bvs xs).toArray 5 (0, 0))) : Cells w (some ⟨g, 0, none⟩) xs := cells_head (ys := []) (by rw [List.append_nil]; exact hg)

/-- two lists, each in a block of its own, or nil -/
theorem ph_two {w : World} {B q L m1 m2 : Nat} {v1 v2 : Value} {xs : List Value} (h1 : w.ownsRow B 5 1 v1 q xs) (h2 : w.ownsRow B 5 1 v2 q xs) (hne : ∀ g, v1.ownBlock = some g → v2.ownBlock ≠ some g) (hq : q ≤ L) (hB : B ≤ w.heap.size) :
    Ph (w.alloc (.cells #[v1, .int .u8 (m1 : Nat), v2, .int .u8 (m2 : Nat)] 34)) B w.heap.size 2 [(v1, m1), (v2, m2)] 0 0 L := by
  have hbe : Below w.heap.size w (w.alloc (.cells #[v1, .int .u8 (m1 : Nat), v2, .int .u8 (m2 : Nat)] 34)) := (Below.refl _ _).alloc (Nat.le_refl _) _
  refine ⟨?_, ?_, ?_⟩
  · exact World.ownsRow_lit w _ 2 hB (by unfold maxLen; omega) (by simp)
  · intro j v m hj
    rcases j with _ | _ | j
    · simp at hj; obtain ⟨rfl, rfl⟩ := hj
      exact ⟨q, hq, xs, owns_below h1 hbe, fun h => by omega, fun _ t ht => by omega⟩
    · simp at hj; obtain ⟨rfl, rfl⟩ := hj
      exact ⟨q, hq, xs, owns_below h2 hbe, fun h => by omega, fun _ t ht => by omega⟩
    · simp at hj
  · intro j j' v m v' m' g hjj hj hj' hv
    rcases j with _ | _ | j <;> rcases j' with _ | _ | j' <;> simp at hj hj' <;> first | (exact absurd rfl hjj) | skip
    · obtain ⟨rfl, rfl⟩ := hj; obtain ⟨rfl, rfl⟩ := hj'; exact hne g hv
    · obtain ⟨rfl, rfl⟩ := hj; obtain ⟨rfl, rfl⟩ := hj'; intro hv'; exact hne g hv' hv

/-- MulAdd of what was lent, in whatever world of that memory -/
theorem mulAdd_lent (g1 g2 n c : Nat) (xs ys : List Nat) (w3 wx : World) (hn : n ≤ 140737488355328) (hc : c < 256) (hx : xs.length = n) (hy : ys.length = n) (hxb : ∀ x ∈ xs, x < 256) (hyb : ∀ x ∈ ys, x < 256)
    (G1 : w3.heap[g1]? = some (.cells (bvs (xs ++ [77, 78])).toArray 5 (0, 0))) (G2 : w3.heap[g2]? = some (.cells (bvs (ys ++ [77, 78])).toArray 5 (0, 0))) (hw : wx.heap = w3.heap) :
    Calls Try.prog 15 #[.slice (some ⟨g1, 0, none⟩) n (n + 2), .slice (some ⟨g2, 0, none⟩) n (n + 2), .int .u8 c] wx fun e w' => e = .returned (.tuple #[.slice (some ⟨w3.heap.size, 0, none⟩) n n, .int .i64 0]) ∧
      Below w3.heap.size wx w' ∧ w'.heap.size = w3.heap.size + 1 ∧ w'.heap[w3.heap.size]? = some (.cells (bvs (Gf.mulAdd xs ys c)).toArray 5 (0, 0)) := by
  have := mulAdd_same (some ⟨g1, 0, none⟩) (some ⟨g2, 0, none⟩) n (n + 2) (n + 2) c xs ys wx hn (by omega) (by omega) hc hx hy hxb hyb (cells_head (ys := [77, 78]) (by rw [hw]; exact G1)) (cells_head (ys := [77, 78]) (by rw [hw]; exact G2))
  rw [hw] at this
  exact this

set_option maxHeartbeats 1000000 in
theorem adds_eq (a1 a2 : Option Addr) (n k1 k2 c : Nat) (xs ys : List Nat) (w : World) (hn : n ≤ 140737488351232) (hc : c < 256)
    (hx : xs.length = n) (hy : ys.length = n) (hxb : ∀ x ∈ xs, x < 256) (hyb : ∀ x ∈ ys, x < 256) (cX : Cells w a1 xs) (cY : Cells w a2 ys) :
    Calls Try.prog 4 #[.slice a1 n k1, .slice a2 n k2, .int .u8 c] w fun e w' => e = .returned (.bool true) ∧ Below w.heap.size w w' := by
  have HX : Hid (xs.length = n) := hx
  have HY : Hid (ys.length = n) := hy
  clear hx hy
  go_enter Try.func4, Try.ntmps4
  go_wp2_with fail
  refine (lent_any a1 n k1 xs _ (by omega) HX.out cX).mono ?_
  rintro e w1 ⟨rfl, hb1, hg1⟩
  have cX1 := cX.keep hb1
  have cY1 := cY.keep hb1
  have G1 : Hid (w1.heap[w.heap.size]? = some (.cells (bvs (xs ++ [77, 78])).toArray 5 (0, 0))) := hg1
  have s1 := block_lt hg1
  clear hg1
  go_wp2_with fail
  refine (lent_any a2 n k2 ys _ (by omega) HY.out cY1).mono ?_
  rintro e w2 ⟨rfl, hb2, hg2⟩
  have cX2 := cX1.keep hb2
  have cY2 := cY1.keep hb2
  have G2 : Hid (w2.heap[w1.heap.size]? = some (.cells (bvs (ys ++ [77, 78])).toArray 5 (0, 0))) := hg2
  have s2 := block_lt hg2
  clear hg2
  go_wp2_with fail
  refine (refMulAdd_same a1 a2 n k1 k2 c xs ys _ (by omega) hc HX.out HY.out hxb hyb cX2 cY2).mono ?_
  rintro e w3 ⟨v3, rfl, hb3, ho3⟩
  obtain ⟨av, cv, rfl⟩ := owns_form ho3
  have s3 := hb3.size
  have e1 : w3.heap[w.heap.size]? = some (.cells (bvs (xs ++ [77, 78])).toArray 5 (0, 0)) := by rw [hb3.block _ (by omega), hb2.block _ (by omega)]; exact G1.out
  have e2 : w3.heap[w1.heap.size]? = some (.cells (bvs (ys ++ [77, 78])).toArray 5 (0, 0)) := by rw [hb3.block _ (by omega)]; exact G2.out
  have MA : Hid (∀ wx : World, wx.heap = w3.heap → Calls Try.prog 15 #[.slice (some ⟨w.heap.size, 0, none⟩) n (n + 2), .slice (some ⟨w1.heap.size, 0, none⟩) n (n + 2), .int .u8 c] wx fun e w' => e = .returned (.tuple #[.slice (some ⟨w3.heap.size, 0, none⟩) n n, .int .i64 0]) ∧
      Below w3.heap.size wx w' ∧ w'.heap.size = w3.heap.size + 1 ∧ w'.heap[w3.heap.size]? = some (.cells (bvs (Gf.mulAdd xs ys c)).toArray 5 (0, 0))) := fun wx hw => mulAdd_lent _ _ n c xs ys w3 wx (by omega) hc HX.out HY.out hxb hyb e1 e2 hw
  have E1 : Hid (w3.heap[w.heap.size]? = some (.cells (bvs (xs ++ [77, 78])).toArray 5 (0, 0))) := e1
  have E2 : Hid (w3.heap[w1.heap.size]? = some (.cells (bvs (ys ++ [77, 78])).toArray 5 (0, 0))) := e2
  have i1 : (0 : Int) ≤ (n : Int) := by omega
  have i2 : (n : Int) ≤ (n : Int) + 2 := by omega
  clear e1 e2
  go_wp2_with fail
  go_region_held3 (fun _ => True) (trivial) (first | (go_at_call 15; refine (MA.out _ ?_).mono ?_; exact rfl; rintro e w4 ⟨rfl, hb4, sz4, hg4⟩))
  have b34 : Below w3.heap.size w3 w4 := (Below.refl _ _).drew.trans hb4
  have e1 : w4.heap[w.heap.size]? = some (.cells (bvs (xs ++ [77, 78])).toArray 5 (0, 0)) := by rw [b34.block _ (by omega)]; exact E1.out
  have e2 : w4.heap[w1.heap.size]? = some (.cells (bvs (ys ++ [77, 78])).toArray 5 (0, 0)) := by rw [b34.block _ (by omega)]; exact E2.out
  have MB : Hid (∀ wx : World, wx.heap = w4.heap → Calls Try.prog 15 #[.slice (some ⟨w.heap.size, 0, none⟩) n (n + 2), .slice (some ⟨w1.heap.size, 0, none⟩) n (n + 2), .int .u8 c] wx fun e w' => e = .returned (.tuple #[.slice (some ⟨w4.heap.size, 0, none⟩) n n, .int .i64 0]) ∧
      Below w4.heap.size wx w' ∧ w'.heap.size = w4.heap.size + 1 ∧ w'.heap[w4.heap.size]? = some (.cells (bvs (Gf.mulAdd xs ys c)).toArray 5 (0, 0))) := fun wx hw => mulAdd_lent _ _ n c xs ys w4 wx (by omega) hc HX.out HY.out hxb hyb e1 e2 hw
  have E1 : Hid (w4.heap[w.heap.size]? = some (.cells (bvs (xs ++ [77, 78])).toArray 5 (0, 0))) := e1
  have E2 : Hid (w4.heap[w1.heap.size]? = some (.cells (bvs (ys ++ [77, 78])).toArray 5 (0, 0))) := e2
  have G4 : Hid (w4.heap[w3.heap.size]? = some (.cells (bvs (Gf.mulAdd xs ys c)).toArray 5 (0, 0))) := hg4
  have S4 : Hid (w4.heap.size = w3.heap.size + 1) := sz4
  have s4 : w3.heap.size < w4.heap.size := by omega
  clear e1 e2 MA hb4 hg4 sz4
  go_wp2_with fail
  go_region_held3 (fun _ => True) (trivial) (first | (go_at_call 15; refine (MB.out _ ?_).mono ?_; exact rfl; rintro e w5 ⟨rfl, hb5, sz5, hg5⟩))
  have b45 : Below w4.heap.size w4 w5 := (Below.refl _ _).drew.trans hb5
  have s5 : w4.heap.size < w5.heap.size := by omega
  have HM : Hid ((Gf.mulAdd xs ys c).length = n) := by show _ = _; rw [Gf.mulAdd_length _ _ _ (by rw [HX.out, HY.out]), HX.out]
  have g45 : w5.heap[w3.heap.size]? = some (.cells (bvs (Gf.mulAdd xs ys c)).toArray 5 (0, 0)) := by rw [b45.block _ s4]; exact G4.out
  have o5 := owns_below (owns_below ho3 b34) b45
  have c5 := owns_cells o5
  have cF : Cells w5 (some ⟨w3.heap.size, 0, none⟩) (Gf.mulAdd xs ys c) := cells_block g45
  have cA : Cells w5 (some ⟨w4.heap.size, 0, none⟩) (Gf.mulAdd xs ys c) := cells_block hg5
  have OF : w5.ownsRow w3.heap.size 5 1 (.slice (some ⟨w3.heap.size, 0, none⟩) n n) n (bvs (Gf.mulAdd xs ys c)) := owns_block g45 (Nat.le_refl _) HM.out (by unfold maxLen; omega)
  have OA : w5.ownsRow w3.heap.size 5 1 (.slice (some ⟨w4.heap.size, 0, none⟩) n n) n (bvs (Gf.mulAdd xs ys c)) := owns_block hg5 (by omega) HM.out (by unfold maxLen; omega)
  have E1' : Hid (w5.heap[w.heap.size]? = some (.cells (bvs (xs ++ [77, 78])).toArray 5 (0, 0))) := by show _ = _; rw [b45.block _ (by omega)]; exact E1.out
  have E2' : Hid (w5.heap[w1.heap.size]? = some (.cells (bvs (ys ++ [77, 78])).toArray 5 (0, 0))) := by show _ = _; rw [b45.block _ (by omega)]; exact E2.out
  have b05 : Below w.heap.size w w5 := (((hb1.trans (hb2.mono (by omega))).trans (hb3.mono (by omega))).trans (b34.mono (by omega))).trans (b45.mono (by omega))
  clear MB hb5 hg5 sz5 g45 E1 E2 G4 ho3 o5 cX1 cY1 cX2 cY2
  go_wp2_with fail
  refine (same_any _ _ n _ _ _ _ (by omega) HM.out cF c5.1).mono ?_
  rintro e w6 ⟨rfl, h6, b6⟩
  have cA6 := cA.keep b6
  have cv6 := c5.1.keep b6
  go_wp2_with fail
  refine (same_any _ _ n _ _ _ _ (by omega) HM.out cA6 cv6).mono ?_
  rintro e w7 ⟨rfl, h7, b7⟩
  have H7 : Hid (w7.heap = w5.heap) := h7.trans h6
  have b57 : Below w5.heap.size w5 w7 := b6.trans (by rw [h6] at b7; exact b7)
  clear h6 h7 b6 b7 cA6 cv6 cF cA c5
  have s7 := b57.size
  have OF7 := owns_below OF b57
  have OA7 := owns_below OA b57
  have HP : Hid (Ph (w7.alloc (.cells #[.slice (some ⟨w3.heap.size, 0, none⟩) n n, .int .u8 200, .slice (some ⟨w4.heap.size, 0, none⟩) n n, .int .u8 201] 34)) w3.heap.size w7.heap.size 2 [(.slice (some ⟨w3.heap.size, 0, none⟩) n n, 200), (.slice (some ⟨w4.heap.size, 0, none⟩) n n, 201)] 0 0 n) :=
    ph_two (m1 := 200) (m2 := 201) OF7 OA7 (by intro g h1 h2; simp only [Value.ownBlock, Option.some.injEq] at h1 h2; omega) (Nat.le_refl _) (by omega)
  have X7 : Hid (w7.heap[w.heap.size]? = some (.cells (bvs (xs ++ [77, 78])).toArray 5 (0, 0))) := by show _ = _; rw [H7.out]; exact E1'.out
  have Y7 : Hid (w7.heap[w1.heap.size]? = some (.cells (bvs (ys ++ [77, 78])).toArray 5 (0, 0))) := by show _ = _; rw [H7.out]; exact E2'.out
  have b07 : Below w.heap.size w w7 := b05.trans (b57.mono (by omega))
  clear OF OA OF7 OA7 E1' E2' H7 b05 b57
  go_wp2_with fail
  refine (mixed_any w3.heap.size w7.heap.size 2 2 n _ _ (by simp; omega) rfl (by decide) (by omega) HP.out).mono ?_
  rintro e w8 ⟨rfl, b8⟩
  have b78 : Below w3.heap.size w7 w8 := ((Below.refl _ _).alloc (by omega) _).trans b8
  have s8 := b78.size
  have X8 : Hid (w8.heap[w.heap.size]? = some (.cells (bvs (xs ++ [77, 78])).toArray 5 (0, 0))) := by show _ = _; rw [b78.block _ (by omega)]; exact X7.out
  have Y8 : Hid (w8.heap[w1.heap.size]? = some (.cells (bvs (ys ++ [77, 78])).toArray 5 (0, 0))) := by show _ = _; rw [b78.block _ (by omega)]; exact Y7.out
  have b08 : Below w.heap.size w w8 := b07.trans (b78.mono (by omega))
  have cX8 := cX.keep b08
  have cY8 := cY.keep b08
  clear HP X7 Y7 b78 b8 b07
  go_wp2_with fail
  refine (lent_any a1 n k1 xs _ (by omega) HX.out cX8).mono ?_
  rintro e w9 ⟨rfl, hb9, hg9⟩
  have cY9 := cY8.keep hb9
  have G9 : Hid (w9.heap[w8.heap.size]? = some (.cells (bvs (xs ++ [77, 78])).toArray 5 (0, 0))) := hg9
  have s9 := block_lt hg9
  clear hg9
  go_wp2_with fail
  refine (lent_any a2 n k2 ys _ (by omega) HY.out cY9).mono ?_
  rintro e w10 ⟨rfl, hb10, hg10⟩
  have d1 : Cells w10 (some ⟨w.heap.size, 0, none⟩) (xs ++ [77, 78]) := cells_block (by rw [hb10.block _ (by omega), hb9.block _ (by omega)]; exact X8.out)
  have d2 : Cells w10 (some ⟨w8.heap.size, 0, none⟩) (xs ++ [77, 78]) := cells_block (by rw [hb10.block _ (by omega)]; exact G9.out)
  have d3 : Cells w10 (some ⟨w1.heap.size, 0, none⟩) (ys ++ [77, 78]) := cells_block (by rw [hb10.block _ (by omega), hb9.block _ (by omega)]; exact Y8.out)
  have d4 : Cells w10 (some ⟨w9.heap.size, 0, none⟩) (ys ++ [77, 78]) := cells_block hg10
  have b010 : Below w.heap.size w w10 := (b08.trans (hb9.mono (by omega))).trans (hb10.mono (by omega))
  clear hg10 X8 Y8 G9
  go_wp2_with fail
  refine (same_any _ _ (n + 2) _ _ _ _ (by omega) (by rw [List.length_append, HX.out]; rfl) d1 d2).mono ?_
  rintro e w11 ⟨rfl, h11, b11⟩
  have d3' := d3.keep b11
  have d4' := d4.keep b11
  have s11 := b010.size
  have b011 : Below w.heap.size w w11 := b010.trans (b11.mono s11)
  clear h11
  go_wp2_with fail
  refine (same_any _ _ (n + 2) _ _ _ _ (by omega) (by rw [List.length_append, HY.out]; rfl) d3' d4').mono ?_
  rintro e w12 ⟨rfl, h12, b12⟩
  have s12 := b011.size
  go_wp2_with fail
  go_ret
  exact ⟨rfl, b011.trans (b12.mono s12)⟩

set_option maxHeartbeats 1000000 in
theorem adds_ne (a1 a2 : Option Addr) (n m k1 k2 c : Nat) (xs ys : List Nat) (w : World) (hn : n ≤ 140737488351232) (hm : m ≤ 140737488351232) (hne : n ≠ m)
    (hx : xs.length = n) (hy : ys.length = m) (cX : Cells w a1 xs) (cY : Cells w a2 ys) :
    Calls Try.prog 4 #[.slice a1 n k1, .slice a2 m k2, .int .u8 c] w fun e w' => e = .returned (.bool true) ∧ Below w.heap.size w w' := by
  have HX : Hid (xs.length = n) := hx
  have HY : Hid (ys.length = m) := hy
  clear hx hy
  go_enter Try.func4, Try.ntmps4
  go_wp2_with fail
  refine (lent_any a1 n k1 xs _ (by omega) HX.out cX).mono ?_
  rintro e w1 ⟨rfl, hb1, hg1⟩
  have cX1 := cX.keep hb1
  have cY1 := cY.keep hb1
  have G1 : Hid (w1.heap[w.heap.size]? = some (.cells (bvs (xs ++ [77, 78])).toArray 5 (0, 0))) := hg1
  have s1 := block_lt hg1
  clear hg1
  go_wp2_with fail
  refine (lent_any a2 m k2 ys _ (by omega) HY.out cY1).mono ?_
  rintro e w2 ⟨rfl, hb2, hg2⟩
  have G2 : Hid (w2.heap[w1.heap.size]? = some (.cells (bvs (ys ++ [77, 78])).toArray 5 (0, 0))) := hg2
  have s2 := block_lt hg2
  clear hg2
  go_wp2_with fail
  refine (refMulAdd_ne a1 a2 n m k1 k2 c _ hne).mono ?_
  rintro e w3 ⟨rfl, rfl⟩
  have i1 : (0 : Int) ≤ (n : Int) := by omega
  have i2 : (n : Int) ≤ (n : Int) + 2 := by omega
  have i3 : (0 : Int) ≤ (m : Int) := by omega
  have i4 : (m : Int) ≤ (m : Int) + 2 := by omega
  go_wp2_with fail
  go_region_held3 (fun _ => True) (trivial) (first | (go_at_call 15; refine (mulAdd_ne _ _ n m _ _ c _ hne).mono ?_; rintro e w4 ⟨rfl, rfl⟩))
  go_wp2_with fail
  go_region_held3 (fun _ => True) (trivial) (first | (go_at_call 15; refine (mulAdd_ne _ _ n m _ _ c _ hne).mono ?_; rintro e w5 ⟨rfl, rfl⟩))
  go_wp2_with fail
  refine (same_zero _ _ _ _ _).mono ?_
  rintro e w6 ⟨rfl, h6, b6⟩
  have H6 : Hid (w6.heap = w3.heap) := h6
  have b36 : Below w3.heap.size w3 w6 := ((Below.refl _ _).drew.drew).trans b6
  clear h6 b6
  go_wp2_with fail
  refine (same_zero _ _ _ _ _).mono ?_
  rintro e w7 ⟨rfl, h7, b7⟩
  have H7 : Hid (w7.heap = w3.heap) := h7.trans H6.out
  have b37 : Below w3.heap.size w3 w7 := b36.trans (by rw [H6.out] at b7; exact b7)
  clear h7 b7 b36 H6
  have s7 := b37.size
  have HP : Hid (Ph (w7.alloc (.cells #[.slice none 0 0, .int .u8 200, .slice none 0 0, .int .u8 201] 34)) w3.heap.size w7.heap.size 2 [(.slice none 0 0, 200), (.slice none 0 0, 201)] 0 0 0) :=
    ph_two (m1 := 200) (m2 := 201) (World.ownsRow_nil w7 _ _ _) (World.ownsRow_nil w7 _ _ _) (by intro g h1 h2; simp [Value.ownBlock] at h1) (Nat.le_refl _) (by omega)
  have X7 : Hid (w7.heap[w.heap.size]? = some (.cells (bvs (xs ++ [77, 78])).toArray 5 (0, 0))) := by show _ = _; rw [H7.out, hb2.block _ (by omega)]; exact G1.out
  have Y7 : Hid (w7.heap[w1.heap.size]? = some (.cells (bvs (ys ++ [77, 78])).toArray 5 (0, 0))) := by show _ = _; rw [H7.out]; exact G2.out
  have b07 : Below w.heap.size w w7 := (hb1.trans (hb2.mono (by omega))).trans (b37.mono (by omega))
  clear H7 b37
  go_wp2_with fail
  refine (mixed_any w3.heap.size w7.heap.size 2 2 0 _ _ (by simp; omega) rfl (by decide) (by omega) HP.out).mono ?_
  rintro e w8 ⟨rfl, b8⟩
  have b78 : Below w3.heap.size w7 w8 := ((Below.refl _ _).alloc (by omega) _).trans b8
  have s8 := b78.size
  have X8 : Hid (w8.heap[w.heap.size]? = some (.cells (bvs (xs ++ [77, 78])).toArray 5 (0, 0))) := by show _ = _; rw [b78.block _ (by omega)]; exact X7.out
  have Y8 : Hid (w8.heap[w1.heap.size]? = some (.cells (bvs (ys ++ [77, 78])).toArray 5 (0, 0))) := by show _ = _; rw [b78.block _ (by omega)]; exact Y7.out
  have b08 : Below w.heap.size w w8 := b07.trans (b78.mono (by omega))
  have cX8 := cX.keep b08
  have cY8 := cY.keep b08
  clear HP X7 Y7 b78 b8 b07
  go_wp2_with fail
  refine (lent_any a1 n k1 xs _ (by omega) HX.out cX8).mono ?_
  rintro e w9 ⟨rfl, hb9, hg9⟩
  have cY9 := cY8.keep hb9
  have G9 : Hid (w9.heap[w8.heap.size]? = some (.cells (bvs (xs ++ [77, 78])).toArray 5 (0, 0))) := hg9
  have s9 := block_lt hg9
  clear hg9
  go_wp2_with fail
  refine (lent_any a2 m k2 ys _ (by omega) HY.out cY9).mono ?_
  rintro e w10 ⟨rfl, hb10, hg10⟩
  have d1 : Cells w10 (some ⟨w.heap.size, 0, none⟩) (xs ++ [77, 78]) := cells_block (by rw [hb10.block _ (by omega), hb9.block _ (by omega)]; exact X8.out)
  have d2 : Cells w10 (some ⟨w8.heap.size, 0, none⟩) (xs ++ [77, 78]) := cells_block (by rw [hb10.block _ (by omega)]; exact G9.out)
  have d3 : Cells w10 (some ⟨w1.heap.size, 0, none⟩) (ys ++ [77, 78]) := cells_block (by rw [hb10.block _ (by omega), hb9.block _ (by omega)]; exact Y8.out)
  have d4 : Cells w10 (some ⟨w9.heap.size, 0, none⟩) (ys ++ [77, 78]) := cells_block hg10
  have b010 : Below w.heap.size w w10 := (b08.trans (hb9.mono (by omega))).trans (hb10.mono (by omega))
  clear hg10 X8 Y8 G9
  go_wp2_with fail
  refine (same_any _ _ (n + 2) _ _ _ _ (by omega) (by rw [List.length_append, HX.out]; rfl) d1 d2).mono ?_
  rintro e w11 ⟨rfl, h11, b11⟩
  have d3' := d3.keep b11
  have d4' := d4.keep b11
  have s11 := b010.size
  have b011 : Below w.heap.size w w11 := b010.trans (b11.mono s11)
  clear h11
  go_wp2_with fail
  refine (same_any _ _ (m + 2) _ _ _ _ (by omega) (by rw [List.length_append, HY.out]; rfl) d3' d4').mono ?_
  rintro e w12 ⟨rfl, h12, b12⟩
  have s12 := b011.size
  go_wp2_with fail
  go_ret
  exact ⟨rfl, b011.trans (b12.mono s12)⟩
end Go.Proofs.Ytlaoaiffgbdnpaa
