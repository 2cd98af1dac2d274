import Derived.Test.YtfnnakignemifaaN1
namespace Go.Proofs.Ytfnnakignemifaa
open Go.RowKit

abbrev wLook (w : World) (f : ByteArray) : World := (w.alloc (.cells z8 37)).alloc (.cells #[.string f] 49)
theorem look_hdr (f : ByteArray) (w : World) (h2 : 18 ≤ f.size) : Calls Try.prog 23 #[.pointer (some ⟨w.heap.size + 1, 0, none⟩)] (wLook w f) fun e w' =>
      (∃ G : Bool, (G = true ↔ Gd f) ∧ e = .returned (.tuple #[hdr (numAt f 4 1) (numAt f 5 1) (numAt f 8 2) (numAt f 6 1) (numAt f 10 4), .bool G])) ∧ w'.heap[w.heap.size]? = some (.cells z8 37) ∧ w.heap.size + 2 ≤ w'.heap.size ∧ Below w.heap.size w w' ∧
        w'.cell? ⟨w.heap.size + 1, 0, none⟩ = some (.string (tl f 18)) ∧ w'.frozen? ⟨w.heap.size + 1, 0, none⟩ = false := by
  have hn := heap_new (w.alloc (.cells z8 37)) (.cells #[.string f] 49)
  rw [World.size_alloc] at hn
  have hgc : (wLook w f).cell? ⟨w.heap.size + 1, 0, none⟩ = some (.string (tl f 0)) := by rw [tl_zero]; exact cell_block hn
  refine (readHeader_ok f (w.heap.size + 1) _ h2 hgc (frozen_block hn)).mono ?_
  rintro e w1 ⟨hG, hR⟩
  have hk := hR.kept
  have hl : w.heap.size + 2 ≤ w1.heap.size := by have := hk.size; simpa using this
  refine ⟨hG, ?_, hl, ?_, hR.cell, hR.fz⟩
  · rw [hk.block _ (by simp; omega) (by simp)]; exact heap_past (heap_new _ _) _
  · exact ⟨hk.os, hk.tape, hk.output, by omega, fun q hq => by
      rw [hk.block q (by simp; omega) (by simp; omega), Below.heap_alloc _ _ _ (by simp; omega), Below.heap_alloc _ _ _ hq]⟩

set_option maxHeartbeats 400000 in
theorem look_bad (f : ByteArray) (w : World) (h2 : 18 ≤ f.size) (hN : ¬ Gd f) :
    Calls Try.prog 13 #[.string f] w fun e w' => e = .returned (scanV 2 0 0 0 0 0 (.slice none 0 0) 0) ∧ Below w.heap.size w w' := by
  have h1 := notEmpty f (by omega)
  go_enter Try.func13, Try.ntmps13
  go_wp2_with fail
  refine (look_hdr f w h2).mono ?_
  rintro e w1 ⟨⟨G, hG, rfl⟩, R0, hl, HB, _, _⟩
  have hGf : G = false := by
    cases G with
    | false => rfl
    | true => exact absurd (hG.1 rfl) hN
  subst hGf
  have HB' : Hid (Below w.heap.size w w1) := HB
  clear HB hG
  go_wp2_with (refine wpList_store_whole rfl 37 _ _ (by rfl) w.heap.size #[.int .i64 2, .int .i64 0, .int .i64 0, .int .i64 0, .int .i64 0, .int .i64 0, .slice none 0 0, .int .i64 0] z8 37 (by rfl) (by rfl) (heap_past R0 _) rfl size37 (one8 2 0 0 0 0 0 none 0 0 0) ?_; intro w2 hR2 hk2)
  obtain ⟨⟨r0, r1, r2, r3⟩, r4, r5, r6, r7⟩ := cells8 hR2
  have HB2 : Below w.heap.size w w2 := (HB'.out.alloc (by omega) _).grown hk2 (by simp; omega) (fun k hk => by cases hk; omega)
  refine bodyPost_ret (v := scanV 2 0 0 0 0 0 (.slice none 0 0) 0) (by simp [results, Try.results13, go_sem, r0, r1, r2, r3, r4, r5, r6, r7]) rfl ⟨rfl, HB2⟩

set_option maxHeartbeats 1000000 in
theorem look_good (f : ByteArray) (k n b i l : Nat) (w : World) (hs : f.size ≤ 140737488355328) (h2 : 18 ≤ f.size) (hG0 : Gd f) (ek : numAt f 4 1 = k) (en : numAt f 5 1 = n) (eb : numAt f 8 2 = b) (ei : numAt f 6 1 = i) (el : numAt f 10 4 = l) (S Q : Nat)
    (hQ : Q = f.size - (18 + st k b l * (b + 8))) (hS : S = if Q = 0 ∧ (bads f b i (st k b l)).length = 0 then 3 else 4) :
    Calls Try.prog 13 #[.string f] w fun e w' => ∃ v, e = .returned (scanV S k n b i l v Q) ∧ Below w.heap.size w w' ∧ w'.ownsRow w.heap.size 3 1 v (bads f b i (st k b l)).length (ivs (bads f b i (st k b l))) := by
  have h1 := notEmpty f (by omega)
  have hok := hG0.1
  rw [ek, en, eb, ei, el] at hok
  have hk1 := hok.may.k1
  have hk2 := hok.may.kn
  have hk3 := hok.may.n32
  have hb1 := hok.may.b1
  have hb2 := hok.may.b256
  have hi1 := hok.iN
  have hl1 := hok.lM
  have H23 := look_hdr f w h2
  rw [ek, en, eb, ei, el] at H23
  have HH : Hid (Calls Try.prog 23 #[.pointer (some ⟨w.heap.size + 1, 0, none⟩)] (wLook w f) fun e w' =>
      (∃ G : Bool, (G = true ↔ Gd f) ∧ e = .returned (.tuple #[hdr k n b i l, .bool G])) ∧ w'.heap[w.heap.size]? = some (.cells z8 37) ∧ w.heap.size + 2 ≤ w'.heap.size ∧ Below w.heap.size w w' ∧
        w'.cell? ⟨w.heap.size + 1, 0, none⟩ = some (.string (tl f 18)) ∧ w'.frozen? ⟨w.heap.size + 1, 0, none⟩ = false) := H23
  have HG0 : Hid (Gd f) := hG0
  have HQ : Hid (Q = f.size - (18 + st k b l * (b + 8))) := hQ
  have HS : Hid (S = if Q = 0 ∧ (bads f b i (st k b l)).length = 0 then 3 else 4) := hS
  have HRB : Hid (∀ (g : Nat) (w : World), w.cell? ⟨g, 0, none⟩ = some (.string (tl f 18)) → w.frozen? ⟨g, 0, none⟩ = false → Calls Try.prog 24 #[.pointer (some ⟨g, 0, none⟩), hdr k n b i l] w fun e w' =>
      ∃ v, e = .returned v ∧ w.grownBy w' (some g) ∧ w'.ownsRow w.heap.size 3 1 v (bads f b i (st k b l)).length (ivs (bads f b i (st k b l)))) :=
    fun g w hg hz => readBad_any f g k n b i l w (by omega) (by omega) (by omega) (by omega) (by omega) (by omega) h2 hg hz
  have HWB : Hid (∀ w : World, Calls Try.prog 25 #[hdr k n b i l] w fun e w' => e = .returned (.int .i64 ((18 + st k b l * (b + 8) : Nat) : Int)) ∧ Below w.heap.size w w') :=
    fun w => wholeBytes_any k n b i l w (by omega) (by omega) (by omega) (by omega) (by omega)
  have hY : st k b l * (b + 8) ≤ 16384 * 264 := Nat.mul_le_mul (Nat.le_trans (st_le k b l (by omega) (by omega)) (by omega)) (by omega)
  have hlen := bads_len f b i (st k b l)
  have hst := st_le k b l (by omega) (by omega)
  clear hok hG0 ek en eb ei el H23 hQ hS
  generalize hyy : 18 + st k b l * (b + 8) = Y at *
  generalize hbl : bads f b i (st k b l) = bl at *
  have HBL : Hid (bads f b i (st k b l) = bl) := hbl
  have hY2 : Y ≤ 5000000 := by omega
  clear hyy hbl hY
  go_enter Try.func13, Try.ntmps13
  go_wp2_with fail
  refine HH.out.mono ?_
  rintro e w1 ⟨⟨G, hG, rfl⟩, R0, hl', HB, cg, zg⟩
  have hGt : G = true := hG.2 HG0.out
  subst hGt
  have HB' : Hid (Below w.heap.size w w1) := HB
  clear HB hG
  go_wp2_with fail
  refine (HRB.out _ _ (al2 cg _ _) (al2f cg zg _ _)).mono ?_
  rintro e w2 ⟨v, rfl, kk, own⟩
  obtain ⟨av, cv, rfl⟩ := owns_form own
  have X0 : w2.heap[w.heap.size]? = some (.cells z8 37) := by
    rw [kk.block _ (by simp; omega) (by simp)]; exact heap_past (heap_past R0 _) _
  have Xh : w2.heap[w1.heap.size]? = some (.cells #[.int .i64 k, .int .i64 n, .int .i64 b, .int .i64 i, .int .i64 l] 28) := by
    rw [kk.block _ (by simp; omega) (by simp; omega)]; exact heap_past (heap_new _ _) _
  have Xs : w2.heap[w1.heap.size + 1]? = some (.cells #[.int .i64 3, .int .i64 k, .int .i64 n, .int .i64 b, .int .i64 i, .int .i64 l, .slice none 0 0, .int .i64 0] 37) := by
    rw [kk.block _ (by simp) (by simp; omega)]
    have := heap_new (w1.alloc (.cells #[.int .i64 k, .int .i64 n, .int .i64 b, .int .i64 i, .int .i64 l] 28)) (.cells #[.int .i64 3, .int .i64 k, .int .i64 n, .int .i64 b, .int .i64 i, .int .i64 l, .slice none 0 0, .int .i64 0] 37)
    rw [World.size_alloc] at this
    exact this
  have hk2s : w1.heap.size + 2 ≤ w2.heap.size := by have := kk.size; simpa using this
  have BB : Below w.heap.size w w2 := ((HB'.out.alloc (by omega) _).alloc (by simp; omega) _).grown kk (by simp; omega) (fun q hq => by cases hq; omega)
  rw [World.size_alloc, World.size_alloc] at own
  clear kk cg zg R0
  have d0 : w2.cell? ⟨w1.heap.size, 0, none⟩ = some (.int .i64 k) := cell_block Xh
  have d1 : w2.cell? ⟨w1.heap.size, 1, none⟩ = some (.int .i64 n) := cell_block Xh
  have d2 : w2.cell? ⟨w1.heap.size, 2, none⟩ = some (.int .i64 b) := cell_block Xh
  have d3 : w2.cell? ⟨w1.heap.size, 3, none⟩ = some (.int .i64 i) := cell_block Xh
  have d4 : w2.cell? ⟨w1.heap.size, 4, none⟩ = some (.int .i64 l) := cell_block Xh
  have s6 : w2.cell? ⟨w1.heap.size + 1, 6, none⟩ = some (.slice none 0 0) := cell_block Xs
  have z6 : w2.frozen? ⟨w1.heap.size + 1, 6, none⟩ = false := frozen_block Xs
  have OWN : Hid (w2.ownsRow (w1.heap.size + 1 + 1) 3 1 (.slice av bl.length cv) bl.length (ivs bl)) := own
  have BBh : Hid (Below w.heap.size w w2) := BB
  clear own BB
  go_wp2_with fail
  refine (HWB.out _).mono ?_
  rintro e w4 ⟨rfl, hb4⟩
  have sz3 : (w2.setCell ⟨w1.heap.size + 1, 6, none⟩ (.slice av bl.length cv)).heap.size = w2.heap.size := by simp [World.setCell]
  have hl4 := hb4.size
  rw [sz3] at hl4
  have X4 : w4.heap[w.heap.size]? = some (.cells z8 37) := by
    rw [hb4.block _ (by omega)]; exact heap_far X0 (by omega)
  have Xs4 : w4.heap[w1.heap.size + 1]? = some (.cells #[.int .i64 3, .int .i64 k, .int .i64 n, .int .i64 b, .int .i64 i, .int .i64 l, .slice av bl.length cv, .int .i64 0] 37) := by
    rw [hb4.block _ (by omega)]
    simpa using heap_set (j := 6) (v := .slice av bl.length cv) Xs
  have O4 : Hid (w4.ownsRow (w1.heap.size + 1 + 1) 3 1 (.slice av bl.length cv) bl.length (ivs bl)) := owns_below (owns_set OWN.out (by omega)) hb4
  have B4 : Hid (Below w.heap.size w w4) := (BBh.out.setCell (p := ⟨w1.heap.size + 1, 6, none⟩) (by simp; omega) _).trans (hb4.mono (by omega))
  clear hb4 X0 Xs d0 d1 d2 d3 d4 s6 z6 OWN BBh Xh sz3
  obtain ⟨⟨s0, s1, s2, s3⟩, s4, s5, s6, s7⟩ := cells8 Xs4
  have z0 : w4.frozen? ⟨w1.heap.size + 1, 0, none⟩ = false := frozen_block Xs4
  have z7 : w4.frozen? ⟨w1.heap.size + 1, 7, none⟩ = false := frozen_block Xs4
  by_cases hfy : f.size ≤ Y
  · have hQ0 : Hid (Q = 0) := by show _ = _; rw [HQ.out]; omega
    by_cases hbl0 : bl.length = 0
    · have hS3 : Hid (S = 3) := by show _ = _; rw [HS.out, if_pos ⟨hQ0.out, hbl0⟩]
      obtain rfl : bl = [] := List.eq_nil_of_length_eq_zero hbl0
      clear hbl0
      go_wp2_with (refine wpList_store_whole rfl 37 _ _ (by rfl) w.heap.size #[.int .i64 3, .int .i64 k, .int .i64 n, .int .i64 b, .int .i64 i, .int .i64 l, .slice av 0 cv, .int .i64 0] z8 37 (by rfl) (by rfl) (heap_far X4 (by omega)) rfl size37 (one8 _ _ _ _ _ _ _ _ _ _) ?_; intro w5 hR5 hk5)
      obtain ⟨⟨r0, r1, r2, r3⟩, r4, r5, r6, r7⟩ := cells8 hR5
      refine bodyPost_ret (v := scanV 3 k n b i l (.slice av 0 cv) 0) (by simp [results, Try.results13, go_sem, r0, r1, r2, r3, r4, r5, r6, r7]) rfl ?_
      refine ⟨.slice av 0 cv, by rw [hQ0.out, hS3.out]; rfl, (B4.out.setCell (p := ⟨w1.heap.size + 1, 7, none⟩) (by simp; omega) _).grown hk5 (by simp [World.setCell]; omega) (fun q hq => by cases hq; exact Nat.le_refl _), ?_⟩
      exact owns_mono (owns_gb (owns_set O4.out (by omega)) hk5 (by omega)) (by omega)
    · have hS4 : Hid (S = 4) := by show _ = _; rw [HS.out, if_neg (fun h => hbl0 h.2)]
      clear HS
      generalize hmm : bl.length = m at *
      have HMM : Hid (bl.length = m) := hmm
      have hb0 : (0 : Int) < (m : Int) := by omega
      clear hmm hbl0
      go_wp2_with (refine wpList_store_whole rfl 37 _ _ (by rfl) w.heap.size #[.int .i64 4, .int .i64 k, .int .i64 n, .int .i64 b, .int .i64 i, .int .i64 l, .slice av m cv, .int .i64 0] z8 37 (by rfl) (by rfl) (heap_far (heap_far X4 (by omega)) (by omega)) rfl size37 (one8 _ _ _ _ _ _ _ _ _ _) ?_; intro w5 hR5 hk5)
      obtain ⟨⟨r0, r1, r2, r3⟩, r4, r5, r6, r7⟩ := cells8 hR5
      refine bodyPost_ret (v := scanV 4 k n b i l (.slice av m cv) 0) (by simp [results, Try.results13, go_sem, r0, r1, r2, r3, r4, r5, r6, r7]) rfl ?_
      refine ⟨.slice av m cv, by rw [hQ0.out, hS4.out]; rfl, ((B4.out.setCell (p := ⟨w1.heap.size + 1, 7, none⟩) (by simp; omega) _).setCell (p := ⟨w1.heap.size + 1, 0, none⟩) (by simp; omega) _).grown hk5 (by simp [World.setCell]; omega) (fun q hq => by cases hq; exact Nat.le_refl _), ?_⟩
      rw [HMM.out]
      exact owns_mono (owns_gb (owns_set (owns_set O4.out (by omega)) (by omega)) hk5 (by omega)) (by omega)
  · have hQ0 : Hid (Q = f.size - Y) := HQ.out
    have hS4 : Hid (S = 4) := by show _ = _; rw [HS.out, if_neg (fun h => by have h1 := h.1; rw [HQ.out] at h1; omega)]
    clear HS HQ
    have hd : (f.size : Int) - (Y : Int) = ((f.size - Y : Nat) : Int) := by omega
    generalize hDD : f.size - Y = D at *
    have hD1 : (0 : Int) < (D : Int) := by omega
    clear hDD
    by_cases hbl0 : bl.length = 0
    · obtain rfl : bl = [] := List.eq_nil_of_length_eq_zero hbl0
      clear hbl0
      go_wp2_with (refine wpList_store_whole rfl 37 _ _ (by rfl) w.heap.size #[.int .i64 4, .int .i64 k, .int .i64 n, .int .i64 b, .int .i64 i, .int .i64 l, .slice av 0 cv, .int .i64 D] z8 37 (by rfl) (by rfl) (heap_far (heap_far X4 (by omega)) (by omega)) rfl size37 (one8 _ _ _ _ _ _ _ _ _ _) ?_; intro w5 hR5 hk5)
      obtain ⟨⟨r0, r1, r2, r3⟩, r4, r5, r6, r7⟩ := cells8 hR5
      refine bodyPost_ret (v := scanV 4 k n b i l (.slice av 0 cv) D) (by simp [results, Try.results13, go_sem, r0, r1, r2, r3, r4, r5, r6, r7]) rfl ?_
      refine ⟨.slice av 0 cv, by rw [hQ0.out, hS4.out]; rfl, ((B4.out.setCell (p := ⟨w1.heap.size + 1, 7, none⟩) (by simp; omega) _).setCell (p := ⟨w1.heap.size + 1, 0, none⟩) (by simp; omega) _).grown hk5 (by simp [World.setCell]; omega) (fun q hq => by cases hq; exact Nat.le_refl _), ?_⟩
      exact owns_mono (owns_gb (owns_set (owns_set O4.out (by omega)) (by omega)) hk5 (by omega)) (by omega)
    · generalize hmm : bl.length = m at *
      have HMM : Hid (bl.length = m) := hmm
      have hb0 : (0 : Int) < (m : Int) := by omega
      clear hmm hbl0
      go_wp2_with (refine wpList_store_whole rfl 37 _ _ (by rfl) w.heap.size #[.int .i64 4, .int .i64 k, .int .i64 n, .int .i64 b, .int .i64 i, .int .i64 l, .slice av m cv, .int .i64 D] z8 37 (by rfl) (by rfl) (heap_far (heap_far X4 (by omega)) (by omega)) rfl size37 (one8 _ _ _ _ _ _ _ _ _ _) ?_; intro w5 hR5 hk5)
      obtain ⟨⟨r0, r1, r2, r3⟩, r4, r5, r6, r7⟩ := cells8 hR5
      refine bodyPost_ret (v := scanV 4 k n b i l (.slice av m cv) D) (by simp [results, Try.results13, go_sem, r0, r1, r2, r3, r4, r5, r6, r7]) rfl ?_
      refine ⟨.slice av m cv, by rw [hQ0.out, hS4.out]; rfl, ((B4.out.setCell (p := ⟨w1.heap.size + 1, 7, none⟩) (by simp; omega) _).setCell (p := ⟨w1.heap.size + 1, 0, none⟩) (by simp; omega) _).grown hk5 (by simp [World.setCell]; omega) (fun q hq => by cases hq; exact Nat.le_refl _), ?_⟩
      rw [HMM.out]
      exact owns_mono (owns_gb (owns_set (owns_set O4.out (by omega)) (by omega)) hk5 (by omega)) (by omega)
end Go.Proofs.Ytfnnakignemifaa
