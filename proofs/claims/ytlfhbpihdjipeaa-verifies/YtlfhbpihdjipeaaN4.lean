import Derived.Test.YtlfhbpihdjipeaaN3
namespace Go.Proofs.Ytlfhbpihdjipeaa
open Go.RowKit

set_option maxHeartbeats 4000000 in
theorem refLook_good (f : ByteArray) (k n b i l : Nat) (w : World) (hs : f.size ≤ 140737488355328) (h2 : 18 ≤ f.size) (hG0 : Gd f) (ek : numAt f 4 1 = k) (en : numAt f 5 1 = n) (eb : numAt f 8 2 = b) (ei : numAt f 6 1 = i) (el : numAt f 10 4 = l) (S Q : Nat)
    (hQ : Q = f.size - (18 + st k b l * (b + 8))) (hS : S = if Q = 0 ∧ (bads f b i (st k b l)).length = 0 then 3 else 4) :
    Calls Try.prog 10 #[.string f] w fun e w' => ∃ v, e = .returned (scanV S k n b i l v Q) ∧ Below w.heap.size w w' ∧ w'.ownsRow w.heap.size 3 1 v (bads f b i (st k b l)).length (ivs (bads f b i (st k b l))) := by
  have h1 : ((f.size : Int) == 0) = false := beq_eq_false_iff_ne.2 (by omega)
  obtain ⟨i3, hi3, hz0, hz1, hz2⟩ := info_parts info3
  have hok := hG0.1
  rw [ek, en, eb, ei, el] at hok
  have hk1 := hok.may.k1
  have hk2 := hok.may.kn
  have hk3 := hok.may.n32
  have hb1 := hok.may.b1
  have hb2 := hok.may.b256
  have hi1 := hok.iN
  have hl1 := hok.lM
  have HH : Hid (∀ w : World, Calls Try.prog 13 #[.string f] w fun e w' => e = .returned (.tuple #[hdr k n b i l, .bool true]) ∧ Below w.heap.size w w') := by
    intro w
    have H := refHd_ok f w h2
    rw [ek, en, eb, ei, el] at H
    refine H.mono ?_
    rintro e w' ⟨⟨G, hG, rfl⟩, hb⟩
    have hGt : G = true := hG.2 hG0
    subst hGt
    exact ⟨rfl, hb⟩
  have HQ : Hid (Q = f.size - (18 + st k b l * (b + 8))) := hQ
  have HS : Hid (S = if Q = 0 ∧ (bads f b i (st k b l)).length = 0 then 3 else 4) := hS
  have HST : Hid (∀ w : World, Calls Try.prog 14 #[hdr k n b i l] w fun e w' => e = .returned (.int .i64 (st k b l : Nat)) ∧ Below w.heap.size w w') :=
    fun w => refStripes_any k n b i l w (by omega) (by omega) (by omega) (by omega) (by omega)
  have hst : st k b l ≤ 16384 := Nat.le_trans (st_le k b l (by omega) (by omega)) (by omega)
  have HGD : Hid (∀ (t : Nat) (w : World), t ≤ 16384 → Calls Try.prog 15 #[.string f, hdr k n b i l, .int .i64 t] w fun e w' => (∃ s, e = .returned (.tuple #[.string s, .bool (okB f b i t)])) ∧ Below w.heap.size w w') :=
    fun t w ht => refGood_any f k n b i l t w (by omega) (by omega) (by omega) ht
  have hY : st k b l * (b + 8) ≤ 16384 * 264 := Nat.mul_le_mul hst (by omega)
  have HM : Hid (((st k b l : Nat) : Int) * ((b : Int) + 8) = ((st k b l * (b + 8) : Nat) : Int)) := by show _ = _; simp
  clear hok hG0 ek en eb ei el hQ hS
  generalize hyy : st k b l * (b + 8) = y at *
  generalize hee : st k b l = E at *
  have hm : (E : Int) * ((b : Int) + 8) = (y : Int) := HM.out
  clear hyy hee HM
  go_enter Try.func10, Try.ntmps10
  go_wp2_with fail
  refine (HH.out _).mono ?_
  rintro e w1 ⟨rfl, hb⟩
  have R0 : w1.heap[w.heap.size]? = some (.cells z8 36) := by
    rw [hb.block _ (by simp)]; exact heap_new _ _
  have hl : w.heap.size + 1 ≤ w1.heap.size := by have := hb.size; simpa using this
  have HB' : Hid (Below w.heap.size w w1) := ((Below.refl _ _).alloc (Nat.le_refl _) _).trans (hb.mono (by simp))
  clear hb
  go_wp2_with fail
  refine (HST.out _).mono ?_
  rintro e w2 ⟨rfl, hb⟩
  have X0 : w2.heap[w.heap.size]? = some (.cells z8 36) := by
    rw [hb.block _ (by simp; omega)]; exact heap_past (heap_past R0 _) _
  have Xh : w2.heap[w1.heap.size]? = some (.cells #[.int .i64 k, .int .i64 n, .int .i64 b, .int .i64 i, .int .i64 l] 33) := by
    rw [hb.block _ (by simp; omega)]; exact heap_past (heap_new _ _) _
  have Xs : w2.heap[w1.heap.size + 1]? = some (.cells #[.int .i64 3, .int .i64 k, .int .i64 n, .int .i64 b, .int .i64 i, .int .i64 l, .slice none 0 0, .int .i64 0] 36) := by
    rw [hb.block _ (by simp)]
    have := heap_new (w1.alloc (.cells #[.int .i64 k, .int .i64 n, .int .i64 b, .int .i64 i, .int .i64 l] 33)) (.cells #[.int .i64 3, .int .i64 k, .int .i64 n, .int .i64 b, .int .i64 i, .int .i64 l, .slice none 0 0, .int .i64 0] 36)
    rw [World.size_alloc] at this
    exact this
  have hl2 : w1.heap.size + 2 ≤ w2.heap.size := by have := hb.size; simpa using this
  have BB : Hid (Below w.heap.size w w2) := ((HB'.out.alloc (by omega) _).alloc (by simp; omega) _).trans (hb.mono (by simp; omega))
  have R2 : Hid (RL w2 f (w1.heap.size + 1) k n b i l 0 (.slice none 0 0) w2) := ⟨Mods.refl _ _, Xs, World.ownsRow_nil _ _ _ _⟩
  have X0h : Hid (w2.heap[w.heap.size]? = some (.cells z8 36)) := X0
  have Xhh : Hid (w2.heap[w1.heap.size]? = some (.cells #[.int .i64 k, .int .i64 n, .int .i64 b, .int .i64 i, .int .i64 l] 33)) := Xh
  clear hb R0 X0 Xh Xs HB'
  go_wp2_with fail
  go_loopw [7] (fun j w' => ∃ (t : Nat) (av : Option Addr) (cv : Nat), t ≤ E ∧ j = .int .i64 t ∧ RL w2 f (w1.heap.size + 1) k n b i l t (.slice av (bads f b i t).length cv) w') (fun j _ => (E - intOf j).toNat)
  case atStart => exact ⟨0, none, 0, by omega, rfl, R2.out⟩
  case round =>
    clear R2
    obtain ⟨t, av, cv, ht, rfl, hR⟩ := hrel
    have hlen := bads_len f b i t
    have Xr : wr.heap[w1.heap.size]? = some (.cells #[.int .i64 k, .int .i64 n, .int .i64 b, .int .i64 i, .int .i64 l] 33) := by
      rw [hR.mods.block _ (by omega) (by omega)]; exact Xhh.out
    have d0 : wr.cell? ⟨w1.heap.size, 0, none⟩ = some (.int .i64 k) := cell_block Xr
    have d1 : wr.cell? ⟨w1.heap.size, 1, none⟩ = some (.int .i64 n) := cell_block Xr
    have d2 : wr.cell? ⟨w1.heap.size, 2, none⟩ = some (.int .i64 b) := cell_block Xr
    have d3 : wr.cell? ⟨w1.heap.size, 3, none⟩ = some (.int .i64 i) := cell_block Xr
    have d4 : wr.cell? ⟨w1.heap.size, 4, none⟩ = some (.int .i64 l) := cell_block Xr
    have HR : Hid (RL w2 f (w1.heap.size + 1) k n b i l t (.slice av (bads f b i t).length cv) wr) := hR
    have hsz : w2.heap.size ≤ wr.heap.size := hR.mods.size
    clear hR Xr
    by_cases hlt : t < E
    · go_wp2_with fail
      refine (HGD.out t _ (by omega)).mono ?_
      rintro e w3 ⟨⟨sx, rfl⟩, hb3⟩
      have HR3 : Hid (RL w2 f (w1.heap.size + 1) k n b i l t (.slice av (bads f b i t).length cv) w3) := HR.out.below (by omega) hb3
      have hsz3 := hb3.size
      clear hb3 HR d0 d1 d2 d3 d4
      have s6 : w3.cell? ⟨w1.heap.size + 1, 6, none⟩ = some (.slice av (bads f b i t).length cv) := cell_block HR3.out.scan
      have z6 : w3.frozen? ⟨w1.heap.size + 1, 6, none⟩ = false := frozen_block HR3.out.scan
      cases hok : okB f b i t
      · have HT : Hid (bads f b i (t + 1) = bads f b i t ++ [t]) := bads_no f b i t hok
        have own1 := HR3.out.own
        clear hok
        generalize hbl : bads f b i t = bl at *
        have HBL : Hid (bads f b i t = bl) := hbl
        clear hbl
        go_wp2_with (at_builtin; refine wpList_append_own _ rfl _ _ 34 rfl w2.heap.size 3 i3 (.int .i64 0) 1 8 Try.underlying34 hi3 hz0 hz1 hz2 rfl (by decide) _ _ _ rfl (own1.alloc _) ⟨w3.heap.size, 0, none⟩ 1 1 [.int .i64 (t : Int)] rfl rfl ?c1 ?c2 ?c3 ?c4 ?c5 ?_)
        case c1 => exact cell_one_new _ _ _
        case c2 => intro u hu; simp at hu; subst hu; rfl
        case c3 => unfold maxLen; omega
        case c4 => omega
        case c5 => simp; omega
        intro v' w4 hown2 hgrow _
        have hrow : ∀ q, (Value.slice av bl.length cv).ownBlock = some q → w2.heap.size ≤ q := fun q hq => (own1.lt q hq).1
        have M2 : Mods (fun q => q = w1.heap.size + 1) w2 w4 := (HR3.out.mods.alloc _).row hgrow (fun q hq => .inr (hrow q hq))
        have scan2 : w4.heap[w1.heap.size + 1]? = some (.cells #[.int .i64 3, .int .i64 k, .int .i64 n, .int .i64 b, .int .i64 i, .int .i64 l, .slice av bl.length cv, .int .i64 0] 36) := by
          rw [hgrow.block _ (by simp; omega) (fun e => by have := hrow _ e.symm; omega), Below.heap_alloc _ _ _ (by omega)]; exact HR3.out.scan
        obtain ⟨av', cv', rfl⟩ := owns_form hown2
        have HO : Hid (w4.ownsRow w2.heap.size 3 1 (.slice av' (bl.length + 1) cv') (bl.length + 1) (ivs (bl ++ [t]))) := by
          show World.ownsRow _ _ _ _ _ _ _
          rw [ivs_snoc]; exact hown2
        clear hown2 hgrow own1 s6 z6 HR3
        have s6 : w4.cell? ⟨w1.heap.size + 1, 6, none⟩ = some (.slice av bl.length cv) := cell_block scan2
        have z6 : w4.frozen? ⟨w1.heap.size + 1, 6, none⟩ = false := frozen_block scan2
        go_wp2_with fail
        go_roundw
        case rel =>
          refine ⟨t + 1, av', cv', by omega, by go_num, ?_⟩
          have el : (bads f b i (t + 1)).length = bl.length + 1 := by rw [HT.out]; simp
          rw [el]
          refine ⟨M2.set _ _ _ (.inl rfl), by simpa using heap_set (j := 6) (v := .slice av' (bl.length + 1) cv') scan2, ?_⟩
          rw [el, HT.out]
          exact owns_set HO.out (by omega)
        case measure => simp [intOf]; omega
      · have HT : Hid (bads f b i (t + 1) = bads f b i t) := bads_ok f b i t hok
        clear hok
        go_wp2_with fail
        go_roundw
        case rel =>
          refine ⟨t + 1, av, cv, by omega, by go_num, ?_⟩
          have h3 := HR3.out
          exact ⟨h3.mods, by rw [HT.out]; exact h3.scan, by rw [HT.out]; exact h3.own⟩
        case measure => simp [intOf]; omega
    · have hte : t = E := by omega
      subst hte
      have X4 : wr.heap[w.heap.size]? = some (.cells z8 36) := by
        rw [HR.out.mods.block _ (by omega) (by omega)]; exact X0h.out
      have O4 : Hid (wr.ownsRow w2.heap.size 3 1 (.slice av (bads f b i t).length cv) (bads f b i t).length (ivs (bads f b i t))) := HR.out.own
      have B4 : Hid (Below w.heap.size w wr) := by
        have hm := HR.out.mods
        have hc := BB.out
        exact ⟨hm.os.trans hc.os, hm.tape.trans hc.tape, hm.output.trans hc.output, Nat.le_trans hc.size hm.size, fun q hq => (hm.block q (by omega) (by omega)).trans (hc.block q hq)⟩
      have Xs4 := HR.out.scan
      have hYd : Hid (Q = f.size - (18 + y)) := HQ.out
      clear HR HQ HST HGD HH BB X0h Xhh
      generalize hbl : bads f b i t = bl at *
      have HBL : Hid (bads f b i t = bl) := hbl
      clear hbl
      obtain ⟨⟨s0, s1, s2, s3⟩, s4, s5, s6, s7⟩ := cells8 Xs4
      have z0 : wr.frozen? ⟨w1.heap.size + 1, 0, none⟩ = false := frozen_block Xs4
      have z7 : wr.frozen? ⟨w1.heap.size + 1, 7, none⟩ = false := frozen_block Xs4
      have fw1 : IntKind.i64.wrap (y : Int) = (y : Int) := by simp [IntKind.wrap, IntKind.bits, IntKind.signed]; omega
      have fw2 : IntKind.i64.wrap (18 + (y : Int)) = 18 + (y : Int) := by simp [IntKind.wrap, IntKind.bits, IntKind.signed]; omega
      by_cases hfy : f.size ≤ 18 + y
      · have hQ0 : Hid (Q = 0) := by show _ = _; rw [hYd.out]; omega
        by_cases hbl0 : bl.length = 0
        · have hS3 : Hid (S = 3) := by show _ = _; rw [HS.out, if_pos ⟨hQ0.out, hbl0⟩]
          obtain rfl : bl = [] := List.eq_nil_of_length_eq_zero hbl0
          clear hbl0
          go_wp2_with (refine wpList_store_whole rfl 36 _ _ (by rfl) w.heap.size #[.int .i64 3, .int .i64 k, .int .i64 n, .int .i64 b, .int .i64 i, .int .i64 l, .slice av 0 cv, .int .i64 0] z8 36 (by rfl) (by rfl) X4 rfl size37 (one8 _ _ _ _ _ _ _ _ _ _) ?_; intro w5 hR5 hk5)
          obtain ⟨⟨r0, r1, r2, r3⟩, r4, r5, r6, r7⟩ := cells8 hR5
          refine bodyPost_ret (v := scanV 3 k n b i l (.slice av 0 cv) 0) (by simp [results, Try.results10, go_sem, r0, r1, r2, r3, r4, r5, r6, r7]) rfl ?_
          refine ⟨.slice av 0 cv, by rw [hQ0.out, hS3.out]; rfl, B4.out.grown hk5 (by first | omega | (simp [World.setCell]; omega)) (fun q hq => by cases hq; exact Nat.le_refl _), ?_⟩
          rw [HBL.out]
          exact owns_mono (owns_gb O4.out hk5 (by omega)) (by omega)
        · have hS4 : Hid (S = 4) := by show _ = _; rw [HS.out, if_neg (fun h => hbl0 h.2)]
          clear HS
          generalize hmm : bl.length = m at *
          have HMM : Hid (bl.length = m) := hmm
          have hb0 : (0 : Int) < (m : Int) := by omega
          clear hmm hbl0
          go_wp2_with (refine wpList_store_whole rfl 36 _ _ (by rfl) w.heap.size #[.int .i64 4, .int .i64 k, .int .i64 n, .int .i64 b, .int .i64 i, .int .i64 l, .slice av m cv, .int .i64 0] z8 36 (by rfl) (by rfl) (heap_far X4 (by omega)) rfl size37 (one8 _ _ _ _ _ _ _ _ _ _) ?_; intro w5 hR5 hk5)
          obtain ⟨⟨r0, r1, r2, r3⟩, r4, r5, r6, r7⟩ := cells8 hR5
          refine bodyPost_ret (v := scanV 4 k n b i l (.slice av m cv) 0) (by simp [results, Try.results10, go_sem, r0, r1, r2, r3, r4, r5, r6, r7]) rfl ?_
          refine ⟨.slice av m cv, by rw [hQ0.out, hS4.out]; rfl, (B4.out.setCell (p := ⟨w1.heap.size + 1, 0, none⟩) (by simp; omega) _).grown hk5 (by first | omega | (simp [World.setCell]; omega)) (fun q hq => by cases hq; exact Nat.le_refl _), ?_⟩
          rw [HBL.out]
          rw [HMM.out]
          exact owns_mono (owns_gb (owns_set O4.out (by omega)) hk5 (by omega)) (by omega)
      · have hQ0 : Hid (Q = f.size - (18 + y)) := hYd.out
        have hS4 : Hid (S = 4) := by show _ = _; rw [HS.out, if_neg (fun h => by have h1 := h.1; rw [hYd.out] at h1; omega)]
        clear HS hYd
        have hd : (f.size : Int) - (18 + (y : Int)) = ((f.size - (18 + y) : Nat) : Int) := by omega
        have hgt : 18 + (y : Int) < (f.size : Int) := by omega
        generalize hDD : f.size - (18 + y) = D at *
        have hD1 : (0 : Int) < (D : Int) := by omega
        clear hDD
        by_cases hbl0 : bl.length = 0
        · obtain rfl : bl = [] := List.eq_nil_of_length_eq_zero hbl0
          clear hbl0
          go_wp2_with (refine wpList_store_whole rfl 36 _ _ (by rfl) w.heap.size #[.int .i64 4, .int .i64 k, .int .i64 n, .int .i64 b, .int .i64 i, .int .i64 l, .slice av 0 cv, .int .i64 D] z8 36 (by rfl) (by rfl) (heap_far (heap_far X4 (by omega)) (by omega)) rfl size37 (one8 _ _ _ _ _ _ _ _ _ _) ?_; intro w5 hR5 hk5)
          obtain ⟨⟨r0, r1, r2, r3⟩, r4, r5, r6, r7⟩ := cells8 hR5
          refine bodyPost_ret (v := scanV 4 k n b i l (.slice av 0 cv) D) (by simp [results, Try.results10, go_sem, r0, r1, r2, r3, r4, r5, r6, r7]) rfl ?_
          refine ⟨.slice av 0 cv, by rw [hQ0.out, hS4.out]; rfl, ((B4.out.setCell (p := ⟨w1.heap.size + 1, 7, none⟩) (by simp; omega) _).setCell (p := ⟨w1.heap.size + 1, 0, none⟩) (by simp; omega) _).grown hk5 (by first | omega | (simp [World.setCell]; omega)) (fun q hq => by cases hq; exact Nat.le_refl _), ?_⟩
          rw [HBL.out]
          exact owns_mono (owns_gb (owns_set (owns_set O4.out (by omega)) (by omega)) hk5 (by omega)) (by omega)
        · generalize hmm : bl.length = m at *
          have HMM : Hid (bl.length = m) := hmm
          have hb0 : (0 : Int) < (m : Int) := by omega
          clear hmm hbl0
          go_wp2_with (refine wpList_store_whole rfl 36 _ _ (by rfl) w.heap.size #[.int .i64 4, .int .i64 k, .int .i64 n, .int .i64 b, .int .i64 i, .int .i64 l, .slice av m cv, .int .i64 D] z8 36 (by rfl) (by rfl) (heap_far (heap_far X4 (by omega)) (by omega)) rfl size37 (one8 _ _ _ _ _ _ _ _ _ _) ?_; intro w5 hR5 hk5)
          obtain ⟨⟨r0, r1, r2, r3⟩, r4, r5, r6, r7⟩ := cells8 hR5
          refine bodyPost_ret (v := scanV 4 k n b i l (.slice av m cv) D) (by simp [results, Try.results10, go_sem, r0, r1, r2, r3, r4, r5, r6, r7]) rfl ?_
          refine ⟨.slice av m cv, by rw [hQ0.out, hS4.out]; rfl, ((B4.out.setCell (p := ⟨w1.heap.size + 1, 7, none⟩) (by simp; omega) _).setCell (p := ⟨w1.heap.size + 1, 0, none⟩) (by simp; omega) _).grown hk5 (by first | omega | (simp [World.setCell]; omega)) (fun q hq => by cases hq; exact Nat.le_refl _), ?_⟩
          rw [HBL.out]
          rw [HMM.out]
          exact owns_mono (owns_gb (owns_set (owns_set O4.out (by omega)) (by omega)) hk5 (by omega)) (by omega)
end Go.Proofs.Ytlfhbpihdjipeaa
