import Derived.Test.YtlfhbpihdjipeaaS2
namespace Go.Proofs.Ytlfhbpihdjipeaa
open Go.RowKit

set_option maxHeartbeats 1000000 in
theorem refSum_any (s : ByteArray) (w : World) (hs : s.size ≤ 2000000) :
    Calls Try.prog 34 #[.string s] w fun e w' => e = .returned (.int .u32 ((4294967295 - Gk.crc (sb s) s.size : Nat) : Int)) ∧ Below w.heap.size w w' := by
  obtain ⟨i3, hi, hz0, hz1, hz2⟩ := info_parts info3
  go_enter Try.func34, Try.ntmps34
  go_wp2_with fail
  go_loopw [3, 4] (fun v i w' => ∃ k : Nat, k ≤ s.size ∧ i = .int .i64 k ∧ Below w.heap.size w w' ∧ w'.ownsRow w.heap.size 3 1 v (8 * k) (ivs (fst (Gk.msg (sb s) s.size) (8 * k)))) (fun _ i _ => (s.size - intOf i).toNat)
  case atStart => exact ⟨0, by omega, rfl, Below.refl _ _, World.ownsRow_nil _ _ _ _⟩
  case round =>
    obtain ⟨k, hk, rfl, hb, hown⟩ := hrel
    by_cases hlt : k < s.size
    · have sz := hb.size
      have eB : s[k].toNat = sb s k := sb_at s k hlt
      have h256 := sb_lt s k
      go_wp2_with fail
      refine (terms_any _ _ h256).mono ?_
      rintro e w1 ⟨rfl, hb1⟩
      have sz1 := hb1.size
      have hown1 := (owns_below hown hb1).alloc (.cells (bits8 (sb s k)) 76)
      have hbb : Below w.heap.size w (w1.alloc (.cells (bits8 (sb s k)) 76)) := (hb.trans (hb1.mono sz)).alloc (by omega) _
      clear hb hb1 hown
      have htb : (w1.alloc (.cells (bits8 (sb s k)) 76)).heap[w1.heap.size]? = some (.cells (bits8 (sb s k)) 76) := heap_new _ _
      have hbits : ∀ m, m < 8 → Gk.msg (sb s) s.size (8 * k + m) = Gk.bt (sb s k) m := by
        intro m hm
        unfold Gk.msg
        rw [if_pos (by omega), show (8 * k + m) / 8 = k by omega, show (8 * k + m) % 8 = m by omega]
      have HB : Hid (∀ m, m < 8 → Gk.msg (sb s) s.size (8 * k + m) = Gk.bt (sb s k) m) := hbits
      clear hbits
      go_wp2_with fail
      go_loopw [3, 6] (fun v j w' => ∃ m : Nat, m ≤ 8 ∧ j = .int .i64 m ∧ Below w.heap.size w w' ∧ w1.heap.size < w'.heap.size ∧ w'.heap[w1.heap.size]? = some (.cells (bits8 (sb s k)) 76) ∧ w'.ownsRow w.heap.size 3 1 v (8 * k + m) (ivs (fst (Gk.msg (sb s) s.size) (8 * k + m)))) (fun _ j _ => (8 - intOf j).toNat)
      case atStart => exact ⟨0, by omega, rfl, hbb, by simp, htb, hown1⟩
      case round =>
        clear hbb hown1 htb
        obtain ⟨m, hm, rfl, hb, hlt1, htb, hown⟩ := hrel
        by_cases hmt : m < 8
        · have sz := hb.size
          have hc := (cell_block (t := m) htb).trans (bits8_at (sb s k) m hmt)
          have i1 : (0 : Int) ≤ (m : Int) := by omega
          have i2 : (m : Int) < 8 := by omega
          have HT : Hid (fst (Gk.msg (sb s) s.size) (8 * k + m + 1) = fst (Gk.msg (sb s) s.size) (8 * k + m) ++ [Gk.bt (sb s k) m]) := by
            show _ = _; rw [fst_succ, HB.out m hmt]
          go_wp2_with (at_builtin; refine wpList_append_own _ rfl _ _ 34 rfl w.heap.size 3 i3 (.int .i64 0) 1 8 Try.underlying34 hi hz0 hz1 hz2 rfl (by decide) _ _ _ rfl (hown.alloc _) ⟨wr.heap.size, 0, none⟩ 1 1 [.int .i64 ((Gk.bt (sb s k) m : Nat) : Int)] rfl rfl ?c1 ?c2 ?c3 ?c4 ?c5 ?_)
          case c1 => exact cell_one_new _ _ _
          case c2 => intro u hu; simp at hu; subst hu; rfl
          case c3 => unfold maxLen; omega
          case c4 => omega
          case c5 => simp; omega
          intro v' w2 hown2 hgrow _
          have hb2 : Below w.heap.size w w2 := by
            refine Below.grown (hb.alloc (by omega) _) hgrow (by simp; omega) ?_
            intro g hg
            exact (hown.lt g hg).1
          have htb2 : w2.heap[w1.heap.size]? = some (.cells (bits8 (sb s k)) 76) := by
            rw [hgrow.block _ (by simp; omega) (owns_apart hown htb (by decide)), Below.heap_alloc _ _ _ hlt1]; exact htb
          have hlt2 : w1.heap.size < w2.heap.size := (Array.getElem?_eq_some_iff.1 htb2).1
          have HO : Hid (w2.ownsRow w.heap.size 3 1 v' (8 * k + m + 1) (ivs (fst (Gk.msg (sb s) s.size) (8 * k + m + 1)))) := by
            show World.ownsRow _ _ _ _ _ _ _
            rw [HT.out, ivs_snoc]; exact hown2
          clear hown2 hgrow hown hb htb hc
          go_wp2
          go_roundw
          case rel => exact ⟨m + 1, by omega, by go_num, hb2, hlt2, htb2, HO.out⟩
          case measure => simp [intOf]; omega
        · have hm8 : m = 8 := by omega
          subst hm8
          go_wp2
          go_roundw
          case rel => exact ⟨k + 1, by omega, by go_num, hb, hown⟩
          case measure => simp [intOf]; omega
    · have hkn : k = s.size := by omega
      subst hkn
      go_wp2_with fail
      go_loopw [3, 7] (fun v j w' => ∃ m : Nat, m ≤ 32 ∧ j = .int .i64 m ∧ Below w.heap.size w w' ∧ w'.ownsRow w.heap.size 3 1 v (8 * s.size + m) (ivs (fst (Gk.msg (sb s) s.size) (8 * s.size + m)))) (fun _ j _ => (32 - intOf j).toNat)
      case atStart => exact ⟨0, by omega, rfl, hb, hown⟩
      case round =>
        clear hb hown
        obtain ⟨m, hm, rfl, hb, hown⟩ := hrel
        by_cases hmt : m < 32
        · have sz := hb.size
          have HT : Hid (fst (Gk.msg (sb s) s.size) (8 * s.size + m + 1) = fst (Gk.msg (sb s) s.size) (8 * s.size + m) ++ [0]) := by
            show _ = _
            rw [fst_succ]
            congr 2
            unfold Gk.msg; rw [if_neg (by omega)]
          go_wp2_with (at_builtin; refine wpList_append_own _ rfl _ _ 34 rfl w.heap.size 3 i3 (.int .i64 0) 1 8 Try.underlying34 hi hz0 hz1 hz2 rfl (by decide) _ _ _ rfl (hown.alloc _) ⟨wr.heap.size, 0, none⟩ 1 1 [.int .i64 0] rfl rfl ?d1 ?d2 ?d3 ?d4 ?d5 ?_)
          case d1 => exact cell_one_new _ _ _
          case d2 => intro u hu; simp at hu; subst hu; rfl
          case d3 => unfold maxLen; omega
          case d4 => omega
          case d5 => simp; omega
          intro v' w2 hown2 hgrow _
          have hb2 : Below w.heap.size w w2 := by
            refine Below.grown (hb.alloc (by omega) _) hgrow (by simp; omega) ?_
            intro g hg
            exact (hown.lt g hg).1
          have HO : Hid (w2.ownsRow w.heap.size 3 1 v' (8 * s.size + m + 1) (ivs (fst (Gk.msg (sb s) s.size) (8 * s.size + m + 1)))) := by
            show World.ownsRow _ _ _ _ _ _ _
            rw [HT.out, ivs_snoc]; exact hown2
          clear hown2 hgrow hown hb
          go_wp2
          go_roundw
          case rel => exact ⟨m + 1, by omega, by go_num, hb2, HO.out⟩
          case measure => simp [intOf]; omega
        · have hm8 : m = 32 := by omega
          subst hm8
          obtain ⟨g, cap, rfl, hL⟩ := Lst.of hown (by omega) hb
          clear hb hown
          generalize hN : 8 * s.size + 32 = N at hL
          have hN1 : N ≤ 16000032 := by omega
          have hN2 : 32 ≤ N := by omega
          have HN : Hid (8 * s.size + 32 = N) := hN
          clear hN
          go_wp2_with fail
          go_loopw [8] (fun j w' => ∃ m : Nat, m ≤ 32 ∧ j = .int .i64 m ∧ Lst w w' g 0 N (fun j => if j < m then 1 - Gk.msg (sb s) s.size j else Gk.msg (sb s) s.size j)) (fun j _ => (32 - intOf j).toNat)
          case atStart => exact ⟨0, by omega, rfl, hL⟩
          case round =>
            clear hL
            obtain ⟨m, hm, rfl, hL⟩ := hrel
            by_cases hmt : m < 32
            · have hc := hL.cell m (by omega) (by omega)
              have hf := hL.fz m (by omega) (by omega)
              have i1 : (0 : Int) ≤ (m : Int) := by omega
              have i2 : (m : Int) < (N : Int) := by omega
              have hle := Gk.msg_le (sb s) s.size m
              simp only [Nat.lt_irrefl, if_false] at hc
              have HL := hL.set (f' := fun j => if j < m + 1 then 1 - Gk.msg (sb s) s.size j else Gk.msg (sb s) s.size j) m (1 - ((Gk.msg (sb s) s.size m : Nat) : Int)) (by omega) (by omega) (by simp only [Nat.lt_succ_self, if_true]; omega) (by
                intro j _ _ hne
                by_cases e : j < m
                · simp only [e, show j < m + 1 by omega, if_true]
                · simp only [e, show ¬ j < m + 1 by omega, if_false])
              have hw : IntKind.i64.wrap (1 - ((Gk.msg (sb s) s.size m : Nat) : Int)) = 1 - ((Gk.msg (sb s) s.size m : Nat) : Int) := by simp [IntKind.wrap, IntKind.bits, IntKind.signed]; omega
              clear hL
              go_wp2_with fail
              go_roundw
              case rel => exact ⟨m + 1, by omega, by go_num, HL⟩
              case measure => simp [intOf]; omega
            · have hm8 : m = 32 := by omega
              subst hm8
              have hL0 : Lst w wr g 0 N (Gk.win (sb s) s.size 0) := hL.re 0 _ (by omega) (fun j _ _ => Gk.win_start (sb s) s.size j)
              have hL1 := hL0.alloc (.cells pwArr 3)
              have hpb : (wr.alloc (.cells pwArr 3)).heap[wr.heap.size]? = some (.cells pwArr 3) := heap_new _ _
              have hgp := hL.new
              clear hL hL0
              go_wp2_with fail
              generalize hpb' : wr.heap.size = pb at *
              clear hpb'
              generalize wr.alloc (.cells pwArr 3) = wa at *
              go_loopw [10] (fun j w' => ∃ m : Nat, m + 32 ≤ N ∧ j = .int .i64 m ∧ Lst w w' g m N (Gk.win (sb s) s.size m) ∧ w'.heap[pb]? = some (.cells pwArr 3)) (fun j _ => (N - intOf j).toNat)
              case atStart => exact ⟨0, by omega, rfl, hL1, hpb⟩
              case round =>
                clear hL1 hpb
                obtain ⟨i, hiN, rfl, hL, hpb⟩ := hrel
                by_cases hlt : i + 32 < N
                · have hc := hL.cell i (by omega) (by omega)
                  have i1 : (0 : Int) ≤ (i : Int) := by omega
                  have i2 : (i : Int) < (N : Int) := by omega
                  have i3 : (i : Int) + 32 < (N : Int) := by omega
                  have hle := Gk.win_le (sb s) s.size i i
                  have h01 : Gk.win (sb s) s.size i i = 0 ∨ Gk.win (sb s) s.size i i = 1 := by omega
                  rcases h01 with h01 | h01
                  · rw [h01] at hc
                    have H01 : Hid (Gk.win (sb s) s.size i i = 0) := h01
                    clear h01
                    go_wp2_with fail
                    go_roundw
                    case rel => exact ⟨i + 1, by omega, by go_num, hL.re (i + 1) _ (by omega) (fun j hj _ => Gk.win_next0 (sb s) s.size i j (by omega) H01.out), hpb⟩
                    case measure => simp [intOf]; omega
                  · rw [h01] at hc
                    have H01 : Hid (Gk.win (sb s) s.size i i = 1) := h01
                    clear h01
                    have hL2 : Lst w wr g i N (Gk.mid (sb s) s.size i 0) := hL.re i _ (by omega) (fun j _ _ => Gk.mid_zero (sb s) s.size i j)
                    clear hL
                    go_wp2_with fail
                    go_loopw [11] (fun j w' => ∃ q : Nat, q ≤ 18 ∧ j = .int .i64 q ∧ Lst w w' g i N (Gk.mid (sb s) s.size i q) ∧ w'.heap[pb]? = some (.cells pwArr 3)) (fun j _ => (18 - intOf j).toNat)
                    case atStart => exact ⟨0, by omega, rfl, hL2, hpb⟩
                    case round =>
                      clear hL2 hpb hc
                      obtain ⟨q, hq, rfl, hL, hpb⟩ := hrel
                      by_cases hqt : q < 18
                      · have hp := (cell_block (t := q) hpb).trans (pw_at q hqt)
                        have hple := Gk.pw_le q
                        have hc := hL.cell (i + 32 - Gk.pw.getD q 0) (by omega) (by omega)
                        have hf := hL.fz (i + 32 - Gk.pw.getD q 0) (by omega) (by omega)
                        have hm1 := Gk.mid_le (sb s) s.size i q (i + 32 - Gk.pw.getD q 0)
                        have HT : Hid (Gk.mid (sb s) s.size i (q + 1) (i + 32 - Gk.pw.getD q 0) = 1 - Gk.mid (sb s) s.size i q (i + 32 - Gk.pw.getD q 0)) := Gk.mid_turn (sb s) s.size i q
                        have HS := hL.set (f' := Gk.mid (sb s) s.size i (q + 1)) (i + 32 - Gk.pw.getD q 0) (1 - ((Gk.mid (sb s) s.size i q (i + 32 - Gk.pw.getD q 0) : Nat) : Int)) (by omega) (by omega) (by rw [HT.out]; omega) (fun j hj _ hne => Gk.mid_same (sb s) s.size i q j hj hne)
                        have hgpb : pb ≠ g := by omega
                        have hpb2 : (wr.setCell ⟨g, i + 32 - Gk.pw.getD q 0, none⟩ (.int .i64 (1 - ((Gk.mid (sb s) s.size i q (i + 32 - Gk.pw.getD q 0) : Nat) : Int)))).heap[pb]? = some (.cells pwArr 3) := by
                          rw [Below.heap_setCell _ _ _ _ hgpb]; exact hpb
                        generalize hat : i + 32 - Gk.pw.getD q 0 = at0 at *
                        generalize hmv : Gk.mid (sb s) s.size i q at0 = mv at *
                        generalize hpv : Gk.pw.getD q 0 = pv at *
                        have e1 : IntKind.i64.wrap ((i : Int) + 32 - (pv : Int)) = (at0 : Int) := by simp [IntKind.wrap, IntKind.bits, IntKind.signed]; omega
                        have e2 : (i : Int) + 32 - (pv : Int) = (at0 : Int) := by omega
                        have e3 : (0 : Int) ≤ (at0 : Int) := by omega
                        have e4 : (at0 : Int) < (N : Int) := by omega
                        have e5 : (0 : Int) ≤ (q : Int) := by omega
                        have e6 : (q : Int) < 18 := by omega
                        clear hL hpb hat hmv hpv HT
                        go_wp2_with fail
                        go_roundw
                        case rel => exact ⟨q + 1, by omega, by go_num, HS, hpb2⟩
                        case measure => simp [intOf]; omega
                      · have hq8 : q = 18 := by omega
                        subst hq8
                        go_wp2_with fail
                        go_roundw
                        case rel => exact ⟨i + 1, by omega, by go_num, hL.re (i + 1) _ (by omega) (fun j hj _ => Gk.win_next1 (sb s) s.size i j (by omega) H01.out), hpb⟩
                        case measure => simp [intOf]; omega
                · have hi8 : i = 8 * s.size := by have := HN.out; omega
                  have hfin : ∀ t, t < 32 → wr.cell? ⟨g, i + t, none⟩ = some (.int .i64 ((Gk.bt (Gk.crc (sb s) s.size) t : Nat) : Int)) := by
                    intro t ht
                    rw [hL.cell (i + t) (by omega) (by omega), hi8, Gk.win_end _ _ _ (sb_lt s) ht]
                  have hlow := hL.below
                  have hcl := Gk.crc_lt (sb s) (sb_lt s) s.size
                  have hNi : i + 32 = N := by omega
                  have HF : Hid (∀ t, t < 32 → wr.cell? ⟨g, i + t, none⟩ = some (.int .i64 ((Gk.bt (Gk.crc (sb s) s.size) t : Nat) : Int))) := hfin
                  clear hfin hL hpb HN hi8
                  generalize hr : Gk.crc (sb s) s.size = r at *
                  have HR : Hid (Gk.crc (sb s) s.size = r) := hr
                  clear hr
                  have hx : (N : Int) - 32 = (i : Int) := by omega
                  have hx2 : ¬ ((i : Int) + 32 < (N : Int)) := by omega
                  go_wp2_with fail
                  clear hx hx2
                  go_loopw [13, 14, 15] (fun sm wo j w' => ∃ q t p : Nat, q ≤ 32 ∧ t = Gk.tot r q ∧ p = 2 ^ q ∧ sm = .int .i64 t ∧ wo = .int .i64 p ∧ j = .int .i64 ((i + q : Nat) : Int) ∧ w' = wr) (fun _ _ j _ => (N - intOf j).toNat)
                  case atStart => exact ⟨0, 0, 1, by omega, rfl, rfl, rfl, rfl, rfl, rfl⟩
                  case round =>
                    obtain ⟨q, t, p, hq, ht, hp, rfl, rfl, rfl, rfl⟩ := hrel
                    have hp2 : p ≤ 4294967296 := by
                      rw [hp]; exact Nat.pow_le_pow_right (n := 2) (by decide) hq
                    have ht2 : t < p := by
                      have := Gk.tot_eq r q
                      rw [← ht, ← hp] at this; omega
                    have HT : Hid (t = Gk.tot r q) := ht
                    have HP : Hid (p = 2 ^ q) := hp
                    clear ht hp
                    by_cases hqt : q < 32
                    · have hc := HF.out q hqt
                      have hb01 := Gk.bt_01 r q
                      generalize hb : Gk.bt r q = b at *
                      have HB : Hid (Gk.bt r q = b) := hb
                      clear hb
                      have e1 : (0 : Int) ≤ ((i + q : Nat) : Int) := by omega
                      have e2 : ((i + q : Nat) : Int) < (N : Int) := by omega
                      generalize hat : i + q = at0 at *
                      have HA : Hid (i + q = at0) := hat
                      clear hat
                      rcases hb01 with rfl | rfl
                      · go_wp2_with fail
                        go_roundw
                        case rel =>
                          refine ⟨q + 1, t + p, 2 * p, by omega, ?_, ?_, ?_, ?_, ?_, ?_⟩
                          · rw [Gk.tot, HB.out, ← HT.out, ← HP.out]; omega
                          · rw [Nat.pow_succ, ← HP.out]; omega
                          · go_num
                          · go_num
                          · have := HA.out; go_num
                          · trivial
                        case measure => have := HA.out; simp [intOf]; omega
                      · go_wp2_with fail
                        go_roundw
                        case rel =>
                          refine ⟨q + 1, t, 2 * p, by omega, ?_, ?_, ?_, ?_, ?_, ?_⟩
                          · rw [Gk.tot, HB.out, ← HT.out, ← HP.out]; omega
                          · rw [Nat.pow_succ, ← HP.out]; omega
                          · go_num
                          · go_num
                          · have := HA.out; go_num
                          · trivial
                        case measure => have := HA.out; simp [intOf]; omega
                    · have hq8 : q = 32 := by omega
                      subst hq8
                      have e2 : ¬ (((i + 32 : Nat) : Int) < (N : Int)) := by omega
                      have htt : t = 4294967295 - r := by rw [HT.out]; exact Gk.tot_all r hcl
                      have HTT : Hid (t = 4294967295 - r) := htt
                      clear htt
                      generalize i + 32 = at0 at *
                      go_wp2_with fail
                      go_ret
                      refine ⟨?_, hlow⟩
                      rw [HR.out, ← HTT.out]
                      simp
end Go.Proofs.Ytlfhbpihdjipeaa
