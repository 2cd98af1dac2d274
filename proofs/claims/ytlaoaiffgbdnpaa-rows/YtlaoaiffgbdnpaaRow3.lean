import Derived.Test.YtlaoaiffgbdnpaaRow2
namespace Go.Proofs.Ytlaoaiffgbdnpaa
open Go.RowKit
set_option linter.unusedVariables false

/-- a list of numbers that came in -/
def Ints (w : World) (a : Option Addr) (len : Nat) : Prop := ∀ i, i < len → ∃ b off z, a = some ⟨b, off, none⟩ ∧ w.cell? ⟨b, off + i, none⟩ = some (.int .i64 z) ∧ -9223372036854775808 ≤ z ∧ z ≤ 9223372036854775807

structure Picked (w1 w' : World) (g k n : Nat) (mv : Value) (A : List Nat) : Prop where
  nd : A.Nodup
  lt : ∀ a ∈ A, a < n
  below : Below w1.heap.size w1 w'
  tk : w'.heap[w1.heap.size]? = some (.cells (takenV n A).toArray 4 (0, 0))
  own : w'.ownsRow (w1.heap.size + 1) 27 1 mv A.length (partV g k A)

theorem probe_step (n r f : Nat) (hr : r < n) (hf : f < n) (h : r ≠ f) : (if (r + 1) % n ≤ f then f - (r + 1) % n else f + n - (r + 1) % n) < (if r ≤ f then f - r else f + n - r) := by
  by_cases e : r + 1 < n
  · rw [Nat.mod_eq_of_lt e]
    split <;> split <;> omega
  · have : r + 1 = n := by omega
    rw [this, Nat.mod_self]
    split <;> split <;> omega

def dist (n f v : Nat) : Nat := if v ≤ f then f - v else f + n - v

set_option maxHeartbeats 4000000 in
theorem rows_any (K N : Int) (a : Option Addr) (len c : Nat) (w : World) (hK1 : -9223372036854775808 ≤ K) (hK2 : K ≤ 9223372036854775807) (hN1 : -9223372036854775808 ≤ N) (hN2 : N ≤ 9223372036854775807) (hl : len ≤ 9223372036854775807) (hP : Ints w a len) :
    Calls Try.prog 8 #[.int .i64 K, .int .i64 N, .slice a len c] w fun e w' => e = .returned (.bool true) ∧ Below w.heap.size w w' := by
  have HP : Hid (Ints w a len) := hP
  clear hP
  obtain ⟨i27, hi27, hz270, hz271, hz272⟩ := info_parts info27
  go_enter Try.func8, Try.ntmps8
  go_wp2_with fail
  refine (pick_any N 32 _ hN1 hN2 (by omega) (by omega)).mono ?_
  rintro e w1 ⟨⟨rn, hrn, rfl⟩, rfl⟩
  go_wp2_with fail
  have e1 : (1 : Int) + (rn : Int) = ((1 + rn : Nat) : Int) := by omega
  rw [e1]
  obtain ⟨n, hn⟩ : ∃ n, n = 1 + rn := ⟨_, rfl⟩
  rw [← hn]
  have hn1 : 1 ≤ n := by omega
  have hn2 : n ≤ 32 := by omega
  clear e1 hn hrn
  refine (pick_any K n _ hK1 hK2 (by omega) (by omega)).mono ?_
  rintro e w1 ⟨⟨rk, hrk, rfl⟩, rfl⟩
  go_wp2_with fail
  have e1 : (1 : Int) + (rk : Int) = ((1 + rk : Nat) : Int) := by omega
  rw [e1]
  obtain ⟨k, hk⟩ : ∃ k, k = 1 + rk := ⟨_, rfl⟩
  rw [← hk]
  have hk1 : 1 ≤ k := by omega
  have hkn : k ≤ n := by omega
  clear e1 hk hrk
  refine (gen_good k n _ hk1 hkn hn2).mono ?_
  rintro e w2 ⟨rfl, hS⟩
  have HS : Hid (Stack w1 w2 w1.heap.size k n n (Gf.genRow k)) := hS
  have s12 := hS.size
  have s12' : w1.heap.size < w2.heap.size := by omega
  have b12 := hS.below
  clear hS s12
  have hmk := fun w => run_make_row' (P := Try.prog) 48 4 (.bool false) 1 Try.underlying48 info4 rfl .i64 .i64 n (by omega) (by omega) w
  have hne : ((n : Int) != (n : Int)) = false := by simp
  go_wp2_with fail
  clear hmk hne
  go_loopw [10, 11] (fun mv ii w' => ∃ (A : List Nat), A.length ≤ k ∧ ii = .int .i64 A.length ∧ Picked w2 w' w1.heap.size k n mv A) (fun _ ii _ => (k - intOf ii).toNat)
  case atStart =>
    refine ⟨[], by simp, rfl, List.nodup_nil, fun a ha => by simp at ha, (Below.refl _ _).alloc (Nat.le_refl _) _, ?_, World.ownsRow_nil _ _ _ _⟩
    rw [heap_alloc_new, takenV_nil]
  case round =>
    obtain ⟨A, hAk, rfl, hQ⟩ := hrel
    have b2r := hQ.below
    have szr := b2r.size
    have gtl := block_lt hQ.tk
    by_cases hlt : A.length < k
    · obtain ⟨f, hf, hfA⟩ := free_row n A (by omega)
      generalize ht : A.length = t at *
      have HT : Hid (A.length = t) := ht
      clear ht
      have i1 : (0 : Int) ≤ (t : Int) := by omega
      have HQ : Hid (Picked w2 wr w1.heap.size k n u10 A) := hQ
      by_cases hlp : t < len
      · obtain ⟨b, off, z, rfl, cz0, hz1, hz2⟩ := HP.out t hlp
        have gz := World.block_lt_of_cell? _ _ cz0
        simp only at gz
        have cz : wr.cell? ⟨b, off + t, none⟩ = some (.int .i64 z) := (b2r.cell (p := ⟨b, off + t, none⟩) (by simp only; omega)).trans ((b12.cell (p := ⟨b, off + t, none⟩) gz).trans cz0)
        have i2 : (t : Int) < (len : Int) := by omega
        clear hQ
        go_wp2_with fail
        refine (pick_any z n _ hz1 hz2 hn1 hn2).mono ?_
        rintro e w3 ⟨⟨r0, hr0, rfl⟩, rfl⟩
        clear cz cz0
        go_wp2_with fail
        go_loopw [12] (fun rv w' => ∃ r : Nat, r < n ∧ rv = .int .i64 r ∧ Picked w2 w' w1.heap.size k n u10 A) (fun rv _ => dist n f (intOf rv).toNat)
        case atStart => exact ⟨r0, hr0, rfl, HQ.out⟩
        case round =>
          clear HQ b2r szr gtl
          obtain ⟨r, hr, rfl, hQ⟩ := hrel
          have HQ : Hid (Picked w2 wr w1.heap.size k n u10 A) := hQ
          have szr := hQ.below.size
          have gtl := block_lt hQ.tk
          clear hQ
          have hc := cell_of_row _ _ r _ 4 _ HQ.out.tk
          rw [List.getElem?_toArray, takenV_at n A r hr] at hc
          have q1 : (0 : Int) ≤ (r : Int) := by omega
          have q2 : (r : Int) < (n : Int) := by omega
          by_cases hrA : r ∈ A
          · rw [decide_eq_true hrA] at hc
            have hrf : r ≠ f := fun e => hfA (e ▸ hrA)
            have hz : (n : Int) ≠ 0 := by omega
            go_wp2
            go_roundw
            case rel =>
              refine ⟨(r + 1) % n, Nat.mod_lt _ (by omega), ?_, HQ.out⟩
              have e : ((r : Int) + 1) % (n : Int) = (((r + 1) % n : Nat) : Int) := by simp
              rw [e]
            case measure =>
              have e : ((r : Int) + 1) % (n : Int) = (((r + 1) % n : Nat) : Int) := by simp
              show dist n f (((r : Int) + 1) % (n : Int)).toNat < dist n f (r : Int).toNat
              rw [e, Int.toNat_natCast, Int.toNat_natCast]
              exact probe_step n r f hr hf hrf
          · rw [decide_eq_false hrA] at hc
            have fz := frozen_of_row _ _ r _ 4 HQ.out.tk
            have htk : (wr.setCell ⟨w2.heap.size, r, none⟩ (.bool true)).heap[w2.heap.size]? = some (.cells (takenV n (A ++ [r])).toArray 4 (0, 0)) := by
              rw [heap_setCell_same _ _ _ _ 4 _ HQ.out.tk, takenV_set n A r hr]
            have HTK : Hid ((wr.setCell ⟨w2.heap.size, r, none⟩ (.bool true)).heap[w2.heap.size]? = some (.cells (takenV n (A ++ [r])).toArray 4 (0, 0))) := htk
            have hb' : Below w2.heap.size w2 (wr.setCell ⟨w2.heap.size, r, none⟩ (.bool true)) := HQ.out.below.setCell (Nat.le_refl _) _
            have hown : (wr.setCell ⟨w2.heap.size, r, none⟩ (.bool true)).ownsRow (w2.heap.size + 1) 27 1 u10 t (partV w1.heap.size k A) := by
              rw [← HT.out]
              refine ownsRow_setCell_other (a := ⟨w2.heap.size, r, none⟩) HQ.out.own ?_ _
              intro e
              have := (HQ.out.own.lt _ e).1
              simp only at this
              omega
            have cg0 : w2.cell? ⟨w1.heap.size, r, none⟩ = some (.slice (some ⟨w1.heap.size + 1 + r, 0, none⟩) k k) := by
              rw [cell_of_row w2 _ r _ 27 _ HS.out.top, List.getElem?_toArray, splice_at _ _ _ _ (by simp [rowsV_length]), if_neg (by omega), if_pos (by rw [rowsV_length]; omega), Nat.sub_zero, rowsV_at _ _ _ r hr]
            have cg : (wr.setCell ⟨w2.heap.size, r, none⟩ (.bool true)).cell? ⟨w1.heap.size, r, none⟩ = some (.slice (some ⟨w1.heap.size + 1 + r, 0, none⟩) k k) := (hb'.cell (p := ⟨w1.heap.size, r, none⟩) s12').trans cg0
            have szs : (wr.setCell ⟨w2.heap.size, r, none⟩ (.bool true)).heap.size = wr.heap.size := by simp
            have SZS : Hid ((wr.setCell ⟨w2.heap.size, r, none⟩ (.bool true)).heap.size = wr.heap.size) := szs
            clear htk cg0 szs
            go_wp2_with (at_builtin; refine wpList_append_own _ rfl (.tmp 68) (.tmp 73) 38 rfl (w2.heap.size + 1) 27 i27 (.slice none 0 0) 1 24 Try.underlying38 hi27 hz270 hz271 hz272 rfl (by decide) _ _ _ rfl (hown.alloc _) ⟨wr.heap.size, 0, none⟩ 1 1 [.slice (some ⟨w1.heap.size + 1 + r, 0, none⟩) k k] rfl rfl ?c1 ?c2 ?c3 ?c4 ?c5 ?_)
            case c1 =>
              rw [← SZS.out]
              exact cell_one_new _ _ _
            case c2 => intro u hu; simp at hu; subst hu; rfl
            case c3 => unfold maxLen; omega
            case c4 => omega
            case c5 => simp; omega
            intro v' w4 ho4 hg4 _
            have b24 : Below w2.heap.size w2 w4 := Below.grown (hb'.alloc (by rw [SZS.out]; omega) _) hg4 (by simp; omega) (fun g hg => by have := (hown.lt g hg).1; omega)
            have hQ4 : Picked w2 w4 w1.heap.size k n v' (A ++ [r]) := by
              refine ⟨?_, ?_, b24, ?_, ?_⟩
              · rw [List.nodup_append]
                exact ⟨HQ.out.nd, by simp, fun x hx y hy e => by simp at hy; subst hy; subst e; exact hrA hx⟩
              · intro x hx
                rw [List.mem_append] at hx
                rcases hx with hx | hx
                · exact HQ.out.lt x hx
                · simp at hx; omega
              · rw [hg4.block _ (by simp; omega) (fun e => by have := (hown.lt _ e.symm).1; omega), ((Below.refl _ _).alloc (Nat.le_refl _) _).block _ (by rw [SZS.out]; omega)]
                exact HTK.out
              · rw [partV_snoc, List.length_append, HT.out]
                exact ho4
            have hlen : Hid ((A ++ [r]).length = t + 1) := by show _ = _; rw [List.length_append, HT.out]; rfl
            clear ho4 hg4 hown cg hb' HTK
            go_wp2_with fail
            go_roundw
            case rel => exact ⟨A ++ [r], by rw [hlen.out]; omega, by rw [hlen.out]; go_num, hQ4⟩
            case measure => simp [intOf]; omega

      · have hr0 : t < n := by omega
        clear hQ
        go_wp2_with fail
        go_loopw [12] (fun rv w' => ∃ r : Nat, r < n ∧ rv = .int .i64 r ∧ Picked w2 w' w1.heap.size k n u10 A) (fun rv _ => dist n f (intOf rv).toNat)
        case atStart => exact ⟨t, hr0, rfl, HQ.out⟩
        case round =>
          clear HQ b2r szr gtl
          obtain ⟨r, hr, rfl, hQ⟩ := hrel
          have HQ : Hid (Picked w2 wr w1.heap.size k n u10 A) := hQ
          have szr := hQ.below.size
          have gtl := block_lt hQ.tk
          clear hQ
          have hc := cell_of_row _ _ r _ 4 _ HQ.out.tk
          rw [List.getElem?_toArray, takenV_at n A r hr] at hc
          have q1 : (0 : Int) ≤ (r : Int) := by omega
          have q2 : (r : Int) < (n : Int) := by omega
          by_cases hrA : r ∈ A
          · rw [decide_eq_true hrA] at hc
            have hrf : r ≠ f := fun e => hfA (e ▸ hrA)
            have hz : (n : Int) ≠ 0 := by omega
            go_wp2
            go_roundw
            case rel =>
              refine ⟨(r + 1) % n, Nat.mod_lt _ (by omega), ?_, HQ.out⟩
              have e : ((r : Int) + 1) % (n : Int) = (((r + 1) % n : Nat) : Int) := by simp
              rw [e]
            case measure =>
              have e : ((r : Int) + 1) % (n : Int) = (((r + 1) % n : Nat) : Int) := by simp
              show dist n f (((r : Int) + 1) % (n : Int)).toNat < dist n f (r : Int).toNat
              rw [e, Int.toNat_natCast, Int.toNat_natCast]
              exact probe_step n r f hr hf hrf
          · rw [decide_eq_false hrA] at hc
            have fz := frozen_of_row _ _ r _ 4 HQ.out.tk
            have htk : (wr.setCell ⟨w2.heap.size, r, none⟩ (.bool true)).heap[w2.heap.size]? = some (.cells (takenV n (A ++ [r])).toArray 4 (0, 0)) := by
              rw [heap_setCell_same _ _ _ _ 4 _ HQ.out.tk, takenV_set n A r hr]
            have HTK : Hid ((wr.setCell ⟨w2.heap.size, r, none⟩ (.bool true)).heap[w2.heap.size]? = some (.cells (takenV n (A ++ [r])).toArray 4 (0, 0))) := htk
            have hb' : Below w2.heap.size w2 (wr.setCell ⟨w2.heap.size, r, none⟩ (.bool true)) := HQ.out.below.setCell (Nat.le_refl _) _
            have hown : (wr.setCell ⟨w2.heap.size, r, none⟩ (.bool true)).ownsRow (w2.heap.size + 1) 27 1 u10 t (partV w1.heap.size k A) := by
              rw [← HT.out]
              refine ownsRow_setCell_other (a := ⟨w2.heap.size, r, none⟩) HQ.out.own ?_ _
              intro e
              have := (HQ.out.own.lt _ e).1
              simp only at this
              omega
            have cg0 : w2.cell? ⟨w1.heap.size, r, none⟩ = some (.slice (some ⟨w1.heap.size + 1 + r, 0, none⟩) k k) := by
              rw [cell_of_row w2 _ r _ 27 _ HS.out.top, List.getElem?_toArray, splice_at _ _ _ _ (by simp [rowsV_length]), if_neg (by omega), if_pos (by rw [rowsV_length]; omega), Nat.sub_zero, rowsV_at _ _ _ r hr]
            have cg : (wr.setCell ⟨w2.heap.size, r, none⟩ (.bool true)).cell? ⟨w1.heap.size, r, none⟩ = some (.slice (some ⟨w1.heap.size + 1 + r, 0, none⟩) k k) := (hb'.cell (p := ⟨w1.heap.size, r, none⟩) s12').trans cg0
            have szs : (wr.setCell ⟨w2.heap.size, r, none⟩ (.bool true)).heap.size = wr.heap.size := by simp
            have SZS : Hid ((wr.setCell ⟨w2.heap.size, r, none⟩ (.bool true)).heap.size = wr.heap.size) := szs
            clear htk cg0 szs
            go_wp2_with (at_builtin; refine wpList_append_own _ rfl (.tmp 68) (.tmp 73) 38 rfl (w2.heap.size + 1) 27 i27 (.slice none 0 0) 1 24 Try.underlying38 hi27 hz270 hz271 hz272 rfl (by decide) _ _ _ rfl (hown.alloc _) ⟨wr.heap.size, 0, none⟩ 1 1 [.slice (some ⟨w1.heap.size + 1 + r, 0, none⟩) k k] rfl rfl ?c1 ?c2 ?c3 ?c4 ?c5 ?_)
            case c1 =>
              rw [← SZS.out]
              exact cell_one_new _ _ _
            case c2 => intro u hu; simp at hu; subst hu; rfl
            case c3 => unfold maxLen; omega
            case c4 => omega
            case c5 => simp; omega
            intro v' w4 ho4 hg4 _
            have b24 : Below w2.heap.size w2 w4 := Below.grown (hb'.alloc (by rw [SZS.out]; omega) _) hg4 (by simp; omega) (fun g hg => by have := (hown.lt g hg).1; omega)
            have hQ4 : Picked w2 w4 w1.heap.size k n v' (A ++ [r]) := by
              refine ⟨?_, ?_, b24, ?_, ?_⟩
              · rw [List.nodup_append]
                exact ⟨HQ.out.nd, by simp, fun x hx y hy e => by simp at hy; subst hy; subst e; exact hrA hx⟩
              · intro x hx
                rw [List.mem_append] at hx
                rcases hx with hx | hx
                · exact HQ.out.lt x hx
                · simp at hx; omega
              · rw [hg4.block _ (by simp; omega) (fun e => by have := (hown.lt _ e.symm).1; omega), ((Below.refl _ _).alloc (Nat.le_refl _) _).block _ (by rw [SZS.out]; omega)]
                exact HTK.out
              · rw [partV_snoc, List.length_append, HT.out]
                exact ho4
            have hlen : Hid ((A ++ [r]).length = t + 1) := by show _ = _; rw [List.length_append, HT.out]; rfl
            clear ho4 hg4 hown cg hb' HTK
            go_wp2_with fail
            go_roundw
            case rel => exact ⟨A ++ [r], by rw [hlen.out]; omega, by rw [hlen.out]; go_num, hQ4⟩
            case measure => simp [intOf]; omega

    · have hAl : A.length = k := by omega
      have HA : Hid (A.length = k) := hAl
      obtain ⟨Pb, cap, hu10⟩ : ∃ Pb cap, u10 = .slice (some ⟨Pb, 0, none⟩) k cap := by
        have ho := hQ.own
        rw [hAl] at ho
        rcases ho.2 with ⟨_, h0⟩ | ⟨g', c', cur, h, _⟩
        · omega
        · exact ⟨g', c', h⟩
      subst hu10
      have ho := hQ.own
      rw [hAl] at ho ⊢
      have hVm := part_view HS.out hQ.below hAl hQ.lt (by omega) ho
      have hTm := PM_tbl k A hAl
      have nB := part_good hk1 hn2 hkn A hAl
      have nK := part_ker hn2 hkn A hAl hQ.nd hQ.lt
      have hby : ∀ x ∈ PM k A, ∀ y ∈ x, y < 256 := by
        intro x hx
        simp only [PM, List.mem_map] at hx
        obtain ⟨a, _, rfl⟩ := hx
        exact Gf.genRow_lt k a
      have b1r : Below w1.heap.size w1 wr := b12.trans (b2r.mono (by omega))
      clear hAl hlt hAk hQ ho gtl
      go_wp2_with fail
      refine (grid_ok Pb 0 k cap _ (PM k A) _ hk1 hVm hby nB nK).mono ?_
      rintro e w3 ⟨g3, T, rfl, b3, _, _, hR, hM3⟩
      have hVm3 := hVm.below b3
      have hTr := right_tbl hR.tbl
      have hVr := hM3.view hTr.1 (by
        intro x hx
        obtain ⟨q, hq⟩ := List.getElem?_of_mem hx
        have hqk : q < k := by have := (List.getElem?_eq_some_iff.1 hq).1; rw [hTr.1] at this; exact this
        have h1 := (hTr.2 q hqk).1
        have h2 : Gf.row (rightOf k T) q = x := by simp [Gf.row, hq]
        rw [h2] at h1
        omega)
      have U1 : Hid (∀ r c, r < k → c < k → Gf.xsum k (fun t => Gf.gm (Gf.ent (Gf.row (rightOf k T) r) t) (Gf.ent (Gf.row (PM k A) t) c)) = if r = c then 1 else 0) := fun r c hr hc => unit_left hTm hR r c hr hc
      have U2 : Hid (∀ r c, r < k → c < k → Gf.xsum k (fun t => Gf.gm (Gf.ent (Gf.row (PM k A) r) t) (Gf.ent (Gf.row (rightOf k T) t) c)) = if r = c then 1 else 0) := fun r c hr hc => unit_right hTm hR r c hr hc
      have b13 : Below w1.heap.size w1 w3 := b1r.trans (b3.mono b1r.size)
      clear hVm hby nB nK hM3 hR b3 b1r
      go_wp2_with fail
      refine (square_any _ k _ _ _ _ (by omega) hVm3 hTm).mono ?_
      rintro e w4 ⟨rfl, rfl⟩
      go_wp2_with fail
      refine (square_any _ k _ _ _ _ (by omega) hVr hTr).mono ?_
      rintro e w5 ⟨rfl, rfl⟩
      go_wp2_with fail
      refine (one_any _ _ k _ _ _ _ _ _ _ (by omega) hTr hTm hVr hVm3 U1.out).mono ?_
      rintro e w6 ⟨rfl, b6⟩
      have v1 := hVm3.below b6
      have v2 := hVr.below b6
      have b16 := b13.trans (b6.mono b13.size)
      clear hVm3 hVr b13 b6
      go_wp2_with fail
      refine (one_any _ _ k _ _ _ _ _ _ _ (by omega) hTm hTr v1 v2 U2.out).mono ?_
      rintro e w7 ⟨rfl, b7⟩
      go_wp2_with fail
      go_ret
      exact ⟨rfl, b16.trans (b7.mono b16.size)⟩
end Go.Proofs.Ytlaoaiffgbdnpaa
