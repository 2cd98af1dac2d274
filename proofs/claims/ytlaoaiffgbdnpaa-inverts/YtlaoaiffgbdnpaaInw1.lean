import Derived.Test.YtlaoaiffgbdnpaaLen2
namespace Go.Proofs.Ytlaoaiffgbdnpaa
open Go.RowKit
set_option linter.unusedVariables false

def Ans (w : World) (n : Nat) (M : List (List Nat)) (wv : Value) (f : Int) : Prop :=
  (Err n M f ∧ wv = .slice none 0 0) ∨ (f = 0 ∧ ¬ Bad n M ∧ ¬ Ker n M ∧ ∃ T g' vs' X, wv = .slice (some ⟨g', 0, none⟩) n n ∧ Gf.Fwd n (n + n) n (Gf.aug n M) T ∧ View w g' 0 n vs' X ∧ Gf.Tbl n n X ∧ ∀ k, k < n → Gf.row X k = Gf.backRow n k T X)
theorem Ans.below {w w' : World} {n : Nat} {M : List (List Nat)} {wv : Value} {f : Int} (h : Ans w n M wv f) (hb : Below w.heap.size w w') : Ans w' n M wv f := by
  rcases h with h | ⟨h1, h2, h3, T, g', vs', X, h4, h5, h6, h7, h8⟩
  · exact .inl h
  · exact .inr ⟨h1, h2, h3, T, g', vs', X, h4, h5, h6.below hb, h7, h8⟩
theorem ref_ans (g off n c : Nat) (vs : List Value) (M : List (List Nat)) (w : World) (hn : 1 ≤ n) (hl : n ≤ 140737488355328) (hV : View w g off n vs M) (hby : ∀ x ∈ M, ∀ y ∈ x, y < 256) :
    Calls Try.prog 22 #[.slice (some ⟨g, off, none⟩) n c] w fun e w' => ∃ wv f, e = .returned (.tuple #[wv, .int .i64 f]) ∧ Below w.heap.size w w' ∧ Ans w' n M wv f := by
  by_cases hB : Bad n M
  · refine (ref_err g off n c vs M w 1 hn hl hV hby (.inl ⟨hB, rfl⟩)).mono ?_
    rintro e w' ⟨rfl, hb⟩
    exact ⟨_, _, rfl, hb, .inl ⟨.inl ⟨hB, rfl⟩, rfl⟩⟩
  · by_cases hK : Ker n M
    · refine (ref_err g off n c vs M w 2 hn hl hV hby (.inr ⟨hB, hK, rfl⟩)).mono ?_
      rintro e w' ⟨rfl, hb⟩
      exact ⟨_, _, rfl, hb, .inl ⟨.inr ⟨hB, hK, rfl⟩, rfl⟩⟩
    · refine (ref_ok g off n c vs M w hn hV hby hB hK).mono ?_
      rintro e w' ⟨T, g', vs', X, rfl, hb, h1, h2, h3, h4⟩
      exact ⟨_, _, rfl, hb, .inr ⟨rfl, hB, hK, T, g', vs', X, rfl, h1, h2, h3, h4⟩⟩
theorem Lent.start {w' : World} {gi n : Nat} {M : List (List Nat)} (h : w'.heap[gi]? = some (.cells (madeCells #[Value.slice none 0 0] (n + 1)) 27 (0, 0))) : Lent w' gi n 0 (.slice none 0 0) [] M := by
  refine ⟨World.ownsRow_nil _ _ _ _, ?_, rfl, fun k hk => by omega⟩
  rw [h]
  have : madeCells #[Value.slice none 0 0] (n + 1) = (splice (List.replicate (n + 1) (Value.slice none 0 0)) 0 (inV M [] 0)).toArray := by
    apply Array.ext'
    rw [toList_madeCells_one]
    simp [splice, inV]
  rw [this]
theorem Lent.last {w : World} {gi n : Nat} {av : Value} {bs : List Nat} {M : List (List Nat)} (h : Lent w gi n n av bs M) : w.cell? ⟨gi, n, none⟩ = some (.slice none 0 0) := by
  rw [cell_of_row w gi n _ 27 _ h.inn, List.getElem?_toArray, splice_at _ _ _ _ (by simp [inV_length]), if_neg (by omega), if_neg (by rw [inV_length]; omega)]
  simp
theorem Lent.cellAt {w : World} {gi n t k : Nat} {av : Value} {bs : List Nat} {M : List (List Nat)} (h : Lent w gi n t av bs M) (hk : k < n + 1) (ht : t ≤ n) : ∃ v, w.cell? ⟨gi, k, none⟩ = some v := by
  rw [cell_of_row w gi k _ 27 _ h.inn]
  exact ⟨_, Array.getElem?_eq_getElem (by rw [List.size_toArray, length_splice _ _ _ (by simp [inV_length]; omega)]; simpa using hk)⟩

theorem rowsV_blk (g k n i gg : Nat) (r : Value) (h : (rowsV g k n)[i]? = some r) (hb : r.ownBlock = some gg) : gg = g + 1 + i ∧ i < n := by
  have hi : i < n := by have := (List.getElem?_eq_some_iff.1 h).1; rw [rowsV_length] at this; exact this
  rw [rowsV_at g k n i hi] at h
  simp only [Option.some.injEq] at h
  subst h
  simp only [Value.ownBlock, Option.some.injEq] at hb
  exact ⟨hb.symm, hi⟩

set_option maxHeartbeats 4000000 in
theorem inverts_pos (g off n c : Nat) (vs : List Value) (M : List (List Nat)) (w : World) (hn : 1 ≤ n) (hl : n * 24 ≤ 140737488351232) (hV : View w g off n vs M) (hby : ∀ x ∈ M, ∀ y ∈ x, y < 256) (hlen : ∀ x ∈ M, x.length ≤ 140737488351232) :
    Calls Try.prog 7 #[.slice (some ⟨g, off, none⟩) n c] w fun e w' => e = .returned (.bool true) ∧ Below w.heap.size w w' := by
  have hmk := fun w => run_make_row' (P := Try.prog) 38 27 (.slice none 0 0) 24 Try.underlying38 info27 rfl .i64 .i64 (n + 1) (by omega) (by omega) w
  have e1 : ((n + 1 : Nat) : Int) = (n : Int) + 1 := by omega
  rw [e1] at hmk
  clear e1
  obtain ⟨i27, hi27, hz270, hz271, hz272⟩ := info_parts info27
  have HBY : Hid (∀ x ∈ M, ∀ y ∈ x, y < 256) := hby
  have HLEN : Hid (∀ x ∈ M, x.length ≤ 140737488351232) := hlen
  clear hby hlen
  go_enter Try.func7, Try.ntmps7
  go_wp2_with fail
  refine (ref_ans g off n c vs M _ hn (by omega) hV HBY.out).mono ?_
  rintro e w1 ⟨wv, f, rfl, hb1, hA1⟩
  have hV1 := hV.below hb1
  have s1 := hb1.size
  have HA1 : Hid (Ans w1 n M wv f) := hA1
  have HV1 : Hid (View w1 g off n vs M) := hV1
  have HV : Hid (View w g off n vs M) := hV
  clear hA1 hV1 hV
  go_wp2_with fail
  clear hmk
  go_loopw [5, 7] (fun av ii w' => ∃ (t : Nat) (bs : List Nat), t ≤ n ∧ ii = .int .i64 t ∧ Below w1.heap.size w1 w' ∧ Lent w' w1.heap.size n t av bs M) (fun _ ii _ => (n - intOf ii).toNat)
  case atStart => exact ⟨0, [], by omega, rfl, (Below.refl _ _).alloc (Nat.le_refl _) _, Lent.start (by rw [heap_alloc_new])⟩
  case round =>
    obtain ⟨t, bs, ht, rfl, hb, hL⟩ := hrel
    have sz := hb.size
    have szi := block_lt hL.inn
    by_cases hlt : t < n
    · obtain ⟨a, cp, x, hx, _, caW, _, hxc, _⟩ := HV1.out.at hlt
      obtain ⟨a', cp', x', hx', _, ca0, cel, _, _⟩ := (HV1.out.below hb).at hlt
      have CAW : Hid (w1.cell? ⟨g, off + t, none⟩ = some (.slice a x.length cp)) := caW
      have gl := World.block_lt_of_cell? _ _ caW
      simp only at gl
      rw [hx] at hx'
      simp only [Option.some.injEq] at hx'
      subst hx'
      have ca1 : wr.cell? ⟨g, off + t, none⟩ = some (.slice a x.length cp) := (hb.cell (p := ⟨g, off + t, none⟩) gl).trans caW
      rw [ca1] at ca0
      simp only [Option.some.injEq, Value.slice.injEq, true_and] at ca0
      obtain ⟨rfl, rfl⟩ := ca0
      have hxl := HLEN.out x (List.mem_of_getElem? hx)
      have hrow : Hid (Gf.row M t = x) := by show _ = _; simp [Gf.row, hx]
      have i1 : (0 : Int) ≤ (t : Int) := by omega
      have i2 : (t : Int) < (n : Int) := by omega
      have i3 : (t : Int) < (n : Int) + 1 := by omega
      clear hx caW
      go_wp2_with fail
      refine (lent_any a x.length cp x _ (by omega) rfl cel).mono ?_
      rintro e w2 ⟨rfl, b2, g2⟩
      have s2 := block_lt g2
      have hL2 := hL.below b2
      have htop := hL2.all
      have HL : Hid (Lent wr w1.heap.size n t u5 bs M) := hL
      clear ca1 cel hL hL2
      go_wp2_with (at_builtin; refine wpList_append_own _ rfl (.tmp 40) (.tmp 42) 38 rfl (w1.heap.size + 1) 27 i27 (.slice none 0 0) 1 24 Try.underlying38 hi27 hz270 hz271 hz272 rfl (by decide) _ _ _ rfl (htop.alloc _) ⟨w2.heap.size, 0, none⟩ 1 1 [.slice (some ⟨wr.heap.size, 0, none⟩) (x.length + 2) (x.length + 2)] rfl rfl ?c1 ?c2 ?c3 ?c4 ?c5 ?_)
      case c1 => exact cell_one_new _ _ _
      case c2 => intro u hu; simp at hu; subst hu; rfl
      case c3 => unfold maxLen; omega
      case c4 => omega
      case c5 => simp; omega
      intro v' w3 ho3 hg3 _
      have b12 : Below w1.heap.size w1 w2 := hb.trans (b2.mono sz)
      have b13 : Below w1.heap.size w1 w3 := Below.grown (b12.alloc (by omega) _) hg3 (by simp; omega) (fun g hg => by have := (htop.lt g hg).1; omega)
      have hP : Lent (w3.setCell ⟨w1.heap.size, t, none⟩ (.slice (some ⟨wr.heap.size, 0, none⟩) x.length (x.length + 2))) w1.heap.size n (t + 1) v' (bs ++ [wr.heap.size]) M := by
        have := HL.out.push (w1 := w2.alloc (.cells #[.slice (some ⟨wr.heap.size, 0, none⟩) (x.length + 2) (x.length + 2)] 27)) (w2 := w3) (g := wr.heap.size) (av' := v') hlt (by omega) (b2.alloc (by omega) _) (by rw [hrow.out]; exact (((Below.refl _ _).alloc (Nat.le_refl _) _).block _ s2).trans g2) (Nat.le_refl _) (by rw [hrow.out]; exact ho3) hg3
        rw [hrow.out] at this
        exact this
      have hinn : w3.heap[w1.heap.size]? = some (.cells (splice (List.replicate (n + 1) (.slice none 0 0)) 0 (inV M bs t)).toArray 27 (0, 0)) := by
        rw [hg3.block _ (by simp; omega) (fun e => by have := (htop.lt _ e.symm).1; omega), ((Below.refl w2.heap.size w2).alloc (Nat.le_refl _) _).block _ (by omega), b2.block _ szi]
        exact HL.out.inn
      obtain ⟨v0, c0⟩ : ∃ v0, w3.cell? ⟨w1.heap.size, t, none⟩ = some v0 := by
        rw [cell_of_row w3 _ t _ 27 _ hinn]
        exact ⟨_, Array.getElem?_eq_getElem (by rw [List.size_toArray, length_splice _ _ _ (by simp [inV_length]; omega)]; simp; omega)⟩
      have f0 : w3.frozen? ⟨w1.heap.size, t, none⟩ = false := frozen_of_row w3 _ _ _ 27 hinn
      have cm : w3.cell? ⟨g, off + t, none⟩ = some (.slice a x.length cp) := (b13.cell (p := ⟨g, off + t, none⟩) gl).trans CAW.out
      have i4 : (0 : Int) ≤ (x.length : Int) := by omega
      have i5 : (x.length : Int) ≤ (x.length : Int) + 2 := by omega
      clear ho3 hg3 hinn htop b2 g2 b12 hb CAW
      go_wp2
      go_roundw
      case rel => exact ⟨t + 1, _, by omega, by go_num, b13.setCell (Nat.le_refl _) _, hP⟩
      case measure => simp [intOf]; omega
    · obtain rfl : t = n := by omega
      have HLEN2 : Hid (∀ x ∈ M, x.length ≤ 140737488355328) := fun x hx => by have := HLEN.out x hx; omega
      have hVI := hL.view HV.out.lenM HLEN2.out
      obtain ⟨A, cA, hu5⟩ : ∃ A cA, u5 = .slice (some ⟨A, 0, none⟩) t cA := by
        rcases hL.all.2 with ⟨_, h0⟩ | ⟨g', c', cur, h, _⟩
        · omega
        · exact ⟨g', c', h⟩
      subst hu5
      have j0 : (0 : Int) ≤ (t : Int) := by omega
      have j1 : (t : Int) ≤ (t : Int) + 1 := by omega
      have j2 : (t : Int) < (t : Int) + 1 := by omega
      have b0r : Below w.heap.size w wr := hb1.trans (hb.mono s1)
      rcases HA1.out with ⟨hE, rfl⟩ | ⟨rfl, hB, hK, T, g', vs', X, rfl, hF, hVX, hX, hR⟩
      · have hf : (f != 0) = true := by rw [bne_iff_ne]; rcases hE with ⟨_, rfl⟩ | ⟨_, _, rfl⟩ <;> decide
        have hff : (f != f) = false := by simp
        go_wp2_with fail
        refine (grid_err _ 0 t (t + 1) _ M _ f hn (by omega) hVI HBY.out hE).mono ?_
        rintro e w2 ⟨rfl, b2⟩
        have hVI2 := hVI.below b2
        have hL2 := hL.below b2
        go_wp2_with fail
        refine (grid_err _ 0 t (t + 1) _ M _ f hn (by omega) hVI2 HBY.out hE).mono ?_
        rintro e w3 ⟨rfl, b3⟩
        have hL3 := hL2.below b3
        have cz := hL3.last
        have b0q : Below w.heap.size w w3 := (b0r.trans (b2.mono b0r.size)).trans (b3.mono (by have := b0r.size; have := b2.size; omega))
        have HLQ : Hid (Lent w3 w1.heap.size t t (.slice (some ⟨A, 0, none⟩) t cA) bs M) := hL3
        clear hVI hVI2 hL hL2 hL3 b2 b3 hE b0r hb
        go_wp2_with fail
        refine (sameRows_nil _).mono ?_
        rintro e w4 ⟨rfl, rfl⟩
        go_wp2_with fail
        refine (sameRows_nil _).mono ?_
        rintro e w5 ⟨rfl, rfl⟩
        go_wp2_with fail
        refine (rowsOf_nil _).mono ?_
        rintro e w6 ⟨rfl, rfl⟩
        go_wp2_with fail
        refine (mixed_nil _).mono ?_
        rintro e w7 ⟨rfl, rfl⟩
        go_wp2_with fail
        go_loopw [16] (fun ii w' => ∃ q : Nat, q ≤ t ∧ ii = .int .i64 q ∧ Below w7.heap.size w7 w') (fun ii _ => (t - intOf ii).toNat)
        case atStart => exact ⟨0, by omega, rfl, Below.refl _ _⟩
        case round =>
          obtain ⟨q, hq, rfl, bq⟩ := hrel
          by_cases hqt : q < t
          · have b0r : Below w.heap.size w wr := b0q.trans (bq.mono b0q.size)
            have szr := b0r.size
            obtain ⟨a, cp, x, hx, _, caW, celW, _, _⟩ := HV.out.at hqt
            have gl := World.block_lt_of_cell? _ _ caW
            simp only at gl
            have hrow : Gf.row M q = x := by simp [Gf.row, hx]
            have hxl := HLEN.out x (List.mem_of_getElem? hx)
            have hLr := HLQ.out.below bq
            have ca : wr.cell? ⟨g, off + q, none⟩ = some (.slice a x.length cp) := (b0r.cell (p := ⟨g, off + q, none⟩) gl).trans caW
            have cal : wr.cell? ⟨A, q, none⟩ = some (.slice (some ⟨bs.getD q 0, 0, none⟩) (x.length + 2) (x.length + 2)) := by rw [hLr.all.cellAt q (by omega), allV_at M bs t q hqt, hrow]
            have cin : wr.cell? ⟨w1.heap.size, q, none⟩ = some (.slice (some ⟨bs.getD q 0, 0, none⟩) x.length (x.length + 2)) := by
              have := (hLr.view HV.out.lenM HLEN2.out).top q _ (inV_at M bs t q hqt)
              rw [Nat.zero_add, hrow] at this
              exact this
            have hbl := (hLr.rows q hqt).2
            rw [hrow] at hbl
            have HBL : Hid (wr.heap[bs.getD q 0]? = some (.cells (bvs (x ++ [77, 78])).toArray 5 (0, 0))) := hbl
            have CA : Hid (wr.cell? ⟨g, off + q, none⟩ = some (.slice a x.length cp)) := ca
            have CAL : Hid (wr.cell? ⟨A, q, none⟩ = some (.slice (some ⟨bs.getD q 0, 0, none⟩) (x.length + 2) (x.length + 2))) := cal
            have CIN : Hid (wr.cell? ⟨w1.heap.size, q, none⟩ = some (.slice (some ⟨bs.getD q 0, 0, none⟩) x.length (x.length + 2))) := cin
            have gA := World.block_lt_of_cell? _ _ cal
            have gI := World.block_lt_of_cell? _ _ cin
            have gB := block_lt hbl
            simp only at gA gI
            have CEL : Hid (Cells w a x) := celW
            have i1 : (0 : Int) ≤ (q : Int) := by omega
            have i2 : (q : Int) < (t : Int) := by omega
            have i3 : (q : Int) < (t : Int) + 1 := by omega
            clear hx hrow caW celW hLr hbl cal cin
            go_wp2_with fail
            refine (lent_any a x.length cp x _ (by omega) rfl (CEL.out.keep b0r)).mono ?_
            rintro e wl ⟨rfl, bl, gl2⟩
            have sl := block_lt gl2
            have cal : wl.cell? ⟨A, q, none⟩ = some (.slice (some ⟨bs.getD q 0, 0, none⟩) (x.length + 2) (x.length + 2)) := (bl.cell (p := ⟨A, q, none⟩) gA).trans CAL.out
            have cin : wl.cell? ⟨w1.heap.size, q, none⟩ = some (.slice (some ⟨bs.getD q 0, 0, none⟩) x.length (x.length + 2)) := (bl.cell (p := ⟨w1.heap.size, q, none⟩) gI).trans CIN.out
            have cml : wl.cell? ⟨g, off + q, none⟩ = some (.slice a x.length cp) := (bl.cell (p := ⟨g, off + q, none⟩) (by simp only; omega)).trans CA.out
            have hblk : wl.heap[bs.getD q 0]? = some (.cells (bvs (x ++ [77, 78])).toArray 5 (0, 0)) := by rw [bl.block _ gB]; exact HBL.out
            have d1 : Cells wl (some ⟨bs.getD q 0, 0, none⟩) (x ++ [77, 78]) := cells_block hblk
            have d2 : Cells wl (some ⟨wr.heap.size, 0, none⟩) (x ++ [77, 78]) := cells_block gl2
            have d3 : Cells wl (some ⟨bs.getD q 0, 0, none⟩) x := cells_head (ys := [77, 78]) hblk
            have d4 : Cells wl a x := CEL.out.keep (b0r.trans (bl.mono szr))
            clear hblk gl2 ca
            go_wp2_with fail
            refine (same_any _ _ (x.length + 2) _ _ _ _ (by omega) (by rw [List.length_append]; rfl) d1 d2).mono ?_
            rintro e wm ⟨rfl, hm, bm⟩
            have d3m := d3.heap hm
            have d4m := d4.heap hm
            have cinm : wm.cell? ⟨w1.heap.size, q, none⟩ = some (.slice (some ⟨bs.getD q 0, 0, none⟩) x.length (x.length + 2)) := by rw [World.cell?_of_block (w := wl) (by rw [hm])]; exact cin
            have cmm : wm.cell? ⟨g, off + q, none⟩ = some (.slice a x.length cp) := by rw [World.cell?_of_block (w := wl) (by rw [hm])]; exact cml
            have bqm : Below w7.heap.size w7 wm := (bq.trans (bl.mono bq.size)).trans (bm.mono (by have := bq.size; omega))
            have SB : Hid (∀ wx : World, wx.heap = wm.heap → Calls Try.prog 16 #[.slice (some ⟨bs.getD q 0, 0, none⟩) x.length (x.length + 2), .slice a x.length cp] wx fun e w' => e = .returned (.bool true) ∧ w'.heap = wx.heap ∧ Below wx.heap.size wx w') := by
              intro wx hw
              exact same_any _ _ x.length _ _ x wx (by omega) rfl (d3m.heap hw) (d4m.heap hw)
            clear hm bm bl cal cin cml d1 d2 d3 d4 d3m d4m bq b0r CA CAL CIN HBL CEL
            go_wp2_with fail
            go_region_held3 (fun w' => w'.cell? ⟨w1.heap.size, q, none⟩ = some (.slice (some ⟨bs.getD q 0, 0, none⟩) x.length (x.length + 2)) ∧ w'.cell? ⟨g, off + q, none⟩ = some (.slice a x.length cp)) (first | exact ⟨by rw [World.cell?_of_block (w := wm) (by rw [hh5.out])]; exact cinm, by rw [World.cell?_of_block (w := wm) (by rw [hh5.out])]; exact cmm⟩ | go_keep) (first | (go_at_call 16; refine (SB.out _ ?_).mono ?_; exact rfl; rintro e w5 ⟨rfl, hh5', hb5⟩; have hh5 : Hid (w5.heap = wm.heap) := hh5'; clear hh5'))
            all_goals
              have hb6 : Below w7.heap.size w7 w5 := bqm.drew.trans (hb5.mono bqm.size)
              go_wp2
              go_roundw
              case rel => exact ⟨q + 1, by omega, by go_num, hb6⟩
              case measure => simp [intOf]; omega
          · go_wp2
            go_ret
            exact ⟨rfl, b0q.trans (bq.mono b0q.size)⟩

      · skip
        go_wp2_with fail
        refine (grid_ok _ 0 t (t + 1) _ M _ hn hVI HBY.out hB hK).mono ?_
        rintro e w2 ⟨g2, T2, rfl, b2, lo2, hi2, hR2, hM2⟩
        have hVI2 := hVI.below b2
        have hL2 := hL.below b2
        go_wp2_with fail
        refine (grid_ok _ 0 t (t + 1) _ M _ hn hVI2 HBY.out hB hK).mono ?_
        rintro e w3 ⟨g3, T3, rfl, b3, lo3, hi3, hR3, hM3⟩
        have e2 : rightOf t T2 = X := Gf.agree hR2 hF hX hR
        have e3 : rightOf t T3 = X := Gf.agree hR3 hF hX hR
        rw [e2] at hM2
        rw [e3] at hM3
        have hXL : Hid (X.length = t) := hX.1
        have t32 : t ≤ 32 := by
          by_cases h : 32 < t
          · exact absurd (Or.inl h) hB
          · omega
        have HX32 : Hid (∀ x ∈ X, x.length ≤ 32) := by
          intro x hx
          obtain ⟨k, hk⟩ := List.getElem?_of_mem hx
          have hkt : k < t := by have := (List.getElem?_eq_some_iff.1 hk).1; rw [hX.1] at this; exact this
          have := (hX.2 k hkt).1
          have hr : Gf.row X k = x := by simp [Gf.row, hk]
          rw [hr] at this
          omega
        have HX2 : Hid (∀ x ∈ X, x.length ≤ 140737488355328) := fun x hx => by have := HX32.out x hx; omega
        have hM2' := hM2.below b3
        have hL3 := hL2.below b3
        have s2 := b2.size
        have s3 := b3.size
        have b13 : Below w1.heap.size w1 w3 := (hb.trans (b2.mono sz)).trans (b3.mono (by omega))
        have hW3 := hVX.below b13
        have b03 : Below w.heap.size w w3 := hb1.trans (b13.mono s1)
        have v2 := hM2'.view hXL.out HX2.out
        have v3 := hM3.view hXL.out HX2.out
        have HL3 : Hid (Lent w3 w1.heap.size t t (.slice (some ⟨A, 0, none⟩) t cA) bs M) := hL3
        have LSZ : wr.heap.size ≤ g2 := lo2
        have HLr : Hid (Lent wr w1.heap.size t t (.slice (some ⟨A, 0, none⟩) t cA) bs M) := hL
        clear e2 e3 hVI hVI2 hL hL2 hL3 hM2 b13 hb b0r hR2 hR3 hF hR hX hB hK hVX
        go_wp2_with fail
        refine (sameRows_views _ _ t _ _ _ _ X _ t32 v2 hW3).mono ?_
        rintro e w4 ⟨rfl, h4, b4⟩
        have v3' := v3.below b4
        have hW4 := hW3.below b4
        have hM2q := hM2'.below b4
        have hM3q := hM3.below b4
        have hL4 := HL3.out.below b4
        have s4 := b4.size
        clear h4 v2 v3 hW3 hM2' hM3
        go_wp2_with fail
        refine (sameRows_views _ _ t _ _ _ _ X _ t32 v3' hW4).mono ?_
        rintro e w5 ⟨rfl, h5, b5⟩
        have hA := hM2q.below b5
        have hB := hM3q.below b5
        have hL5 := hL4.below b5
        have cz := hL5.last
        have HL5 : Hid (Lent w5 w1.heap.size t t (.slice (some ⟨A, 0, none⟩) t cA) bs M) := hL5
        have s5 := b5.size
        have b05 : Below w.heap.size w w5 := (b03.trans (b4.mono (by have := b03.size; omega))).trans (b5.mono (by have := b03.size; omega))
        clear h5 v3' hW4 hM2q hM3q hL4 hL5 b4 b5 b2 b3 b03
        go_wp2_with fail
        refine (rowsOf_pos _ _ _ _ t _ _ _ _ _ _ _ hXL.out hXL.out t32 (by omega) hA hB).mono ?_
        rintro e w6 ⟨A6, cap6, rfl, b56, ho6⟩
        have s6 := b56.size
        have hPh : Ph w6 wr.heap.size A6 cap6 (entsA (rowsV g2 t t) 1 t ++ entsA (rowsV g3 t t) 101 t) 0 0 32 := by
          refine ph_rows hA hB hXL.out hXL.out b56 lo2 (by omega) (by omega) HX32.out HX32.out ?_ ho6
          intro i j r r' gg hr hr' hg hg'
          have a := rowsV_blk _ _ _ _ _ _ hr hg
          have b := rowsV_blk _ _ _ _ _ _ hr' hg'
          omega
        have HE : Hid ((entsA (rowsV g2 t t) 1 t ++ entsA (rowsV g3 t t) 101 t).length = t + t) := by show _ = _; rw [List.length_append, entsA_length, entsA_length]
        have b06 : Below w.heap.size w w6 := b05.trans (b56.mono (by have := b05.size; omega))
        have hL6 := HL5.out.below b56
        have HL6 : Hid (Lent w6 w1.heap.size t t (.slice (some ⟨A, 0, none⟩) t cA) bs M) := hL6
        clear hA hB ho6 b05 b56 HL5 hL6 cz
        go_wp2_with fail
        refine (mixed_any wr.heap.size A6 cap6 (t + t) 32 _ _ (by omega) HE.out (by omega) (by omega) hPh).mono ?_
        rintro e w7 ⟨rfl, b67⟩
        have hL7 := HL6.out.belowB HLr.out (Nat.le_refl _) b67
        have b0q : Below w.heap.size w w7 := b06.trans (b67.mono (by omega))
        have HLQ : Hid (Lent w7 w1.heap.size t t (.slice (some ⟨A, 0, none⟩) t cA) bs M) := hL7
        clear hL7 HL6 HLr hPh HE b67 b06 HX2 HX32
        go_wp2_with fail
        go_loopw [16] (fun ii w' => ∃ q : Nat, q ≤ t ∧ ii = .int .i64 q ∧ Below w7.heap.size w7 w') (fun ii _ => (t - intOf ii).toNat)
        case atStart => exact ⟨0, by omega, rfl, Below.refl _ _⟩
        case round =>
          obtain ⟨q, hq, rfl, bq⟩ := hrel
          by_cases hqt : q < t
          · have b0r : Below w.heap.size w wr := b0q.trans (bq.mono b0q.size)
            have szr := b0r.size
            obtain ⟨a, cp, x, hx, _, caW, celW, _, _⟩ := HV.out.at hqt
            have gl := World.block_lt_of_cell? _ _ caW
            simp only at gl
            have hrow : Gf.row M q = x := by simp [Gf.row, hx]
            have hxl := HLEN.out x (List.mem_of_getElem? hx)
            have hLr := HLQ.out.below bq
            have ca : wr.cell? ⟨g, off + q, none⟩ = some (.slice a x.length cp) := (b0r.cell (p := ⟨g, off + q, none⟩) gl).trans caW
            have cal : wr.cell? ⟨A, q, none⟩ = some (.slice (some ⟨bs.getD q 0, 0, none⟩) (x.length + 2) (x.length + 2)) := by rw [hLr.all.cellAt q (by omega), allV_at M bs t q hqt, hrow]
            have cin : wr.cell? ⟨w1.heap.size, q, none⟩ = some (.slice (some ⟨bs.getD q 0, 0, none⟩) x.length (x.length + 2)) := by
              have := (hLr.view HV.out.lenM HLEN2.out).top q _ (inV_at M bs t q hqt)
              rw [Nat.zero_add, hrow] at this
              exact this
            have hbl := (hLr.rows q hqt).2
            rw [hrow] at hbl
            have HBL : Hid (wr.heap[bs.getD q 0]? = some (.cells (bvs (x ++ [77, 78])).toArray 5 (0, 0))) := hbl
            have CA : Hid (wr.cell? ⟨g, off + q, none⟩ = some (.slice a x.length cp)) := ca
            have CAL : Hid (wr.cell? ⟨A, q, none⟩ = some (.slice (some ⟨bs.getD q 0, 0, none⟩) (x.length + 2) (x.length + 2))) := cal
            have CIN : Hid (wr.cell? ⟨w1.heap.size, q, none⟩ = some (.slice (some ⟨bs.getD q 0, 0, none⟩) x.length (x.length + 2))) := cin
            have gA := World.block_lt_of_cell? _ _ cal
            have gI := World.block_lt_of_cell? _ _ cin
            have gB := block_lt hbl
            simp only at gA gI
            have CEL : Hid (Cells w a x) := celW
            have i1 : (0 : Int) ≤ (q : Int) := by omega
            have i2 : (q : Int) < (t : Int) := by omega
            have i3 : (q : Int) < (t : Int) + 1 := by omega
            clear hx hrow caW celW hLr hbl cal cin
            go_wp2_with fail
            refine (lent_any a x.length cp x _ (by omega) rfl (CEL.out.keep b0r)).mono ?_
            rintro e wl ⟨rfl, bl, gl2⟩
            have sl := block_lt gl2
            have cal : wl.cell? ⟨A, q, none⟩ = some (.slice (some ⟨bs.getD q 0, 0, none⟩) (x.length + 2) (x.length + 2)) := (bl.cell (p := ⟨A, q, none⟩) gA).trans CAL.out
            have cin : wl.cell? ⟨w1.heap.size, q, none⟩ = some (.slice (some ⟨bs.getD q 0, 0, none⟩) x.length (x.length + 2)) := (bl.cell (p := ⟨w1.heap.size, q, none⟩) gI).trans CIN.out
            have cml : wl.cell? ⟨g, off + q, none⟩ = some (.slice a x.length cp) := (bl.cell (p := ⟨g, off + q, none⟩) (by simp only; omega)).trans CA.out
            have hblk : wl.heap[bs.getD q 0]? = some (.cells (bvs (x ++ [77, 78])).toArray 5 (0, 0)) := by rw [bl.block _ gB]; exact HBL.out
            have d1 : Cells wl (some ⟨bs.getD q 0, 0, none⟩) (x ++ [77, 78]) := cells_block hblk
            have d2 : Cells wl (some ⟨wr.heap.size, 0, none⟩) (x ++ [77, 78]) := cells_block gl2
            have d3 : Cells wl (some ⟨bs.getD q 0, 0, none⟩) x := cells_head (ys := [77, 78]) hblk
            have d4 : Cells wl a x := CEL.out.keep (b0r.trans (bl.mono szr))
            clear hblk gl2 ca
            go_wp2_with fail
            refine (same_any _ _ (x.length + 2) _ _ _ _ (by omega) (by rw [List.length_append]; rfl) d1 d2).mono ?_
            rintro e wm ⟨rfl, hm, bm⟩
            have d3m := d3.heap hm
            have d4m := d4.heap hm
            have cinm : wm.cell? ⟨w1.heap.size, q, none⟩ = some (.slice (some ⟨bs.getD q 0, 0, none⟩) x.length (x.length + 2)) := by rw [World.cell?_of_block (w := wl) (by rw [hm])]; exact cin
            have cmm : wm.cell? ⟨g, off + q, none⟩ = some (.slice a x.length cp) := by rw [World.cell?_of_block (w := wl) (by rw [hm])]; exact cml
            have bqm : Below w7.heap.size w7 wm := (bq.trans (bl.mono bq.size)).trans (bm.mono (by have := bq.size; omega))
            have SB : Hid (∀ wx : World, wx.heap = wm.heap → Calls Try.prog 16 #[.slice (some ⟨bs.getD q 0, 0, none⟩) x.length (x.length + 2), .slice a x.length cp] wx fun e w' => e = .returned (.bool true) ∧ w'.heap = wx.heap ∧ Below wx.heap.size wx w') := by
              intro wx hw
              exact same_any _ _ x.length _ _ x wx (by omega) rfl (d3m.heap hw) (d4m.heap hw)
            clear hm bm bl cal cin cml d1 d2 d3 d4 d3m d4m bq b0r CA CAL CIN HBL CEL
            go_wp2_with fail
            go_region_held3 (fun w' => w'.cell? ⟨w1.heap.size, q, none⟩ = some (.slice (some ⟨bs.getD q 0, 0, none⟩) x.length (x.length + 2)) ∧ w'.cell? ⟨g, off + q, none⟩ = some (.slice a x.length cp)) (first | exact ⟨by rw [World.cell?_of_block (w := wm) (by rw [hh5.out])]; exact cinm, by rw [World.cell?_of_block (w := wm) (by rw [hh5.out])]; exact cmm⟩ | go_keep) (first | (go_at_call 16; refine (SB.out _ ?_).mono ?_; exact rfl; rintro e w5 ⟨rfl, hh5', hb5⟩; have hh5 : Hid (w5.heap = wm.heap) := hh5'; clear hh5'))
            all_goals
              have hb6 : Below w7.heap.size w7 w5 := bqm.drew.trans (hb5.mono bqm.size)
              go_wp2
              go_roundw
              case rel => exact ⟨q + 1, by omega, by go_num, hb6⟩
              case measure => simp [intOf]; omega
          · go_wp2
            go_ret
            exact ⟨rfl, b0q.trans (bq.mono b0q.size)⟩

end Go.Proofs.Ytlaoaiffgbdnpaa
