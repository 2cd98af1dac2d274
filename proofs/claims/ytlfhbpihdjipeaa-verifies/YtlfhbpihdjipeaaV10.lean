import Derived.Test.YtlfhbpihdjipeaaV9
namespace Go.Proofs.Ytlfhbpihdjipeaa
open Go.RowKit

/-- the numbers of the states -/
theorem Scans.state {w : World} {B g n c k : Nat} {L : List (Sc × Value)} {ss : List Sc} {s : Sc} (h : Scans w B (.slice (some ⟨g, 0, none⟩) n c) L) (hm : L.map (·.1) = ss) (hn : ss.length = n) (hs : ss[k]? = some s) : w.cell? ⟨g, k * 8, none⟩ = some (.int .i64 s.S) := by
  obtain ⟨v, hv⟩ := map_at hm hs
  have hl : L.length = n := (map_length hm).trans hn
  have r := h.row
  rw [hl] at r
  exact (c8_of r hl hv).c0
theorem Scans.unfrozen {w : World} {B g n c k : Nat} {L : List (Sc × Value)} (h : Scans w B (.slice (some ⟨g, 0, none⟩) n c) L) (hl : L.length = n) : w.frozen? ⟨g, k, none⟩ = false := by
  have r := h.row
  rw [hl] at r
  exact r.frozenAt k

theorem frozen_setCell (w : World) (a b : Addr) (v : Value) : (w.setCell a v).frozen? b = w.frozen? b := by
  by_cases h : a.block = b.block
  · cases hb : w.heap[b.block]? with
    | none => simp [World.frozen?, World.setCell, Array.getElem?_modify, h, hb]
    | some o => cases o <;> simp [World.frozen?, World.setCell, Array.getElem?_modify, h, hb]
  · exact frozen_of (Below.heap_setCell w a v _ (fun e => h e.symm))
theorem cell_setCell_some {w : World} {a b : Addr} {v : Value} (h : ∃ x, w.cell? b = some x) : ∃ x, (w.setCell a v).cell? b = some x := by
  obtain ⟨x, hx⟩ := h
  by_cases e : a.block = b.block
  · unfold World.cell? at hx ⊢
    cases hb : w.heap[b.block]? with
    | none => rw [hb] at hx; cases hx
    | some o =>
      cases o with
      | cells c t z =>
        rw [hb] at hx
        simp only at hx
        have hq : (w.setCell a v).heap[b.block]? = some (.cells (if a.spot.isSome then c else c.setIfInBounds a.off v) t z) := by simp [World.setCell, Array.getElem?_modify, e, hb]
        rw [hq]
        simp only
        split at hx
        · cases hx
        · rename_i hsp
          rw [if_neg hsp]
          have hlt : b.off < c.size := (Array.getElem?_eq_some_iff.1 hx).1
          refine ⟨_, Array.getElem?_eq_getElem ?_⟩
          split <;> simp [hlt]
      | _ => rw [hb] at hx; cases hx
  · exact ⟨x, by rw [World.cell?_of_block (w := w) (Below.heap_setCell w a v _ (fun e' => e e'.symm))]; exact hx⟩

set_option maxHeartbeats 4000000 in
theorem verifies_pos (V : VerifyOk) (a : Option Addr) (n cap : Nat) (fs : List ByteArray) (ss : List Sc) (w : World) (hn0 : 0 < n) (hn : n ≤ 32) (hl : fs.length = n) (hf : Texts w a fs) (hs : Seen fs ss) :
    Calls Try.prog 3 #[.slice a n cap] w fun e w' => e = .returned (.bool true) ∧ Below w.heap.size w w' := by
  have HV : Hid VerifyOk := V
  have HL : Hid (fs.length = n) := hl
  have HF : Hid (Texts w a fs) := hf
  have HS : Hid (Seen fs ss) := hs
  have SL : Hid (ss.length = n) := hs.1.trans hl
  have hcut : (n : Int) ≤ (n : Int) + 2 := by omega
  clear V hl hf hs
  go_enter Try.func3, Try.ntmps3
  go_wp2_with fail
  refine (lentTexts_any a n cap fs w (by omega) HL.out HF.out).mono ?_
  rintro e w1 ⟨rfl, hb1, hg1⟩
  have G1 : Hid (w1.heap[w.heap.size]? = some (.cells (svs (fs ++ [s1, s2])).toArray 9 (0, 0))) := hg1
  have z1 : w.heap.size < w1.heap.size := (Array.getElem?_eq_some_iff.1 hg1).1
  clear hg1
  go_wp2_with fail
  refine (refVerify_any a n cap fs ss _ hn HL.out (HF.out.keep hb1) HS.out).mono ?_
  rintro e w2 ⟨vW, LW, rfl, hb2, sW, mW0⟩
  have mW : Hid (LW.map (·.1) = ss) := mW0
  have lW : Hid (LW.length = n) := (map_length mW0).trans SL.out
  obtain ⟨aW, cW, rfl, hpW⟩ := sW.form
  obtain ⟨gW, rfl, lowW, highW⟩ := hpW (by rw [lW.out]; exact hn0)
  have SW : Hid (Scans w2 w1.heap.size (.slice (some ⟨gW, 0, none⟩) n cW) LW) := by rw [lW.out] at sW; exact sW
  rw [lW.out]
  have z2 := hb2.size
  have G2 : Hid (w2.heap[w.heap.size]? = some (.cells (svs (fs ++ [s1, s2])).toArray 9 (0, 0))) := by show _ = _; rw [hb2.block _ z1]; exact G1.out
  have B2 : Hid (Below w.heap.size w w2) := hb1.trans (hb2.mono (by omega))
  clear hb1 hb2 G1 mW0 sW hpW
  go_wp2_with fail
  refine (HV.out.ok _ n _ fs ss _ hn HL.out (Texts.of_block G2.out).left HS.out).mono ?_
  rintro e w3 ⟨vF, LF, rfl, hb3, sF, mF0⟩
  have mF : Hid (LF.map (·.1) = ss) := mF0
  have lF : Hid (LF.length = n) := (map_length mF0).trans SL.out
  obtain ⟨aF, cF, rfl, hpF⟩ := sF.form
  obtain ⟨gF, rfl, lowF, highF⟩ := hpF (by rw [lF.out]; exact hn0)
  have SF : Hid (Scans w3 w2.heap.size (.slice (some ⟨gF, 0, none⟩) n cF) LF) := by rw [lF.out] at sF; exact sF
  rw [lF.out]
  have z3 := hb3.size
  have G3 : Hid (w3.heap[w.heap.size]? = some (.cells (svs (fs ++ [s1, s2])).toArray 9 (0, 0))) := by show _ = _; rw [hb3.block _ (by omega)]; exact G2.out
  have B3 : Hid (Below w.heap.size w w3) := B2.out.trans (hb3.mono (by omega))
  have SW3 : Hid (Scans w3 w1.heap.size (.slice (some ⟨gW, 0, none⟩) n cW) LW) := SW.out.below hb3
  clear hb3 G2 B2 mF0 sF hpF SW
  go_wp2_with fail
  refine (HV.out.ok _ n _ fs ss _ hn HL.out (Texts.of_block G3.out).left HS.out).mono ?_
  rintro e w4 ⟨vA, LA, rfl, hb4, sA, mA0⟩
  have mA : Hid (LA.map (·.1) = ss) := mA0
  have lA : Hid (LA.length = n) := (map_length mA0).trans SL.out
  obtain ⟨aA, cA, rfl, hpA⟩ := sA.form
  obtain ⟨gA, rfl, lowA, highA⟩ := hpA (by rw [lA.out]; exact hn0)
  have SA : Hid (Scans w4 w3.heap.size (.slice (some ⟨gA, 0, none⟩) n cA) LA) := by rw [lA.out] at sA; exact sA
  rw [lA.out]
  have z4 := hb4.size
  have G4 : Hid (w4.heap[w.heap.size]? = some (.cells (svs (fs ++ [s1, s2])).toArray 9 (0, 0))) := by show _ = _; rw [hb4.block _ (by omega)]; exact G3.out
  have B4 : Hid (Below w.heap.size w w4) := B3.out.trans (hb4.mono (by omega))
  have SW4 : Hid (Scans w4 w1.heap.size (.slice (some ⟨gW, 0, none⟩) n cW) LW) := SW3.out.below hb4
  have SF4 : Hid (Scans w4 w2.heap.size (.slice (some ⟨gF, 0, none⟩) n cF) LF) := SF.out.below hb4
  -- the Bad lists of the two answers lie apart
  have AP : Hid (∀ (i j : Nat) (v v' : Value) (b : Nat), (LF.map (·.2))[i]? = some v → (LA.map (·.2))[j]? = some v' → v.ownBlock = some b → v'.ownBlock ≠ some b) := by
    intro i j v v' b hi hj hv hv'
    simp only [List.getElem?_map, Option.map_eq_some_iff] at hi hj
    obtain ⟨p, hp, rfl⟩ := hi
    obtain ⟨q, hq, rfl⟩ := hj
    have h1 := ((SF.out.bad p (List.mem_of_getElem? hp)).2.lt b hv).2
    have h2 := ((SA.out.bad q (List.mem_of_getElem? hq)).2.lt b hv').1
    omega
  have lowB : Hid (∀ v b, v ∈ LF.map (·.2) ∨ v ∈ LA.map (·.2) → v.ownBlock = some b → w1.heap.size ≤ b) := by
    intro v b hm hv
    rcases hm with hm | hm
    · obtain ⟨p, hp, rfl⟩ := List.mem_map.1 hm
      have := ((SF.out.bad p hp).2.lt b hv).1
      omega
    · obtain ⟨p, hp, rfl⟩ := List.mem_map.1 hm
      have := ((SA.out.bad p hp).2.lt b hv).1
      omega
  clear hb4 G3 B3 mA0 sA hpA SF SW3
  go_wp2_with fail
  refine (sameScans_pos _ _ gF gW n cF cW LF LW ss _ hn SL.out mF.out mW.out SF4.out SW4.out).mono ?_
  rintro e w5 ⟨rfl, hb5⟩
  have z5 := hb5.size
  go_wp2_with fail
  refine (sameScans_pos _ _ gA gW n cA cW LA LW ss _ hn SL.out mA.out mW.out (SA.out.below hb5) (SW4.out.below hb5)).mono ?_
  rintro e w6 ⟨rfl, hb6⟩
  have hb56 : Below w4.heap.size w4 w6 := hb5.trans (hb6.mono z5)
  have z6 := hb6.size
  clear hb5 hb6
  go_wp2_with fail
  refine (lentTexts_any a n cap fs _ (by omega) HL.out (HF.out.keep (B4.out.trans (hb56.mono (by omega))))).mono ?_
  rintro e w7 ⟨rfl, hb7, hg7⟩
  have z7 := hb7.size
  have G7 : Hid (w7.heap[w6.heap.size]? = some (.cells (svs (fs ++ [s1, s2])).toArray 9 (0, 0))) := hg7
  have hb47 : Below w4.heap.size w4 w7 := hb56.trans (hb7.mono (by omega))
  have G7' : Hid (w7.heap[w.heap.size]? = some (.cells (svs (fs ++ [s1, s2])).toArray 9 (0, 0))) := by show _ = _; rw [hb47.block _ (by omega)]; exact G4.out
  clear hb7 hg7 G4 hb56
  go_wp2_with fail
  refine (texts_both (by omega) HL.out G7'.out G7.out _ _).mono ?_
  rintro e w8 ⟨rfl, _, hb8⟩
  have z8' := hb8.size
  have hb48 : Below w4.heap.size w4 w8 := hb47.trans (hb8.mono (by omega))
  have B8 : Hid (Below w.heap.size w w8) := B4.out.trans (hb48.mono (by omega))
  have SW8 : Hid (Scans w8 w1.heap.size (.slice (some ⟨gW, 0, none⟩) n cW) LW) := SW4.out.below hb48
  have SF8 : Hid (Scans w8 w2.heap.size (.slice (some ⟨gF, 0, none⟩) n cF) LF) := SF4.out.below hb48
  have SA8 : Hid (Scans w8 w3.heap.size (.slice (some ⟨gA, 0, none⟩) n cA) LA) := SA.out.below hb48
  clear hb8 G7 G7' hb47 hb48 B4 SW4 SF4 SA
  have hSafe : Hid (∀ k, Safe w8.heap.size (LF.map (·.2)) (LA.map (·.2)) k → k < w8.heap.size) := fun k h => h.1
  have HX := crossed_pos w8 (Safe w8.heap.size (LF.map (·.2)) (LA.map (·.2))) hSafe gF gA n cF cA _ _ hn0 hn (SF8.out.bads lF.out) (SA8.out.bads lA.out) AP.out (fun v b hm hv h => h.2.1 v hm hv) (fun v b hm hv h => h.2.2 v hm hv)
  go_wp2_with fail
  refine HX.mono ?_
  rintro e w9 ⟨rfl, hK⟩
  have sfF : Hid (Safe w8.heap.size (LF.map (·.2)) (LA.map (·.2)) gF) := ⟨by omega, SF8.out.top_safe SF8.out rfl, SF8.out.top_safe SA8.out rfl⟩
  have sfA : Hid (Safe w8.heap.size (LF.map (·.2)) (LA.map (·.2)) gA) := ⟨by omega, SA8.out.top_safe SF8.out rfl, SA8.out.top_safe SA8.out rfl⟩
  have sfW : Hid (Safe w8.heap.size (LF.map (·.2)) (LA.map (·.2)) gW) := ⟨by omega, SW8.out.top_safe SF8.out rfl, SW8.out.top_safe SA8.out rfl⟩
  have B9 : Hid (Below w.heap.size w w9) := by
    have h8 := B8.out
    refine ⟨hK.os.trans h8.os, hK.tape.trans h8.tape, hK.output.trans h8.output, Nat.le_trans h8.size hK.size, fun k hk => ?_⟩
    rw [hK.block k ⟨by omega, fun v hm hv => by have := lowB.out v k (.inl hm) hv; omega, fun v hm hv => by have := lowB.out v k (.inr hm) hv; omega⟩]
    exact h8.block k hk
  have z9 := hK.size
  have eF : Hid (w9.heap[gF]? = w8.heap[gF]?) := hK.block _ sfF.out
  have eA : Hid (w9.heap[gA]? = w8.heap[gA]?) := hK.block _ sfA.out
  have eW : Hid (w9.heap[gW]? = w8.heap[gW]?) := hK.block _ sfW.out
  have CF : Hid (∀ k s, ss[k]? = some s → w9.cell? ⟨gF, k * 8, none⟩ = some (.int .i64 s.S)) := fun k s hs => by rw [World.cell?_of_block (w := w8) eF.out]; exact SF8.out.state mF.out SL.out hs
  have CA : Hid (∀ k s, ss[k]? = some s → w9.cell? ⟨gA, k * 8, none⟩ = some (.int .i64 s.S)) := fun k s hs => by rw [World.cell?_of_block (w := w8) eA.out]; exact SA8.out.state mA.out SL.out hs
  have CW : Hid (∀ k s, ss[k]? = some s → w9.cell? ⟨gW, k * 8, none⟩ = some (.int .i64 s.S)) := fun k s hs => by rw [World.cell?_of_block (w := w8) eW.out]; exact SW8.out.state mW.out SL.out hs
  have FF : Hid (∀ k, w9.frozen? ⟨gF, k, none⟩ = false) := fun k => by rw [frozen_of eF.out]; exact SF8.out.unfrozen lF.out
  have nFA : gF ≠ gA := by omega
  have nFW : gF ≠ gW := by omega
  have lowF' : w.heap.size ≤ gF := by omega
  clear hK HX SF8 SA8 SW8 eF eA eW sfF sfA sfW B8 AP lowB hSafe HV HF HS mW mF mA lW lF lA
  go_wp2_with fail
  go_loopw [15] (fun ii w' => ∃ k : Nat, k ≤ n ∧ ii = .int .i64 k ∧ Below w.heap.size w w' ∧ Hid (w'.heap[gA]? = w9.heap[gA]?) ∧ Hid (w'.heap[gW]? = w9.heap[gW]?) ∧ Hid (∀ j, w'.frozen? ⟨gF, j, none⟩ = false) ∧ Hid (∀ j s, ss[j]? = some s → ∃ v, w'.cell? ⟨gF, j * 8, none⟩ = some v)) (fun ii _ => (n - intOf ii).toNat)
  case atStart => exact ⟨0, by omega, rfl, B9.out, rfl, rfl, FF, fun j s hs => ⟨_, CF.out j s hs⟩⟩
  case round =>
    obtain ⟨k, hk, rfl, hb, hA, hW, hZ, hC⟩ := hrel
    by_cases hlt : k < n
    · obtain ⟨s, hs⟩ : ∃ s, ss[k]? = some s := ⟨_, List.getElem?_eq_getElem (by rw [SL.out]; exact hlt)⟩
      obtain ⟨v0, c0⟩ := hC.out k s hs
      have f0 := hZ.out (k * 8)
      have i1 : (0 : Int) ≤ (k : Int) := by omega
      have i2 : (k : Int) < (n : Int) := by omega
      have hA2 : Hid ((wr.setCell ⟨gF, k * 8, none⟩ (.int .i64 (-1))).heap[gA]? = w9.heap[gA]?) := (Below.heap_setCell wr ⟨gF, k * 8, none⟩ _ _ nFA.symm).trans hA.out
      have hW2 : Hid ((wr.setCell ⟨gF, k * 8, none⟩ (.int .i64 (-1))).heap[gW]? = w9.heap[gW]?) := (Below.heap_setCell wr ⟨gF, k * 8, none⟩ _ _ nFW.symm).trans hW.out
      have hb2 : Hid (Below w.heap.size w (wr.setCell ⟨gF, k * 8, none⟩ (.int .i64 (-1)))) := hb.setCell (by simpa using lowF') _
      have hZ2 : Hid (∀ j, (wr.setCell ⟨gF, k * 8, none⟩ (.int .i64 (-1))).frozen? ⟨gF, j, none⟩ = false) := fun j => by rw [frozen_setCell]; exact hZ.out j
      have hC2 : Hid (∀ j s, ss[j]? = some s → ∃ v, (wr.setCell ⟨gF, k * 8, none⟩ (.int .i64 (-1))).cell? ⟨gF, j * 8, none⟩ = some v) := fun j s hs => cell_setCell_some (hC.out j s hs)
      clear hs hA hW hZ hC hb
      go_wp2_with fail
      go_roundw
      case rel => exact ⟨k + 1, by omega, by go_num, hb2.out, hA2, hW2, hZ2, hC2⟩
      case measure => simp [intOf]; omega
    · have CA2 : Hid (∀ k s, ss[k]? = some s → wr.cell? ⟨gA, k * 8, none⟩ = some (.int .i64 s.S)) := fun k s hs => by rw [World.cell?_of_block (w := w9) hA.out]; exact CA.out k s hs
      have CW2 : Hid (∀ k s, ss[k]? = some s → wr.cell? ⟨gW, k * 8, none⟩ = some (.int .i64 s.S)) := fun k s hs => by rw [World.cell?_of_block (w := w9) hW.out]; exact CW.out k s hs
      clear hA hW hZ hC CA CW CF FF B9
      generalize hwz : wr = wz at *
      clear hwz
      go_wp2_with fail
      go_loopw [16] (fun ii w' => ∃ t : Nat, t ≤ n ∧ ii = .int .i64 t ∧ Hid (w'.heap = wz.heap) ∧ Below w.heap.size w w') (fun ii _ => (n - intOf ii).toNat)
      case atStart => exact ⟨0, by omega, rfl, rfl, hb⟩
      case round =>
        clear hb
        obtain ⟨t, ht, rfl, hh, hb⟩ := hrel
        by_cases hlt : t < n
        · obtain ⟨s, hs⟩ : ∃ s, ss[t]? = some s := ⟨_, List.getElem?_eq_getElem (by rw [SL.out]; exact hlt)⟩
          have g1 : wr.cell? ⟨gA, t * 8, none⟩ = some (.int .i64 s.S) := by rw [World.cell?_of_block (w := wz) (by rw [hh.out])]; exact CA2.out t s hs
          have g2 : wr.cell? ⟨gW, t * 8, none⟩ = some (.int .i64 s.S) := by rw [World.cell?_of_block (w := wz) (by rw [hh.out])]; exact CW2.out t s hs
          have hxx : (s.S != s.S) = false := by simp
          have i1 : (0 : Int) ≤ (t : Int) := by omega
          have i2 : (t : Int) < (n : Int) := by omega
          clear hs
          go_wp2_with fail
          go_region
          all_goals
            go_wp2_with fail
            go_roundw
            case rel => exact ⟨t + 1, by omega, by go_num, hh, hb.drew⟩
            case measure => simp [intOf]; omega
        · go_wp2_with fail
          go_ret
          exact ⟨rfl, hb⟩
end Go.Proofs.Ytlfhbpihdjipeaa
