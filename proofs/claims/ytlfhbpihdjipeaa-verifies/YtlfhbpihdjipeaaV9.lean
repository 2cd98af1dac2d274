import Derived.Test.YtlfhbpihdjipeaaV8
namespace Go.Proofs.Ytlfhbpihdjipeaa
open Go.RowKit

theorem texts_both {w : World} {n g g' : Nat} {fs : List ByteArray} (hn : n + 2 ≤ 140737488360000) (hl : fs.length = n) (h1 : w.heap[g]? = some (.cells (svs (fs ++ [s1, s2])).toArray 9 (0, 0))) (h2 : w.heap[g']? = some (.cells (svs (fs ++ [s1, s2])).toArray 9 (0, 0))) (c c' : Nat) :
    Calls Try.prog 8 #[.slice (some ⟨g, 0, none⟩) (n + 2) c, .slice (some ⟨g', 0, none⟩) (n + 2) c'] w fun e w' => e = .returned (.bool true) ∧ w'.heap = w.heap ∧ Below w.heap.size w w' := by
  have e1 := Texts.of_block h1
  have e2 := Texts.of_block h2
  obtain ⟨b1, o1, q1, _, k1⟩ := e1.pos (by simp)
  obtain ⟨b2, o2, q2, _, k2⟩ := e2.pos (by simp)
  simp only [Option.some.injEq, Addr.mk.injEq, and_true] at q1 q2
  obtain ⟨rfl, rfl⟩ := q1
  obtain ⟨rfl, rfl⟩ := q2
  exact sameTexts_pos g 0 g' 0 (n + 2) c c' (fs ++ [s1, s2]) w hn (by simp [hl]) k1 k2

set_option maxHeartbeats 2000000 in
theorem verifies_large (V : VerifyOk) (a : Option Addr) (n cap : Nat) (fs : List ByteArray) (w : World) (hn : 32 < n) (hn2 : n ≤ 8796093022207) (hl : fs.length = n) (hf : Texts w a fs) :
    Calls Try.prog 3 #[.slice a n cap] w fun e w' => e = .returned (.bool true) ∧ Below w.heap.size w w' := by
  have HV : Hid VerifyOk := V
  have HL : Hid (fs.length = n) := hl
  have HF : Hid (Texts w a fs) := hf
  have hcut : (n : Int) ≤ (n : Int) + 2 := by omega
  clear V hl hf
  go_enter Try.func3, Try.ntmps3
  go_wp2_with fail
  refine (lentTexts_any a n cap fs w (by omega) HL.out HF.out).mono ?_
  rintro e w1 ⟨rfl, hb1, hg1⟩
  have G1 : Hid (w1.heap[w.heap.size]? = some (.cells (svs (fs ++ [s1, s2])).toArray 9 (0, 0))) := hg1
  have z1 : w.heap.size < w1.heap.size := (Array.getElem?_eq_some_iff.1 hg1).1
  clear hg1
  go_wp2_with fail
  refine (refVerify_large a n cap _ hn (by omega)).mono ?_
  rintro e w2 ⟨rfl, rfl⟩
  go_wp2_with fail
  refine (HV.out.large _ n _ _ hn (by omega)).mono ?_
  rintro e w3 ⟨rfl, hb3⟩
  have z3 := hb3.size
  have G3 : Hid (w3.heap[w.heap.size]? = some (.cells (svs (fs ++ [s1, s2])).toArray 9 (0, 0))) := by show _ = _; rw [hb3.block _ z1]; exact G1.out
  have B3 : Hid (Below w.heap.size w w3) := hb1.trans (hb3.mono (by omega))
  clear hb1 hb3 G1
  go_wp2_with fail
  refine (HV.out.large _ n _ _ hn (by omega)).mono ?_
  rintro e w4 ⟨rfl, hb4⟩
  have z4 := hb4.size
  have G4 : Hid (w4.heap[w.heap.size]? = some (.cells (svs (fs ++ [s1, s2])).toArray 9 (0, 0))) := by show _ = _; rw [hb4.block _ (by omega)]; exact G3.out
  have B4 : Hid (Below w.heap.size w w4) := B3.out.trans (hb4.mono (by omega))
  clear hb4 G3 B3
  go_wp2_with fail
  refine (sameScans_zero _ _ _ _ _).mono ?_
  rintro e w5 ⟨rfl, rfl⟩
  go_wp2_with fail
  refine (sameScans_zero _ _ _ _ _).mono ?_
  rintro e w6 ⟨rfl, rfl⟩
  go_wp2_with fail
  refine (lentTexts_any a n cap fs _ (by omega) HL.out (HF.out.keep B4.out)).mono ?_
  rintro e w7 ⟨rfl, hb7, hg7⟩
  have z7 := hb7.size
  have G7 : Hid (w7.heap[w6.heap.size]? = some (.cells (svs (fs ++ [s1, s2])).toArray 9 (0, 0))) := hg7
  have G7' : Hid (w7.heap[w.heap.size]? = some (.cells (svs (fs ++ [s1, s2])).toArray 9 (0, 0))) := by show _ = _; rw [hb7.block _ (by omega)]; exact G4.out
  have B7 : Hid (Below w.heap.size w w7) := B4.out.trans (hb7.mono (by omega))
  clear hb7 hg7 G4 B4
  go_wp2_with fail
  refine (texts_both (by omega) HL.out G7'.out G7.out _ _).mono ?_
  rintro e w8 ⟨rfl, _, hb8⟩
  have B8 : Hid (Below w.heap.size w w8) := B7.out.trans (hb8.mono (by omega))
  clear hb8 G7 G7' B7
  go_wp2_with fail
  refine (crossed_nil _ _ _ _ _).mono ?_
  rintro e w9 ⟨rfl, rfl⟩
  go_wp2_with fail
  refine wp_loop_rounds 1 ?_
  rw [rounds_succ]
  go_wp2
  refine wp_loop_rounds 1 ?_
  rw [rounds_succ]
  go_wp2
  go_ret
  exact ⟨rfl, B8.out⟩

set_option maxHeartbeats 2000000 in
theorem verifies_zero (V : VerifyOk) (a : Option Addr) (cap : Nat) (w : World) :
    Calls Try.prog 3 #[.slice a 0 cap] w fun e w' => e = .returned (.bool true) ∧ Below w.heap.size w w' := by
  have HV : Hid VerifyOk := V
  have HF : Hid (∀ (x : Option Addr) (w : World), Texts w x []) := fun x w i f h => by simp at h
  have HS : Hid (Seen [] []) := ⟨rfl, fun i f h => by simp at h⟩
  clear V
  go_enter Try.func3, Try.ntmps3
  go_wp2_with fail
  refine (lentTexts_any a 0 cap [] w (by omega) rfl (HF.out _ _)).mono ?_
  rintro e w1 ⟨rfl, hb1, hg1⟩
  have G1 : Hid (w1.heap[w.heap.size]? = some (.cells (svs ([] ++ [s1, s2])).toArray 9 (0, 0))) := hg1
  have z1 : w.heap.size < w1.heap.size := (Array.getElem?_eq_some_iff.1 hg1).1
  clear hg1
  go_wp2_with fail
  refine (refVerify_any a 0 cap [] [] _ (by omega) rfl (HF.out _ _) HS.out).mono ?_
  rintro e w2 ⟨vW, LW, rfl, hb2, hW, mW⟩
  obtain ⟨aW, cW, rfl, _⟩ := hW.form
  have lW : Hid (LW.length = 0) := map_length mW
  rw [lW.out]
  have z2 := hb2.size
  have G2 : Hid (w2.heap[w.heap.size]? = some (.cells (svs ([] ++ [s1, s2])).toArray 9 (0, 0))) := by show _ = _; rw [hb2.block _ z1]; exact G1.out
  have B2 : Hid (Below w.heap.size w w2) := hb1.trans (hb2.mono (by omega))
  clear hb1 hb2 G1 hW mW
  go_wp2_with fail
  refine (HV.out.ok _ 0 _ [] [] _ (by omega) rfl (HF.out _ _) HS.out).mono ?_
  rintro e w3 ⟨vF, LF, rfl, hb3, hW, mW⟩
  obtain ⟨aF, cF, rfl, _⟩ := hW.form
  have lF : Hid (LF.length = 0) := map_length mW
  rw [lF.out]
  have z3 := hb3.size
  have G3 : Hid (w3.heap[w.heap.size]? = some (.cells (svs ([] ++ [s1, s2])).toArray 9 (0, 0))) := by show _ = _; rw [hb3.block _ (by omega)]; exact G2.out
  have B3 : Hid (Below w.heap.size w w3) := B2.out.trans (hb3.mono (by omega))
  clear hb3 G2 B2 hW mW
  go_wp2_with fail
  refine (HV.out.ok _ 0 _ [] [] _ (by omega) rfl (HF.out _ _) HS.out).mono ?_
  rintro e w4 ⟨vA, LA, rfl, hb4, hW, mW⟩
  obtain ⟨aA, cA, rfl, _⟩ := hW.form
  have lA : Hid (LA.length = 0) := map_length mW
  rw [lA.out]
  have z4 := hb4.size
  have G4 : Hid (w4.heap[w.heap.size]? = some (.cells (svs ([] ++ [s1, s2])).toArray 9 (0, 0))) := by show _ = _; rw [hb4.block _ (by omega)]; exact G3.out
  have B4 : Hid (Below w.heap.size w w4) := B3.out.trans (hb4.mono (by omega))
  clear hb4 G3 B3 hW mW
  go_wp2_with fail
  refine (sameScans_zero _ _ _ _ _).mono ?_
  rintro e w5 ⟨rfl, rfl⟩
  go_wp2_with fail
  refine (sameScans_zero _ _ _ _ _).mono ?_
  rintro e w6 ⟨rfl, rfl⟩
  go_wp2_with fail
  refine (lentTexts_any a 0 cap [] _ (by omega) rfl (HF.out _ _)).mono ?_
  rintro e w7 ⟨rfl, hb7, hg7⟩
  have z7 := hb7.size
  have G7 : Hid (w7.heap[w6.heap.size]? = some (.cells (svs ([] ++ [s1, s2])).toArray 9 (0, 0))) := hg7
  have G7' : Hid (w7.heap[w.heap.size]? = some (.cells (svs ([] ++ [s1, s2])).toArray 9 (0, 0))) := by show _ = _; rw [hb7.block _ (by omega)]; exact G4.out
  have B7 : Hid (Below w.heap.size w w7) := B4.out.trans (hb7.mono (by omega))
  clear hb7 hg7 G4 B4
  go_wp2_with fail
  refine (texts_both (n := 0) (by omega) rfl G7'.out G7.out _ _).mono ?_
  rintro e w8 ⟨rfl, _, hb8⟩
  have B8 : Hid (Below w.heap.size w w8) := B7.out.trans (hb8.mono (by omega))
  clear hb8 G7 G7' B7
  go_wp2_with fail
  refine (crossed_nil _ _ _ _ _).mono ?_
  rintro e w9 ⟨rfl, rfl⟩
  go_wp2_with fail
  refine wp_loop_rounds 1 ?_
  rw [rounds_succ]
  go_wp2
  refine wp_loop_rounds 1 ?_
  rw [rounds_succ]
  go_wp2
  go_ret
  exact ⟨rfl, B8.out⟩
end Go.Proofs.Ytlfhbpihdjipeaa
