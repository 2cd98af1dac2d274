import Derived.Test.YtfnnakignemifaaN2
namespace Go.Proofs.Ytfnnakignemifaa
open Go.RowKit

set_option maxHeartbeats 400000 in
theorem refLook_empty (f : ByteArray) (w : World) (h : f.size = 0) :
    Calls Try.prog 14 #[.string f] w fun e w' => e = .returned (scanV 1 0 0 0 0 0 (.slice none 0 0) 0) ∧ Below w.heap.size w w' := by
  go_enter Try.func14, Try.ntmps14
  go_wp2
  refine bodyPost_ret (v := scanV 1 0 0 0 0 0 (.slice none 0 0) 0) (by simp [results, Try.results14, go_sem]) rfl ⟨rfl, (Below.refl _ _).alloc (Nat.le_refl _) _⟩

/-- the document's head, whatever it answers when it is not good -/
theorem refHd_bad (f : ByteArray) (w : World) (hN : ¬ (18 ≤ f.size ∧ Gd f)) :
    Calls Try.prog 26 #[.string f] w fun e w' => (∃ K N B I L : Int, e = .returned (.tuple #[hdr K N B I L, .bool false])) ∧ Below w.heap.size w w' := by
  by_cases h18 : 18 ≤ f.size
  · refine (refHd_ok f w h18).mono ?_
    rintro e w' ⟨⟨G, hG, rfl⟩, hb⟩
    have hGf : G = false := by
      cases G with
      | false => rfl
      | true => exact absurd ⟨h18, hG.1 rfl⟩ hN
    subst hGf
    exact ⟨⟨_, _, _, _, _, rfl⟩, hb⟩
  · refine (refHd_short f w h18).mono ?_
    rintro e w' ⟨rfl, hb⟩
    exact ⟨⟨_, _, _, _, _, rfl⟩, hb⟩

set_option maxHeartbeats 400000 in
theorem refLook_bad (f : ByteArray) (w : World) (h : f.size ≠ 0) (hN : ¬ (18 ≤ f.size ∧ Gd f)) :
    Calls Try.prog 14 #[.string f] w fun e w' => e = .returned (scanV 2 0 0 0 0 0 (.slice none 0 0) 0) ∧ Below w.heap.size w w' := by
  have h1 : ((f.size : Int) == 0) = false := beq_eq_false_iff_ne.2 (by omega)
  have HH : Hid (∀ w : World, Calls Try.prog 26 #[.string f] w fun e w' => (∃ K N B I L : Int, e = .returned (.tuple #[hdr K N B I L, .bool false])) ∧ Below w.heap.size w w') := fun w => refHd_bad f w hN
  clear hN
  go_enter Try.func14, Try.ntmps14
  go_wp2_with fail
  refine (HH.out _).mono ?_
  rintro e w1 ⟨⟨K, N, B, I, L, rfl⟩, hb⟩
  have R0 : w1.heap[w.heap.size]? = some (.cells z8 37) := by
    rw [hb.block _ (by simp)]; exact heap_new _ _
  have hl : w.heap.size + 1 ≤ w1.heap.size := by have := hb.size; simpa using this
  have HB' : Hid (Below w.heap.size w w1) := ((Below.refl _ _).alloc (Nat.le_refl _) _).trans (hb.mono (by simp))
  clear hb
  go_wp2_with (refine wpList_store_whole rfl 37 _ _ (by rfl) w.heap.size #[.int .i64 2, .int .i64 0, .int .i64 0, .int .i64 0, .int .i64 0, .int .i64 0, .slice none 0 0, .int .i64 0] z8 37 (by rfl) (by rfl) (heap_past R0 _) rfl size37 (one8 2 0 0 0 0 0 none 0 0 0) ?_; intro w2 hR2 hk2)
  obtain ⟨⟨r0, r1, r2, r3⟩, r4, r5, r6, r7⟩ := cells8 hR2
  have HB2 : Below w.heap.size w w2 := (HB'.out.alloc (by omega) _).grown hk2 (by simp; omega) (fun k hk => by cases hk; omega)
  refine bodyPost_ret (v := scanV 2 0 0 0 0 0 (.slice none 0 0) 0) (by simp [results, Try.results14, go_sem, r0, r1, r2, r3, r4, r5, r6, r7]) rfl ⟨rfl, HB2⟩

/-- what the document's Look holds when t frames are seen -/
structure RL (w2 : World) (f : ByteArray) (p k n b i l t : Nat) (v : Value) (w' : World) : Prop where
  mods : Mods (fun q => q = p) w2 w'
  scan : w'.heap[p]? = some (.cells #[.int .i64 3, .int .i64 k, .int .i64 n, .int .i64 b, .int .i64 i, .int .i64 l, v, .int .i64 0] 37)
  own : w'.ownsRow w2.heap.size 3 1 v (bads f b i t).length (ivs (bads f b i t))
theorem RL.below {w2 : World} {f : ByteArray} {p k n b i l t : Nat} {v : Value} {wr w' : World} (h : RL w2 f p k n b i l t v wr) (hp : p < w2.heap.size) (hb : Below wr.heap.size wr w') : RL w2 f p k n b i l t v w' :=
  ⟨h.mods.row (gb_below none hb) (fun k hk => by cases hk), by rw [hb.block p (Nat.lt_of_lt_of_le hp h.mods.size)]; exact h.scan, owns_below h.own hb⟩
/-- the document's good, by okB -/
theorem refGood_any (f : ByteArray) (k n b i l t : Nat) (w : World) (hb : 1 ≤ b) (hb2 : b ≤ 256) (hi : i ≤ 31) (ht : t ≤ 16384) :
    Calls Try.prog 28 #[.string f, hdr k n b i l, .int .i64 t] w fun e w' => (∃ s, e = .returned (.tuple #[.string s, .bool (okB f b i t)])) ∧ Below w.heap.size w w' := by
  by_cases h : pos b t + (b + 8) ≤ f.size
  · refine (refGood_ok f k n b i l t w hb hb2 hi ht h).mono ?_
    rintro e w' ⟨⟨s, rfl⟩, hB⟩
    rw [okB_long f b i t h, Bool.beq_comm]
    exact ⟨⟨s, rfl⟩, hB⟩
  · refine (refGood_short f k n b i l t w hb hb2 ht (by omega)).mono ?_
    rintro e w' ⟨⟨s, rfl⟩, hB⟩
    rw [okB_short f b i t (by omega)]
    exact ⟨⟨s, rfl⟩, hB⟩
end Go.Proofs.Ytfnnakignemifaa
