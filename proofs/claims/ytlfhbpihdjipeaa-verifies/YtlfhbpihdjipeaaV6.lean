import Derived.Test.YtlfhbpihdjipeaaV5
namespace Go.Proofs.Ytlfhbpihdjipeaa
open Go.RowKit

/-- what both ways of Verify answer -/
def Seen (fs : List ByteArray) (ss : List Sc) : Prop := ss.length = fs.length ∧ ∀ (i : Nat) (f : ByteArray), fs[i]? = some f → ∃ s, ss[i]? = some s ∧ Sees f s

theorem refVerify_large (a : Option Addr) (n cap : Nat) (w : World) (hn : 32 < n) (hn2 : n ≤ 140737488355328) : Calls Try.prog 5 #[.slice a n cap] w fun e w' => e = .returned (.tuple #[.slice none 0 0, .int .i64 3]) ∧ w' = w := by
  have h1 : (32 : Int) < (n : Int) := by omega
  go_enter Try.func5, Try.ntmps5
  go_wp2
  go_ret2
  exact ⟨rfl, rfl⟩

set_option maxHeartbeats 2000000 in
theorem refVerify_any (a : Option Addr) (n cap : Nat) (fs : List ByteArray) (ss : List Sc) (w : World) (hn : n ≤ 32) (hl : fs.length = n) (hf : Texts w a fs) (hs : Seen fs ss) :
    Calls Try.prog 5 #[.slice a n cap] w fun e w' => ∃ v L, e = .returned (.tuple #[v, .int .i64 0]) ∧ Below w.heap.size w w' ∧ Scans w' w.heap.size v L ∧ L.map (·.1) = ss := by
  obtain ⟨i36, hi36, hz0, hz1, hz2⟩ := info_parts info36
  have h1 : ¬ (32 : Int) < (n : Int) := by omega
  have HL : Hid (fs.length = n) := hl
  have HF : Hid (Texts w a fs) := hf
  have HS : Hid (Seen fs ss) := hs
  clear hl hf hs
  go_enter Try.func5, Try.ntmps5
  go_wp2_with fail
  go_loopw [4, 5] (fun v ii w' => ∃ (t : Nat) (L : List (Sc × Value)), t ≤ n ∧ ii = .int .i64 t ∧ Below w.heap.size w w' ∧ Hid (L.length = t) ∧ Scans w' w.heap.size v L ∧ Hid (L.map (·.1) = ss.take t)) (fun _ ii _ => (n - intOf ii).toNat)
  case atStart => exact ⟨0, [], by omega, rfl, Below.refl _ _, rfl, Scans.nil _ _, by show _ = _; simp⟩
  case round =>
    obtain ⟨t, L, ht, rfl, hb, LL, hS, LM⟩ := hrel
    have sz := hb.size
    by_cases hlt : t < n
    · obtain ⟨f, hf⟩ : ∃ f, fs[t]? = some f := ⟨_, List.getElem?_eq_getElem (by rw [HL.out]; exact hlt)⟩
      obtain ⟨s, hst, hsee⟩ := HS.out.2 t f hf
      obtain ⟨b, off, rfl, hblt, hcell⟩ := HF.out.pos (by rw [HL.out]; omega)
      have cf : wr.cell? ⟨b, off + t, none⟩ = some (.string f) := by rw [hb.cell (p := ⟨b, off + t, none⟩) hblt]; exact hcell t f hf
      have i1 : (0 : Int) ≤ (t : Int) := by omega
      have i2 : (t : Int) < (n : Int) := by omega
      have LM2 : Hid (∀ u : Value, (L ++ [(s, u)]).map (·.1) = ss.take (t + 1)) := by
        intro u
        rw [List.map_append, LM.out, List.take_add_one, hst]; rfl
      have few := hsee.few
      have HD : Hid (∀ w : World, Calls Try.prog 10 #[.string f] w fun e w' => ∃ v, e = .returned (s.val v) ∧ Below w.heap.size w w' ∧ w'.ownsRow w.heap.size 3 1 v s.xs.length (ivs s.xs)) := hsee.doc
      clear hf hst hsee hcell
      go_wp2_with fail
      refine (HD.out _).mono ?_
      rintro e w1 ⟨u, rfl, hb1, ou⟩
      obtain ⟨au, cu, rfl⟩ := owns_form ou
      have hs1 := hb1.size
      have hrow := owns_below hS.row hb1
      rw [LL.out] at hrow
      clear cf
      go_wp2_with (at_builtin; refine wpList_append_own _ rfl (.tmp 21) (.tmp 23) 24 rfl w.heap.size 36 i36 (.agg z8) 8 80 Try.underlying24 hi36 hz0 hz1 hz2 rfl (by decide) _ _ _ rfl ((hrow.alloc _).alloc _) ⟨w1.heap.size + 1, 0, none⟩ 1 1 (s.cells (.slice au s.xs.length cu)) rfl rfl ?c1 ?c2 ?c3 ?c4 ?c5 ?_)
      case c1 =>
        have hsize : w1.heap.size + 1 = (w1.alloc (.cells (s.cells (.slice au s.xs.length cu)).toArray 36)).heap.size := by simp
        rw [hsize]
        exact World.news_of_block (heap_alloc_new (w1.alloc (.cells (s.cells (.slice au s.xs.length cu)).toArray 36)) _)
      case c2 => intro x hx; simp at hx; rcases hx with rfl | rfl | rfl | rfl | rfl | rfl | rfl | rfl <;> rfl
      case c3 => unfold maxLen; omega
      case c4 => omega
      case c5 => simp; omega
      intro v' w2 hown2 hgrow _
      have HO : Hid (Below w.heap.size w w2) := Below.grown (((hb.trans (hb1.mono sz)).alloc (by omega) _).alloc (by simp; omega) _) hgrow (by simp; omega) (fun g hg => (hrow.lt g hg).1)
      have HS2 : Hid (Scans w2 w.heap.size v' (L ++ [(s, .slice au s.xs.length cu)])) := by
        refine hS.push few ?_ (by omega) ((ou.alloc _).alloc _) hgrow (by rw [LL.out]; exact hown2)
        exact (hb1.alloc (by omega) _).alloc (by simp; omega) _
      have LL2 : Hid ((L ++ [(s, (.slice au s.xs.length cu : Value))]).length = t + 1) := by show _ = _; rw [List.length_append, LL.out]; rfl
      have LM3 : Hid ((L ++ [(s, (.slice au s.xs.length cu : Value))]).map (·.1) = ss.take (t + 1)) := LM2.out _
      clear hown2 hgrow hrow hb hb1 ou hS LM LM2
      go_wp2_with fail
      go_roundw
      case rel => exact ⟨t + 1, _, by omega, by go_num, HO.out, LL2, HS2.out, LM3⟩
      case measure => simp [intOf]; omega
    · obtain rfl : t = n := by omega
      go_wp2_with fail
      go_ret2
      refine ⟨_, _, rfl, hb, hS, ?_⟩
      rw [LM.out, List.take_of_length_le (by rw [HS.out.1, HL.out]; exact Nat.le_refl _)]
end Go.Proofs.Ytlfhbpihdjipeaa
