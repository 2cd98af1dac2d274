import Derived.Test.YtlaoaiffgbdnpaaGen2
namespace Go.Proofs.Ytlaoaiffgbdnpaa
open Go.RowKit
set_option linter.unusedVariables false

theorem Mat.kept {w w' : World} {B : Nat} {v : Value} {vs : List Value} {M : List (List Nat)} {row : Option Nat} (h : Mat w B v vs M) (hg : w.grownBy w' row)
    (hr : ∀ g, row = some g → v.ownBlock ≠ some g ∧ ∀ (i : Nat) (r : Value), vs[i]? = some r → r.ownBlock ≠ some g) : Mat w' B v vs M := by
  have key : ∀ (u : Value) (e sz n : Nat) (xs : List Value), w.ownsRow B e sz u n xs → (∀ g, row = some g → u.ownBlock ≠ some g) → w'.ownsRow B e sz u n xs := by
    intro u e sz n xs hu hne
    cases hrow : row with
    | none =>
      rw [hrow] at hg
      by_cases hn : u.ownBlock = none
      · exact hu.kept hg (.inl hn)
      · exact hu.kept hg (.inr hn)
    | some g =>
      rw [hrow] at hg
      exact hu.kept hg (.inr (hne g hrow))
  exact ⟨key _ _ _ _ _ h.top (fun g e => (hr g e).1), fun i r x hr' hx => key _ _ _ _ _ (h.rows i r x hr' hx) (fun g e => (hr g e).2 i r hr'), h.dist⟩
theorem Mat.mono {w : World} {B B' : Nat} {v : Value} {vs : List Value} {M : List (List Nat)} (h : Mat w B v vs M) (hB : B' ≤ B) : Mat w B' v vs M :=
  ⟨owns_mono h.top hB, fun i r x hr hx => owns_mono (h.rows i r x hr hx) hB, h.dist⟩
theorem Mat.rowAt {w : World} {B : Nat} {v : Value} {vs : List Value} {M : List (List Nat)} (h : Mat w B v vs M) {i : Nat} {r : Value} (hr : vs[i]? = some r) : ∃ x, M[i]? = some x ∧ w.ownsRow B 5 1 r x.length (bvs x) := by
  have hi : i < M.length := by have := (List.getElem?_eq_some_iff.1 hr).1; rw [h.length] at this; exact this
  exact ⟨_, List.getElem?_eq_getElem hi, h.rows i r _ hr (List.getElem?_eq_getElem hi)⟩
theorem Mat.lt {w : World} {B : Nat} {v : Value} {vs : List Value} {M : List (List Nat)} (h : Mat w B v vs M) {i : Nat} {r : Value} {g : Nat} (hr : vs[i]? = some r) (hg : r.ownBlock = some g) : B ≤ g ∧ g < w.heap.size := by
  obtain ⟨x, _, ho⟩ := h.rowAt hr
  exact ho.lt g hg

set_option maxHeartbeats 1000000 in
theorem refGen_good (k n : Nat) (w : World) (hk : 1 ≤ k) (hkn : k ≤ n) (hn : n ≤ 32) :
    Calls Try.prog 18 #[.int .i64 k, .int .i64 n] w fun e w' => ∃ v vs, e = .returned (.tuple #[v, .int .i64 0]) ∧ Below w.heap.size w w' ∧ Mat w' w.heap.size v vs (Gf.gen k n) := by
  have d1 : decide ((k : Int) < 1) = false := decide_eq_false (by omega)
  have d2 : decide ((n : Int) < (k : Int)) = false := decide_eq_false (by omega)
  have d2' : decide (n < k) = false := decide_eq_false (by omega)
  have d3 : decide ((32 : Int) < (n : Int)) = false := decide_eq_false (by omega)
  obtain ⟨i5, hi5, hz50, hz51, hz52⟩ := info_parts info5
  obtain ⟨i27, hi27, hz270, hz271, hz272⟩ := info_parts info27
  go_enter Try.func18, Try.ntmps18
  go_wp2
  go_loopw [6, 7] (fun m ii w' => ∃ (t : Nat) (vs : List Value), t ≤ n ∧ ii = .int .i64 t ∧ Below w.heap.size w w' ∧ Mat w' w.heap.size m vs (Gf.gen k t)) (fun _ ii _ => (n - intOf ii).toNat)
  case atStart => exact ⟨0, [], by omega, rfl, Below.refl _ _, Mat.nil _ _⟩
  case round =>
    obtain ⟨t, vs, ht, rfl, hb, hM⟩ := hrel
    by_cases hlt : t < n
    · obtain ⟨Br, HBr, hBrw⟩ : ∃ Br, Hid (∀ (i : Nat) (r : Value) (g : Nat), vs[i]? = some r → r.ownBlock = some g → g < Br) ∧ Br ≤ wr.heap.size ∧ w.heap.size ≤ Br := ⟨wr.heap.size, fun i r g hr hg => (hM.lt hr hg).2, Nat.le_refl _, hb.size⟩
      obtain ⟨hBr1, hBr2⟩ := hBrw
      go_wp2_with fail
      go_loopw [8, 9] (fun r jj w' => ∃ q : Nat, q ≤ k ∧ jj = .int .i64 q ∧ Below w.heap.size w w' ∧ Br ≤ w'.heap.size ∧ Mat w' w.heap.size u6 vs (Gf.gen k t) ∧ w'.ownsRow Br 5 1 r q (bvs ((Gf.genRow k t).take q))) (fun _ jj _ => (k - intOf jj).toNat)
      case atStart => exact ⟨0, by omega, rfl, hb, hBr1, hM, World.ownsRow_nil _ _ _ _⟩
      case round =>
        clear hM hb hBr1
        obtain ⟨q, hq, rfl, hb, hBr1, hM, hown⟩ := hrel
        by_cases hqk : q < k
        · go_wp2_with fail
          refine (entry_any k t q _ (by omega) (by omega) hqk).mono ?_
          rintro e w1 ⟨rfl, h1⟩
          have hown1 := owns_below hown h1
          have hM1 := hM.below h1
          have sz := hb.size
          have sz1 := h1.size
          clear hown hM
          go_wp2_with (at_builtin; refine wpList_append_own _ rfl _ _ 27 rfl Br 5 i5 (.int .u8 0) 1 1 Try.underlying27 hi5 hz50 hz51 hz52 rfl (by decide) _ _ _ rfl (hown1.alloc _) ⟨w1.heap.size, 0, none⟩ 1 1 [.int .u8 ((Gf.genEntry k t q : Nat) : Int)] rfl rfl ?c1 ?c2 ?c3 ?c4 ?c5 ?_)
          case c1 => exact cell_one_new _ _ _
          case c2 => intro u hu; simp at hu; subst hu; rfl
          case c3 => unfold maxLen; omega
          case c4 => omega
          case c5 => simp; omega
          intro v' w2 hown2 hgrow _
          have hb2 : Below w.heap.size w w2 := by
            refine Below.grown (((hb.trans (h1.mono sz)).alloc (by omega) _)) hgrow (by simp; omega) ?_
            intro g hg
            have := (hown1.lt g hg).1
            omega
          have hM2 : Mat w2 w.heap.size u6 vs (Gf.gen k t) := by
            refine (hM1.below ((Below.refl _ _).alloc (Nat.le_refl _) _)).kept hgrow ?_
            intro g hg
            refine ⟨fun e => owns_types hown1 hM1.top (by decide) hg e, ?_⟩
            intro i r hr e
            have a := HBr.out i r g hr e
            have b := (hown1.lt g hg).1
            omega
          have HO : Hid (w2.ownsRow Br 5 1 v' (q + 1) (bvs ((Gf.genRow k t).take (q + 1)))) := by
            show World.ownsRow _ _ _ _ _ _ _
            rw [Gf.genRow_take k t q hqk, bvs_snoc]; exact hown2
          have sz2 : Br ≤ w2.heap.size := by have := hgrow.size; simp at this; omega
          clear hown2 hgrow hown1 hb h1 hM1 hBr1 sz sz1
          go_wp2
          go_roundw
          case rel => exact ⟨q + 1, by omega, by go_num, hb2, sz2, hM2, HO.out⟩
          case measure => simp [intOf]; omega
        · obtain rfl : q = k := by omega
          have hfull : (Gf.genRow q t).take q = Gf.genRow q t := List.take_of_length_le (by rw [Gf.genRow_length]; exact Nat.le_refl _)
          rw [hfull] at hown
          have sz := hb.size
          have hl : (Gf.gen q t).length = t := Gf.gen_length q t
          have htop := hM.top
          rw [hl] at htop
          clear hfull hl
          obtain ⟨ra, rc, hu8⟩ := owns_form hown
          subst hu8
          go_wp2_with (at_builtin; refine wpList_append_own _ rfl (.tmp 40) (.tmp 42) 38 rfl w.heap.size 27 i27 (.slice none 0 0) 1 24 Try.underlying38 hi27 hz270 hz271 hz272 rfl (by decide) _ _ _ rfl (htop.alloc _) ⟨wr.heap.size, 0, none⟩ 1 1 [.slice ra q rc] rfl rfl ?e1 ?e2 ?e3 ?e4 ?e5 ?_)
          case e1 => exact cell_one_new _ _ _
          case e2 =>
            intro u hu; simp at hu; subst hu; rfl
          case e3 => unfold maxLen; omega
          case e4 => omega
          case e5 => simp; omega
          intro v' w2 hown2 hgrow _
          have hb2 : Below w.heap.size w w2 := by
            refine Below.grown (hb.alloc (by omega) _) hgrow (by simp; omega) ?_
            intro g hg
            exact (htop.lt g hg).1
          have hM2 : Mat w2 w.heap.size v' (vs ++ [.slice ra q rc]) (Gf.gen q (t + 1)) := by
            rw [Gf.gen_succ]
            refine (hM.below ((Below.refl _ _).alloc (Nat.le_refl _) _)).push (r := .slice ra q rc) (x := Gf.genRow q t) ?_ ?_ ?_ hgrow
            · rw [Gf.genRow_length]; exact owns_mono (hown.alloc _) hBr2
            · intro i r' g hr hg hg'
              have a := HBr.out i r' g hr hg
              have b := (hown.lt g hg').1
              omega
            · rw [Gf.gen_length]; exact hown2
          clear hown2 hgrow hown hb hM htop sz
          go_wp2
          go_roundw
          case rel => exact ⟨t + 1, _, by omega, by go_num, hb2, hM2⟩
          case measure => simp [intOf]; omega
    · obtain rfl : t = n := by omega
      go_wp2
      go_ret2
      exact ⟨_, _, rfl, hb, hM⟩
end Go.Proofs.Ytlaoaiffgbdnpaa
