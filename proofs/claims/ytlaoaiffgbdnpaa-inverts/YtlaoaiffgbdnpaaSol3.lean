import Derived.Test.YtlaoaiffgbdnpaaSol2
namespace Go.Proofs.Ytlaoaiffgbdnpaa
open Go.RowKit
set_option linter.unusedVariables false

set_option maxHeartbeats 400000 in
theorem refInvert_size (a : Option Addr) (n c : Nat) (w : World) (hn : n < 1 ∨ 32 < n) (hl : n ≤ 140737488355328) :
    Calls Try.prog 22 #[.slice a n c] w fun e w' => e = .returned (.tuple #[.slice none 0 0, .int .i64 1]) ∧ w' = w := by
  by_cases h1 : n < 1
  · have d1 : decide ((n : Int) < 1) = true := decide_eq_true (by omega)
    go_enter Try.func22, Try.ntmps22
    go_wp2
    go_ret2
    exact ⟨rfl, rfl⟩
  · have d1 : decide ((n : Int) < 1) = false := decide_eq_false (by omega)
    have d2 : decide ((32 : Int) < (n : Int)) = true := decide_eq_true (by omega)
    go_enter Try.func22, Try.ntmps22
    go_wp2
    go_ret2
    exact ⟨rfl, rfl⟩

/-- the equations that have been laid so far -/
structure PEqs (w : World) (B n t : Nat) (lv : Value) (qs : List (Value × Value)) (M : List (List Nat)) : Prop where
  top : w.ownsRow B 63 2 lv t (flatQ qs)
  len : qs.length = t
  rows : ∀ (k : Nat) (a b : Value), qs[k]? = some (a, b) → w.ownsRow B 5 1 a n (bvs (Gf.row M k)) ∧ w.ownsRow B 5 1 b n (bvs ((List.replicate n 0).set k 1))
theorem PEqs.below {w w' : World} {B n t : Nat} {lv : Value} {qs : List (Value × Value)} {M : List (List Nat)} (h : PEqs w B n t lv qs M) (hb : Below w.heap.size w w') : PEqs w' B n t lv qs M :=
  ⟨owns_below h.top hb, h.len, fun k a b hk => ⟨owns_below (h.rows k a b hk).1 hb, owns_below (h.rows k a b hk).2 hb⟩⟩
theorem PEqs.push {w w' : World} {B n t : Nat} {lv lv' : Value} {qs : List (Value × Value)} {M : List (List Nat)} (h : PEqs w B n t lv qs M) (a b : Value) (ha : w.ownsRow B 5 1 a n (bvs (Gf.row M t))) (hb : w.ownsRow B 5 1 b n (bvs ((List.replicate n 0).set t 1)))
    (ho : w'.ownsRow B 63 2 lv' (t + 1) (flatQ qs ++ [a, b])) (hg : w.grownBy w' lv.ownBlock) : PEqs w' B n (t + 1) lv' (qs ++ [(a, b)]) M := by
  have key : ∀ (v : Value) (m : Nat) (xs : List Value), w.ownsRow B 5 1 v m xs → w'.ownsRow B 5 1 v m xs := by
    intro v m xs hv
    by_cases hn : v.ownBlock = none
    · exact hv.kept hg (.inl hn)
    · obtain ⟨g, hgg⟩ := Option.ne_none_iff_exists'.1 hn
      exact hv.kept hg (.inr fun e => owns_types hv h.top (by decide) hgg (e ▸ hgg))
  refine ⟨by rw [flatQ_snoc]; exact ho, by simp [h.len], ?_⟩
  intro k c d hk
  by_cases hlt : k < t
  · rw [List.getElem?_append_left (by rw [h.len]; exact hlt)] at hk
    exact ⟨key _ _ _ (h.rows k c d hk).1, key _ _ _ (h.rows k c d hk).2⟩
  · rw [List.getElem?_append_right (by rw [h.len]; omega), h.len] at hk
    have e0 : k - t = 0 := by
      rcases Nat.eq_zero_or_pos (k - t) with h0 | h0
      · exact h0
      · rw [List.getElem?_eq_none (by simp; omega)] at hk; cases hk
    rw [e0] at hk
    simp at hk
    obtain ⟨rfl, rfl⟩ := hk
    obtain rfl : k = t := by omega
    exact ⟨key _ _ _ ha, key _ _ _ hb⟩
theorem PEqs.eqs {w : World} {B n A cap : Nat} {qs : List (Value × Value)} {M : List (List Nat)} (h : PEqs w B n n (.slice (some ⟨A, 0, none⟩) n cap) qs M) (hM : Gf.Tbl n n M) : Eqs w B A cap n qs (Gf.aug n M) := by
  refine ⟨h.top, h.len, Gf.aug_tbl hM, ?_⟩
  intro k a b hk
  have hkn : k < n := by have := (List.getElem?_eq_some_iff.1 hk).1; rw [h.len] at this; exact this
  have hl := (hM.2 k hkn).1
  rw [Gf.aug_row n M k hkn]
  have e1 : (Gf.augRow n (Gf.row M k) k).take n = Gf.row M k := by unfold Gf.augRow; rw [List.take_left' hl]
  have e2 : (Gf.augRow n (Gf.row M k) k).drop n = (List.replicate n 0).set k 1 := by unfold Gf.augRow; rw [List.drop_left' hl]
  rw [e1, e2]
  exact h.rows k a b hk

set_option maxHeartbeats 2000000 in
theorem refInvert_any (gm off n c : Nat) (vs : List Value) (M : List (List Nat)) (w : World) (hn : 1 ≤ n) (hn2 : n ≤ 32) (hV : View w gm off n vs M) (hby : ∀ x ∈ M, ∀ y ∈ x, y < 256) :
    Calls Try.prog 22 #[.slice (some ⟨gm, off, none⟩) n c] w fun e w' => Below w.heap.size w w' ∧
      ((e = .returned (.tuple #[.slice none 0 0, .int .i64 1]) ∧ ¬ ∀ x ∈ M, x.length = n) ∨
      ((∀ x ∈ M, x.length = n) ∧ ∃ T g vs' X, e = .returned (.tuple #[.slice (some ⟨g, 0, none⟩) n n, .int .i64 0]) ∧ Gf.Fwd n (n + n) n (Gf.aug n M) T ∧ View w' g 0 n vs' X ∧ Gf.Tbl n n X ∧ ∀ k, k < n → Gf.row X k = Gf.backRow n k T X) ∨
      ((∀ x ∈ M, x.length = n) ∧ ∃ T k, e = .returned (.tuple #[.slice none 0 0, .int .i64 2]) ∧ Gf.Fwd n (n + n) k (Gf.aug n M) T ∧ k < n ∧ ∀ r, k ≤ r → r < n → Gf.ent (Gf.row T r) k = 0)) := by
  have hmk := fun w => run_make_row' (P := Try.prog) 27 5 (.int .u8 0) 1 Try.underlying27 info5 rfl .i64 .i64 n (by omega) (by omega) w
  have d1 : decide ((n : Int) < 1) = false := decide_eq_false (by omega)
  have d2 : decide ((32 : Int) < (n : Int)) = false := decide_eq_false (by omega)
  obtain ⟨i63, hi63, hz0, hz1, hz2⟩ := info_parts info63
  have HBY : Hid (∀ x ∈ M, ∀ y ∈ x, y < 256) := hby
  clear hby
  go_enter Try.func22, Try.ntmps22
  go_wp2
  go_loopw [5, 6] (fun lv ii w' => ∃ (t : Nat) (qs : List (Value × Value)), t ≤ n ∧ ii = .int .i64 t ∧ Below w.heap.size w w' ∧ PEqs w' w.heap.size n t lv qs M ∧ Hid (∀ k x, k < t → M[k]? = some x → x.length = n)) (fun _ ii _ => (n - intOf ii).toNat)
  case atStart => exact ⟨0, [], by omega, rfl, Below.refl _ _, ⟨World.ownsRow_nil _ _ _ _, rfl, fun k a b hk => by simp at hk⟩, fun k x hk => by omega⟩
  case round =>
    obtain ⟨t, qs, ht, rfl, hb, hP, hz⟩ := hrel
    have sz := hb.size
    have hV' := hV.below hb
    by_cases hlt : t < n
    · obtain ⟨a, cp, x, hx, _, ca, cel, hxc, hxl⟩ := hV'.at hlt
      have i1 : (0 : Int) ≤ (t : Int) := by omega
      have i2 : (t : Int) < (n : Int) := by omega
      by_cases hxn : x.length = n
      · have hne : ((n : Int) != (n : Int)) = false := by simp
        have hz' : Hid (∀ k y, k < t + 1 → M[k]? = some y → y.length = n) := by
          intro k y hk hy
          by_cases e : k = t
          · subst e; rw [hx] at hy; cases hy; exact hxn
          · exact hz.out k y (by omega) hy
        have hrow : Hid (Gf.row M t = x) := by show _ = _; simp [Gf.row, hx]
        rw [hxn] at ca
        have HXN : Hid (x.length = n) := hxn
        have hA0 : Hid ((madeCells #[Value.int .u8 0] n).setIfInBounds t (.int .u8 1) = (bvs ((List.replicate n 0).set t 1)).toArray) := by
          show _ = _
          apply Array.ext'
          rw [Array.toList_setIfInBounds, toList_madeCells_one]
          simp only [bvs, List.map_set, List.map_replicate]
          rfl
        have hcz : ∀ w0 : World, (w0.alloc (.cells (madeCells #[.int .u8 0] n) 5)).cell? ⟨w0.heap.size, t, none⟩ = some (.int .u8 0) := by
          intro w0
          rw [World.cell?_alloc_at _ _ _ _ rfl]
          have : (madeCells #[Value.int .u8 0] n)[t]? = (madeCells #[Value.int .u8 0] n).toList[t]? := by simp
          rw [this, toList_madeCells_one, List.getElem?_replicate, if_pos hlt]
        clear hxn hz hx
        have hgl := World.block_lt_of_cell? _ _ ca
        simp only at hgl
        go_wp2_with fail
        generalize hw1 : wr.alloc (.cells ((madeCells #[.int .u8 0] n).setIfInBounds t (.int .u8 1)) 5) = w1
        have b1 : Below wr.heap.size wr w1 := by rw [← hw1]; exact (Below.refl _ _).alloc (Nat.le_refl _) _
        have g1 : w1.heap[wr.heap.size]? = some (.cells (bvs ((List.replicate n 0).set t 1)).toArray 5 (0, 0)) := by rw [← hw1, heap_alloc_new, hA0.out]
        have s1 : w1.heap.size = wr.heap.size + 1 := by rw [← hw1]; simp
        have s1' : wr.heap.size < w1.heap.size := by omega
        clear hw1 s1 hcz hA0
        refine (own_any a n cp x _ (by omega) HXN.out (cel.keep b1)).mono ?_
        rintro e w2 ⟨rfl, b2, g2⟩
        have s2 := block_lt g2
        have b02 : Below w.heap.size w w2 := (hb.trans (b1.mono sz)).trans (b2.mono (by omega))
        have hP2 := (hP.below b1).below b2
        have oL : w2.ownsRow w.heap.size 5 1 (.slice (some ⟨w1.heap.size, 0, none⟩) n n) n (bvs (Gf.row M t)) := by rw [hrow.out]; exact owns_block g2 (by omega) HXN.out (by unfold maxLen; omega)
        have oR : w2.ownsRow w.heap.size 5 1 (.slice (some ⟨wr.heap.size, 0, none⟩) n n) n (bvs ((List.replicate n 0).set t 1)) := owns_block (by rw [b2.block _ s1']; exact g1) (by omega) (by simp) (by unfold maxLen; omega)
        have htop := hP2.top
        clear g1 g2 b1 b2 hP hb ca cel hV'
        go_wp2_with (at_builtin; refine wpList_append_own _ rfl (.tmp 41) (.tmp 45) 61 rfl w.heap.size 63 i63 (.agg #[.slice none 0 0, .slice none 0 0]) 2 48 Try.underlying61 hi63 hz0 hz1 hz2 rfl (by decide) _ _ _ rfl (htop.alloc _) ⟨w2.heap.size, 0, none⟩ 1 1 [.slice (some ⟨w1.heap.size, 0, none⟩) n n, .slice (some ⟨wr.heap.size, 0, none⟩) n n] rfl rfl ?c1 ?c2 ?c3 ?c4 ?c5 ?_)
        case c1 => exact World.news_of_block (heap_alloc_new w2 _)
        case c2 => intro u hu; simp at hu; rcases hu with rfl | rfl <;> rfl
        case c3 => unfold maxLen; omega
        case c4 => omega
        case c5 => simp; omega
        intro v' w3 ho3 hg3 _
        have b03 : Below w.heap.size w w3 := Below.grown (b02.alloc (by omega) _) hg3 (by simp; omega) (fun g hg => (htop.lt g hg).1)
        have hP3 := (hP2.below (w' := w2.alloc (.cells #[.slice (some ⟨w1.heap.size, 0, none⟩) n n, .slice (some ⟨wr.heap.size, 0, none⟩) n n] 63)) ((Below.refl _ _).alloc (Nat.le_refl _) _)).push _ _ (oL.alloc _) (oR.alloc _) ho3 hg3
        clear ho3 hg3 oL oR hP2 b02 htop
        go_wp2_with fail
        go_roundw
        case rel => exact ⟨t + 1, _, by omega, by go_num, b03, hP3, hz'⟩
        case measure => simp [intOf]; omega
      · have hne : ((x.length : Int) != (n : Int)) = true := by rw [bne_iff_ne]; omega
        have hbad : ¬ ∀ y ∈ M, y.length = n := fun h => hxn (h x (List.mem_of_getElem? hx))
        clear hxn hz hx
        go_wp2_with fail
        go_ret2
        exact ⟨hb, .inl ⟨rfl, hbad⟩⟩
    · obtain rfl : t = n := by omega
      have hall : ∀ x ∈ M, x.length = t := by
        intro x hx
        obtain ⟨k, hk⟩ := List.getElem?_of_mem hx
        exact hz.out k x (by have := (List.getElem?_eq_some_iff.1 hk).1; rw [hV.lenM] at this; exact this) hk
      have hMt : Gf.Tbl t t M := by
        refine ⟨hV.lenM, ?_⟩
        intro k hk
        obtain ⟨x, hx⟩ : ∃ x, M[k]? = some x := ⟨_, List.getElem?_eq_getElem (by rw [hV.lenM]; exact hk)⟩
        have : Gf.row M k = x := by simp [Gf.row, hx]
        rw [this]
        exact ⟨hall x (List.mem_of_getElem? hx), HBY.out x (List.mem_of_getElem? hx)⟩
      obtain ⟨A, cap, hu⟩ : ∃ A cap, u5 = .slice (some ⟨A, 0, none⟩) t cap := by
        rcases hP.top.2 with ⟨_, h0⟩ | ⟨g, cap, cur, h, _⟩
        · omega
        · exact ⟨g, cap, h⟩
      subst hu
      have hEq := hP.eqs hMt
      have HALL : Hid (∀ x ∈ M, x.length = t) := hall
      clear hP hall hz
      go_wp2_with fail
      refine (solve_any w.heap.size A cap t qs _ _ hn hn2 (by omega) hEq).mono ?_
      rintro e w2 (⟨T, g, vs', X, rfl, b2, h1, h2, h3, h4⟩ | ⟨T, k, rfl, b2, h1, h2, h3⟩)
      · have b02 : Below w.heap.size w w2 := hb.trans b2
        clear hEq b2 hb
        go_wp2_with fail
        go_ret2
        exact ⟨b02, .inr (.inl ⟨HALL.out, T, g, vs', X, rfl, h1, h2, h3, h4⟩)⟩
      · have b02 : Below w.heap.size w w2 := hb.trans b2
        clear hEq b2 hb
        go_wp2_with fail
        go_ret2
        exact ⟨b02, .inr (.inr ⟨HALL.out, T, k, rfl, h1, h2, h3⟩)⟩
end Go.Proofs.Ytlaoaiffgbdnpaa
