import Derived.Test.YtlaoaiffgbdnpaaR2
import Derived.Test.YtlaoaiffgbdnpaaMix1
import Derived.Test.YtlaoaiffgbdnpaaGm
namespace Go.Proofs.Ytlaoaiffgbdnpaa
open Go.RowKit
set_option linter.unusedVariables false

theorem i64_xor_small (a b : Nat) (ha : a < 32) (hb : b < 32) : bits .xor .i64 (a : Int) (b : Int) = ((a ^^^ b : Nat) : Int) := by
  have hx := Gf.xor_lt32 a b ha hb
  show IntKind.i64.wrap ((BitVec.ofInt 64 (a : Int) ^^^ BitVec.ofInt 64 (b : Int)).toNat : Int) = _
  rw [BitVec.toNat_xor, ofInt_u64 a (by omega), ofInt_u64 b (by omega)]
  simp [IntKind.wrap, IntKind.bits, IntKind.signed]
  omega

theorem refDiv_one (b : Nat) (w : World) (hb : b < 256) (h0 : b ≠ 0) :
    Calls Try.prog 12 #[.int .u8 1, .int .u8 b] w fun e w' => e = .returned (.tuple #[.int .u8 (Gf.gdiv 1 b : Nat), .int .i64 0]) ∧ Below w.heap.size w w' := refDiv_any 1 b w (by decide) hb h0
theorem div_one (b : Nat) (w : World) (hb : b < 256) (h0 : b ≠ 0) :
    Calls Try.prog 11 #[.int .u8 1, .int .u8 b] w fun e w' => e = .returned (.tuple #[.int .u8 (Gf.gdiv 1 b : Nat), .int .i64 0]) ∧ w' = w := div_any 1 b w (by decide) hb h0

set_option maxHeartbeats 400000 in
theorem entry_any (k i j : Nat) (w : World) (hk : k ≤ 32) (hi : i < 32) (hj : j < k) :
    Calls Try.prog 32 #[.int .i64 k, .int .i64 i, .int .i64 j] w fun e w' => e = .returned (.int .u8 (Gf.genEntry k i j : Nat)) ∧ Below w.heap.size w w' := by
  by_cases h1 : i < k
  · by_cases h2 : i = j
    · have HV : Hid (Gf.genEntry k i j = 1) := by show _ = _; unfold Gf.genEntry; rw [if_pos h1, if_pos h2]
      have hb : ((i : Int) == (j : Int)) = true := by rw [beq_iff_eq]; omega
      have H2 : Hid (i = j) := h2
      clear h2
      go_enter Try.func32, Try.ntmps32
      go_wp2
      go_ret
      exact ⟨ret_u8 (by rw [HV.out]; rfl), Below.refl _ _⟩
    · have HV : Hid (Gf.genEntry k i j = 0) := by show _ = _; unfold Gf.genEntry; rw [if_pos h1, if_neg h2]
      have hb : ((i : Int) == (j : Int)) = false := by rw [beq_eq_false_iff_ne]; omega
      go_enter Try.func32, Try.ntmps32
      go_wp2
      go_ret
      exact ⟨ret_u8 (by rw [HV.out]; rfl), Below.refl _ _⟩
  · have HV : Hid (Gf.genEntry k i j = Gf.gdiv 1 (i ^^^ j)) := by show _ = _; unfold Gf.genEntry; rw [if_neg h1]
    have hne := Gf.xor_ne_zero i j (by omega)
    have hl := Gf.xor_lt32 i j hi (by omega)
    have hx : bits .xor .u8 (i : Int) (j : Int) = ((i ^^^ j : Nat) : Int) := u8_xor_nat i j (by omega) (by omega)
    go_enter Try.func32, Try.ntmps32
    go_wp2_with fail
    refine (refDiv_one (i ^^^ j) _ (by omega) hne).mono ?_
    rintro e w1 ⟨rfl, h1⟩
    go_wp2
    go_ret
    exact ⟨ret_u8 (by rw [HV.out]), h1⟩

set_option maxHeartbeats 400000 in
theorem genRow_low (k i : Nat) (w : World) (hk : k ≤ 32) (hi : i < k) :
    Calls Try.prog 33 #[.int .i64 i, .int .i64 k] w fun e w' => e = .returned (.slice (some ⟨w.heap.size, 0, none⟩) k k) ∧ Below w.heap.size w w' ∧ w'.heap.size = w.heap.size + 1 ∧ w'.heap[w.heap.size]? = some (.cells (bvs (Gf.genRow k i)).toArray 5 (0, 0)) := by
  have hmk := fun w => run_make_row' (P := Try.prog) 27 5 (.int .u8 0) 1 Try.underlying27 info5 rfl .i64 .i64 k (by omega) (by omega) w
  have hsz : (madeCells #[.int .u8 0] k).size = k := size_madeCells _ _
  have c0 : (w.alloc (.cells (madeCells #[.int .u8 0] k) 5)).cell? ⟨w.heap.size, i, none⟩ = some (.int .u8 0) := by
    rw [World.cell?_alloc_at _ _ _ _ rfl]
    have : (madeCells #[Value.int .u8 0] k)[i]? = (madeCells #[Value.int .u8 0] k).toList[i]? := by simp
    rw [this, toList_madeCells_one, List.getElem?_replicate, if_pos hi]
  have HA : Hid ((madeCells #[Value.int .u8 0] k).setIfInBounds i (.int .u8 1) = (bvs (Gf.genRow k i)).toArray) := by
    show _ = _
    apply Array.ext'
    rw [Array.toList_setIfInBounds, toList_madeCells_one, Gf.genRow_unit k i hi]
    simp only [bvs, List.map_set, List.map_replicate]
    rfl
  go_enter Try.func33, Try.ntmps33
  go_wp2
  go_ret
  refine ⟨rfl, (Below.refl _ _).alloc (Nat.le_refl _) _, by simp, ?_⟩
  rw [heap_alloc_new, HA.out]

set_option maxHeartbeats 400000 in
theorem genRow_high (k i : Nat) (w : World) (hk : k ≤ 32) (hi : k ≤ i) (hi32 : i < 32) :
    Calls Try.prog 33 #[.int .i64 i, .int .i64 k] w fun e w' => e = .returned (.slice (some ⟨w.heap.size, 0, none⟩) k k) ∧ Below w.heap.size w w' ∧ w'.heap.size = w.heap.size + 1 ∧ w'.heap[w.heap.size]? = some (.cells (bvs (Gf.genRow k i)).toArray 5 (0, 0)) := by
  have hmk := fun w => run_make_row' (P := Try.prog) 27 5 (.int .u8 0) 1 Try.underlying27 info5 rfl .i64 .i64 k (by omega) (by omega) w
  have hd1 : decide ((i : Int) < (k : Int)) = false := decide_eq_false (by omega)
  have hd2 : decide (i < k) = false := decide_eq_false (by omega)
  go_enter Try.func33, Try.ntmps33
  go_wp2
  clear hmk
  go_loopw [18] (fun jj w' => ∃ j : Nat, j ≤ k ∧ jj = .int .i64 j ∧ Below w.heap.size w w' ∧ Hid (w'.heap.size = w.heap.size + 1) ∧ Hid (w'.heap[w.heap.size]? = some (.cells (splice (List.replicate k (.int .u8 0)) 0 (bvs ((Gf.genRow k i).take j))).toArray 5 (0, 0)))) (fun jj _ => (k - intOf jj).toNat)
  case atStart =>
    refine ⟨0, by omega, rfl, (Below.refl _ _).alloc (Nat.le_refl _) _, by show _ = _; simp, ?_⟩
    show _ = _
    rw [heap_alloc_new]
    have : madeCells #[Value.int .u8 0] k = (splice (List.replicate k (Value.int .u8 0)) 0 (bvs ((Gf.genRow k i).take 0))).toArray := by
      apply Array.ext'
      rw [toList_madeCells_one]
      simp [splice, bvs]
    rw [this]
  case round =>
    obtain ⟨j, hj, rfl, hb, hsz, hg⟩ := hrel
    by_cases hlt : j < k
    · have hne := Gf.xor_ne_zero i j (by omega)
      have hl := Gf.xor_lt32 i j hi32 (by omega)
      have hx := i64_xor_small i j hi32 (by omega)
      have htl : (bvs ((Gf.genRow k i).take j)).length = j := by rw [bvs_length, List.length_take, Gf.genRow_length]; omega
      obtain ⟨v0, c0⟩ : ∃ v0, wr.cell? ⟨w.heap.size, j, none⟩ = some v0 := by
        rw [cell_of_row wr _ j _ 5 _ hg.out]
        exact ⟨_, Array.getElem?_eq_getElem (by rw [List.size_toArray, length_splice _ _ _ (by simp; omega)]; simpa using hlt)⟩
      have f0 : wr.frozen? ⟨w.heap.size, j, none⟩ = false := frozen_of_row wr _ _ _ 5 hg.out
      have HG : Hid ((wr.setCell ⟨w.heap.size, j, none⟩ (.int .u8 ((Gf.gdiv 1 (i ^^^ j) : Nat) : Int))).heap[w.heap.size]? = some (.cells (splice (List.replicate k (.int .u8 0)) 0 (bvs ((Gf.genRow k i).take (j + 1)))).toArray 5 (0, 0))) := by
        show _ = _
        rw [heap_setCell_same wr _ _ _ 5 _ hg.out, Gf.genRow_take k i j hlt, bvs_snoc]
        have h1 := splice_snoc (List.replicate k (Value.int .u8 0)) (bvs ((Gf.genRow k i).take j)) 0 (B8 (Gf.genEntry k i j)) (by simp; omega)
        rw [htl, Nat.zero_add] at h1
        have h2 : Gf.genEntry k i j = Gf.gdiv 1 (i ^^^ j) := by unfold Gf.genEntry; rw [if_neg (by omega)]
        rw [← h1, h2]
      have i1 : (0 : Int) ≤ (j : Int) := by omega
      have i2 : (j : Int) < (k : Int) := by omega
      clear htl
      go_wp2_with fail
      refine (div_one (i ^^^ j) _ (by omega) hne).mono ?_
      rintro e w1 ⟨rfl, rfl⟩
      go_wp2
      go_roundw
      case rel => exact ⟨j + 1, by omega, by go_num, hb.setCell (Nat.le_refl _) _, by show _ = _; simpa using hsz.out, HG.out⟩
      case measure => simp [intOf]; omega
    · obtain rfl : j = k := by omega
      have HG : Hid (wr.heap[w.heap.size]? = some (.cells (bvs (Gf.genRow j i)).toArray 5 (0, 0))) := by
        show _ = _
        rw [hg.out, List.take_of_length_le (by rw [Gf.genRow_length]; exact Nat.le_refl _)]
        have : splice (List.replicate j (Value.int .u8 0)) 0 (bvs (Gf.genRow j i)) = bvs (Gf.genRow j i) := by
          simp only [splice, List.take_zero, List.nil_append]
          rw [List.drop_eq_nil_of_le (by simp [bvs_length, Gf.genRow_length]), List.append_nil]
        rw [this]
      go_wp2
      go_ret
      exact ⟨rfl, hb, hsz.out, HG.out⟩

theorem genRow_any (k i : Nat) (w : World) (hk : k ≤ 32) (hi32 : i < 32) :
    Calls Try.prog 33 #[.int .i64 i, .int .i64 k] w fun e w' => e = .returned (.slice (some ⟨w.heap.size, 0, none⟩) k k) ∧ Below w.heap.size w w' ∧ w'.heap.size = w.heap.size + 1 ∧ w'.heap[w.heap.size]? = some (.cells (bvs (Gf.genRow k i)).toArray 5 (0, 0)) := by
  by_cases h : i < k
  · exact genRow_low k i w hk h
  · exact genRow_high k i w hk (by omega) hi32

/-- a matrix in memory of its own: the list of its rows, each in a block of its own -/
structure Mat (w : World) (B : Nat) (v : Value) (vs : List Value) (M : List (List Nat)) : Prop where
  top : w.ownsRow B 27 1 v M.length vs
  rows : ∀ (i : Nat) (r : Value) (x : List Nat), vs[i]? = some r → M[i]? = some x → w.ownsRow B 5 1 r x.length (bvs x)
  dist : ∀ (i j : Nat) (r r' : Value) (g : Nat), i ≠ j → vs[i]? = some r → vs[j]? = some r' → r.ownBlock = some g → r'.ownBlock ≠ some g
theorem Mat.below {w w' : World} {B : Nat} {v : Value} {vs : List Value} {M : List (List Nat)} (h : Mat w B v vs M) (hb : Below w.heap.size w w') : Mat w' B v vs M :=
  ⟨owns_below h.top hb, fun i r x hr hx => owns_below (h.rows i r x hr hx) hb, h.dist⟩
theorem Mat.length {w : World} {B : Nat} {v : Value} {vs : List Value} {M : List (List Nat)} (h : Mat w B v vs M) : vs.length = M.length := by have := h.top.1; omega
theorem Mat.nil (w : World) (B : Nat) : Mat w B (.slice none 0 0) [] [] := ⟨World.ownsRow_nil _ _ _ _, fun i r x hr => by simp at hr, fun i j r r' g _ hr => by simp at hr⟩

/-- a new row is appended -/
theorem Mat.push {w w' : World} {B : Nat} {v v' : Value} {vs : List Value} {M : List (List Nat)} {r : Value} {x : List Nat} (h : Mat w B v vs M) (hr : w.ownsRow B 5 1 r x.length (bvs x))
    (hd : ∀ (i : Nat) (r' : Value) (g : Nat), vs[i]? = some r' → r'.ownBlock = some g → r.ownBlock ≠ some g)
    (ho : w'.ownsRow B 27 1 v' (M.length + 1) (vs ++ [r])) (hg : w.grownBy w' v.ownBlock) : Mat w' B v' (vs ++ [r]) (M ++ [x]) := by
  have hk : ∀ (r' : Value) (n : Nat) (xs : List Value), w.ownsRow B 5 1 r' n xs → w'.ownsRow B 5 1 r' n xs := by
    intro r' n xs hr'
    by_cases hn : r'.ownBlock = none
    · exact hr'.kept hg (.inl hn)
    · obtain ⟨g, hgg⟩ := Option.ne_none_iff_exists'.1 hn
      exact hr'.kept hg (.inr fun e => owns_types hr' h.top (by decide) hgg (e ▸ hgg))
  have hl := h.length
  refine ⟨by rw [List.length_append]; exact ho, ?_, ?_⟩
  · intro i r' x' hi hx
    by_cases hlt : i < M.length
    · rw [List.getElem?_append_left (by omega)] at hi hx
      exact hk _ _ _ (h.rows i r' x' hi hx)
    · rw [List.getElem?_append_right (by omega)] at hi hx
      have e0 : i - M.length = 0 := by
        rcases Nat.eq_zero_or_pos (i - M.length) with h0 | h0
        · exact h0
        · rw [List.getElem?_eq_none (by simp; omega)] at hx; cases hx
      rw [hl, e0] at hi
      rw [e0] at hx
      simp at hi hx
      subst hi; subst hx
      exact hk _ _ _ hr
  · intro i j r1 r2 g hij h1 h2 hb1
    have cases2 : ∀ (t : Nat) (q : Value), (vs ++ [r])[t]? = some q → (t < vs.length ∧ vs[t]? = some q) ∨ (t = vs.length ∧ q = r) := by
      intro t q ht
      by_cases hlt : t < vs.length
      · rw [List.getElem?_append_left hlt] at ht; exact .inl ⟨hlt, ht⟩
      · rw [List.getElem?_append_right (by omega)] at ht
        have e0 : t - vs.length = 0 := by
          rcases Nat.eq_zero_or_pos (t - vs.length) with h0 | h0
          · exact h0
          · rw [List.getElem?_eq_none (by simp; omega)] at ht; cases ht
        rw [e0] at ht
        simp at ht
        exact .inr ⟨by omega, ht.symm⟩
    rcases cases2 i r1 h1 with ⟨_, a⟩ | ⟨a1, rfl⟩ <;> rcases cases2 j r2 h2 with ⟨_, b⟩ | ⟨b1, rfl⟩
    · exact h.dist i j r1 r2 g hij a b hb1
    · exact hd i r1 g a hb1
    · intro hb2; exact hd j r2 g b hb2 hb1
    · omega
end Go.Proofs.Ytlaoaiffgbdnpaa
