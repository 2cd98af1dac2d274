import Derived.Test.YtlaoaiffgbdnpaaGl
namespace Gf
def unitCols (n i : Nat) (T : List (List Nat)) : Prop := ∀ r, r < n → ∀ j, j < i → ent (row T r) j = if r = j then 1 else 0

/-- the rows ahead of m are cleared in the column i -/
def clearGo (i : Nat) (T : List (List Nat)) : Nat → List (List Nat)
  | 0 => T
  | m + 1 => if m = i then clearGo i T m else (clearGo i T m).set m (mulAdd (row (clearGo i T m) m) (row (clearGo i T m) i) (ent (row (clearGo i T m) m) i))
theorem clearGo_tbl {n W : Nat} {T : List (List Nat)} (h : Tbl n W T) {i : Nat} (hi : i < n) (m : Nat) (hm : m ≤ n) : Tbl n W (clearGo i T m) := by
  induction m with
  | zero => exact h
  | succ m ih =>
    have hm' := ih (by omega)
    unfold clearGo
    split
    · exact hm'
    · exact hm'.set (bytes_mulAdd (hm'.2 m (by omega)) (hm'.2 i hi) _)
theorem clearGo_row {n W : Nat} {T : List (List Nat)} (h : Tbl n W T) {i : Nat} (hi : i < n) (m : Nat) (hm : m ≤ n) (r : Nat) :
    row (clearGo i T m) r = if r < m ∧ r ≠ i then mulAdd (row T r) (row T i) (ent (row T r) i) else row T r := by
  induction m generalizing r with
  | zero => simp [clearGo]
  | succ m ih =>
    have ht := clearGo_tbl h hi m (by omega)
    have ri : row (clearGo i T m) i = row T i := by rw [ih (by omega)]; simp
    unfold clearGo
    by_cases e : m = i
    · rw [if_pos e, ih (by omega)]
      by_cases h1 : r < m ∧ r ≠ i
      · rw [if_pos h1, if_pos ⟨by omega, h1.2⟩]
      · rw [if_neg h1, if_neg (by omega)]
    · rw [if_neg e, row_set _ _ _ _ (by rw [ht.1]; omega)]
      have rm : row (clearGo i T m) m = row T m := by rw [ih (by omega), if_neg (by omega)]
      rw [rm, ri]
      by_cases h2 : m = r
      · subst h2; rw [if_pos rfl, if_pos ⟨by omega, e⟩]
      · rw [if_neg h2, ih (by omega)]
        by_cases h1 : r < m ∧ r ≠ i
        · rw [if_pos h1, if_pos ⟨by omega, h1.2⟩]
        · rw [if_neg h1, if_neg (by omega)]
theorem clearGo_az {n W : Nat} {T : List (List Nat)} (h : Tbl n W T) {φ : List Nat → Nat} (hφ : Lin W φ) {i : Nat} (hi : i < n) (m : Nat) (hm : m ≤ n) : AZ n φ (clearGo i T m) ↔ AZ n φ T := by
  induction m with
  | zero => exact Iff.rfl
  | succ m ih =>
    have ht := clearGo_tbl h hi m (by omega)
    unfold clearGo
    split
    · exact ih (by omega)
    · next e => exact (addT_az ht hφ hi (by omega) (Ne.symm e) (ent_lt (ht.2 m (by omega)) i)).trans (ih (by omega))

structure Reach (n W i : Nat) (T0 T : List (List Nat)) : Prop where
  tbl : Tbl n W T
  az : ∀ φ, Lin W φ → (AZ n φ T ↔ AZ n φ T0)
  cols : unitCols n i T

theorem gdiv_one {p : Nat} (hp : p < 256) (h0 : p ≠ 0) : gdiv 1 p < 256 ∧ gdiv 1 p ≠ 0 ∧ gm p (gdiv 1 p) = 1 := by
  have hl : gdiv 1 p < 256 := gm_lt _ _ (by decide)
  have hm := gdiv_mul 1 p (by decide) hp h0
  refine ⟨hl, ?_, by rw [gm_comm p _ hp hl]; exact hm⟩
  intro e
  rw [e, gm_zero_left] at hm
  cases hm

theorem Reach.step {n W i j : Nat} {T0 T : List (List Nat)} (h : Reach n W i T0 T) (hi : i < n) (hij : i ≤ j) (hj : j < n) (hp : ent (row T j) i ≠ 0) :
    Reach n W (i + 1) T0 (clearGo i (pivT T W i j (gdiv 1 (ent (row T j) i))) n) := by
  have hpl := ent_lt (h.tbl.2 j hj) i
  obtain ⟨f1, f2, f3⟩ := gdiv_one hpl hp
  generalize hf : gdiv 1 (ent (row T j) i) = f at *
  have t1 := pivT_tbl h.tbl (f := f) hi hj
  have e1 : ∀ c, ent (row (pivT T W i j f) i) c = gm (ent (row T j) c) f := by
    intro c
    rw [pivT_row T W n i j f i h.tbl.1 hi hj, if_pos rfl, ent_mulAdd (bytes_zero W) (h.tbl.2 j hj), ent_zero, Nat.zero_xor]
  refine ⟨clearGo_tbl t1 hi n (Nat.le_refl _), ?_, ?_⟩
  · intro φ hφ
    exact (clearGo_az t1 hφ hi n (Nat.le_refl _)).trans ((pivT_az h.tbl hφ hi hj f1 f2).trans (h.az φ hφ))
  · intro r hr c hc
    rw [clearGo_row t1 hi n (Nat.le_refl _)]
    by_cases e : r = i
    · subst e
      rw [if_neg (by simp), e1]
      by_cases hc2 : c = r
      · subst hc2; rw [if_pos rfl]; exact f3
      · have := h.cols j hj c (by omega)
        rw [if_neg (by omega)] at this
        rw [this, gm_zero_left, if_neg (Ne.symm hc2)]
    · rw [if_pos ⟨hr, e⟩, ent_mulAdd (t1.2 r hr) (t1.2 i hi), e1]
      by_cases hc2 : c = i
      · subst hc2
        rw [f3, gm_comm 1 _ (by decide) (ent_lt (t1.2 r hr) c), gm_one _ (ent_lt (t1.2 r hr) c), Nat.xor_self, if_neg e]
      · have hcj := h.cols j hj c (by omega)
        rw [if_neg (by omega)] at hcj
        rw [hcj, gm_zero_left, gm_zero_left, Nat.xor_zero, pivT_row T W n i j f r h.tbl.1 hi hj, if_neg (Ne.symm e)]
        by_cases h3 : j = r
        · rw [if_pos h3]
          have := h.cols i hi c (by omega)
          rw [this, if_neg (by omega), if_neg (by omega)]
        · rw [if_neg h3]; exact h.cols r hr c (by omega)

/-- the matrix beside the unit matrix -/
def augRow (n : Nat) (r : List Nat) (i : Nat) : List Nat := r ++ (List.replicate n 0).set i 1
def aug (n : Nat) (A : List (List Nat)) : List (List Nat) := (List.range n).map (fun i => augRow n (row A i) i)
theorem aug_length (n : Nat) (A : List (List Nat)) : (aug n A).length = n := by simp [aug]
theorem aug_row (n : Nat) (A : List (List Nat)) (i : Nat) (hi : i < n) : row (aug n A) i = augRow n (row A i) i := by
  simp [row, aug, hi]
theorem augRow_ent (n : Nat) (r : List Nat) (i j : Nat) (hr : r.length = n) : ent (augRow n r i) j = if j < n then ent r j else if j = n + i ∧ i < n then 1 else 0 := by
  unfold augRow ent
  rw [List.getD_eq_getElem?_getD, List.getD_eq_getElem?_getD]
  by_cases h : j < n
  · rw [List.getElem?_append_left (by omega), if_pos h]
  · rw [List.getElem?_append_right (by omega), if_neg h, hr, List.getElem?_set]
    simp only [List.length_replicate]
    by_cases e : i = j - n
    · rw [if_pos e]
      by_cases hi : i < n
      · rw [if_pos hi, if_pos ⟨by omega, hi⟩]; rfl
      · rw [if_neg hi, if_neg (by omega)]; rfl
    · rw [if_neg e, if_neg (by omega), List.getElem?_replicate]
      split <;> rfl
theorem aug_tbl {n : Nat} {A : List (List Nat)} (h : Tbl n n A) : Tbl n (n + n) (aug n A) := by
  refine ⟨aug_length n A, ?_⟩
  intro i hi
  rw [aug_row n A i hi]
  have hb := h.2 i hi
  refine ⟨by simp [augRow, hb.1], ?_⟩
  intro x hx
  simp only [augRow, List.mem_append] at hx
  rcases hx with hx | hx
  · exact hb.2 x hx
  · rcases List.mem_or_eq_of_mem_set hx with hx | hx
    · rw [List.mem_replicate] at hx; rw [hx.2]; decide
    · rw [hx]; decide
theorem Reach.start {n : Nat} {A : List (List Nat)} (h : Tbl n n A) : Reach n (n + n) 0 (aug n A) (aug n A) :=
  ⟨aug_tbl h, fun _ _ => Iff.rfl, fun r _ j hj => by omega⟩

/-- what the unknowns must be, in the end -/
theorem Reach.done {n : Nat} {T0 T : List (List Nat)} (h : Reach n (n + n) n T0 T) (x : Nat → Nat) (hx : ∀ j, x j < 256) (c : Nat) : AZ n (res n x c) T0 ↔ ∀ j, j < n → x j = ent (row T j) (n + c) := by
  rw [← h.az _ (res_lin (n + n) n x c hx)]
  have key : ∀ j, j < n → res n x c (row T j) = x j ^^^ ent (row T j) (n + c) := by
    intro j hj
    unfold res
    have : xsum n (fun t => gm (ent (row T j) t) (x t)) = x j := by
      rw [xsum_one n j _ (fun t ht hne => by rw [h.cols j hj t ht, if_neg (Ne.symm hne), gm_zero_left]), if_pos hj, h.cols j hj j hj, if_pos rfl]
      rw [gm_comm 1 _ (by decide) (hx j), gm_one _ (hx j)]
    rw [this]
  constructor
  · intro ha j hj
    have := ha j hj
    rw [key j hj] at this
    have h2 : x j ^^^ ent (row T j) (n + c) ^^^ ent (row T j) (n + c) = ent (row T j) (n + c) := by rw [this, Nat.zero_xor]
    rw [Nat.xor_assoc, Nat.xor_self, Nat.xor_zero] at h2
    exact h2
  · intro ha j hj
    rw [key j hj, ha j hj, Nat.xor_self]
/-- a column without a pivot: the unknowns are not all 0 -/
theorem Reach.fail {n i : Nat} {T0 T : List (List Nat)} (h : Reach n (n + n) i T0 T) (hi : i < n) (hz : ∀ r, i ≤ r → r < n → ent (row T r) i = 0) :
    ∃ x : Nat → Nat, (∀ j, x j < 256) ∧ x i ≠ 0 ∧ AZ n (res n x n) T0 := by
  refine ⟨fun j => if j = i then 1 else if j < i then ent (row T j) i else 0, ?_, by simp, ?_⟩
  · intro j
    simp only
    split
    · decide
    · split
      · exact ent_lt (h.tbl.2 j (by omega)) i
      · decide
  · rw [← h.az _ (res_lin (n + n) n _ n ?_)]
    · intro r hr
      unfold res
      rw [ent_none (by rw [(h.tbl.2 r hr).1]; omega), Nat.xor_zero]
      by_cases hri : r < i
      · have e : xsum n (fun j => gm (ent (row T r) j) (if j = i then 1 else if j < i then ent (row T j) i else 0)) = xsum n (fun j => (if j = r then ent (row T r) i else 0) ^^^ (if j = i then ent (row T r) i else 0)) := by
          refine xsum_congr _ _ _ (fun j hj => ?_)
          by_cases h1 : j = i
          · subst h1
            rw [if_pos rfl, gm_one _ (ent_lt (h.tbl.2 r hr) j), if_neg (by omega), if_pos rfl, Nat.zero_xor]
          · by_cases h2 : j < i
            · rw [if_neg h1, if_pos h2, h.cols r hr j h2, if_neg h1, Nat.xor_zero]
              by_cases h3 : j = r
              · subst h3; rw [if_pos rfl, if_pos rfl, gm_comm 1 _ (by decide) (ent_lt (h.tbl.2 j hj) i), gm_one _ (ent_lt (h.tbl.2 j hj) i)]
              · rw [if_neg (Ne.symm h3), if_neg h3, gm_zero_left]
            · rw [if_neg h1, if_neg h2, gm_zero_right, if_neg (by omega), if_neg h1]; rfl
        rw [e, xsum_xor]
        rw [xsum_one n r _ (fun j _ hne => if_neg hne), xsum_one n i _ (fun j _ hne => if_neg hne), if_pos hr, if_pos hi, if_pos rfl, if_pos rfl, Nat.xor_self]
      · have e : xsum n (fun j => gm (ent (row T r) j) (if j = i then 1 else if j < i then ent (row T j) i else 0)) = xsum n (fun _ => 0) := by
          refine xsum_congr _ _ _ (fun j hj => ?_)
          by_cases h1 : j = i
          · subst h1; rw [hz r (by omega) hr, gm_zero_left]
          · by_cases h2 : j < i
            · rw [h.cols r hr j h2, if_neg (by omega), gm_zero_left]
            · rw [if_neg h1, if_neg h2, gm_zero_right]
        rw [e, xsum_zero]
    · intro j
      split
      · decide
      · split
        · exact ent_lt (h.tbl.2 j (by omega)) i
        · decide
end Gf
