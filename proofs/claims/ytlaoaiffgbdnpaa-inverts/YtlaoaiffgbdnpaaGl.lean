import Derived.Test.YtlaoaiffgbdnpaaGp
namespace Gf
/-- the sum of f 0 .. f (n - 1) -/
def xsum : Nat → (Nat → Nat) → Nat
  | 0, _ => 0
  | n + 1, f => xsum n f ^^^ f n
theorem xsum_congr (n : Nat) (f g : Nat → Nat) (h : ∀ j, j < n → f j = g j) : xsum n f = xsum n g := by
  induction n with
  | zero => rfl
  | succ n ih => simp only [xsum]; rw [ih (fun j hj => h j (by omega)), h n (by omega)]
theorem xsum_lt (n : Nat) (f : Nat → Nat) (h : ∀ j, j < n → f j < 256) : xsum n f < 256 := by
  induction n with
  | zero => show 0 < 256; decide
  | succ n ih => exact xor_lt _ _ (ih (fun j hj => h j (by omega))) (h n (by omega))
theorem xor_four (a b c d : Nat) : a ^^^ b ^^^ (c ^^^ d) = (a ^^^ c) ^^^ (b ^^^ d) := by ac_rfl
theorem xsum_xor (n : Nat) (f g : Nat → Nat) : xsum n (fun j => f j ^^^ g j) = xsum n f ^^^ xsum n g := by
  induction n with
  | zero => simp [xsum]
  | succ n ih => simp only [xsum]; rw [ih, xor_four]
theorem xsum_gm (n : Nat) (f : Nat → Nat) (k : Nat) (h : ∀ j, j < n → f j < 256) : gm (xsum n f) k = xsum n (fun j => gm (f j) k) := by
  induction n with
  | zero => exact gm_zero_left k
  | succ n ih =>
    simp only [xsum]
    rw [gm_xor_left _ _ _ (xsum_lt n f (fun j hj => h j (by omega))) (h n (by omega)), ih (fun j hj => h j (by omega))]
theorem xsum_zero (n : Nat) : xsum n (fun _ => 0) = 0 := by
  induction n with
  | zero => rfl
  | succ n ih => simp only [xsum]; rw [ih]; rfl
theorem xsum_one (n i : Nat) (f : Nat → Nat) (h : ∀ j, j < n → j ≠ i → f j = 0) : xsum n f = if i < n then f i else 0 := by
  induction n with
  | zero => rfl
  | succ n ih =>
    simp only [xsum]
    rw [ih (fun j hj hne => h j (by omega) hne)]
    by_cases h1 : i < n
    · rw [if_pos h1, if_pos (by omega), h n (by omega) (by omega), Nat.xor_zero]
    · by_cases h2 : i = n
      · subst h2; rw [if_neg h1, if_pos (by omega), Nat.zero_xor]
      · rw [if_neg h1, if_neg (by omega), h n (by omega) (Ne.symm h2)]; rfl

def ent (r : List Nat) (j : Nat) : Nat := r.getD j 0
def Bytes (W : Nat) (r : List Nat) : Prop := r.length = W ∧ ∀ x ∈ r, x < 256
theorem ent_lt {W : Nat} {r : List Nat} (h : Bytes W r) (j : Nat) : ent r j < 256 := by
  unfold ent
  by_cases hj : j < r.length
  · rw [List.getD_eq_getElem?_getD, List.getElem?_eq_getElem hj]
    exact h.2 _ (List.getElem_mem hj)
  · rw [List.getD_eq_getElem?_getD, List.getElem?_eq_none (by omega)]; decide
theorem ent_some {r : List Nat} {j x : Nat} (h : r[j]? = some x) : ent r j = x := by simp [ent, h]
theorem ent_none {r : List Nat} {j : Nat} (h : r.length ≤ j) : ent r j = 0 := by simp [ent, List.getElem?_eq_none h]
theorem ent_mulAdd {W : Nat} {r o : List Nat} (hr : Bytes W r) (ho : Bytes W o) (k j : Nat) : ent (mulAdd r o k) j = ent r j ^^^ gm (ent o j) k := by
  by_cases hj : j < W
  · obtain ⟨u, h1⟩ : ∃ u, r[j]? = some u := ⟨_, List.getElem?_eq_getElem (by rw [hr.1]; exact hj)⟩
    obtain ⟨v, h2⟩ : ∃ v, o[j]? = some v := ⟨_, List.getElem?_eq_getElem (by rw [ho.1]; exact hj)⟩
    rw [ent_some h1, ent_some h2, ent_some (mulAdd_at r o k j _ _ h1 h2)]
  · rw [ent_none (by rw [mulAdd_length _ _ _ (by rw [hr.1, ho.1]), hr.1]; omega), ent_none (by rw [hr.1]; omega), ent_none (by rw [ho.1]; omega), gm_zero_left]
    rfl
theorem bytes_mulAdd {W : Nat} {r o : List Nat} (hr : Bytes W r) (ho : Bytes W o) (k : Nat) : Bytes W (mulAdd r o k) :=
  ⟨by rw [mulAdd_length _ _ _ (by rw [hr.1, ho.1]), hr.1], mulAdd_lt _ _ _ hr.2 ho.2⟩
theorem bytes_zero (W : Nat) : Bytes W (List.replicate W 0) := ⟨by simp, fun x hx => by rw [List.mem_replicate] at hx; rw [hx.2]; decide⟩
theorem ent_zero (W j : Nat) : ent (List.replicate W 0) j = 0 := by
  simp [ent, List.getElem?_replicate]
  split <;> rfl
theorem ext_ent {W : Nat} {r o : List Nat} (hr : r.length = W) (ho : o.length = W) (h : ∀ j, j < W → ent r j = ent o j) : r = o := by
  apply List.ext_getElem?
  intro j
  by_cases hj : j < W
  · have h1 : r[j]? = some r[j] := List.getElem?_eq_getElem (by omega)
    have h2 : o[j]? = some o[j] := List.getElem?_eq_getElem (by omega)
    have := h j hj
    rw [ent_some h1, ent_some h2] at this
    rw [h1, h2, this]
  · rw [List.getElem?_eq_none (by omega), List.getElem?_eq_none (by omega)]

/-- a linear form on the rows of length W -/
def Lin (W : Nat) (φ : List Nat → Nat) : Prop := ∀ r o k, Bytes W r → Bytes W o → k < 256 → φ r < 256 ∧ φ (mulAdd r o k) = φ r ^^^ gm (φ o) k
theorem Lin.zero {W : Nat} {φ : List Nat → Nat} (h : Lin W φ) : φ (List.replicate W 0) = 0 := by
  have hz := bytes_zero W
  have h1 := (h _ _ 1 hz hz (by decide)).2
  have h0 := (h _ _ 1 hz hz (by decide)).1
  have e : mulAdd (List.replicate W 0) (List.replicate W 0) 1 = List.replicate W 0 := by
    refine ext_ent (W := W) (bytes_mulAdd hz hz 1).1 (by simp) ?_
    intro j _
    rw [ent_mulAdd hz hz, ent_zero, gm_zero_left]; rfl
  rw [e, gm_one _ h0, Nat.xor_self] at h1
  exact h1

/-- what is left of an equation: the unknowns x, the right side in the column c -/
def res (n : Nat) (x : Nat → Nat) (c : Nat) (r : List Nat) : Nat := xsum n (fun j => gm (ent r j) (x j)) ^^^ ent r (n + c)
theorem gm_swap (a k x : Nat) (ha : a < 256) (hk : k < 256) (hx : x < 256) : gm (gm a k) x = gm (gm a x) k := by
  rw [gm_assoc a k x ha hk hx, gm_comm k x hk hx, ← gm_assoc a x k ha hx hk]
theorem res_lin (W n : Nat) (x : Nat → Nat) (c : Nat) (hx : ∀ j, x j < 256) : Lin W (res n x c) := by
  intro r o k hr ho hk
  refine ⟨xor_lt _ _ (xsum_lt _ _ (fun j _ => gm_lt _ _ (ent_lt hr j))) (ent_lt hr _), ?_⟩
  unfold res
  rw [ent_mulAdd hr ho]
  have e : xsum n (fun j => gm (ent (mulAdd r o k) j) (x j)) = xsum n (fun j => gm (ent r j) (x j)) ^^^ gm (xsum n (fun j => gm (ent o j) (x j))) k := by
    rw [xsum_gm _ _ _ (fun j _ => gm_lt _ _ (ent_lt ho j)), ← xsum_xor]
    refine xsum_congr _ _ _ (fun j _ => ?_)
    rw [ent_mulAdd hr ho, gm_xor_left _ _ _ (ent_lt hr j) (gm_lt _ _ (ent_lt ho j)), gm_swap _ _ _ (ent_lt ho j) hk (hx j)]
  rw [e, gm_xor_left _ _ _ (xsum_lt _ _ (fun j _ => gm_lt _ _ (ent_lt ho j))) (ent_lt ho _), xor_four]
/-- row = right half times A, in the column j -/
def lft (n : Nat) (A : Nat → Nat → Nat) (j : Nat) (r : List Nat) : Nat := ent r j ^^^ xsum n (fun t => gm (ent r (n + t)) (A t j))
theorem lft_lin (W n : Nat) (A : Nat → Nat → Nat) (j : Nat) (hA : ∀ t j, A t j < 256) : Lin W (lft n A j) := by
  intro r o k hr ho hk
  refine ⟨xor_lt _ _ (ent_lt hr _) (xsum_lt _ _ (fun t _ => gm_lt _ _ (ent_lt hr _))), ?_⟩
  unfold lft
  rw [ent_mulAdd hr ho]
  have e : xsum n (fun t => gm (ent (mulAdd r o k) (n + t)) (A t j)) = xsum n (fun t => gm (ent r (n + t)) (A t j)) ^^^ gm (xsum n (fun t => gm (ent o (n + t)) (A t j))) k := by
    rw [xsum_gm _ _ _ (fun t _ => gm_lt _ _ (ent_lt ho _)), ← xsum_xor]
    refine xsum_congr _ _ _ (fun t _ => ?_)
    rw [ent_mulAdd hr ho, gm_xor_left _ _ _ (ent_lt hr _) (gm_lt _ _ (ent_lt ho _)), gm_swap _ _ _ (ent_lt ho _) hk (hA t j)]
  rw [e, gm_xor_left _ _ _ (ent_lt ho _) (xsum_lt _ _ (fun t _ => gm_lt _ _ (ent_lt ho _))), xor_four]

/-- tables -/
def row (T : List (List Nat)) (i : Nat) : List Nat := T.getD i []
def Tbl (n W : Nat) (T : List (List Nat)) : Prop := T.length = n ∧ ∀ i, i < n → Bytes W (row T i)
theorem row_set (T : List (List Nat)) (i j : Nat) (r : List Nat) (h : i < T.length) : row (T.set i r) j = if i = j then r else row T j := by
  unfold row
  rw [List.getD_eq_getElem?_getD, List.getD_eq_getElem?_getD, List.getElem?_set]
  by_cases e : i = j
  · rw [if_pos e, if_pos h, if_pos e]; rfl
  · rw [if_neg e, if_neg e]
theorem Tbl.set {n W : Nat} {T : List (List Nat)} (h : Tbl n W T) {i : Nat} {r : List Nat} (hr : Bytes W r) : Tbl n W (T.set i r) := by
  refine ⟨by simpa using h.1, ?_⟩
  intro j hj
  by_cases hi : i < T.length
  · rw [row_set _ _ _ _ hi]; split
    · exact hr
    · exact h.2 j hj
  · rw [List.set_eq_of_length_le (by omega)]; exact h.2 j hj
def AZ (n : Nat) (φ : List Nat → Nat) (T : List (List Nat)) : Prop := ∀ i, i < n → φ (row T i) = 0

/-- two rows change places, and the first is multiplied -/
def pivT (T : List (List Nat)) (W i j f : Nat) : List (List Nat) := ((T.set i (row T j)).set j (row T i)).set i (mulAdd (List.replicate W 0) (row T j) f)
theorem pivT_row (T : List (List Nat)) (W n i j f r : Nat) (hT : T.length = n) (hi : i < n) (hj : j < n) : row (pivT T W i j f) r = if i = r then mulAdd (List.replicate W 0) (row T j) f else if j = r then row T i else row T r := by
  unfold pivT
  rw [row_set _ _ _ _ (by simp; omega), row_set _ _ _ _ (by simp; omega), row_set _ _ _ _ (by omega)]
  by_cases h1 : i = r
  · simp [h1]
  · simp [h1]
theorem pivT_tbl {n W : Nat} {T : List (List Nat)} (h : Tbl n W T) {i j f : Nat} (hi : i < n) (hj : j < n) : Tbl n W (pivT T W i j f) :=
  ((h.set (h.2 j hj)).set (h.2 i hi)).set (bytes_mulAdd (bytes_zero W) (h.2 j hj) f)
theorem pivT_az {n W : Nat} {T : List (List Nat)} (h : Tbl n W T) {φ : List Nat → Nat} (hφ : Lin W φ) {i j f : Nat} (hi : i < n) (hj : j < n) (hf : f < 256) (hf0 : f ≠ 0) : AZ n φ (pivT T W i j f) ↔ AZ n φ T := by
  have e : φ (mulAdd (List.replicate W 0) (row T j) f) = gm (φ (row T j)) f := by
    rw [(hφ _ _ f (bytes_zero W) (h.2 j hj) hf).2, hφ.zero, Nat.zero_xor]
  have lj := (hφ _ _ f (h.2 j hj) (h.2 j hj) hf).1
  constructor
  · intro ha r hr
    by_cases h1 : r = j
    · have := ha i hi
      rw [pivT_row T W n i j f i h.1 hi hj, if_pos rfl, e, gm_eq_zero _ _ lj hf] at this
      rcases this with h0 | h0
      · rw [h1]; exact h0
      · exact absurd h0 hf0
    · by_cases h2 : r = i
      · have := ha j hj
        rw [pivT_row T W n i j f j h.1 hi hj] at this
        by_cases h3 : i = j
        · omega
        · rw [if_neg h3, if_pos rfl] at this; rw [h2]; exact this
      · have := ha r hr
        rw [pivT_row T W n i j f r h.1 hi hj, if_neg (Ne.symm h2), if_neg (Ne.symm h1)] at this
        exact this
  · intro ha r hr
    rw [pivT_row T W n i j f r h.1 hi hj]
    split
    · rw [e, ha j hj, gm_zero_left]
    · split
      · exact ha i hi
      · exact ha r hr
/-- another row is added -/
theorem addT_az {n W : Nat} {T : List (List Nat)} (h : Tbl n W T) {φ : List Nat → Nat} (hφ : Lin W φ) {i j k : Nat} (hi : i < n) (hj : j < n) (hij : i ≠ j) (hk : k < 256) : AZ n φ (T.set j (mulAdd (row T j) (row T i) k)) ↔ AZ n φ T := by
  have e : φ (mulAdd (row T j) (row T i) k) = φ (row T j) ^^^ gm (φ (row T i)) k := (hφ _ _ k (h.2 j hj) (h.2 i hi) hk).2
  have hl : j < T.length := by rw [h.1]; exact hj
  constructor
  · intro ha r hr
    have hi0 : φ (row T i) = 0 := by
      have := ha i hi
      rw [row_set _ _ _ _ hl, if_neg (Ne.symm hij)] at this; exact this
    by_cases h1 : j = r
    · have := ha j hj
      rw [row_set _ _ _ _ hl, if_pos rfl, e, hi0, gm_zero_left, Nat.xor_zero] at this
      rw [← h1]; exact this
    · have := ha r hr
      rw [row_set _ _ _ _ hl, if_neg h1] at this; exact this
  · intro ha r hr
    rw [row_set _ _ _ _ hl]
    split
    · rw [e, ha j hj, ha i hi, gm_zero_left]; rfl
    · exact ha r hr
end Gf
