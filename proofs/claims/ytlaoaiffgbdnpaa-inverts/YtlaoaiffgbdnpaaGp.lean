import Derived.Test.YtlaoaiffgbdnpaaGf
namespace Gf
/-- bytes as a word: the first byte lowest -/
def pack : List Nat → Nat
  | [] => 0
  | x :: r => x + 256 * pack r
theorem pack_lt (xs : List Nat) (h : ∀ x ∈ xs, x < 256) : pack xs < 256 ^ xs.length := by
  induction xs with
  | nil => decide
  | cons x r ih =>
    have := ih (fun y hy => h y (List.mem_cons_of_mem _ hy))
    have := h x List.mem_cons_self
    simp only [pack, List.length_cons, Nat.pow_succ]; omega
theorem pack_snoc (xs : List Nat) (x : Nat) : pack (xs ++ [x]) = pack xs + x * 256 ^ xs.length := by
  induction xs with
  | nil => simp [pack]
  | cons y r ih =>
    simp only [List.cons_append, pack, ih, List.length_cons, Nat.pow_succ]
    rw [Nat.mul_add, Nat.add_assoc]; congr 2; rw [Nat.mul_comm (256 ^ r.length) 256]; ac_rfl
theorem pow256 (k : Nat) : 256 ^ k = 2 ^ (8 * k) := by rw [Nat.pow_mul]
theorem or_add (p x k : Nat) (hp : p < 256 ^ k) : p ||| (x * 256 ^ k) = p + x * 256 ^ k := by
  rw [pow256] at *
  rw [Nat.mul_comm x, Nat.or_comm, ← Nat.two_pow_add_eq_or_of_lt hp, Nat.add_comm]
theorem pack_lt64 (xs : List Nat) (h : ∀ x ∈ xs, x < 256) (h8 : xs.length ≤ 8) : pack xs < 18446744073709551616 := by
  have h1 := pack_lt xs h
  have h2 : (256 : Nat) ^ xs.length ≤ 256 ^ 8 := Nat.pow_le_pow_right (by decide) h8
  have h3 : (256 : Nat) ^ 8 = 18446744073709551616 := by decide
  omega
theorem pack_byte (xs : List Nat) (h : ∀ x ∈ xs, x < 256) (i x : Nat) (hi : xs[i]? = some x) : pack xs / 256 ^ i % 256 = x := by
  induction xs generalizing i with
  | nil => simp at hi
  | cons y r ih =>
    have hy := h y List.mem_cons_self
    cases i with
    | zero => simp at hi; subst hi; simp [pack]; omega
    | succ i =>
      simp at hi
      have := ih (fun z hz => h z (List.mem_cons_of_mem _ hz)) i hi
      simp only [pack]
      rw [Nat.pow_succ, Nat.mul_comm (256 ^ i) 256, ← Nat.div_div_eq_div_mul]
      rw [show (y + 256 * pack r) / 256 = pack r by omega]; exact this
theorem pack_mul (xs : List Nat) (c : Nat) (h : ∀ x ∈ xs, x < 256) (h8 : xs.length ≤ 8) : mulW (pack xs) c = pack (xs.map (fun x => gm x c)) := by
  induction xs with
  | nil => exact gm_zero_left c
  | cons y r ih =>
    have hr : ∀ x ∈ r, x < 256 := fun z hz => h z (List.mem_cons_of_mem _ hz)
    have hl := pack_lt r hr
    simp only [List.length_cons] at h8
    have h2 : (256 : Nat) ^ r.length ≤ 256 ^ 7 := Nat.pow_le_pow_right (by decide) (by omega)
    have h3 : (256 : Nat) ^ 7 = 72057594037927936 := by decide
    simp only [pack, List.map_cons]
    rw [mulW_split _ _ _ (h y List.mem_cons_self) (by omega), ih hr (by omega)]
theorem pack_xor (xs ys : List Nat) (hx : ∀ x ∈ xs, x < 256) (hy : ∀ x ∈ ys, x < 256) (hl : xs.length = ys.length) : pack xs ^^^ pack ys = pack (List.zipWith (· ^^^ ·) xs ys) := by
  induction xs generalizing ys with
  | nil => cases ys with
    | nil => rfl
    | cons y r => simp at hl
  | cons x r ih => cases ys with
    | nil => simp at hl
    | cons y s =>
      simp only [pack, List.zipWith_cons_cons]
      rw [xor_split _ _ _ _ (hx x List.mem_cons_self) (hy y List.mem_cons_self), ih s (fun z hz => hx z (List.mem_cons_of_mem _ hz)) (fun z hz => hy z (List.mem_cons_of_mem _ hz)) (by simpa using hl)]
/-- dst plus c times src -/
def mulAdd (ds ss : List Nat) (c : Nat) : List Nat := List.zipWith (fun d s => d ^^^ gm s c) ds ss
theorem mulAdd_lt (ds ss : List Nat) (c : Nat) (hd : ∀ x ∈ ds, x < 256) (hs : ∀ x ∈ ss, x < 256) : ∀ x ∈ mulAdd ds ss c, x < 256 := by
  induction ds generalizing ss with
  | nil => intro x hx; simp [mulAdd] at hx
  | cons d r ih => cases ss with
    | nil => intro x hx; simp [mulAdd] at hx
    | cons s t =>
      intro x hx
      simp only [mulAdd, List.zipWith_cons_cons, List.mem_cons] at hx
      rcases hx with rfl | hx
      · exact xor_lt _ _ (hd d List.mem_cons_self) (gm_lt _ _ (hs s List.mem_cons_self))
      · exact ih t (fun z hz => hd z (List.mem_cons_of_mem _ hz)) (fun z hz => hs z (List.mem_cons_of_mem _ hz)) x hx
theorem mulAdd_length (ds ss : List Nat) (c : Nat) (h : ds.length = ss.length) : (mulAdd ds ss c).length = ds.length := by simp [mulAdd, h]
theorem mulAdd_at (ds ss : List Nat) (c i d s : Nat) (hd : ds[i]? = some d) (hs : ss[i]? = some s) : (mulAdd ds ss c)[i]? = some (d ^^^ gm s c) := by
  simp [mulAdd, List.getElem?_zipWith, hd, hs]
/-- the word that MulAdd stores -/
theorem word_eq (ds ss : List Nat) (c : Nat) (hd : ∀ x ∈ ds, x < 256) (hs : ∀ x ∈ ss, x < 256) (hl : ds.length = ss.length) (h8 : ds.length ≤ 8) :
    pack ds ^^^ mulW (pack ss) c = pack (mulAdd ds ss c) := by
  rw [pack_mul ss c hs (by omega), pack_xor _ _ hd ?_ (by simpa using hl)]
  · congr 1
    rw [mulAdd, List.zipWith_map_right]
  · intro x hx
    simp only [List.mem_map] at hx
    obtain ⟨s, hs', rfl⟩ := hx
    exact gm_lt _ _ (hs s hs')
end Gf
