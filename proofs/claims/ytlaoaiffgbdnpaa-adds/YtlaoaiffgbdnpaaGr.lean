import Derived.Test.YtlaoaiffgbdnpaaGf
namespace Gf

/-- a bit as a number -/
def bt (a t : Nat) : Nat := a / 2 ^ t % 2
theorem bt_toNat (a t : Nat) : bt a t = (a.testBit t).toNat := (Nat.toNat_testBit a t).symm
theorem bt_le (a t : Nat) : bt a t ≤ 1 := by unfold bt; omega
theorem bt_01 (a t : Nat) : bt a t = 0 ∨ bt a t = 1 := by unfold bt; omega
theorem bt_xor_pow (L e k t : Nat) (he : e ≤ 1) : bt (L ^^^ (e * 2 ^ k)) t = if t = k then (bt L k + e) % 2 else bt L t := by
  rw [bt_toNat, bt_toNat, bt_toNat, Nat.testBit_xor]
  have h01 : e = 0 ∨ e = 1 := by omega
  rcases h01 with rfl | rfl
  · simp
    intro h; subst h; cases L.testBit t <;> rfl
  · rw [Nat.one_mul, Nat.testBit_two_pow]
    by_cases h : t = k
    · subst h; simp; cases L.testBit t <;> rfl
    · have : ¬ k = t := fun e => h e.symm
      simp [h, this]
theorem bt_xor (a b t : Nat) : bt (a ^^^ b) t = (bt a t ^^^ bt b t) := by
  rw [bt_toNat, bt_toNat, bt_toNat, Nat.testBit_xor]
  cases a.testBit t <;> cases b.testBit t <;> rfl

def clRow (a b i : Nat) : Nat → Nat → Nat
  | 0, L => L
  | m + 1, L => clRow a b i m L ^^^ (bt a i * bt b m * 2 ^ (i + m))
def cl (a b : Nat) : Nat → Nat
  | 0 => 0
  | i + 1 => clRow a b i 8 (cl a b i)
def red1 (L i : Nat) : Nat := if bt L i = 1 then L ^^^ (285 * 2 ^ (i - 8)) else L
def redGo (L : Nat) : Nat → Nat
  | 0 => L
  | n + 1 => red1 (redGo L n) (14 - n)
def refMul (a b : Nat) : Nat := redGo (cl a b 8) 7 % 256

theorem bit_mul_xor (x u v k : Nat) (hx : x = 0 ∨ x = 1) (hu : u = 0 ∨ u = 1) (hv : v = 0 ∨ v = 1) : x * (u ^^^ v) * 2 ^ k = x * u * 2 ^ k ^^^ x * v * 2 ^ k := by
  rcases hx with rfl | rfl <;> rcases hu with rfl | rfl <;> rcases hv with rfl | rfl <;> simp
theorem xor4 (a b c d : Nat) : a ^^^ b ^^^ (c ^^^ d) = (a ^^^ c) ^^^ (b ^^^ d) := by ac_rfl

theorem clRow_lin (a b b' i m L L' : Nat) : clRow a (b ^^^ b') i m (L ^^^ L') = clRow a b i m L ^^^ clRow a b' i m L' := by
  induction m with
  | zero => rfl
  | succ m ih =>
    simp only [clRow]
    rw [ih, bt_xor, bit_mul_xor _ _ _ _ (bt_01 _ _) (bt_01 _ _) (bt_01 _ _), xor4]
theorem cl_lin (a b b' i : Nat) : cl a (b ^^^ b') i = cl a b i ^^^ cl a b' i := by
  induction i with
  | zero => simp [cl]
  | succ i ih => simp only [cl]; rw [ih, clRow_lin]
theorem clRow_lin2 (a a' b i m L L' : Nat) : clRow (a ^^^ a') b i m (L ^^^ L') = clRow a b i m L ^^^ clRow a' b i m L' := by
  induction m with
  | zero => rfl
  | succ m ih =>
    simp only [clRow]
    rw [ih, bt_xor, Nat.mul_comm (bt a i ^^^ bt a' i), bit_mul_xor _ _ _ _ (bt_01 _ _) (bt_01 _ _) (bt_01 _ _), xor4, Nat.mul_comm (bt b m), Nat.mul_comm (bt b m)]
theorem cl_lin2 (a a' b i : Nat) : cl (a ^^^ a') b i = cl a b i ^^^ cl a' b i := by
  induction i with
  | zero => simp [cl]
  | succ i ih => simp only [cl]; rw [ih, clRow_lin2]
theorem red1_lin (L L' i : Nat) : red1 (L ^^^ L') i = red1 L i ^^^ red1 L' i := by
  unfold red1
  rw [bt_xor]
  generalize 285 * 2 ^ (i - 8) = P
  rcases bt_01 L i with h | h <;> rcases bt_01 L' i with h' | h' <;> rw [h, h'] <;> simp
  · ac_rfl
  · ac_rfl
  · rw [show L ^^^ P ^^^ (L' ^^^ P) = L ^^^ L' ^^^ (P ^^^ P) by ac_rfl, Nat.xor_self, Nat.xor_zero]
theorem redGo_lin (L L' n : Nat) : redGo (L ^^^ L') n = redGo L n ^^^ redGo L' n := by
  induction n with
  | zero => rfl
  | succ n ih => simp only [redGo]; rw [ih, red1_lin]
theorem xor_mod256 (a b : Nat) : (a ^^^ b) % 256 = a % 256 ^^^ b % 256 := Nat.xor_mod_two_pow (n := 8)
theorem refMul_lin (a b b' : Nat) : refMul a (b ^^^ b') = refMul a b ^^^ refMul a b' := by
  unfold refMul; rw [cl_lin, redGo_lin, xor_mod256]
theorem refMul_lin2 (a a' b : Nat) : refMul (a ^^^ a') b = refMul a b ^^^ refMul a' b := by
  unfold refMul; rw [cl_lin2, redGo_lin, xor_mod256]
theorem refMul_zero_right (a : Nat) : refMul a 0 = 0 := by
  have := refMul_lin a 0 0; simp only [Nat.xor_self] at this; exact this
theorem refMul_zero_left (a : Nat) : refMul 0 a = 0 := by
  have := refMul_lin2 0 0 a; simp only [Nat.xor_self] at this; exact this

theorem refMul_eq (a b : Nat) (ha : a < 256) (hb : b < 256) : refMul a b = gm a b := by
  have base : ∀ i < 8, ∀ j < 8, refMul (2 ^ i) (2 ^ j) = gm (2 ^ i) (2 ^ j) := by decide +kernel
  refine lin_ext (fun x => refMul x b) (fun x => gm x b) (fun x y _ _ => refMul_lin2 x y b) (fun x y hx hy => gm_xor_left x y b hx hy) (by simp [refMul_zero_left, gm_zero_left]) ?_ a ha
  intro i hi
  exact lin_ext (fun x => refMul (2 ^ i) x) (fun x => gm (2 ^ i) x) (fun x y _ _ => refMul_lin _ x y) (fun x y _ _ => gm_xor_right _ x y) (by simp [refMul_zero_right, gm_zero_right]) (fun j hj => base i hi j hj) b hb

/-- the powers of the polynomial, as the document has them, flipped one by one -/
def pw (k : Nat) : Nat := [8, 4, 3, 2, 0].getD k 0
def flips (L base : Nat) : Nat → Nat
  | 0 => L
  | k + 1 => flips L base k ^^^ (1 * 2 ^ (base + pw k))
theorem flips_5 (L base : Nat) (hb : base < 7) : flips L base 5 = L ^^^ (285 * 2 ^ base) := by
  have : ∀ c < 7, 1 * 2 ^ (c + pw 0) ^^^ (1 * 2 ^ (c + pw 1) ^^^ (1 * 2 ^ (c + pw 2) ^^^ (1 * 2 ^ (c + pw 3) ^^^ 1 * 2 ^ (c + pw 4)))) = 285 * 2 ^ c := by decide +kernel
  rw [← this base hb]
  simp only [flips]
  ac_rfl
/-- the number that the lowest bits spell, from the bit n on: 8 - n of them, n from 8 down -/
def top (L : Nat) : Nat → Nat
  | 0 => 0
  | n + 1 => 2 * top L n + bt L (7 - n)
theorem top_eq (L n : Nat) (h : n ≤ 8) : top L n = L / 2 ^ (8 - n) % 2 ^ n := by
  induction n with
  | zero => simp [top, Nat.mod_one]
  | succ n ih =>
    simp only [top, bt]
    rw [ih (by omega), show 8 - n = (7 - n) + 1 by omega, show 8 - (n + 1) = 7 - n by omega, Nat.pow_succ 2 (7 - n), ← Nat.div_div_eq_div_mul, Nat.pow_succ 2 n, Nat.mul_comm (2 ^ n) 2, Nat.mod_mul]
    omega
theorem top_8 (L : Nat) : top L 8 = L % 256 := by
  have := top_eq L 8 (by omega)
  simpa using this
theorem top_lt (L n : Nat) (h : n ≤ 8) : top L n < 2 ^ n := by
  induction n with
  | zero => show 0 < 1; decide
  | succ n ih => have := ih (by omega); have h2 := bt_le L (7 - n); simp only [top]; rw [Nat.pow_succ]; omega
end Gf
