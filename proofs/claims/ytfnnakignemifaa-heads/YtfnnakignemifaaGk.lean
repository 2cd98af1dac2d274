namespace Gk
/-- the coefficient t of a -/
def bt (a t : Nat) : Nat := a / 2 ^ t % 2
theorem bt_toNat (a t : Nat) : bt a t = (a.testBit t).toNat := (Nat.toNat_testBit a t).symm
theorem bt_le (a t : Nat) : bt a t ≤ 1 := by unfold bt; omega
theorem bt_01 (a t : Nat) : bt a t = 0 ∨ bt a t = 1 := by unfold bt; omega
theorem bt_zero (a : Nat) : bt a 0 = a % 2 := by simp [bt]
theorem bt_xor (a b t : Nat) : bt (a ^^^ b) t = (bt a t + bt b t) % 2 := by
  simp only [bt_toNat, Nat.testBit_xor]
  cases a.testBit t <;> cases b.testBit t <;> rfl
theorem bt_half (a t : Nat) : bt (a / 2) t = bt a (t + 1) := by
  simp only [bt_toNat, Nat.testBit_add_one]
theorem bt_high (a t n : Nat) (h : a < 2 ^ n) (hn : n ≤ t) : bt a t = 0 := by
  have h2 : (2 : Nat) ^ n ≤ 2 ^ t := Nat.pow_le_pow_right (by decide) hn
  unfold bt
  rw [Nat.div_eq_of_lt (by omega)]
theorem eq_of_bt (a b : Nat) (h : ∀ t, bt a t = bt b t) : a = b := by
  apply Nat.eq_of_testBit_eq
  intro t
  have := h t
  simp only [bt_toNat] at this
  cases h1 : a.testBit t <;> cases h2 : b.testBit t <;> rw [h1, h2] at this <;> first | rfl | cases this

/-- the polynomial, turned about -/
abbrev poly : Nat := 2197175160
/-- a bit leaves the register -/
def step (r : Nat) : Nat := r / 2 ^^^ r % 2 * poly
def steps : Nat → Nat → Nat
  | 0, r => r
  | k + 1, r => step (steps k r)
theorem xor_lt32 (a b : Nat) (ha : a < 4294967296) (hb : b < 4294967296) : a ^^^ b < 4294967296 := Nat.xor_lt_two_pow (n := 32) ha hb
theorem step_lt (r : Nat) (h : r < 4294967296) : step r < 4294967296 := by
  unfold step
  refine xor_lt32 _ _ (by omega) ?_
  have : r % 2 = 0 ∨ r % 2 = 1 := by omega
  rcases this with e | e <;> rw [e] <;> decide
theorem steps_lt (k r : Nat) (h : r < 4294967296) : steps k r < 4294967296 := by
  induction k with
  | zero => exact h
  | succ k ih => exact step_lt _ ih
theorem bt_mul01 (e a t : Nat) (he : e ≤ 1) : bt (e * a) t = e * bt a t := by
  have : e = 0 ∨ e = 1 := by omega
  rcases this with rfl | rfl
  · simp [bt]
  · simp
theorem bt_step (r t : Nat) : bt (step r) t = (bt r (t + 1) + r % 2 * bt poly t) % 2 := by
  unfold step
  rw [bt_xor, bt_half, bt_mul01 _ _ _ (by omega)]
/-- the register behind i bytes -/
def crc (s : Nat → Nat) : Nat → Nat
  | 0 => 4294967295
  | i + 1 => steps 8 (crc s i ^^^ s i)
theorem crc_lt (s : Nat → Nat) (hs : ∀ i, s i < 256) (n : Nat) : crc s n < 4294967296 := by
  induction n with
  | zero => simp [crc]
  | succ n ih => exact steps_lt _ _ (xor_lt32 _ _ ih (by have := hs n; omega))
/-- the bits of n bytes, and noughts behind them -/
def msg (s : Nat → Nat) (n i : Nat) : Nat := if i < 8 * n then bt (s (i / 8)) (i % 8) else 0
theorem msg_le (s : Nat → Nat) (n i : Nat) : msg s n i ≤ 1 := by
  unfold msg; split
  · exact bt_le _ _
  · omega
/-- the register, bit by bit -/
def reg (s : Nat → Nat) (n : Nat) : Nat → Nat
  | 0 => 4294967295
  | i + 1 => step (reg s n i ^^^ msg s n i)
theorem reg_lt (s : Nat → Nat) (n i : Nat) : reg s n i < 4294967296 := by
  induction i with
  | zero => simp [reg]
  | succ i ih => exact step_lt _ (xor_lt32 _ _ ih (by have := msg_le s n i; omega))
/-- a byte's bits, one by one -/
theorem step_low (r b y : Nat) (hb : b ≤ 1) : step (r ^^^ (b + 2 * y)) = step (r ^^^ b) ^^^ y := by
  have e1 : (b + 2 * y) % 2 = b := by omega
  have e2 : ∀ t, bt (b + 2 * y) (t + 1) = bt y t := by
    intro t; rw [← bt_half]; congr 1; omega
  have e3 : ∀ t, bt b (t + 1) = 0 := by intro t; exact bt_high b (t + 1) 1 (by omega) (by omega)
  have e4 : (r ^^^ (b + 2 * y)) % 2 = (r ^^^ b) % 2 := by
    rw [← bt_zero, ← bt_zero, bt_xor, bt_xor, bt_zero (b + 2 * y), e1, bt_zero b, Nat.mod_eq_of_lt (by omega : b < 2)]
  apply eq_of_bt
  intro t
  rw [bt_step, e4, bt_xor (step _), bt_step, bt_xor r, bt_xor r, e2, e3]
  generalize (r ^^^ b) % 2 * bt poly t = z
  have := bt_le r (t + 1)
  omega
theorem byte_bits (x : Nat) (k : Nat) (hk : k ≤ 8) (f : Nat → Nat) (r : Nat) (hf : f 0 = r) (hs : ∀ j, j < k → f (j + 1) = step (f j ^^^ bt x j)) :
    steps k (r ^^^ x) = f k ^^^ x / 2 ^ k := by
  induction k with
  | zero => simp [steps, hf]
  | succ k ih =>
    rw [steps, ih (by omega) (fun j hj => hs j (by omega)), hs k (by omega)]
    have e : x / 2 ^ k = bt x k + 2 * (x / 2 ^ (k + 1)) := by
      unfold bt
      rw [Nat.pow_succ, ← Nat.div_div_eq_div_mul]; omega
    rw [e, step_low _ _ _ (bt_le _ _)]
theorem reg_crc (s : Nat → Nat) (n m : Nat) (hs : ∀ i, s i < 256) (hm : m ≤ n) : reg s n (8 * m) = crc s m := by
  induction m with
  | zero => rfl
  | succ m ih =>
    have h := byte_bits (s m) 8 (by omega) (fun j => reg s n (8 * m + j)) (crc s m) (ih (by omega)) (by
      intro j hj
      show reg s n (8 * m + j + 1) = _
      rw [reg]
      have e : msg s n (8 * m + j) = bt (s m) j := by
        unfold msg
        rw [if_pos (by omega), show (8 * m + j) / 8 = m by omega, show (8 * m + j) % 8 = j by omega]
      rw [e])
    rw [crc, h, show 8 * (m + 1) = 8 * m + 8 by omega]
    have : s m / 2 ^ 8 = 0 := Nat.div_eq_of_lt (hs m)
    simp only [this, Nat.xor_zero]
/-- what long division has made of the bits when i of them are done -/
def win (s : Nat → Nat) (n i j : Nat) : Nat := if j < i + 32 then (bt (reg s n i) (j - i) + msg s n j) % 2 else msg s n j
theorem win_le (s : Nat → Nat) (n i j : Nat) : win s n i j ≤ 1 := by
  unfold win; split
  · omega
  · exact msg_le _ _ _
theorem win_start (s : Nat → Nat) (n j : Nat) : win s n 0 j = if j < 32 then 1 - msg s n j else msg s n j := by
  unfold win
  simp only [Nat.zero_add, Nat.sub_zero, reg]
  split
  · next h =>
    have e : bt 4294967295 j = 1 := by
      have : ∀ j, j < 32 → bt 4294967295 j = 1 := by decide
      exact this j h
    rw [e]; have := msg_le s n j; omega
  · rfl
def pw : List Nat := [32, 28, 27, 26, 25, 23, 22, 20, 19, 18, 14, 13, 11, 10, 9, 8, 6, 0]
/-- how often q powers turn the place d -/
def fl : Nat → Nat → Nat
  | 0, _ => 0
  | q + 1, d => fl q d + (if d + pw.getD q 0 = 32 then 1 else 0)
theorem fl_all (d : Nat) (hd : d < 32) : fl 18 (d + 1) = bt poly d := by
  have : ∀ d, d < 32 → fl 18 (d + 1) = bt poly d := by decide
  exact this d hd
theorem pw_le (q : Nat) : pw.getD q 0 ≤ 32 := by
  by_cases h : q < 18
  · have : ∀ q, q < 18 → pw.getD q 0 ≤ 32 := by decide
    exact this q h
  · have : pw.getD q 0 = 0 := by
      rw [List.getD, List.getElem?_eq_none (by simp [pw]; omega)]; rfl
    omega
theorem fl_far (q d : Nat) (hd : 32 < d) : fl q d = 0 := by
  induction q with
  | zero => rfl
  | succ q ih => rw [fl, ih, if_neg (by omega)]
/-- the entry j while q powers are done at the place i -/
def mid (s : Nat → Nat) (n i q j : Nat) : Nat := (win s n i j + fl q (j - i)) % 2
theorem mid_zero (s : Nat → Nat) (n i j : Nat) : mid s n i 0 j = win s n i j := by
  unfold mid fl; have := win_le s n i j; omega
theorem mid_same (s : Nat → Nat) (n i q j : Nat) (hj : i ≤ j) (h : j ≠ i + 32 - pw.getD q 0) : mid s n i (q + 1) j = mid s n i q j := by
  unfold mid
  have := pw_le q
  rw [fl, if_neg (by omega)]; rfl
theorem mid_turn (s : Nat → Nat) (n i q : Nat) : mid s n i (q + 1) (i + 32 - pw.getD q 0) = 1 - mid s n i q (i + 32 - pw.getD q 0) := by
  unfold mid
  have := pw_le q
  rw [fl, if_pos (by omega)]; omega
theorem mid_le (s : Nat → Nat) (n i q j : Nat) : mid s n i q j ≤ 1 := by unfold mid; omega
theorem win_next (s : Nat → Nat) (n i j : Nat) (hj : i < j) : win s n (i + 1) j = (win s n i j + win s n i i * fl 18 (j - i)) % 2 := by
  have h0 : win s n i i = (reg s n i ^^^ msg s n i) % 2 := by
    unfold win
    rw [if_pos (by omega), Nat.sub_self, ← bt_zero (reg s n i ^^^ msg s n i), bt_xor, bt_zero (msg s n i), Nat.mod_eq_of_lt (by have := msg_le s n i; omega : msg s n i < 2)]
  by_cases h32 : j < i + 33
  · have e1 : j - i = (j - (i + 1)) + 1 := by omega
    have hm : bt (msg s n i) (j - (i + 1) + 1) = 0 := bt_high _ _ 1 (by have := msg_le s n i; omega) (by omega)
    have hw : win s n i j = (bt (reg s n i) (j - i) + msg s n j) % 2 := by
      unfold win
      split
      · rfl
      · have e2 : j - i = 32 := by omega
        rw [e2, bt_high _ 32 32 (reg_lt s n i) (by omega)]
        have := msg_le s n j; omega
    rw [hw]
    unfold win
    rw [if_pos (by omega), reg, bt_step, bt_xor, hm, if_pos (by omega), Nat.sub_self]
    have hh : (bt (reg s n i) 0 + msg s n i) % 2 = (reg s n i ^^^ msg s n i) % 2 := by
      rw [← bt_zero (reg s n i ^^^ msg s n i), bt_xor, bt_zero (msg s n i), Nat.mod_eq_of_lt (by have := msg_le s n i; omega : msg s n i < 2)]
    rw [hh, e1, fl_all _ (by omega)]
    omega
  · have a1 : win s n (i + 1) j = msg s n j := by unfold win; rw [if_neg (by omega)]
    have a2 : win s n i j = msg s n j := by unfold win; rw [if_neg (by omega)]
    rw [a1, a2, fl_far _ _ (by omega)]
    have := msg_le s n j; omega
theorem win_next0 (s : Nat → Nat) (n i j : Nat) (hj : i < j) (h : win s n i i = 0) : win s n (i + 1) j = win s n i j := by
  rw [win_next s n i j hj, h]; have := win_le s n i j; omega
theorem win_next1 (s : Nat → Nat) (n i j : Nat) (hj : i < j) (h : win s n i i = 1) : win s n (i + 1) j = mid s n i 18 j := by
  rw [win_next s n i j hj, h]; unfold mid; rw [Nat.one_mul]
/-- what is left, at the end -/
theorem win_end (s : Nat → Nat) (n t : Nat) (hs : ∀ i, s i < 256) (ht : t < 32) : win s n (8 * n) (8 * n + t) = bt (crc s n) t := by
  unfold win
  rw [if_pos (by omega), reg_crc s n n hs (by omega), Nat.add_sub_cancel_left]
  have : msg s n (8 * n + t) = 0 := by unfold msg; rw [if_neg (by omega)]
  rw [this]; have := bt_le (crc s n) t; omega
/-- the sum of q bits, turned -/
def tot (r : Nat) : Nat → Nat
  | 0 => 0
  | q + 1 => tot r q + (1 - bt r q) * 2 ^ q
theorem tot_eq (r q : Nat) : tot r q + r % 2 ^ q + 1 = 2 ^ q := by
  induction q with
  | zero => simp [tot]; omega
  | succ q ih =>
    rw [tot, Nat.mod_pow_succ]
    have : bt r q = r / 2 ^ q % 2 := rfl
    rcases bt_01 r q with e | e
    · rw [e, ← this, e, Nat.pow_succ]; omega
    · rw [e, ← this, e, Nat.pow_succ]; omega
theorem tot_all (r : Nat) (h : r < 4294967296) : tot r 32 = 4294967295 - r := by
  have := tot_eq r 32
  rw [Nat.mod_eq_of_lt h] at this
  have e : (2 : Nat) ^ 32 = 4294967296 := by decide
  omega
theorem turn_all (r : Nat) (h : r < 4294967296) : 4294967295 ^^^ r = 4294967295 - r := by
  apply Nat.eq_of_testBit_eq
  intro t
  have e := Nat.testBit_two_pow_sub_succ (n := 32) h t
  have e1 : 2 ^ 32 - (r + 1) = 4294967295 - r := by omega
  have e2 : (4294967295 : Nat) = 2 ^ 32 - 1 := by decide
  rw [← e1, e, Nat.testBit_xor, e2, Nat.testBit_two_pow_sub_one]
  by_cases ht : t < 32
  · simp [ht]
  · have hz : r.testBit t = false := Nat.testBit_lt_two_pow (Nat.lt_of_lt_of_le h (Nat.pow_le_pow_right (n := 2) (by decide) (show 32 ≤ t by omega)))
    simp [ht, hz]
end Gk
