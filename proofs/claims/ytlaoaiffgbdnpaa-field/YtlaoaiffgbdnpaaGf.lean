namespace Gf

def H : Nat := 0x8080808080808080
/-- doubleWord -/
def dblW (w : Nat) : Nat := ((w ^^^ (w &&& H)) * 2) ^^^ ((w &&& H) / 128 * 29)
/-- the loop of mulWord -/
def mulGo : Nat → Nat → Nat → Nat → Nat
  | 0, p, _, _ => p
  | n + 1, p, w, c => mulGo n (if c % 2 = 1 then p ^^^ w else p) (dblW w) (c / 2)
def mulW (w c : Nat) : Nat := mulGo 8 0 w c
/-- the product of two bytes -/
def gm (a b : Nat) : Nat := mulW a b

theorem dbl_lt : ∀ a < 256, dblW a < 256 := by decide +kernel
theorem xor_pow (n r : Nat) (h : r < 2 ^ n) : 2 ^ n + r = 2 ^ n ^^^ r := by
  apply Nat.eq_of_testBit_eq; intro i
  have := Nat.testBit_two_pow_mul_add 1 h i
  rw [Nat.mul_one] at this
  rw [this, Nat.testBit_xor, Nat.testBit_two_pow]
  by_cases hi : i < n
  · rw [if_pos hi]; have : n ≠ i := by omega
    simp [this]
  · rw [if_neg hi]
    have : r.testBit i = false := Nat.testBit_lt_two_pow (Nat.lt_of_lt_of_le h (Nat.pow_le_pow_right (by decide) (by omega)))
    rw [this]
    by_cases hn : n = i
    · subst hn; simp
    · have : (1 : Nat).testBit (i - n) = false := by
        rw [show (1 : Nat) = 2 ^ 0 from rfl, Nat.testBit_two_pow]; simp; omega
      simp [this, hn]

/-- additive at the eight powers: additive -/
theorem lin_of_basis (f : Nat → Nat) (h0 : f 0 = 0) (hb : ∀ a < 256, ∀ i < 8, f (a ^^^ 2 ^ i) = f a ^^^ f (2 ^ i)) : ∀ a < 256, ∀ b < 256, f (a ^^^ b) = f a ^^^ f b := by
  have key : ∀ n ≤ 8, ∀ b < 2 ^ n, ∀ a < 256, f (a ^^^ b) = f a ^^^ f b := by
    intro n
    induction n with
    | zero => intro _ b hb' a _; have : b = 0 := by simp at hb'; omega
              subst this; simp [h0]
    | succ n ih =>
      intro hn b hb' a ha
      by_cases hlt : b < 2 ^ n
      · exact ih (by omega) b hlt a ha
      · have hr : b - 2 ^ n < 2 ^ n := by rw [Nat.pow_succ] at hb'; omega
        have e : b = (b - 2 ^ n) ^^^ 2 ^ n := by rw [Nat.xor_comm, ← xor_pow n _ hr]; omega
        have hp : (2 : Nat) ^ n ≤ 128 := Nat.pow_le_pow_right (by decide) (show n ≤ 7 by omega)
        have hr' : b - 2 ^ n < 256 := by omega
        rw [e, ← Nat.xor_assoc, hb _ (Nat.xor_lt_two_pow (n := 8) ha hr') n (by omega), hb _ hr' n (by omega), ih (by omega) _ hr a ha, Nat.xor_assoc]
  intro a ha b hb'
  exact key 8 (by omega) b hb' a ha
theorem dbl_lin : ∀ a < 256, ∀ b < 256, dblW (a ^^^ b) = dblW a ^^^ dblW b := lin_of_basis dblW (by decide +kernel) (by decide +kernel)
theorem xor_lt (a b : Nat) (ha : a < 256) (hb : b < 256) : a ^^^ b < 256 := Nat.xor_lt_two_pow (n := 8) ha hb

theorem and_split (b r b' r' : Nat) (hb : b < 256) (hb' : b' < 256) : (b + 256 * r) &&& (b' + 256 * r') = (b &&& b') + 256 * (r &&& r') := by
  apply Nat.eq_of_testBit_eq; intro i
  have hbb : b &&& b' < 2 ^ 8 := Nat.and_lt_two_pow _ hb'
  rw [Nat.testBit_and, Nat.add_comm b, Nat.add_comm b', Nat.add_comm (b &&& b')]
  rw [show (256 : Nat) = 2 ^ 8 from rfl]
  rw [Nat.testBit_two_pow_mul_add _ (by simpa using hb), Nat.testBit_two_pow_mul_add _ (by simpa using hb'), Nat.testBit_two_pow_mul_add _ hbb]
  split <;> simp [Nat.testBit_and]

theorem xor_split (b r b' r' : Nat) (hb : b < 256) (hb' : b' < 256) : (b + 256 * r) ^^^ (b' + 256 * r') = (b ^^^ b') + 256 * (r ^^^ r') := by
  apply Nat.eq_of_testBit_eq; intro i
  have hbb : b ^^^ b' < 2 ^ 8 := Nat.xor_lt_two_pow hb hb'
  rw [Nat.testBit_xor, Nat.add_comm b, Nat.add_comm b', Nat.add_comm (b ^^^ b')]
  rw [show (256 : Nat) = 2 ^ 8 from rfl]
  rw [Nat.testBit_two_pow_mul_add _ (by simpa using hb), Nat.testBit_two_pow_mul_add _ (by simpa using hb'), Nat.testBit_two_pow_mul_add _ hbb]
  split <;> simp [Nat.testBit_xor]

/-- the mask of the seven bytes above -/
theorem and_H (r : Nat) (hr : r < 72057594037927936) : r &&& H = r &&& 0x80808080808080 := by
  have : r &&& (2 ^ 56 - 1) = r := by rw [Nat.and_two_pow_sub_one_eq_mod]; exact Nat.mod_eq_of_lt hr
  conv => lhs; rw [← this]
  rw [Nat.and_assoc]; rfl

theorem and_H_128 (r : Nat) : (r &&& H) % 128 = 0 := by
  have := Nat.and_mod_two_pow (a := r) (b := H) (n := 7)
  rw [show (2 : Nat) ^ 7 = 128 from rfl] at this
  rw [this, show H % 128 = 0 from rfl, Nat.and_zero]

theorem dbl_small : ∀ b < 256, (b ^^^ (b &&& 128)) * 2 < 256 ∧ (b &&& 128) / 128 * 29 < 256 ∧ b &&& H = b &&& 128 := by decide +kernel

theorem dbl_split (b r : Nat) (hb : b < 256) (hr : r < 72057594037927936) : dblW (b + 256 * r) = dblW b + 256 * dblW r := by
  have e : (b + 256 * r) &&& H = (b &&& 128) + 256 * (r &&& H) := by
    rw [show H = 128 + 256 * 0x80808080808080 from rfl, and_split _ _ _ _ hb (by decide), ← and_H r hr]; rfl
  have m := and_H_128 r
  obtain ⟨s1, s2, s3⟩ := dbl_small b hb
  have h1 : b &&& 128 < 256 := Nat.lt_of_le_of_lt Nat.and_le_right (by decide)
  unfold dblW
  rw [e, xor_split _ _ _ _ hb h1, s3]
  have d : ((b &&& 128) + 256 * (r &&& H)) / 128 * 29 = (b &&& 128) / 128 * 29 + 256 * ((r &&& H) / 128 * 29) := by omega
  have d2 : ((b ^^^ (b &&& 128)) + 256 * (r ^^^ (r &&& H))) * 2 = (b ^^^ (b &&& 128)) * 2 + 256 * ((r ^^^ (r &&& H)) * 2) := by omega
  rw [d, d2, xor_split _ _ _ _ s1 s2]

theorem dblW_lt (n : Nat) (hn : n ≤ 8) (w : Nat) (hw : w < 256 ^ n) : dblW w < 256 ^ n := by
  induction n generalizing w with
  | zero => have : w = 0 := by simp at hw; omega
            subst this; decide
  | succ n ih =>
    have e : w = w % 256 + 256 * (w / 256) := by omega
    have hq : w / 256 < 256 ^ n := by rw [Nat.pow_succ] at hw; omega
    have hp : (256 : Nat) ^ n ≤ 256 ^ 7 := Nat.pow_le_pow_right (by decide) (by omega)
    have hq' : w / 256 < 72057594037927936 := by simp at hp; omega
    rw [e, dbl_split _ _ (by omega) hq']
    have := ih (by omega) _ hq
    have := dbl_lt (w % 256) (by omega)
    rw [Nat.pow_succ]; omega

theorem mulGo_split (n : Nat) (p0 p1 b r c : Nat) (hp : p0 < 256) (hb : b < 256) (hr : r < 72057594037927936) :
    mulGo n (p0 + 256 * p1) (b + 256 * r) c = mulGo n p0 b c + 256 * mulGo n p1 r c := by
  induction n generalizing p0 p1 b r c with
  | zero => rfl
  | succ n ih =>
    unfold mulGo
    rw [dbl_split _ _ hb hr]
    have h1 := dbl_lt b hb
    have h2 := dblW_lt 7 (by omega) r (by simpa using hr)
    by_cases hc : c % 2 = 1
    · simp only [hc, if_true]
      rw [xor_split _ _ _ _ hp hb]
      exact ih _ _ _ _ _ (xor_lt _ _ hp hb) h1 (by simpa using h2)
    · simp only [hc, if_false]
      exact ih _ _ _ _ _ hp h1 (by simpa using h2)

theorem mulW_split (b r c : Nat) (hb : b < 256) (hr : r < 72057594037927936) : mulW (b + 256 * r) c = gm b c + 256 * mulW r c := by
  have := mulGo_split 8 0 0 b r c (by decide) hb hr
  simpa [mulW, gm] using this

theorem mulGo_lt (n : Nat) (p w c : Nat) (hp : p < 256) (hw : w < 256) : mulGo n p w c < 256 := by
  induction n generalizing p w c with
  | zero => exact hp
  | succ n ih =>
    unfold mulGo
    refine ih _ _ _ ?_ (dbl_lt w hw)
    split
    · exact xor_lt _ _ hp hw
    · exact hp
theorem gm_lt (a b : Nat) (ha : a < 256) : gm a b < 256 := mulGo_lt 8 0 a b (by decide) ha
theorem mulGo_lt64 (n : Nat) (p w c : Nat) (hp : p < 256 ^ 8) (hw : w < 256 ^ 8) : mulGo n p w c < 256 ^ 8 := by
  induction n generalizing p w c with
  | zero => exact hp
  | succ n ih =>
    unfold mulGo
    refine ih _ _ _ ?_ (dblW_lt 8 (by omega) w hw)
    split
    · exact Nat.xor_lt_two_pow (n := 64) (by simpa using hp) (by simpa using hw)
    · exact hp

theorem mulGo_lin (n : Nat) (p p' w w' c : Nat) (hp : p < 256) (hp' : p' < 256) (hw : w < 256) (hw' : w' < 256) :
    mulGo n (p ^^^ p') (w ^^^ w') c = mulGo n p w c ^^^ mulGo n p' w' c := by
  induction n generalizing p p' w w' c with
  | zero => rfl
  | succ n ih =>
    unfold mulGo
    rw [dbl_lin w hw w' hw']
    by_cases hc : c % 2 = 1
    · simp only [hc, if_true]
      rw [show p ^^^ p' ^^^ (w ^^^ w') = (p ^^^ w) ^^^ (p' ^^^ w') by ac_rfl]
      exact ih _ _ _ _ _ (xor_lt _ _ hp hw) (xor_lt _ _ hp' hw') (dbl_lt w hw) (dbl_lt w' hw')
    · simp only [hc, if_false]
      exact ih _ _ _ _ _ hp hp' (dbl_lt w hw) (dbl_lt w' hw')
theorem gm_xor_left (a b c : Nat) (ha : a < 256) (hb : b < 256) : gm (a ^^^ b) c = gm a c ^^^ gm b c := by
  have := mulGo_lin 8 0 0 a b c (by decide) (by decide) ha hb
  simpa [mulW, gm] using this

theorem xor_mod2 (c d : Nat) : (c ^^^ d) % 2 = (c % 2 + d % 2) % 2 := by
  have := Nat.xor_mod_two_pow (a := c) (b := d) (n := 1)
  simp only [Nat.pow_one] at this
  rw [this]
  rcases Nat.mod_two_eq_zero_or_one c with h | h <;> rcases Nat.mod_two_eq_zero_or_one d with h' | h' <;> rw [h, h'] <;> rfl
theorem xor_div2 (c d : Nat) : (c ^^^ d) / 2 = c / 2 ^^^ d / 2 := by
  have := Nat.xor_div_two_pow (a := c) (b := d) (n := 1)
  simpa using this

theorem mulGo_lin2 (n : Nat) (p p' w c d : Nat) : mulGo n (p ^^^ p') w (c ^^^ d) = mulGo n p w c ^^^ mulGo n p' w d := by
  induction n generalizing p p' w c d with
  | zero => rfl
  | succ n ih =>
    unfold mulGo
    rw [xor_mod2, xor_div2]
    rcases Nat.mod_two_eq_zero_or_one c with h | h <;> rcases Nat.mod_two_eq_zero_or_one d with h' | h' <;> rw [h, h'] <;> simp
    · exact ih _ _ _ _ _
    · rw [show p ^^^ p' ^^^ w = p ^^^ (p' ^^^ w) by ac_rfl]; exact ih _ _ _ _ _
    · rw [show p ^^^ p' ^^^ w = (p ^^^ w) ^^^ p' by ac_rfl]; exact ih _ _ _ _ _
    · rw [show p ^^^ p' = (p ^^^ w) ^^^ (p' ^^^ w) by
        rw [show (p ^^^ w) ^^^ (p' ^^^ w) = p ^^^ p' ^^^ (w ^^^ w) by ac_rfl, Nat.xor_self, Nat.xor_zero]]
      exact ih _ _ _ _ _
theorem gm_xor_right (a b c : Nat) : gm a (b ^^^ c) = gm a b ^^^ gm a c := by
  have := mulGo_lin2 8 0 0 a b c
  simpa [mulW, gm] using this

/-- two additive functions that agree at the eight powers agree -/
theorem lin_ext (f g : Nat → Nat) (hf : ∀ x y, x < 256 → y < 256 → f (x ^^^ y) = f x ^^^ f y) (hg : ∀ x y, x < 256 → y < 256 → g (x ^^^ y) = g x ^^^ g y)
    (h0 : f 0 = g 0) (hb : ∀ i < 8, f (2 ^ i) = g (2 ^ i)) : ∀ a < 256, f a = g a := by
  have key : ∀ n ≤ 8, ∀ a < 2 ^ n, f a = g a := by
    intro n
    induction n with
    | zero => intro _ a ha; have : a = 0 := by simp at ha; omega
              subst this; exact h0
    | succ n ih =>
      intro hn a ha
      by_cases hlt : a < 2 ^ n
      · exact ih (by omega) a hlt
      · have hr : a - 2 ^ n < 2 ^ n := by rw [Nat.pow_succ] at ha; omega
        have e : a = 2 ^ n ^^^ (a - 2 ^ n) := by rw [← xor_pow n _ hr]; omega
        have hp : (2 : Nat) ^ n < 256 := Nat.lt_of_le_of_lt (Nat.pow_le_pow_right (by decide) (show n ≤ 7 by omega)) (by decide)
        rw [e, hf _ _ hp (by omega), hg _ _ hp (by omega), hb n (by omega), ih (by omega) _ hr]
  exact key 8 (by omega)

theorem gm_zero_left (c : Nat) : gm 0 c = 0 := by
  have := gm_xor_left 0 0 c (by decide) (by decide)
  simp only [Nat.xor_self] at this; exact this
theorem gm_zero_right (c : Nat) : gm c 0 = 0 := by
  have := gm_xor_right c 0 0
  simp only [Nat.xor_self] at this; exact this
theorem pow_lt (i : Nat) (h : i < 8) : 2 ^ i < 256 := Nat.lt_of_le_of_lt (Nat.pow_le_pow_right (by decide) (show i ≤ 7 by omega)) (by decide)

theorem gm_comm (a b : Nat) (ha : a < 256) (hb : b < 256) : gm a b = gm b a := by
  have base : ∀ i < 8, ∀ j < 8, gm (2 ^ i) (2 ^ j) = gm (2 ^ j) (2 ^ i) := by decide +kernel
  refine lin_ext (fun x => gm x b) (fun x => gm b x) (fun x y hx hy => gm_xor_left x y b hx hy) (fun x y _ _ => gm_xor_right b x y) (by simp [gm_zero_left, gm_zero_right]) ?_ a ha
  intro i hi
  exact lin_ext (fun x => gm (2 ^ i) x) (fun x => gm x (2 ^ i)) (fun x y _ _ => gm_xor_right _ x y) (fun x y hx hy => gm_xor_left x y _ hx hy) (by simp [gm_zero_left, gm_zero_right]) (fun j hj => base i hi j hj) b hb

theorem gm_assoc (a b c : Nat) (ha : a < 256) (hb : b < 256) (hc : c < 256) : gm (gm a b) c = gm a (gm b c) := by
  have base : ∀ i < 8, ∀ j < 8, ∀ k < 8, gm (gm (2 ^ i) (2 ^ j)) (2 ^ k) = gm (2 ^ i) (gm (2 ^ j) (2 ^ k)) := by decide +kernel
  refine lin_ext (fun x => gm (gm x b) c) (fun x => gm x (gm b c)) ?_ ?_ (by simp [gm_zero_left]) ?_ a ha
  · intro x y hx hy; show gm (gm (x ^^^ y) b) c = _; rw [gm_xor_left x y b hx hy, gm_xor_left _ _ _ (gm_lt x b hx) (gm_lt y b hy)]
  · intro x y hx hy; exact gm_xor_left x y _ hx hy
  intro i hi
  have hi' := pow_lt i hi
  refine lin_ext (fun x => gm (gm (2 ^ i) x) c) (fun x => gm (2 ^ i) (gm x c)) ?_ ?_ (by simp [gm_zero_left, gm_zero_right]) ?_ b hb
  · intro x y hx hy; show gm (gm (2 ^ i) (x ^^^ y)) c = _; rw [gm_xor_right, gm_xor_left _ _ _ (gm_lt _ x hi') (gm_lt _ y hi')]
  · intro x y hx hy; show gm (2 ^ i) (gm (x ^^^ y) c) = _; rw [gm_xor_left x y c hx hy, gm_xor_right]
  intro j hj
  refine lin_ext (fun x => gm (gm (2 ^ i) (2 ^ j)) x) (fun x => gm (2 ^ i) (gm (2 ^ j) x)) ?_ ?_ (by simp [gm_zero_right]) (fun k hk => base i hi j hj k hk) c hc
  · intro x y _ _; exact gm_xor_right _ x y
  · intro x y _ _; show gm (2 ^ i) (gm (2 ^ j) (x ^^^ y)) = _; rw [gm_xor_right, gm_xor_right]

theorem gm_one (a : Nat) (ha : a < 256) : gm a 1 = a := by
  have : ∀ a < 256, gm a 1 = a := by decide +kernel
  exact this a ha

/-- the loop of inverse -/
def invGo : Nat → Nat → Nat → Nat
  | 0, _, p => p
  | n + 1, s, p => invGo n (gm s s) (gm p (gm s s))
def inv (b : Nat) : Nat := invGo 7 b 1
theorem inv_lt (b : Nat) (hb : b < 256) : inv b < 256 := by
  have : ∀ b < 256, inv b < 256 := by decide +kernel
  exact this b hb
theorem gm_inv (b : Nat) (hb : b < 256) (h0 : b ≠ 0) : gm (inv b) b = 1 := by
  have : ∀ b < 256, b ≠ 0 → gm (inv b) b = 1 := by decide +kernel
  exact this b hb h0
def gdiv (a b : Nat) : Nat := gm a (inv b)
theorem gdiv_mul (a b : Nat) (ha : a < 256) (hb : b < 256) (h0 : b ≠ 0) : gm (gdiv a b) b = a := by
  unfold gdiv
  rw [gm_assoc _ _ _ ha (inv_lt b hb) hb, gm_inv b hb h0, gm_one a ha]
theorem gm_cancel (a x y : Nat) (ha : a < 256) (hx : x < 256) (hy : y < 256) (h0 : a ≠ 0) (h : gm x a = gm y a) : x = y := by
  have e : ∀ z, z < 256 → gm (gm z a) (inv a) = z := by
    intro z hz
    rw [gm_assoc z a (inv a) hz ha (inv_lt a ha), gm_comm a (inv a) ha (inv_lt a ha), gm_inv a ha h0, gm_one z hz]
  have := e x hx
  rw [h, e y hy] at this
  exact this.symm
theorem gdiv_unique (a b n : Nat) (ha : a < 256) (hb : b < 256) (hn : n < 256) (h0 : b ≠ 0) (h : gm n b = a) : n = gdiv a b := by
  refine gm_cancel b _ _ hb hn (gm_lt a _ ha) h0 ?_
  rw [h, gdiv_mul a b ha hb h0]
theorem gm_eq_zero (a b : Nat) (ha : a < 256) (hb : b < 256) : gm a b = 0 ↔ a = 0 ∨ b = 0 := by
  constructor
  · intro h
    by_cases h0 : b = 0
    · exact Or.inr h0
    · left; refine gm_cancel b a 0 hb ha (by decide) h0 ?_
      rw [h, gm_zero_left]
  · rintro (h | h) <;> subst h
    · exact gm_zero_left b
    · exact gm_zero_right a

theorem half_lt (x : Nat) (hx : x < 18446744073709551616) : (x ^^^ (x &&& H)) * 2 < 18446744073709551616 := by
  have : x ^^^ (x &&& H) < 2 ^ 63 := by
    refine Nat.lt_pow_two_of_testBit _ ?_
    intro i hi
    rw [Nat.testBit_xor, Nat.testBit_and]
    by_cases h : i = 63
    · subst h
      rw [show H.testBit 63 = true from by decide +kernel]; simp
    · have : x.testBit i = false := Nat.testBit_lt_two_pow (Nat.lt_of_lt_of_le hx (show 2 ^ 64 ≤ 2 ^ i from Nat.pow_le_pow_right (by decide) (by omega)))
      simp [this]
  omega
theorem high_lt (x : Nat) : (x &&& H) / 128 * 29 < 18446744073709551616 := by
  have : x &&& H ≤ H := Nat.and_le_right
  have h2 : H = 9259542123273814144 := rfl
  omega
theorem dblW_lt64 (x : Nat) (hx : x < 18446744073709551616) : dblW x < 18446744073709551616 := by
  have := dblW_lt 8 (by omega) x (by simpa using hx)
  simpa using this
theorem mulW_lt64 (x c : Nat) (hx : x < 18446744073709551616) : mulW x c < 18446744073709551616 := by
  have := mulGo_lt64 8 0 x c (by decide) (by simpa using hx)
  simpa [mulW] using this

end Gf
