import Derived.Test.YtlaoaiffgbdnpaaGs
import Derived.Test.YtlaoaiffgbdnpaaGm
namespace Gf
set_option linter.unusedVariables false
set_option linter.unusedSectionVars false

/-- what is asked of a field in which every a + a is 0 -/
structure Fld (F : Type) [Mul F] [Add F] [OfNat F 0] [OfNat F 1] (iv : F → F) : Prop where
  add_mul : ∀ a b c : F, (a + b) * c = a * c + b * c
  mul_add : ∀ a b c : F, a * (b + c) = a * b + a * c
  add_self : ∀ a : F, a + a = 0
  add_zero : ∀ a : F, a + 0 = a
  zero_add : ∀ a : F, 0 + a = a
  mul_one : ∀ a : F, a * 1 = a
  zero_mul : ∀ a : F, 0 * a = 0
  mul_eq_zero : ∀ a b : F, a * b = 0 → a = 0 ∨ b = 0
  iv_mul : ∀ a : F, a ≠ 0 → iv a * a = 1
  one_ne : (1 : F) ≠ 0
section
variable {F : Type} [Mul F] [Add F] [OfNat F 0] [OfNat F 1] [Std.Associative (α := F) (· * ·)] [Std.Commutative (α := F) (· * ·)] [Std.Associative (α := F) (· + ·)] [Std.Commutative (α := F) (· + ·)] {iv : F → F}
theorem F_mul_assoc (a b c : F) : a * b * c = a * (b * c) := by ac_rfl
theorem F_add_assoc (a b c : F) : a + b + c = a + (b + c) := by ac_rfl
theorem F_add_comm (a b : F) : a + b = b + a := by ac_rfl
theorem Fld.add_eq_zero (L : Fld F iv) {a b : F} (h : a + b = 0) : a = b := by
  have : a + b + b = 0 + b := by rw [h]
  rw [F_add_assoc, L.add_self, L.add_zero, L.zero_add] at this
  exact this
theorem Fld.iv_ne (L : Fld F iv) {a : F} (h : a ≠ 0) : iv a ≠ 0 := by
  intro e
  have := L.iv_mul a h
  rw [e, L.zero_mul] at this
  exact L.one_ne this.symm

/-- a sum over a list -/
def S {F : Type} [Add F] [OfNat F 0] : List Nat → (Nat → F) → F
  | [], _ => 0
  | j :: js, f => f j + S js f
theorem S_congr (l : List Nat) (f g : Nat → F) (h : ∀ j ∈ l, f j = g j) : S l f = S l g := by
  induction l with
  | nil => rfl
  | cons j js ih => simp only [S]; rw [h j (by simp), ih (fun j hj => h j (by simp [hj]))]
theorem S_add (L : Fld F iv) (l : List Nat) (f g : Nat → F) : S l (fun j => f j + g j) = S l f + S l g := by
  induction l with
  | nil => exact (L.add_zero 0).symm
  | cons j js ih => simp only [S]; rw [ih]; ac_rfl
theorem S_mul (L : Fld F iv) (l : List Nat) (f : Nat → F) (c : F) : S l f * c = S l (fun j => f j * c) := by
  induction l with
  | nil => exact L.zero_mul c
  | cons j js ih => simp only [S]; rw [L.add_mul, ih]
theorem S_zero (L : Fld F iv) (l : List Nat) : S l (fun _ => (0 : F)) = 0 := by
  induction l with
  | nil => rfl
  | cons a l ih => simp only [S]; rw [ih]; exact L.add_zero 0
theorem S_append (L : Fld F iv) (l m : List Nat) (f : Nat → F) : S (l ++ m) f = S l f + S m f := by
  induction l with
  | nil => exact (L.zero_add _).symm
  | cons j js ih => simp only [List.cons_append, S]; rw [ih]; ac_rfl
theorem S_filter (L : Fld F iv) (l : List Nat) (q : Nat → Bool) (f : Nat → F) (h : ∀ j ∈ l, q j = false → f j = 0) : S l f = S (l.filter q) f := by
  induction l with
  | nil => rfl
  | cons j js ih =>
    rw [List.filter_cons]
    have ih' := ih (fun j hj => h j (by simp [hj]))
    cases hq : q j with
    | true => simp only [if_true, S]; rw [ih']
    | false => simp only [Bool.false_eq_true, if_false, S]; rw [h j (by simp) hq, L.zero_add, ih']
theorem add_ne (L : Fld F iv) {a b : F} (h : a ≠ b) : a + b ≠ 0 := fun e => h (L.add_eq_zero e)

theorem term_eq (L : Fld F iv) (x a a0 c : F) (h : a ≠ 0) (h0 : a0 ≠ 0) : x * iv a * (a + c) + x * iv a0 * (a0 + c) = x * c * iv a0 * iv a * (a + a0) := by
  have e1 : x * iv a * (a + c) = x + x * c * iv a := by
    rw [L.mul_add, F_mul_assoc x (iv a) a, L.iv_mul _ h, L.mul_one]
    congr 1; ac_rfl
  have e2 : x * iv a0 * (a0 + c) = x + x * c * iv a0 := by
    rw [L.mul_add, F_mul_assoc x (iv a0) a0, L.iv_mul _ h0, L.mul_one]
    congr 1; ac_rfl
  have e3 : x * c * iv a0 * iv a * (a + a0) = x * c * iv a0 + x * c * iv a := by
    rw [L.mul_add]
    have p1 : x * c * iv a0 * iv a * a = x * c * iv a0 * (iv a * a) := by ac_rfl
    have p2 : x * c * iv a0 * iv a * a0 = x * c * iv a * (iv a0 * a0) := by ac_rfl
    rw [p1, p2, L.iv_mul _ h, L.iv_mul _ h0, L.mul_one, L.mul_one]
  rw [e1, e2, e3]
  have : x + x * c * iv a + (x + x * c * iv a0) = (x + x) + (x * c * iv a0 + x * c * iv a) := by ac_rfl
  rw [this, L.add_self, L.zero_add]

/-- Cauchy's: no sum of such fractions is 0 at as many places -/
theorem cauchy (L : Fld F iv) (el : Nat → F) : ∀ (Js Ps : List Nat) (x : Nat → F), Js.Pairwise (fun a b => el a ≠ el b) → Ps.Pairwise (fun a b => el a ≠ el b) → (∀ p ∈ Ps, ∀ j ∈ Js, el p ≠ el j) → Js.length ≤ Ps.length →
    (∀ p ∈ Ps, S Js (fun j => x j * iv (el p + el j)) = 0) → ∀ j ∈ Js, x j = 0
  | [], _, _, _, _, _, _, _ => fun j hj => by cases hj
  | j0 :: Js, [], _, _, _, _, hl, _ => by simp at hl
  | j0 :: Js, p0 :: Ps, x, hJ, hP, hd, hl, hs => by
    have hJ' := List.pairwise_cons.1 hJ
    have hP' := List.pairwise_cons.1 hP
    have h00 : el p0 + el j0 ≠ 0 := add_ne L (hd p0 (by simp) j0 (by simp))
    have s0 := hs p0 (by simp)
    have rest : ∀ j ∈ Js, x j = 0 := by
      have ih := cauchy L el Js Ps (fun j => x j * (el j + el j0) * iv (el p0 + el j)) hJ'.2 hP'.2 (fun p hp j hj => hd p (by simp [hp]) j (by simp [hj])) (by simpa using hl) (by
        intro p hp
        have s1 := hs p (by simp [hp])
        have hp0 : el p + el j0 ≠ 0 := add_ne L (hd p (by simp [hp]) j0 (by simp))
        have hpp : el p + el p0 ≠ 0 := by rw [F_add_comm]; exact add_ne L (hP'.1 p hp)
        -- (p + j0) S(p) + (p0 + j0) S(p0) = 0
        have z : S (j0 :: Js) (fun j => x j * iv (el p + el j)) * (el p + el j0) + S (j0 :: Js) (fun j => x j * iv (el p0 + el j)) * (el p0 + el j0) = 0 := by rw [s0, s1, L.zero_mul, L.zero_mul, L.add_zero]
        simp only [S] at z
        rw [L.add_mul, L.add_mul, F_mul_assoc (x j0), L.iv_mul _ hp0, F_mul_assoc (x j0), L.iv_mul _ h00, L.mul_one] at z
        have z2 : x j0 + S Js (fun j => x j * iv (el p + el j)) * (el p + el j0) + (x j0 + S Js (fun j => x j * iv (el p0 + el j)) * (el p0 + el j0)) = (x j0 + x j0) + (S Js (fun j => x j * iv (el p + el j)) * (el p + el j0) + S Js (fun j => x j * iv (el p0 + el j)) * (el p0 + el j0)) := by ac_rfl
        rw [z2, L.add_self, L.zero_add, S_mul L, S_mul L, ← S_add L] at z
        have z3 : S Js (fun j => x j * (el j + el j0) * iv (el p0 + el j) * iv (el p + el j)) * (el p + el p0) = 0 := by
          rw [S_mul L, ← z]
          refine S_congr _ _ _ (fun j hj => ?_)
          have a1 : el p + el j ≠ 0 := add_ne L (hd p (by simp [hp]) j (by simp [hj]))
          have a2 : el p0 + el j ≠ 0 := add_ne L (hd p0 (by simp) j (by simp [hj]))
          have t := term_eq L (x j) (el p + el j) (el p0 + el j) (el j + el j0) a1 a2
          have c1 : el p + el j + (el j + el j0) = el p + el j0 := by
            have : el p + el j + (el j + el j0) = (el j + el j) + (el p + el j0) := by ac_rfl
            rw [this, L.add_self, L.zero_add]
          have c2 : el p0 + el j + (el j + el j0) = el p0 + el j0 := by
            have : el p0 + el j + (el j + el j0) = (el j + el j) + (el p0 + el j0) := by ac_rfl
            rw [this, L.add_self, L.zero_add]
          have c3 : el p + el j + (el p0 + el j) = el p + el p0 := by
            have : el p + el j + (el p0 + el j) = (el j + el j) + (el p + el p0) := by ac_rfl
            rw [this, L.add_self, L.zero_add]
          rw [c1, c2, c3] at t
          exact t.symm
        rcases L.mul_eq_zero _ _ z3 with h | h
        · exact h
        · exact absurd h hpp)
      intro j hj
      have := ih j hj
      rcases L.mul_eq_zero _ _ this with h | h
      · rcases L.mul_eq_zero _ _ h with h | h
        · exact h
        · exact absurd h (by rw [F_add_comm]; exact add_ne L (hJ'.1 j hj))
      · exact absurd h (L.iv_ne (add_ne L (hd p0 (by simp) j (by simp [hj]))))
    intro j hj
    rcases List.mem_cons.1 hj with rfl | hj
    · simp only [S] at s0
      have e : S Js (fun j => x j * iv (el p0 + el j)) = 0 := by
        rw [S_congr _ _ (fun _ => 0) (fun j hj => by rw [rest j hj, L.zero_mul])]
        exact S_zero L Js
      rw [e, L.add_zero] at s0
      rcases L.mul_eq_zero _ _ s0 with h | h
      · exact h
      · exact absurd h (L.iv_ne h00)
    · exact rest j hj

end

/-- the field -/
def F : Type := { x : Nat // x < 256 }
theorem F.ext {a b : F} (h : a.1 = b.1) : a = b := Subtype.ext h
abbrev fMul : Mul F := ⟨fun a b => ⟨gm a.1 b.1, gm_lt _ _ a.2⟩⟩
abbrev fAdd : Add F := ⟨fun a b => ⟨a.1 ^^^ b.1, xor_lt _ _ a.2 b.2⟩⟩
abbrev fZero : OfNat F 0 := ⟨⟨0, by decide⟩⟩
abbrev fOne : OfNat F 1 := ⟨⟨1, by decide⟩⟩
def fIv (a : F) : F := ⟨gdiv 1 a.1, gm_lt _ _ (by decide)⟩
theorem fMulA : @Std.Associative F fMul.mul := ⟨fun a b c => F.ext (gm_assoc _ _ _ a.2 b.2 c.2)⟩
theorem fMulC : @Std.Commutative F fMul.mul := ⟨fun a b => F.ext (gm_comm _ _ a.2 b.2)⟩
theorem fAddA : @Std.Associative F fAdd.add := ⟨fun a b c => F.ext (Nat.xor_assoc _ _ _)⟩
theorem fAddC : @Std.Commutative F fAdd.add := ⟨fun a b => F.ext (Nat.xor_comm _ _)⟩
theorem fld : @Fld F fMul fAdd fZero fOne fIv := by
  refine @Fld.mk F fMul fAdd fZero fOne fIv ?_ ?_ ?_ ?_ ?_ ?_ ?_ ?_ ?_ ?_
  · exact fun a b c => F.ext (gm_xor_left _ _ _ a.2 b.2)
  · exact fun a b c => F.ext (gm_xor_right a.1 b.1 c.1)
  · exact fun a => F.ext (Nat.xor_self _)
  · exact fun a => F.ext (Nat.xor_zero _)
  · exact fun a => F.ext (Nat.zero_xor _)
  · exact fun a => F.ext (gm_one _ a.2)
  · exact fun a => F.ext (gm_zero_left a.1)
  · intro a b h
    rcases (gm_eq_zero a.1 b.1 a.2 b.2).1 (congrArg (·.1) h) with h | h
    · exact .inl (F.ext h)
    · exact .inr (F.ext h)
  · intro a h
    exact F.ext (gdiv_mul 1 a.1 (by decide) a.2 (fun e => h (F.ext e)))
  · intro e
    have e2 : (1 : Nat) = 0 := congrArg (·.1) e
    cases e2
def mkF (x : Nat) (h : x < 256) : F := ⟨x, h⟩
def el (n : Nat) : F := ⟨n % 256, Nat.mod_lt _ (by decide)⟩
theorem el_ne {a b : Nat} (ha : a < 256) (hb : b < 256) (h : a ≠ b) : el a ≠ el b := by
  intro e
  have e2 : a % 256 = b % 256 := congrArg (·.1) e
  omega
abbrev fS : List Nat → (Nat → F) → F := @S F fAdd fZero
theorem fS_range (k : Nat) (f : Nat → F) : (fS (List.range k) f).1 = xsum k (fun j => (f j).1) := by
  induction k with
  | zero => rfl
  | succ k ih =>
    have h1 : fS (List.range (k + 1)) f = fAdd.add (fS (List.range k) f) (fAdd.add (f k) fZero.1) := by
      rw [List.range_succ]
      exact @S_append F fMul fAdd fZero fOne fMulA fMulC fAddA fAddC fIv fld _ _ f
    have h2 : fAdd.add (f k) fZero.1 = f k := F.ext (Nat.xor_zero _)
    rw [h1, h2]
    show (fS (List.range k) f).1 ^^^ (f k).1 = xsum (k + 1) (fun j => (f j).1)
    rw [ih]
    rfl
theorem nodup_sub : ∀ (l m : List Nat), l.Nodup → (∀ x ∈ l, x ∈ m) → l.length ≤ m.length
  | [], _, _, _ => Nat.zero_le _
  | a :: l, m, hn, hs => by
    have hn' := List.nodup_cons.1 hn
    have ha := hs a (by simp)
    have := nodup_sub l (m.erase a) hn'.2 (fun x hx => (List.mem_erase_of_ne (show x ≠ a from fun e => hn'.1 (by rw [← e]; exact hx))).2 (hs x (by simp [hx])))
    rw [List.length_erase_of_mem ha] at this
    have : 0 < m.length := List.length_pos_of_mem ha
    simp only [List.length_cons]
    omega

theorem filter_split (l : List Nat) (q : Nat → Bool) : (l.filter q).length + (l.filter (fun x => !q x)).length = l.length := by
  induction l with
  | nil => rfl
  | cons a l ih =>
    rw [List.filter_cons, List.filter_cons]
    cases q a <;> simp <;> omega

/-- as many different rows as there are columns: no unknowns but 0 fit -/
theorem rows_free {k n : Nat} (hn : n ≤ 32) (hkn : k ≤ n) (A : List Nat) (hA : A.length = k) (hnd : A.Nodup) (hlt : ∀ a ∈ A, a < n) (x : Nat → Nat) (hx : ∀ j, x j < 256)
    (hz : ∀ a ∈ A, xsum k (fun j => gm (genEntry k a j) (x j)) = 0) : ∀ j, j < k → x j = 0 := by
  have hU : ∀ a ∈ A, a < k → x a = 0 := by
    intro a ha hak
    have := hz a ha
    rw [xsum_one k a _ (fun j hj hne => by simp only [genEntry, if_pos hak, if_neg (Ne.symm hne)]; exact gm_zero_left _), if_pos hak] at this
    simp only [genEntry, if_pos hak, if_true] at this
    rw [gm_comm 1 _ (by decide) (hx a), gm_one _ (hx a)] at this
    exact this
  have hJ : ∀ j ∈ (List.range k).filter (fun j => !decide (j ∈ A)), mkF (x j) (hx j) = fZero.1 := by
    refine @cauchy F fMul fAdd fZero fOne fMulA fMulC fAddA fAddC fIv fld el _ (A.filter (fun a => !decide (a < k))) (fun j => mkF (x j) (hx j)) ?_ ?_ ?_ ?_ ?_
    · refine List.Pairwise.imp_of_mem ?_ ((List.nodup_range (n := k)).filter _)
      intro a b ha hb hab
      rw [List.mem_filter, List.mem_range] at ha hb
      exact el_ne (by omega) (by omega) hab
    · refine List.Pairwise.imp_of_mem ?_ (hnd.filter _)
      intro a b ha hb hab
      rw [List.mem_filter] at ha hb
      have := hlt a ha.1
      have := hlt b hb.1
      exact el_ne (by omega) (by omega) hab
    · intro p hp j hj
      rw [List.mem_filter] at hp hj
      have := hlt p hp.1
      have h1 := List.mem_range.1 hj.1
      have h2 : ¬ p < k := by simpa using hp.2
      exact el_ne (by omega) (by omega) (by omega)
    · have e1 := filter_split (List.range k) (fun j => decide (j ∈ A))
      have e2 := filter_split A (fun a => decide (a < k))
      have e3 := nodup_sub (A.filter (fun a => decide (a < k))) ((List.range k).filter (fun j => decide (j ∈ A))) (hnd.filter _) (by
        intro y hy
        rw [List.mem_filter] at hy ⊢
        exact ⟨List.mem_range.2 (by simpa using hy.2), by simpa using hy.1⟩)
      rw [List.length_range] at e1
      omega
    · intro p hp
      rw [List.mem_filter] at hp
      have hpk : ¬ p < k := by simpa using hp.2
      have hpn := hlt p hp.1
      have := hz p hp.1
      have hf : fS (List.range k) (fun j => fMul.mul (mkF (x j) (hx j)) (fIv (fAdd.add (el p) (el j)))) = fS ((List.range k).filter (fun j => !decide (j ∈ A))) (fun j => fMul.mul (mkF (x j) (hx j)) (fIv (fAdd.add (el p) (el j)))) := by
        refine @S_filter F fMul fAdd fZero fOne fMulA fMulC fAddA fAddC fIv fld (List.range k) (fun j => !decide (j ∈ A)) _ ?_
        intro j hj hq
        have hjA : j ∈ A := by simpa using hq
        have h0 := hU j hjA (List.mem_range.1 hj)
        refine F.ext ?_
        show gm (x j) _ = 0
        rw [h0]; exact gm_zero_left _
      refine hf.symm.trans (F.ext ?_)
      show (fS (List.range k) (fun j => fMul.mul (mkF (x j) (hx j)) (fIv (fAdd.add (el p) (el j))))).1 = 0
      rw [fS_range, ← this]
      refine xsum_congr _ _ _ (fun j hj => ?_)
      have e : (fAdd.add (el p) (el j)).1 = p ^^^ j := by
        show (p % 256) ^^^ (j % 256) = p ^^^ j
        rw [Nat.mod_eq_of_lt (by omega), Nat.mod_eq_of_lt (by omega)]
      show gm (x j) (gdiv 1 (fAdd.add (el p) (el j)).1) = gm (genEntry k p j) (x j)
      rw [e]
      have e2 : genEntry k p j = gdiv 1 (p ^^^ j) := by simp only [genEntry, if_neg hpk]
      rw [e2]
      exact gm_comm _ _ (hx j) (gm_lt 1 _ (by decide))
  intro j hj
  by_cases h : j ∈ A
  · exact hU j h hj
  · have := hJ j (by rw [List.mem_filter]; exact ⟨List.mem_range.2 hj, by simpa using h⟩)
    exact congrArg (·.1) this

/-- what was found is the inverse, from both sides -/
theorem Reach.right {n : Nat} {M T : List (List Nat)} (hM : Tbl n n M) (h : Reach n (n + n) n (aug n M) T) (r c : Nat) (hr : r < n) (hc : c < n) :
    xsum n (fun j => gm (ent (row M r) j) (ent ((row T j).drop n) c)) = if r = c then 1 else 0 := by
  have hx : ∀ j, ent (row T j) (n + c) < 256 := by
    intro j
    by_cases hj : j < n
    · exact ent_lt (h.tbl.2 j hj) _
    · have : row T j = [] := by simp [row, List.getElem?_eq_none (show T.length ≤ j by rw [h.tbl.1]; omega)]
      rw [this]; simp [ent]
  have := (h.done (fun j => ent (row T j) (n + c)) hx c).2 (fun j _ => rfl) r hr
  unfold res at this
  rw [aug_row n M r hr] at this
  have e1 : xsum n (fun j => gm (ent (augRow n (row M r) r) j) (ent (row T j) (n + c))) = xsum n (fun j => gm (ent (row M r) j) (ent ((row T j).drop n) c)) := by
    refine xsum_congr _ _ _ (fun j hj => ?_)
    rw [augRow_ent _ _ _ _ (hM.2 r hr).1, if_pos hj, ent_drop]
  rw [e1, augRow_ent _ _ _ _ (hM.2 r hr).1, if_neg (by omega)] at this
  have e2 : (if n + c = n + r ∧ r < n then 1 else 0) = if r = c then 1 else 0 := by
    by_cases e : r = c
    · rw [if_pos ⟨by omega, hr⟩, if_pos e]
    · rw [if_neg (by omega), if_neg e]
  rw [e2] at this
  have l1 : xsum n (fun j => gm (ent (row M r) j) (ent ((row T j).drop n) c)) ^^^ (if r = c then 1 else 0) ^^^ (if r = c then 1 else 0) = 0 ^^^ (if r = c then 1 else 0) := by rw [this]
  rw [Nat.xor_assoc, Nat.xor_self, Nat.xor_zero, Nat.zero_xor] at l1
  exact l1
theorem Reach.left {n : Nat} {M T : List (List Nat)} (hM : Tbl n n M) (h : Reach n (n + n) n (aug n M) T) (r c : Nat) (hr : r < n) (hc : c < n) :
    xsum n (fun t => gm (ent ((row T r).drop n) t) (ent (row M t) c)) = if r = c then 1 else 0 := by
  have hA : ∀ t j, ent (row M t) j < 256 := by
    intro t j
    by_cases ht : t < n
    · exact ent_lt (hM.2 t ht) _
    · have : row M t = [] := by simp [row, List.getElem?_eq_none (show M.length ≤ t by rw [hM.1]; omega)]
      rw [this]; simp [ent]
  have h0 : AZ n (lft n (fun t j => ent (row M t) j) c) (aug n M) := by
    intro i hi
    unfold lft
    rw [aug_row n M i hi, augRow_ent _ _ _ _ (hM.2 i hi).1, if_pos hc]
    rw [xsum_one n i _ (fun t ht hne => by rw [augRow_ent _ _ _ _ (hM.2 i hi).1, if_neg (by omega), if_neg (by omega)]; exact gm_zero_left _), if_pos hi]
    rw [augRow_ent _ _ _ _ (hM.2 i hi).1, if_neg (by omega), if_pos ⟨rfl, hi⟩, gm_comm 1 _ (by decide) (hA i c), gm_one _ (hA i c), Nat.xor_self]
  have := (h.az _ (lft_lin (n + n) n (fun t j => ent (row M t) j) c hA)).2 h0 r hr
  unfold lft at this
  rw [h.cols r hr c hc] at this
  have e1 : xsum n (fun t => gm (ent (row T r) (n + t)) (ent (row M t) c)) = xsum n (fun t => gm (ent ((row T r).drop n) t) (ent (row M t) c)) := xsum_congr _ _ _ (fun t _ => by rw [ent_drop])
  rw [e1] at this
  have l1 : (if r = c then 1 else 0) ^^^ ((if r = c then 1 else 0) ^^^ xsum n (fun t => gm (ent ((row T r).drop n) t) (ent (row M t) c))) = (if r = c then 1 else 0) ^^^ 0 := by rw [this]
  rw [← Nat.xor_assoc, Nat.xor_self, Nat.zero_xor, Nat.xor_zero] at l1
  exact l1
end Gf
