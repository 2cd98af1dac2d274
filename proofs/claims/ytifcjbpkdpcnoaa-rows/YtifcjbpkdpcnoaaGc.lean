import Derived.Test.YtifcjbpkdpcnoaaGs
import Derived.Test.YtifcjbpkdpcnoaaGm
namespace Gf
set_option linter.unusedVariables false

/-- the field -/
def F : Type := { x : Nat // x < 256 }
instance : Mul F := ⟨fun a b => ⟨gm a.1 b.1, gm_lt _ _ a.2⟩⟩
instance : Add F := ⟨fun a b => ⟨a.1 ^^^ b.1, xor_lt _ _ a.2 b.2⟩⟩
instance : OfNat F 0 := ⟨⟨0, by decide⟩⟩
instance : OfNat F 1 := ⟨⟨1, by decide⟩⟩
instance : DecidableEq F := fun a b => decidable_of_iff (a.1 = b.1) ⟨Subtype.ext, fun h => by rw [h]⟩
theorem F.ext {a b : F} (h : a.1 = b.1) : a = b := Subtype.ext h
theorem F.val_mul (a b : F) : (a * b).1 = gm a.1 b.1 := rfl
theorem F.val_add (a b : F) : (a + b).1 = a.1 ^^^ b.1 := rfl
theorem F.val_zero : (0 : F).1 = 0 := rfl
theorem F.val_one : (1 : F).1 = 1 := rfl
theorem F.mul_assoc (a b c : F) : a * b * c = a * (b * c) := F.ext (gm_assoc _ _ _ a.2 b.2 c.2)
theorem F.mul_comm (a b : F) : a * b = b * a := F.ext (gm_comm _ _ a.2 b.2)
theorem F.add_assoc (a b c : F) : a + b + c = a + (b + c) := F.ext (Nat.xor_assoc _ _ _)
theorem F.add_comm (a b : F) : a + b = b + a := F.ext (Nat.xor_comm _ _)
instance : Std.Associative (α := F) (· * ·) := ⟨F.mul_assoc⟩
instance : Std.Commutative (α := F) (· * ·) := ⟨F.mul_comm⟩
instance : Std.Associative (α := F) (· + ·) := ⟨F.add_assoc⟩
instance : Std.Commutative (α := F) (· + ·) := ⟨F.add_comm⟩
theorem F.add_mul (a b c : F) : (a + b) * c = a * c + b * c := F.ext (gm_xor_left _ _ _ a.2 b.2)
theorem F.mul_add (a b c : F) : a * (b + c) = a * b + a * c := F.ext (gm_xor_right _ _ _)
theorem F.add_self (a : F) : a + a = 0 := F.ext (Nat.xor_self _)
theorem F.add_zero (a : F) : a + 0 = a := F.ext (Nat.xor_zero _)
theorem F.zero_add (a : F) : 0 + a = a := F.ext (Nat.zero_xor _)
theorem F.mul_one (a : F) : a * 1 = a := F.ext (gm_one _ a.2)
theorem F.mul_zero (a : F) : a * 0 = 0 := F.ext (gm_zero_right a.1)
theorem F.zero_mul (a : F) : 0 * a = 0 := F.ext (gm_zero_left a.1)
theorem F.mul_eq_zero {a b : F} (h : a * b = 0) : a = 0 ∨ b = 0 := by
  rcases (gm_eq_zero a.1 b.1 a.2 b.2).1 (congrArg (·.1) h) with h | h
  · exact .inl (F.ext h)
  · exact .inr (F.ext h)
theorem F.add_eq_zero {a b : F} (h : a + b = 0) : a = b := by
  have : a + b + b = 0 + b := by rw [h]
  rw [F.add_assoc, F.add_self, F.add_zero, F.zero_add] at this
  exact this
/-- one by a -/
def F.iv (a : F) : F := ⟨gdiv 1 a.1, gm_lt _ _ (by decide)⟩
theorem F.iv_mul {a : F} (h : a ≠ 0) : a.iv * a = 1 := F.ext (gdiv_mul 1 a.1 (by decide) a.2 (fun e => h (F.ext e)))
theorem F.iv_ne {a : F} (h : a ≠ 0) : a.iv ≠ 0 := by
  intro e
  have := F.iv_mul h
  rw [e, F.zero_mul] at this
  have := congrArg (·.1) this
  simp [F.val_zero, F.val_one] at this

def mkF (x : Nat) (h : x < 256) : F := ⟨x, h⟩
theorem mkF_val (x : Nat) (h : x < 256) : (mkF x h).1 = x := rfl
/-- a sum over a list -/
def S : List Nat → (Nat → F) → F
  | [], _ => 0
  | j :: js, f => f j + S js f
theorem S_congr (l : List Nat) (f g : Nat → F) (h : ∀ j ∈ l, f j = g j) : S l f = S l g := by
  induction l with
  | nil => rfl
  | cons j js ih => simp only [S]; rw [h j (by simp), ih (fun j hj => h j (by simp [hj]))]
theorem S_add (l : List Nat) (f g : Nat → F) : S l (fun j => f j + g j) = S l f + S l g := by
  induction l with
  | nil => exact (F.add_zero 0).symm
  | cons j js ih => simp only [S]; rw [ih]; ac_rfl
theorem S_mul (l : List Nat) (f : Nat → F) (c : F) : S l f * c = S l (fun j => f j * c) := by
  induction l with
  | nil => exact F.zero_mul c
  | cons j js ih => simp only [S]; rw [F.add_mul, ih]
theorem S_zero (l : List Nat) : S l (fun _ => 0) = 0 := by
  induction l with
  | nil => rfl
  | cons a l ih => simp only [S]; rw [ih]; exact F.add_zero 0
theorem S_append (l m : List Nat) (f : Nat → F) : S (l ++ m) f = S l f + S m f := by
  induction l with
  | nil => exact (F.zero_add _).symm
  | cons j js ih => simp only [List.cons_append, S]; rw [ih]; ac_rfl
theorem S_filter (l : List Nat) (q : Nat → Bool) (f : Nat → F) (h : ∀ j ∈ l, q j = false → f j = 0) : S l f = S (l.filter q) f := by
  induction l with
  | nil => rfl
  | cons j js ih =>
    rw [List.filter_cons]
    have ih' := ih (fun j hj => h j (by simp [hj]))
    cases hq : q j with
    | true => simp only [if_true, S]; rw [ih']
    | false => simp only [Bool.false_eq_true, if_false, S]; rw [h j (by simp) hq, F.zero_add, ih']
theorem S_range (k : Nat) (f : Nat → F) : (S (List.range k) f).1 = xsum k (fun j => (f j).1) := by
  induction k with
  | zero => rfl
  | succ k ih =>
    rw [List.range_succ, S_append, F.val_add, ih]
    simp only [S, xsum]
    rw [F.add_zero]

def el (n : Nat) : F := ⟨n % 256, Nat.mod_lt _ (by decide)⟩
theorem el_ne {a b : Nat} (ha : a < 256) (hb : b < 256) (h : a ≠ b) : el a ≠ el b := by
  intro e
  have := congrArg (·.1) e
  simp only [el] at this
  omega
theorem add_ne {a b : F} (h : a ≠ b) : a + b ≠ 0 := fun e => h (F.add_eq_zero e)

theorem term_eq (x a a0 c : F) (h : a ≠ 0) (h0 : a0 ≠ 0) : x * a.iv * (a + c) + x * a0.iv * (a0 + c) = x * c * a0.iv * a.iv * (a + a0) := by
  have e1 : x * a.iv * (a + c) = x + x * c * a.iv := by
    rw [F.mul_add, F.mul_assoc x a.iv a, F.iv_mul h, F.mul_one]
    congr 1; ac_rfl
  have e2 : x * a0.iv * (a0 + c) = x + x * c * a0.iv := by
    rw [F.mul_add, F.mul_assoc x a0.iv a0, F.iv_mul h0, F.mul_one]
    congr 1; ac_rfl
  have e3 : x * c * a0.iv * a.iv * (a + a0) = x * c * a0.iv + x * c * a.iv := by
    rw [F.mul_add]
    have p1 : x * c * a0.iv * a.iv * a = x * c * a0.iv * (a.iv * a) := by ac_rfl
    have p2 : x * c * a0.iv * a.iv * a0 = x * c * a.iv * (a0.iv * a0) := by ac_rfl
    rw [p1, p2, F.iv_mul h, F.iv_mul h0, F.mul_one, F.mul_one]
  rw [e1, e2, e3]
  have : x + x * c * a.iv + (x + x * c * a0.iv) = (x + x) + (x * c * a0.iv + x * c * a.iv) := by ac_rfl
  rw [this, F.add_self, F.zero_add]

/-- Cauchy's: no sum of such fractions is 0 at as many places -/
theorem cauchy : ∀ (Js Ps : List Nat) (x : Nat → F), Js.Pairwise (fun a b => el a ≠ el b) → Ps.Pairwise (fun a b => el a ≠ el b) → (∀ p ∈ Ps, ∀ j ∈ Js, el p ≠ el j) → Js.length ≤ Ps.length →
    (∀ p ∈ Ps, S Js (fun j => x j * (el p + el j).iv) = 0) → ∀ j ∈ Js, x j = 0
  | [], _, _, _, _, _, _, _ => fun j hj => by cases hj
  | j0 :: Js, [], _, _, _, _, hl, _ => by simp at hl
  | j0 :: Js, p0 :: Ps, x, hJ, hP, hd, hl, hs => by
    have hJ' := List.pairwise_cons.1 hJ
    have hP' := List.pairwise_cons.1 hP
    have h00 : el p0 + el j0 ≠ 0 := add_ne (hd p0 (by simp) j0 (by simp))
    have s0 := hs p0 (by simp)
    have rest : ∀ j ∈ Js, x j = 0 := by
      have ih := cauchy Js Ps (fun j => x j * (el j + el j0) * (el p0 + el j).iv) hJ'.2 hP'.2 (fun p hp j hj => hd p (by simp [hp]) j (by simp [hj])) (by simpa using hl) (by
        intro p hp
        have s1 := hs p (by simp [hp])
        have hp0 : el p + el j0 ≠ 0 := add_ne (hd p (by simp [hp]) j0 (by simp))
        have hpp : el p + el p0 ≠ 0 := by rw [F.add_comm]; exact add_ne (hP'.1 p hp)
        -- (p + j0) S(p) + (p0 + j0) S(p0) = 0
        have z : S (j0 :: Js) (fun j => x j * (el p + el j).iv) * (el p + el j0) + S (j0 :: Js) (fun j => x j * (el p0 + el j).iv) * (el p0 + el j0) = 0 := by rw [s0, s1, F.zero_mul, F.zero_mul, F.add_zero]
        simp only [S] at z
        rw [F.add_mul, F.add_mul, F.mul_assoc (x j0), F.iv_mul hp0, F.mul_assoc (x j0), F.iv_mul h00, F.mul_one] at z
        have z2 : x j0 + S Js (fun j => x j * (el p + el j).iv) * (el p + el j0) + (x j0 + S Js (fun j => x j * (el p0 + el j).iv) * (el p0 + el j0)) = (x j0 + x j0) + (S Js (fun j => x j * (el p + el j).iv) * (el p + el j0) + S Js (fun j => x j * (el p0 + el j).iv) * (el p0 + el j0)) := by ac_rfl
        rw [z2, F.add_self, F.zero_add, S_mul, S_mul, ← S_add] at z
        have z3 : S Js (fun j => x j * (el j + el j0) * (el p0 + el j).iv * (el p + el j).iv) * (el p + el p0) = 0 := by
          rw [S_mul, ← z]
          refine S_congr _ _ _ (fun j hj => ?_)
          have a1 : el p + el j ≠ 0 := add_ne (hd p (by simp [hp]) j (by simp [hj]))
          have a2 : el p0 + el j ≠ 0 := add_ne (hd p0 (by simp) j (by simp [hj]))
          have t := term_eq (x j) (el p + el j) (el p0 + el j) (el j + el j0) a1 a2
          have c1 : el p + el j + (el j + el j0) = el p + el j0 := by
            have : el p + el j + (el j + el j0) = (el j + el j) + (el p + el j0) := by ac_rfl
            rw [this, F.add_self, F.zero_add]
          have c2 : el p0 + el j + (el j + el j0) = el p0 + el j0 := by
            have : el p0 + el j + (el j + el j0) = (el j + el j) + (el p0 + el j0) := by ac_rfl
            rw [this, F.add_self, F.zero_add]
          have c3 : el p + el j + (el p0 + el j) = el p + el p0 := by
            have : el p + el j + (el p0 + el j) = (el j + el j) + (el p + el p0) := by ac_rfl
            rw [this, F.add_self, F.zero_add]
          rw [c1, c2, c3] at t
          exact t.symm
        rcases F.mul_eq_zero z3 with h | h
        · exact h
        · exact absurd h hpp)
      intro j hj
      have := ih j hj
      rcases F.mul_eq_zero this with h | h
      · rcases F.mul_eq_zero h with h | h
        · exact h
        · exact absurd h (by rw [F.add_comm]; exact add_ne (hJ'.1 j hj))
      · exact absurd h (F.iv_ne (add_ne (hd p0 (by simp) j (by simp [hj]))))
    intro j hj
    rcases List.mem_cons.1 hj with rfl | hj
    · simp only [S] at s0
      have e : S Js (fun j => x j * (el p0 + el j).iv) = 0 := by
        rw [S_congr _ _ (fun _ => 0) (fun j hj => by rw [rest j hj, F.zero_mul])]
        exact S_zero Js
      rw [e, F.add_zero] at s0
      rcases F.mul_eq_zero s0 with h | h
      · exact h
      · exact absurd h (F.iv_ne h00)
    · exact rest j hj

theorem nodup_sub : ∀ (l m : List Nat), l.Nodup → (∀ x ∈ l, x ∈ m) → l.length ≤ m.length
  | [], _, _, _ => Nat.zero_le _
  | a :: l, m, hn, hs => by
    have hn' := List.nodup_cons.1 hn
    have ha := hs a (by simp)
    have := nodup_sub l (m.erase a) hn'.2 (fun x hx => (List.mem_erase_of_ne (show x ≠ a from fun e => hn'.1 (by rw [← e]; exact hx))).2 (hs x (by simp [hx])))
    rw [List.length_erase_of_mem ha] at this
    have : 0 < m.length := List.length_pos_of_mem ha
    simp only [List.length_cons]
    omega

theorem filter_split (l : List Nat) (q : Nat → Bool) : (l.filter q).length + (l.filter (fun x => !q x)).length = l.length := by
  induction l with
  | nil => rfl
  | cons a l ih =>
    rw [List.filter_cons, List.filter_cons]
    cases q a <;> simp <;> omega

/-- as many different rows as there are columns: no unknowns but 0 fit -/
theorem rows_free {k n : Nat} (hn : n ≤ 32) (hkn : k ≤ n) (A : List Nat) (hA : A.length = k) (hnd : A.Nodup) (hlt : ∀ a ∈ A, a < n) (x : Nat → Nat) (hx : ∀ j, x j < 256)
    (hz : ∀ a ∈ A, xsum k (fun j => gm (genEntry k a j) (x j)) = 0) : ∀ j, j < k → x j = 0 := by
  have hU : ∀ a ∈ A, a < k → x a = 0 := by
    intro a ha hak
    have := hz a ha
    rw [xsum_one k a _ (fun j hj hne => by simp only [genEntry, if_pos hak, if_neg (Ne.symm hne)]; exact gm_zero_left _), if_pos hak] at this
    simp only [genEntry, if_pos hak, if_true] at this
    rw [gm_comm 1 _ (by decide) (hx a), gm_one _ (hx a)] at this
    exact this
  have hJ : ∀ j ∈ (List.range k).filter (fun j => !decide (j ∈ A)), mkF (x j) (hx j) = 0 := by
    refine cauchy _ (A.filter (fun a => !decide (a < k))) (fun j => mkF (x j) (hx j)) ?_ ?_ ?_ ?_ ?_
    · refine List.Pairwise.imp_of_mem ?_ ((List.nodup_range (n := k)).filter _)
      intro a b ha hb hab
      rw [List.mem_filter, List.mem_range] at ha hb
      exact el_ne (by omega) (by omega) hab
    · refine List.Pairwise.imp_of_mem ?_ (hnd.filter _)
      intro a b ha hb hab
      rw [List.mem_filter] at ha hb
      have := hlt a ha.1
      have := hlt b hb.1
      exact el_ne (by omega) (by omega) hab
    · intro p hp j hj
      rw [List.mem_filter] at hp hj
      have := hlt p hp.1
      have h1 := List.mem_range.1 hj.1
      have h2 : ¬ p < k := by simpa using hp.2
      exact el_ne (by omega) (by omega) (by omega)
    · have e1 := filter_split (List.range k) (fun j => decide (j ∈ A))
      have e2 := filter_split A (fun a => decide (a < k))
      have e3 := nodup_sub (A.filter (fun a => decide (a < k))) ((List.range k).filter (fun j => decide (j ∈ A))) (hnd.filter _) (by
        intro y hy
        rw [List.mem_filter] at hy ⊢
        exact ⟨List.mem_range.2 (by simpa using hy.2), by simpa using hy.1⟩)
      rw [List.length_range] at e1
      omega
    · intro p hp
      rw [List.mem_filter] at hp
      have hpk : ¬ p < k := by simpa using hp.2
      have hpn := hlt p hp.1
      have := hz p hp.1
      rw [← S_filter (List.range k) (fun j => !decide (j ∈ A)) (fun j => mkF (x j) (hx j) * (el p + el j).iv)]
      · apply F.ext
        rw [S_range, F.val_zero, ← this]
        refine xsum_congr _ _ _ (fun j hj => ?_)
        have e : (el p + el j).1 = p ^^^ j := by
          rw [F.val_add]
          simp only [el]
          rw [Nat.mod_eq_of_lt (by omega), Nat.mod_eq_of_lt (by omega)]
        show gm (x j) (gdiv 1 (el p + el j).1) = gm (genEntry k p j) (x j)
        rw [e]
        have e2 : genEntry k p j = gdiv 1 (p ^^^ j) := by simp only [genEntry, if_neg hpk]
        rw [e2]
        exact gm_comm _ _ (hx j) (gm_lt 1 _ (by decide))
      · intro j hj hq
        have hjA : j ∈ A := by simpa using hq
        have h0 := hU j hjA (List.mem_range.1 hj)
        have : mkF (x j) (hx j) = 0 := F.ext h0
        rw [this, F.zero_mul]
  intro j hj
  by_cases h : j ∈ A
  · exact hU j h hj
  · have := hJ j (by rw [List.mem_filter]; exact ⟨List.mem_range.2 hj, by simpa using h⟩)
    exact congrArg (·.1) this

/-- what was found is the inverse, from both sides -/
theorem Reach.right {n : Nat} {M T : List (List Nat)} (hM : Tbl n n M) (h : Reach n (n + n) n (aug n M) T) (r c : Nat) (hr : r < n) (hc : c < n) :
    xsum n (fun j => gm (ent (row M r) j) (ent ((row T j).drop n) c)) = if r = c then 1 else 0 := by
  have hx : ∀ j, ent (row T j) (n + c) < 256 := by
    intro j
    by_cases hj : j < n
    · exact ent_lt (h.tbl.2 j hj) _
    · have : row T j = [] := by simp [row, List.getElem?_eq_none (show T.length ≤ j by rw [h.tbl.1]; omega)]
      rw [this]; simp [ent]
  have := (h.done (fun j => ent (row T j) (n + c)) hx c).2 (fun j _ => rfl) r hr
  unfold res at this
  rw [aug_row n M r hr] at this
  have e1 : xsum n (fun j => gm (ent (augRow n (row M r) r) j) (ent (row T j) (n + c))) = xsum n (fun j => gm (ent (row M r) j) (ent ((row T j).drop n) c)) := by
    refine xsum_congr _ _ _ (fun j hj => ?_)
    rw [augRow_ent _ _ _ _ (hM.2 r hr).1, if_pos hj, ent_drop]
  rw [e1, augRow_ent _ _ _ _ (hM.2 r hr).1, if_neg (by omega)] at this
  have e2 : (if n + c = n + r ∧ r < n then 1 else 0) = if r = c then 1 else 0 := by
    by_cases e : r = c
    · rw [if_pos ⟨by omega, hr⟩, if_pos e]
    · rw [if_neg (by omega), if_neg e]
  rw [e2] at this
  have l1 : xsum n (fun j => gm (ent (row M r) j) (ent ((row T j).drop n) c)) ^^^ (if r = c then 1 else 0) ^^^ (if r = c then 1 else 0) = 0 ^^^ (if r = c then 1 else 0) := by rw [this]
  rw [Nat.xor_assoc, Nat.xor_self, Nat.xor_zero, Nat.zero_xor] at l1
  exact l1
theorem Reach.left {n : Nat} {M T : List (List Nat)} (hM : Tbl n n M) (h : Reach n (n + n) n (aug n M) T) (r c : Nat) (hr : r < n) (hc : c < n) :
    xsum n (fun t => gm (ent ((row T r).drop n) t) (ent (row M t) c)) = if r = c then 1 else 0 := by
  have hA : ∀ t j, ent (row M t) j < 256 := by
    intro t j
    by_cases ht : t < n
    · exact ent_lt (hM.2 t ht) _
    · have : row M t = [] := by simp [row, List.getElem?_eq_none (show M.length ≤ t by rw [hM.1]; omega)]
      rw [this]; simp [ent]
  have h0 : AZ n (lft n (fun t j => ent (row M t) j) c) (aug n M) := by
    intro i hi
    unfold lft
    rw [aug_row n M i hi, augRow_ent _ _ _ _ (hM.2 i hi).1, if_pos hc]
    rw [xsum_one n i _ (fun t ht hne => by rw [augRow_ent _ _ _ _ (hM.2 i hi).1, if_neg (by omega), if_neg (by omega)]; exact gm_zero_left _), if_pos hi]
    rw [augRow_ent _ _ _ _ (hM.2 i hi).1, if_neg (by omega), if_pos ⟨rfl, hi⟩, gm_comm 1 _ (by decide) (hA i c), gm_one _ (hA i c), Nat.xor_self]
  have := (h.az _ (lft_lin (n + n) n (fun t j => ent (row M t) j) c hA)).2 h0 r hr
  unfold lft at this
  rw [h.cols r hr c hc] at this
  have e1 : xsum n (fun t => gm (ent (row T r) (n + t)) (ent (row M t) c)) = xsum n (fun t => gm (ent ((row T r).drop n) t) (ent (row M t) c)) := xsum_congr _ _ _ (fun t _ => by rw [ent_drop])
  rw [e1] at this
  have l1 : (if r = c then 1 else 0) ^^^ ((if r = c then 1 else 0) ^^^ xsum n (fun t => gm (ent ((row T r).drop n) t) (ent (row M t) c))) = (if r = c then 1 else 0) ^^^ 0 := by rw [this]
  rw [← Nat.xor_assoc, Nat.xor_self, Nat.zero_xor, Nat.xor_zero] at l1
  exact l1
end Gf
