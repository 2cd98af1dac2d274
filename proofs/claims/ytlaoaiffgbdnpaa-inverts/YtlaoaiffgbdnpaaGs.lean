import Derived.Test.YtlaoaiffgbdnpaaGj
namespace Gf
/-- the columns ahead of c are done: what stands on the diagonal is not 0, what stands below it is -/
def Tri (n c : Nat) (T : List (List Nat)) : Prop := ∀ j, j < c → ent (row T j) j ≠ 0 ∧ ∀ r, j < r → r < n → ent (row T r) j = 0
structure Fwd (n W c : Nat) (T0 T : List (List Nat)) : Prop where
  tbl : Tbl n W T
  az : ∀ φ, Lin W φ → (AZ n φ T ↔ AZ n φ T0)
  tri : Tri n c T

def swapT (T : List (List Nat)) (i j : Nat) : List (List Nat) := (T.set j (row T i)).set i (row T j)
theorem swapT_row (T : List (List Nat)) (n i j r : Nat) (hT : T.length = n) (hi : i < n) (hj : j < n) : row (swapT T i j) r = if i = r then row T j else if j = r then row T i else row T r := by
  unfold swapT
  rw [row_set _ _ _ _ (by simp; omega), row_set _ _ _ _ (by omega)]
theorem swapT_tbl {n W : Nat} {T : List (List Nat)} (h : Tbl n W T) {i j : Nat} (hi : i < n) (hj : j < n) : Tbl n W (swapT T i j) := (h.set (h.2 i hi)).set (h.2 j hj)
theorem swapT_az {n W : Nat} {T : List (List Nat)} (h : Tbl n W T) {φ : List Nat → Nat} {i j : Nat} (hi : i < n) (hj : j < n) : AZ n φ (swapT T i j) ↔ AZ n φ T := by
  have key := fun r => swapT_row T n i j r h.1 hi hj
  constructor
  · intro ha r hr
    by_cases h1 : r = j
    · have := ha i hi; rw [key i, if_pos rfl] at this; rw [h1]; exact this
    · by_cases h2 : r = i
      · have := ha j hj
        rw [key j] at this
        by_cases h3 : i = j
        · omega
        · rw [if_neg h3, if_pos rfl] at this; rw [h2]; exact this
      · have := ha r hr
        rw [key r, if_neg (Ne.symm h2), if_neg (Ne.symm h1)] at this
        exact this
  · intro ha r hr
    rw [key r]
    split
    · exact ha j hj
    · split
      · exact ha i hi
      · exact ha r hr

/-- the rows behind c, up to m, have the unknown c taken out -/
def elimGo (c : Nat) (T : List (List Nat)) : Nat → List (List Nat)
  | 0 => T
  | m + 1 => (elimGo c T m).set (c + 1 + m) (mulAdd (row (elimGo c T m) (c + 1 + m)) (row (elimGo c T m) c) (gdiv (ent (row (elimGo c T m) (c + 1 + m)) c) (ent (row (elimGo c T m) c) c)))
theorem elimGo_tbl {n W : Nat} {T : List (List Nat)} (h : Tbl n W T) {c : Nat} (hc : c < n) (m : Nat) (hm : c + 1 + m ≤ n) : Tbl n W (elimGo c T m) := by
  induction m with
  | zero => exact h
  | succ m ih =>
    have hm' := ih (by omega)
    exact hm'.set (bytes_mulAdd (hm'.2 _ (by omega)) (hm'.2 c hc) _)
theorem elimGo_row {n W : Nat} {T : List (List Nat)} (h : Tbl n W T) {c : Nat} (hc : c < n) (m : Nat) (hm : c + 1 + m ≤ n) (r : Nat) :
    row (elimGo c T m) r = if c < r ∧ r < c + 1 + m then mulAdd (row T r) (row T c) (gdiv (ent (row T r) c) (ent (row T c) c)) else row T r := by
  induction m generalizing r with
  | zero => rw [if_neg (by omega)]; rfl
  | succ m ih =>
    have ht := elimGo_tbl h hc m (by omega)
    have rc : row (elimGo c T m) c = row T c := by rw [ih (by omega), if_neg (by omega)]
    have rm : row (elimGo c T m) (c + 1 + m) = row T (c + 1 + m) := by rw [ih (by omega), if_neg (by omega)]
    unfold elimGo
    rw [row_set _ _ _ _ (by rw [ht.1]; omega), rc, rm]
    by_cases e : c + 1 + m = r
    · subst e; rw [if_pos rfl, if_pos ⟨by omega, by omega⟩]
    · rw [if_neg e, ih (by omega)]
      by_cases h1 : c < r ∧ r < c + 1 + m
      · rw [if_pos h1, if_pos ⟨h1.1, by omega⟩]
      · rw [if_neg h1, if_neg (by omega)]
theorem elimGo_az {n W : Nat} {T : List (List Nat)} (h : Tbl n W T) {φ : List Nat → Nat} (hφ : Lin W φ) {c : Nat} (hc : c < n) (m : Nat) (hm : c + 1 + m ≤ n) : AZ n φ (elimGo c T m) ↔ AZ n φ T := by
  induction m with
  | zero => exact Iff.rfl
  | succ m ih =>
    have ht := elimGo_tbl h hc m (by omega)
    exact (addT_az ht hφ hc (by omega) (by omega) (gm_lt _ _ (ent_lt (ht.2 _ (by omega)) c))).trans (ih (by omega))

theorem gdiv_cancel {a b : Nat} (ha : a < 256) (hb : b < 256) (h0 : b ≠ 0) : gm b (gdiv a b) = a := by
  have hl : gdiv a b < 256 := gm_lt _ _ ha
  rw [gm_comm b _ hb hl]; exact gdiv_mul a b ha hb h0

theorem Fwd.step {n W c j : Nat} {T0 T : List (List Nat)} (h : Fwd n W c T0 T) (hc : c < n) (hcj : c ≤ j) (hj : j < n) (hp : ent (row T j) c ≠ 0) :
    Fwd n W (c + 1) T0 (elimGo c (swapT T c j) (n - (c + 1))) := by
  have t1 := swapT_tbl h.tbl hc hj
  have key := fun r => swapT_row T n c j r h.tbl.1 hc hj
  have hcn : c + 1 + (n - (c + 1)) ≤ n := by omega
  refine ⟨elimGo_tbl t1 hc _ hcn, fun φ hφ => (elimGo_az t1 hφ hc _ hcn).trans ((swapT_az h.tbl hc hj).trans (h.az φ hφ)), ?_⟩
  -- the exchanged table keeps what is done
  have tri1 : ∀ t, t < c → ent (row (swapT T c j) t) t ≠ 0 ∧ ∀ r, t < r → r < n → ent (row (swapT T c j) r) t = 0 := by
    intro t ht
    refine ⟨by rw [key t, if_neg (by omega), if_neg (by omega)]; exact (h.tri t ht).1, ?_⟩
    intro r h1 h2
    rw [key r]
    split
    · exact (h.tri t ht).2 j (by omega) hj
    · split
      · exact (h.tri t ht).2 c ht hc
      · exact (h.tri t ht).2 r h1 h2
  have pc : ent (row (swapT T c j) c) c ≠ 0 := by rw [key c, if_pos rfl]; exact hp
  have erow := fun r => elimGo_row t1 hc (n - (c + 1)) hcn r
  intro t ht
  by_cases e : t = c
  · subst e
    refine ⟨by rw [erow t, if_neg (by omega)]; exact pc, ?_⟩
    intro r h1 h2
    rw [erow r, if_pos ⟨h1, by omega⟩, ent_mulAdd (t1.2 r h2) (t1.2 t hc), gdiv_cancel (ent_lt (t1.2 r h2) t) (ent_lt (t1.2 t hc) t) pc, Nat.xor_self]
  · have htc : t < c := by omega
    refine ⟨by rw [erow t, if_neg (by omega)]; exact (tri1 t htc).1, ?_⟩
    intro r h1 h2
    rw [erow r]
    split
    · next hr => rw [ent_mulAdd (t1.2 r h2) (t1.2 c hc), (tri1 t htc).2 r h1 h2, (tri1 t htc).2 c htc hc, gm_zero_left]; rfl
    · exact (tri1 t htc).2 r h1 h2

theorem xsum_put (n j : Nat) (u x : Nat → Nat) (v : Nat) (hj : j < n) (hx : x j = 0) : xsum n (fun t => gm (u t) (if t = j then v else x t)) = xsum n (fun t => gm (u t) (x t)) ^^^ gm (u j) v := by
  have e : xsum n (fun t => gm (u t) (if t = j then v else x t)) = xsum n (fun t => gm (u t) (x t) ^^^ (if t = j then gm (u j) v else 0)) := by
    refine xsum_congr _ _ _ (fun t _ => ?_)
    by_cases h : t = j
    · subst h; rw [if_pos rfl, if_pos rfl, hx, gm_zero_right, Nat.zero_xor]
    · rw [if_neg h, if_neg h, Nat.xor_zero]
  rw [e, xsum_xor, xsum_one n j _ (fun t _ hne => if_neg hne), if_pos hj, if_pos rfl]

/-- equations with a triangle can be solved -/
theorem tri_solve {n W c : Nat} {T : List (List Nat)} (hT : Tbl n W T) (hc : c ≤ n) (h : Tri n c T) (b : Nat → Nat) (hb : ∀ j, b j < 256) (k : Nat) (hk : k ≤ c) :
    ∃ x : Nat → Nat, (∀ t, x t < 256) ∧ (∀ t, c ≤ t → x t = 0) ∧ (∀ t, t < c - k → x t = 0) ∧ ∀ j, c - k ≤ j → j < c → xsum c (fun t => gm (ent (row T j) t) (x t)) = b j := by
  induction k with
  | zero => exact ⟨fun _ => 0, fun _ => (show 0 < 256 by decide), fun _ _ => rfl, fun _ _ => rfl, fun j h1 h2 => by omega⟩
  | succ k ih =>
    obtain ⟨x, x1, x2, x3, x4⟩ := ih (by omega)
    have hj : c - (k + 1) < c := by omega
    generalize hjj : c - (k + 1) = j at *
    have hjk : c - k = j + 1 := by omega
    have hjn : j < n := by omega
    have hp := (h j hj).1
    have hpl := ent_lt (hT.2 j hjn) j
    have hSl : xsum c (fun t => gm (ent (row T j) t) (x t)) < 256 := xsum_lt _ _ (fun t _ => gm_lt _ _ (ent_lt (hT.2 j hjn) t))
    have hvl : b j ^^^ xsum c (fun t => gm (ent (row T j) t) (x t)) < 256 := xor_lt _ _ (hb j) hSl
    have hxj : x j = 0 := x3 j (by omega)
    refine ⟨fun t => if t = j then gdiv (b j ^^^ xsum c (fun t => gm (ent (row T j) t) (x t))) (ent (row T j) j) else x t, ?_, ?_, ?_, ?_⟩
    · intro t; simp only; split
      · exact gm_lt _ _ hvl
      · exact x1 t
    · intro t ht; simp only; rw [if_neg (by omega)]; exact x2 t ht
    · intro t ht; simp only; rw [if_neg (by omega)]; exact x3 t (by omega)
    · intro r h1 h2
      rw [xsum_put c j _ x _ hj hxj]
      by_cases e : r = j
      · subst e
        rw [gdiv_cancel hvl hpl hp, Nat.xor_comm (b r), ← Nat.xor_assoc, Nat.xor_self, Nat.zero_xor]
      · rw [(h j hj).2 r (by omega) (by omega), gm_zero_left, Nat.xor_zero]
        exact x4 r (by omega) h2

theorem xsum_split (c m : Nat) (f : Nat → Nat) (h : ∀ t, c ≤ t → f t = 0) : xsum (c + m) f = xsum c f := by
  induction m with
  | zero => rfl
  | succ m ih => rw [← Nat.add_assoc]; simp only [xsum]; rw [ih, h _ (by omega), Nat.xor_zero]

/-- no pivot: the unknowns are not all 0 -/
theorem Fwd.fail {n c : Nat} {T0 T : List (List Nat)} (h : Fwd n (n + n) c T0 T) (hc : c < n) (hz : ∀ r, c ≤ r → r < n → ent (row T r) c = 0) :
    ∃ x : Nat → Nat, (∀ j, x j < 256) ∧ x c ≠ 0 ∧ AZ n (res n x n) T0 := by
  obtain ⟨x, x1, x2, _, x4⟩ := tri_solve h.tbl (by omega) h.tri (fun j => ent (row T j) c) (fun j => by
    by_cases hj : j < n
    · exact ent_lt (h.tbl.2 j hj) c
    · have : row T j = [] := by simp [row, List.getElem?_eq_none (show T.length ≤ j by rw [h.tbl.1]; omega)]
      show ent (row T j) c < 256
      rw [this, ent_none (by simp)]; decide) c (Nat.le_refl _)
  have hx : ∀ j, (if j = c then 1 else x j) < 256 := by intro j; split; decide; exact x1 j
  refine ⟨fun t => if t = c then 1 else x t, hx, by simp, ?_⟩
  rw [← h.az _ (res_lin (n + n) n _ n hx)]
  intro r hr
  unfold res
  rw [ent_none (by rw [(h.tbl.2 r hr).1]; omega), Nat.xor_zero, xsum_put n c _ x 1 hc (x2 c (Nat.le_refl _)), gm_one _ (ent_lt (h.tbl.2 r hr) c)]
  have e : xsum n (fun t => gm (ent (row T r) t) (x t)) = xsum c (fun t => gm (ent (row T r) t) (x t)) := by
    have := xsum_split c (n - c) (fun t => gm (ent (row T r) t) (x t)) (fun t ht => by rw [x2 t ht, gm_zero_right])
    rw [show c + (n - c) = n by omega] at this
    exact this
  rw [e]
  by_cases hrc : r < c
  · rw [x4 r (by omega) hrc, Nat.xor_self]
  · rw [hz r (by omega) hr, Nat.xor_zero]
    have : xsum c (fun t => gm (ent (row T r) t) (x t)) = xsum c (fun _ => 0) := xsum_congr _ _ _ (fun t ht => by rw [(h.tri t ht).2 r (by omega) hr, gm_zero_left])
    rw [this, xsum_zero]

/-- a triangle has one answer: with nothing on the right side all unknowns are 0 -/
theorem Fwd.kernel {n : Nat} {T0 T : List (List Nat)} (h : Fwd n (n + n) n T0 T) (x : Nat → Nat) (hx : ∀ j, x j < 256) (ha : AZ n (res n x n) T0) : ∀ j, j < n → x j = 0 := by
  rw [← h.az _ (res_lin (n + n) n x n hx)] at ha
  have key : ∀ k, k ≤ n → ∀ j, n - k ≤ j → j < n → x j = 0 := by
    intro k
    induction k with
    | zero => intro _ j h1 h2; omega
    | succ k ih =>
      intro hk j h1 h2
      by_cases e : n - k ≤ j
      · exact ih (by omega) j e h2
      · have hj : j < n := h2
        have := ha j hj
        unfold res at this
        rw [ent_none (by rw [(h.tbl.2 j hj).1]; omega), Nat.xor_zero] at this
        rw [xsum_one n j _ (fun t ht hne => by
          by_cases htj : t < j
          · rw [(h.tri t (by omega)).2 j htj hj, gm_zero_left]
          · rw [ih (by omega) t (by omega) ht, gm_zero_right]), if_pos hj, gm_eq_zero _ _ (ent_lt (h.tbl.2 j hj) j) (hx j)] at this
        rcases this with h0 | h0
        · exact absurd h0 (h.tri j hj).1
        · exact h0
  intro j hj
  exact key n (Nat.le_refl _) j (by omega) hj

/-- the right side, with the unknowns behind c put in, up to m of them -/
def putGo (n c : Nat) (T X : List (List Nat)) : Nat → List Nat
  | 0 => (row T c).drop n
  | m + 1 => mulAdd (putGo n c T X m) (row X (c + 1 + m)) (ent (row T c) (c + 1 + m))
theorem putGo_bytes {n : Nat} {T X : List (List Nat)} (hT : Tbl n (n + n) T) {c : Nat} (hc : c < n) (m : Nat) (hX : ∀ j, c < j → j < c + 1 + m → Bytes n (row X j)) : Bytes n (putGo n c T X m) := by
  induction m with
  | zero =>
    have hb := hT.2 c hc
    exact ⟨by show ((row T c).drop n).length = n; rw [List.length_drop, hb.1]; omega, fun y hy => hb.2 y (List.mem_of_mem_drop hy)⟩
  | succ m ih => exact bytes_mulAdd (ih (fun j h1 h2 => hX j h1 (by omega))) (hX _ (by omega) (by omega)) _
theorem ent_drop (r : List Nat) (n k : Nat) : ent (r.drop n) k = ent r (n + k) := by simp [ent]
theorem putGo_ent {n : Nat} {T X : List (List Nat)} (hT : Tbl n (n + n) T) {c : Nat} (hc : c < n) (m : Nat) (hX : ∀ j, c < j → j < c + 1 + m → Bytes n (row X j)) (k : Nat) :
    ent (putGo n c T X m) k = ent (row T c) (n + k) ^^^ xsum m (fun t => gm (ent (row X (c + 1 + t)) k) (ent (row T c) (c + 1 + t))) := by
  induction m with
  | zero => show ent ((row T c).drop n) k = _; rw [ent_drop]; simp [xsum]
  | succ m ih =>
    show ent (mulAdd _ _ _) k = _
    rw [ent_mulAdd (putGo_bytes hT hc m (fun j h1 h2 => hX j h1 (by omega))) (hX _ (by omega) (by omega)), ih (fun j h1 h2 => hX j h1 (by omega))]
    simp only [xsum]
    rw [Nat.xor_assoc]
theorem xsum_tail (n c : Nat) (f : Nat → Nat) (hc : c < n) (h : ∀ t, t < c → f t = 0) : xsum n f = f c ^^^ xsum (n - (c + 1)) (fun t => f (c + 1 + t)) := by
  have key : ∀ m, xsum (c + 1 + m) f = f c ^^^ xsum m (fun t => f (c + 1 + t)) := by
    intro m
    induction m with
    | zero =>
      simp only [xsum, Nat.xor_zero]
      have : xsum c f = 0 := by
        rw [xsum_congr c f (fun _ => 0) h, xsum_zero]
      rw [this, Nat.zero_xor]
    | succ m ih => rw [← Nat.add_assoc]; simp only [xsum]; rw [ih, Nat.xor_assoc]
  have := key (n - (c + 1))
  rw [show c + 1 + (n - (c + 1)) = n by omega] at this
  exact this
/-- the row c of the answer, out of those behind it -/
def backRow (n c : Nat) (T X : List (List Nat)) : List Nat := mulAdd (List.replicate n 0) (putGo n c T X (n - (c + 1))) (gdiv 1 (ent (row T c) c))
theorem backRow_bytes {n : Nat} {T X : List (List Nat)} (hT : Tbl n (n + n) T) {c : Nat} (hc : c < n) (hX : ∀ j, c < j → j < n → Bytes n (row X j)) : Bytes n (backRow n c T X) :=
  bytes_mulAdd (bytes_zero n) (putGo_bytes hT hc _ (fun j h1 h2 => hX j h1 (by omega))) _
/-- it meets its equation, in every column -/
theorem backRow_res {n : Nat} {T X : List (List Nat)} (hT : Tbl n (n + n) T) (htri : Tri n n T) {c : Nat} (hc : c < n) (hX : ∀ j, c < j → j < n → Bytes n (row X j)) (hXc : row X c = backRow n c T X) (k : Nat) :
    res n (fun j => ent (row X j) k) k (row T c) = 0 := by
  have hb := putGo_bytes (X := X) hT hc (n - (c + 1)) (fun j h1 h2 => hX j h1 (by omega))
  have hpl := ent_lt (hT.2 c hc) c
  have hp := (htri c hc).1
  obtain ⟨f1, f2, f3⟩ := gdiv_one hpl hp
  unfold res
  rw [xsum_tail n c _ hc (fun t ht => by rw [(htri t (by omega)).2 c ht hc, gm_zero_left])]
  have e1 : gm (ent (row T c) c) (ent (row X c) k) = ent (putGo n c T X (n - (c + 1))) k := by
    rw [hXc]
    unfold backRow
    rw [ent_mulAdd (bytes_zero n) hb, ent_zero, Nat.zero_xor, gm_comm _ _ hpl (gm_lt _ _ (ent_lt hb k)), gm_swap _ _ _ (ent_lt hb k) f1 hpl, gm_assoc _ _ _ (ent_lt hb k) hpl f1, f3, gm_one _ (ent_lt hb k)]
  rw [e1, putGo_ent hT hc _ (fun j h1 h2 => hX j h1 (by omega))]
  have e2 : xsum (n - (c + 1)) (fun t => gm (ent (row T c) (c + 1 + t)) (ent (row X (c + 1 + t)) k)) = xsum (n - (c + 1)) (fun t => gm (ent (row X (c + 1 + t)) k) (ent (row T c) (c + 1 + t))) := by
    refine xsum_congr _ _ _ (fun t ht => ?_)
    rw [gm_comm _ _ (ent_lt (hT.2 c hc) _) (ent_lt (hX (c + 1 + t) (by omega) (by omega)) k)]
  rw [e2]
  generalize xsum (n - (c + 1)) (fun t => gm (ent (row X (c + 1 + t)) k) (ent (row T c) (c + 1 + t))) = S
  generalize ent (row T c) (n + k) = R
  rw [show R ^^^ S ^^^ S ^^^ R = (R ^^^ R) ^^^ (S ^^^ S) by ac_rfl, Nat.xor_self, Nat.xor_self]
  rfl
end Gf
