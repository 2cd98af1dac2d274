import Derived.Test.YtlfhbpihdjipeaaN5
import Derived.Test.YtlfhbpihdjipeaaV3
import Derived.Test.YtlfhbpihdjipeaaV4
namespace Go.Proofs.Ytlfhbpihdjipeaa
open Go.RowKit

/-- what Look tells of a file, but for where the list of bad frames lies -/
structure Sc where
  S : Int
  K : Int
  N : Int
  B : Int
  I : Int
  L : Int
  Q : Int
  xs : List Nat
abbrev Sc.val (s : Sc) (v : Value) : Value := scanV s.S s.K s.N s.B s.I s.L v s.Q
abbrev Sc.cells (s : Sc) (v : Value) : List Value := [.int .i64 s.S, .int .i64 s.K, .int .i64 s.N, .int .i64 s.B, .int .i64 s.I, .int .i64 s.L, v, .int .i64 s.Q]
structure Sees (f : ByteArray) (s : Sc) : Prop where
  few : s.xs.length ≤ 16384
  prog : ∀ w : World, Calls Try.prog 11 #[.string f] w fun e w' => ∃ v, e = .returned (s.val v) ∧ Below w.heap.size w w' ∧ w'.ownsRow w.heap.size 3 1 v s.xs.length (ivs s.xs)
  doc : ∀ w : World, Calls Try.prog 10 #[.string f] w fun e w' => ∃ v, e = .returned (s.val v) ∧ Below w.heap.size w w' ∧ w'.ownsRow w.heap.size 3 1 v s.xs.length (ivs s.xs)
theorem sees (f : ByteArray) (hs : f.size ≤ 140737488355328) : ∃ s, Sees f s := by
  obtain ⟨S, K, N, B, I, L, Q, xs, h0, h1, h2⟩ := looks_both f hs
  exact ⟨⟨S, K, N, B, I, L, Q, xs⟩, h0, h1, h2⟩
theorem sees_all : ∀ (fs : List ByteArray), (∀ f ∈ fs, f.size ≤ 140737488355328) → ∃ ss : List Sc, ss.length = fs.length ∧ ∀ (i : Nat) (f : ByteArray), fs[i]? = some f → ∃ s, ss[i]? = some s ∧ Sees f s
  | [], _ => ⟨[], rfl, fun i f h => by simp at h⟩
  | f :: r, h => by
    obtain ⟨s, hs⟩ := sees f (h f (by simp))
    obtain ⟨ss, h1, h2⟩ := sees_all r (fun x hx => h x (by simp [hx]))
    refine ⟨s :: ss, by simp [h1], ?_⟩
    intro i x hx
    cases i with
    | zero => simp at hx; subst hx; exact ⟨s, rfl, hs⟩
    | succ i => simp at hx; obtain ⟨t, ht, hst⟩ := h2 i x hx; exact ⟨t, by simpa using ht, hst⟩

def fl (L : List (Sc × Value)) : List Value := L.flatMap fun p => p.1.cells p.2
theorem fl_length (L : List (Sc × Value)) : (fl L).length = L.length * 8 := by
  induction L with
  | nil => rfl
  | cons p r ih => simp only [fl, List.flatMap_cons, List.length_append, List.length_cons, List.length_nil] at *; omega
theorem fl_snoc (L : List (Sc × Value)) (p : Sc × Value) : fl (L ++ [p]) = fl L ++ p.1.cells p.2 := by simp [fl]
theorem fl_at (L : List (Sc × Value)) (k : Nat) (p : Sc × Value) (h : L[k]? = some p) (j : Nat) (v : Value) (hj : (p.1.cells p.2)[j]? = some v) : (fl L)[k * 8 + j]? = some v := by
  induction L generalizing k with
  | nil => simp at h
  | cons q r ih =>
    cases k with
    | zero =>
      simp at h; subst h
      have hlt : j < (q.1.cells q.2).length := (List.getElem?_eq_some_iff.1 hj).1
      rw [show fl (q :: r) = q.1.cells q.2 ++ fl r from rfl, Nat.zero_mul, Nat.zero_add, List.getElem?_append_left hlt]; exact hj
    | succ k =>
      simp at h
      have := ih k h
      rw [show fl (q :: r) = q.1.cells q.2 ++ fl r from rfl, List.getElem?_append_right (by simp; omega)]
      rw [show (k + 1) * 8 + j - (q.1.cells q.2).length = k * 8 + j by simp; omega]; exact this

/-- a list of Scans that the call has made -/
structure Scans (w : World) (B : Nat) (v : Value) (L : List (Sc × Value)) : Prop where
  row : w.ownsRow B 36 8 v L.length (fl L)
  bad : ∀ p ∈ L, p.1.xs.length ≤ 16384 ∧ w.ownsRow B 3 1 p.2 p.1.xs.length (ivs p.1.xs)
  dist : ∀ (i j : Nat) (p q : Sc × Value) (g : Nat), i ≠ j → L[i]? = some p → L[j]? = some q → p.2.ownBlock = some g → q.2.ownBlock ≠ some g
theorem Scans.nil (w : World) (B : Nat) : Scans w B (.slice none 0 0) [] := ⟨World.ownsRow_nil _ _ _ _, fun p hp => by simp at hp, fun i j p q g _ h => by simp at h⟩
theorem Scans.below {w w' : World} {B : Nat} {v : Value} {L : List (Sc × Value)} (h : Scans w B v L) (hb : Below w.heap.size w w') : Scans w' B v L :=
  ⟨owns_below h.row hb, fun p hp => ⟨(h.bad p hp).1, owns_below (h.bad p hp).2 hb⟩, h.dist⟩
theorem Scans.mono {w : World} {B B' : Nat} {v : Value} {L : List (Sc × Value)} (h : Scans w B v L) (hB : B' ≤ B) : Scans w B' v L :=
  ⟨owns_mono h.row hB, fun p hp => ⟨(h.bad p hp).1, owns_mono (h.bad p hp).2 hB⟩, h.dist⟩
theorem info36 : (Try.prog.info? 36).map (fun i => (i.zero, i.size, i.bytes)) = some (some (.agg z8), 8, 80) := by kernel_rfl

/-- one more -/
theorem Scans.push {w w1 w2 : World} {B : Nat} {v v' u : Value} {L : List (Sc × Value)} {s : Sc} (h : Scans w B v L) (hs : s.xs.length ≤ 16384) (hb : Below w.heap.size w w1) (hw : B ≤ w.heap.size) (hu : w1.ownsRow w.heap.size 3 1 u s.xs.length (ivs s.xs))
    (hg : w1.grownBy w2 v.ownBlock) (ho : w2.ownsRow B 36 8 v' (L.length + 1) (fl L ++ s.cells u)) : Scans w2 B v' (L ++ [(s, u)]) := by
  have kept : ∀ (x : Value) (n : Nat) (ys : List Value) (B' : Nat), w1.ownsRow B' 3 1 x n ys → w2.ownsRow B' 3 1 x n ys := by
    intro x n ys B' hx
    refine hx.kept hg ?_
    by_cases hv : v.ownBlock = none
    · by_cases hx0 : x.ownBlock = none
      · exact .inl hx0
      · exact .inr (by rw [hv]; exact hx0)
    · obtain ⟨g, hgv⟩ := Option.ne_none_iff_exists'.1 hv
      refine .inr ?_
      rw [hgv]
      intro e
      obtain ⟨c1, hc1⟩ := owns_block_of (owns_below h.row hb) hgv
      obtain ⟨c2, hc2⟩ := owns_block_of hx e
      rw [hc1] at hc2
      simp at hc2
  refine ⟨by rw [List.length_append, fl_snoc]; exact ho, ?_, ?_⟩
  · intro p hp
    rcases List.mem_append.1 hp with hp | hp
    · exact ⟨(h.bad p hp).1, kept _ _ _ _ (owns_below (h.bad p hp).2 hb)⟩
    · simp at hp; subst hp; exact ⟨hs, kept _ _ _ _ (owns_mono hu hw)⟩
  · intro i j p q g hij hp hq hpg hqg
    have low : ∀ (k : Nat) (r : Sc × Value), k < L.length → (L ++ [(s, u)])[k]? = some r → L[k]? = some r := fun k r hk hr => by rwa [List.getElem?_append_left hk] at hr
    have top : ∀ (k : Nat) (r : Sc × Value), ¬ k < L.length → (L ++ [(s, u)])[k]? = some r → k = L.length ∧ r = (s, u) := fun k r hk hr => by
      have hlt : k < L.length + 1 := by have := (List.getElem?_eq_some_iff.1 hr).1; simpa using this
      have e : k = L.length := by omega
      subst e
      simp at hr
      exact ⟨rfl, hr.symm⟩
    have new : ∀ g, u.ownBlock = some g → w.heap.size ≤ g := fun g hg => (hu.lt g hg).1
    have old : ∀ (k : Nat) (r : Sc × Value) (g : Nat), L[k]? = some r → r.2.ownBlock = some g → g < w.heap.size := fun k r g hr hg => ((h.bad r (List.mem_of_getElem? hr)).2.lt g hg).2
    by_cases hi : i < L.length
    · by_cases hj : j < L.length
      · exact h.dist i j p q g hij (low i p hi hp) (low j q hj hq) hpg hqg
      · obtain ⟨_, rfl⟩ := top j q hj hq
        have := new g hqg
        have := old i p g (low i p hi hp) hpg
        omega
    · obtain ⟨ei, rfl⟩ := top i p hi hp
      by_cases hj : j < L.length
      · have := new g hpg
        have := old j q g (low j q hj hq) hqg
        omega
      · obtain ⟨ej, _⟩ := top j q hj hq
        omega
end Go.Proofs.Ytlfhbpihdjipeaa
