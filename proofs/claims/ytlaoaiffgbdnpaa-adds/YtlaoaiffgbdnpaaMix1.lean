import Derived.Test.YtlaoaiffgbdnpaaMem
import Derived.ArgAppend
namespace Go.Proofs.Ytlaoaiffgbdnpaa
open Go.RowKit

/-- append to an owned row: it stays in its block, or it moves to a new one and nothing old turns -/
theorem wpList_append_two {P : Program} (w : World) {ops : Array Oper} {rest : List Oper} {o : Oper} {a : Act} {Q : Exit → Act → World → Prop}
    (hgd : o.guard = none) (s x : Operand) (t : TypeId) (ho : o.op = .call { callee := .builtin .append, args := #[s, x], argTypes := #[t, t] })
    (base : Nat) (e : TypeId) (i : TypeInfo) (z : Value) (size bytes : Nat) (ht : P.underlying t = some (.slice e)) (hi : P.info? e = some i) (hz : i.zero = some z)
    (hsize : i.size = size) (hby : i.bytes = bytes) (hzs : z.cells.size = size) (hsz : 0 < size)
    (v : Value) (n : Nat) (xs : List Value) (hs : a.eval s = v) (hown : w.ownsRow base e size v n xs)
    (ad : Addr) (m c : Nat) (news : List Value) (hx : a.eval x = .slice (some ad) m c) (hl : news.length = m * size) (hnews : ∀ j u, news[j]? = some u → w.cell? (ad.add j) = some u) (h1 : ∀ u ∈ news, u.oneCell' = true)
    (hm : 0 < m) (h63 : n + m ≤ maxLen) (hbytes : (n + m) * bytes ≤ 140737488355328) (hbase : base ≤ w.heap.size)
    (h : ∀ g cap w', w'.ownsRow base e size (.slice (some ⟨g, 0, none⟩) (n + m) cap) (n + m) (xs ++ news) →
      ((v = .slice (some ⟨g, 0, none⟩) n cap ∧ w.grownBy w' (some g)) ∨ (w.heap.size ≤ g ∧ w.grownBy w' none)) →
      wpList P ops Q rest (a.put o.dst (.slice (some ⟨g, 0, none⟩) (n + m) cap)) w') : wpList P ops Q (o :: rest) a w := by
  have grow : ∀ ao cap0, v = .slice ao n cap0 → (ao = none → n = 0 ∧ cap0 = 0) → (∀ b, ao = some b → ∀ j u, xs[j]? = some u → w.cell? (b.add j) = some u) → cap0 < n + m → wpList P ops Q (o :: rest) a w := by
    intro ao cap0 hv hnone hold hfull
    refine wpList_append_grows w hgd s x t ho e i z size bytes ht hi hz hsize hby hzs hsz ao n cap0 xs (hs.trans hv) hnone hown.1 hold ad m c news hx hl hnews h1 hfull h63 hbytes ?_
    intro v' w' ho' hg'
    obtain ⟨g, cap, rfl⟩ : ∃ g cap, v' = .slice (some ⟨g, 0, none⟩) (n + m) cap := by
      rcases ho'.2 with ⟨_, h0⟩ | ⟨g, cap, cur, rfl, _⟩
      · omega
      · exact ⟨g, cap, rfl⟩
    have hlt : w.heap.size ≤ g := by
      rcases ho'.2 with ⟨_, h0⟩ | ⟨g', cap', cur, hv', hb, _⟩
      · omega
      · simp only [Value.slice.injEq, Option.some.injEq, Addr.mk.injEq] at hv'
        omega
    exact h g cap w' (owns_mono ho' hbase) (.inr ⟨hlt, hg'⟩)
  rcases hown.2 with ⟨hv, hn⟩ | ⟨g, cap, cur, hv, hb, hg, hnc, hcm, hcs, htake⟩
  · subst hn
    refine grow none 0 hv (fun _ => ⟨rfl, rfl⟩) (fun b hb => by cases hb) (by omega)
  · by_cases hroom : n + m ≤ cap
    · subst hv
      exact wpList_append_fits w hgd s x t ho base e i size ht hi hsize g n cap xs hs hown ad m c news hx hl hnews h1 hroom fun w' h2 h3 => h g cap w' h2 (.inl ⟨rfl, h3⟩)
    · refine grow (some ⟨g, 0, none⟩) cap hv (fun hb' => by cases hb') ?_ (by omega)
      intro b hb' j u hu
      cases hb'
      exact hown.cells (by rw [hv]; rfl) j u hu

def vlen : Value → Nat
  | .slice _ n _ => n
  | _ => 0
theorem owns_vlen {w : World} {B e size n : Nat} {v : Value} {xs : List Value} (h : w.ownsRow B e size v n xs) : vlen v = n := by
  rcases h.2 with ⟨rfl, rfl⟩ | ⟨g, cap, cur, rfl, _⟩ <;> rfl
theorem owns_block_of {w : World} {B e size n g : Nat} {v : Value} {xs : List Value} (h : w.ownsRow B e size v n xs) (hg : v.ownBlock = some g) : ∃ cur, w.heap[g]? = some (.cells cur e (0, 0)) := by
  rcases h.2 with ⟨rfl, rfl⟩ | ⟨g', cap, cur, rfl, _, hh, _⟩
  · simp [Value.ownBlock] at hg
  · simp [Value.ownBlock] at hg
    subst hg; exact ⟨cur, hh⟩
/-- rows of two types lie in two blocks -/
theorem owns_types {w : World} {B B' e e' size size' n n' g : Nat} {v v' : Value} {xs xs' : List Value} (h : w.ownsRow B e size v n xs) (h' : w.ownsRow B' e' size' v' n' xs') (hne : e ≠ e') (hg : v.ownBlock = some g) : v'.ownBlock ≠ some g := by
  intro hg'
  obtain ⟨c, hc⟩ := owns_block_of h hg
  obtain ⟨c', hc'⟩ := owns_block_of h' hg'
  rw [hc] at hc'
  simp at hc'
  exact hne hc'.2

def flat (E : List (Value × Nat)) : List Value := E.flatMap fun p => [p.1, B8 p.2]
theorem flat_length (E : List (Value × Nat)) : (flat E).length = E.length * 2 := by
  induction E with
  | nil => rfl
  | cons p r ih => simp only [flat, List.flatMap_cons, List.length_append, List.length_cons, List.length_nil] at *; omega
theorem flat_snoc (E : List (Value × Nat)) (v : Value) (m : Nat) : flat (E ++ [(v, m)]) = flat E ++ [v, B8 m] := by simp [flat]
theorem flat_at (E : List (Value × Nat)) (k : Nat) (v : Value) (m : Nat) (h : E[k]? = some (v, m)) : (flat E)[k * 2]? = some v ∧ (flat E)[k * 2 + 1]? = some (B8 m) := by
  induction E generalizing k with
  | nil => simp at h
  | cons p r ih =>
    cases k with
    | zero => simp at h; subst h; simp [flat]
    | succ k =>
      simp at h
      have := ih k h
      rw [show flat (p :: r) = p.1 :: B8 p.2 :: flat r from rfl]
      rw [show (k + 1) * 2 = k * 2 + 1 + 1 by omega]
      simpa using this

/-- the list of lists, its entries, and the list that is being grown -/
structure Inv (w : World) (B A cap : Nat) (E : List (Value × Nat)) (l : Value) (nl m k n L : Nat) : Prop where
  al : w.ownsRow B 34 2 (.slice (some ⟨A, 0, none⟩) E.length cap) E.length (flat E)
  ents : ∀ v m', (v, m') ∈ E → ∃ q, q ≤ L + 3 ∧ w.ownsRow B 5 1 v q (List.replicate q (B8 m'))
  own : w.ownsRow B 5 1 l nl (List.replicate nl (B8 m))
  chain : ∀ v m' g, (v, m') ∈ E → v.ownBlock = some g → l.ownBlock = some g → m' = m ∧ vlen v ≤ nl
  fut : ∀ j, k < j → j < n → ∀ v m', E[j]? = some (v, m') → vlen v ≤ L ∧ ∀ g, v.ownBlock = some g → l.ownBlock ≠ some g ∧ ∀ j' v' m'', j' ≠ j → E[j']? = some (v', m'') → v'.ownBlock ≠ some g

structure Out (w : World) (B A cap : Nat) (E : List (Value × Nat)) (k n L : Nat) : Prop where
  al : w.ownsRow B 34 2 (.slice (some ⟨A, 0, none⟩) E.length cap) E.length (flat E)
  ents : ∀ v m', (v, m') ∈ E → ∃ q, q ≤ L + 3 ∧ w.ownsRow B 5 1 v q (List.replicate q (B8 m'))
  fut : ∀ j, k ≤ j → j < n → ∀ v m', E[j]? = some (v, m') → vlen v ≤ L ∧ ∀ g, v.ownBlock = some g → ∀ j' v' m'', j' ≠ j → E[j']? = some (v', m'') → v'.ownBlock ≠ some g

theorem Out.start {w : World} {B A cap : Nat} {E : List (Value × Nat)} {k n L : Nat} {v : Value} {m : Nat} (h : Out w B A cap E k n L) (hk : k < n) (hE : E[k]? = some (v, m)) : Inv w B A cap E v (vlen v) m k n L := by
  refine ⟨h.al, h.ents, ?_, ?_, ?_⟩
  · obtain ⟨q, _, ho⟩ := h.ents v m (List.mem_of_getElem? hE)
    rw [owns_vlen ho]; exact ho
  · intro v' m' g hm hg hg'
    obtain ⟨j', hj'⟩ := List.getElem?_of_mem hm
    by_cases e : j' = k
    · subst e; rw [hE] at hj'; cases hj'; exact ⟨rfl, Nat.le_refl _⟩
    · exact absurd hg ((h.fut k (Nat.le_refl _) hk v m hE).2 g hg' j' v' m' e hj')
  · intro j hkj hjn v' m' hj
    refine ⟨(h.fut j (by omega) hjn v' m' hj).1, ?_⟩
    intro g hg
    exact ⟨(h.fut j (by omega) hjn v' m' hj).2 g hg k v m (by omega) hE, (h.fut j (by omega) hjn v' m' hj).2 g hg⟩
theorem Inv.stop {w : World} {B A cap : Nat} {E : List (Value × Nat)} {l : Value} {nl m k n L : Nat} (h : Inv w B A cap E l nl m k n L) : Out w B A cap E (k + 1) n L :=
  ⟨h.al, h.ents, fun j hkj hjn v m' hj => ⟨(h.fut j (by omega) hjn v m' hj).1, fun g hg => ((h.fut j (by omega) hjn v m' hj).2 g hg).2⟩⟩
theorem Inv.below {w w' : World} {B A cap : Nat} {E : List (Value × Nat)} {l : Value} {nl m k n L : Nat} (h : Inv w B A cap E l nl m k n L) (hb : Below w.heap.size w w') : Inv w' B A cap E l nl m k n L :=
  ⟨owns_below h.al hb, fun v m' hm => by obtain ⟨q, hq, ho⟩ := h.ents v m' hm; exact ⟨q, hq, owns_below ho hb⟩, owns_below h.own hb, h.chain, h.fut⟩

/-- the list is grown by one -/
theorem Inv.push {w w' : World} {B A cap : Nat} {E : List (Value × Nat)} {l : Value} {nl m k n L g cap' : Nat} (h : Inv w B A cap E l nl m k n L)
    (ho : w'.ownsRow B 5 1 (.slice (some ⟨g, 0, none⟩) (nl + 1) cap') (nl + 1) (List.replicate nl (B8 m) ++ [B8 m]))
    (hc : (l = .slice (some ⟨g, 0, none⟩) nl cap' ∧ w.grownBy w' (some g)) ∨ (w.heap.size ≤ g ∧ w.grownBy w' none)) :
    Inv w' B A cap E (.slice (some ⟨g, 0, none⟩) (nl + 1) cap') (nl + 1) m k n L := by
  have hr : List.replicate nl (B8 m) ++ [B8 m] = List.replicate (nl + 1) (B8 m) := List.replicate_succ'.symm
  rw [hr] at ho
  have hlt : ∀ (v : Value) (q : Nat) (xs : List Value) (e sz g' : Nat), w.ownsRow B e sz v q xs → v.ownBlock = some g' → g' < w.heap.size := fun v q xs e sz g' ho' hg' => (ho'.lt g' hg').2
  rcases hc with ⟨rfl, hg⟩ | ⟨hge, hg⟩
  · refine ⟨?_, ?_, ho, ?_, ?_⟩
    · exact h.al.kept hg (.inr fun e => owns_types h.own h.al (by decide) rfl e)
    · intro v m' hm
      obtain ⟨q, hq, hov⟩ := h.ents v m' hm
      by_cases hb : v.ownBlock = some g
      · obtain ⟨rfl, hle⟩ := h.chain v m' g hm hb rfl
        rw [owns_vlen hov] at hle
        refine ⟨q, hq, hov.1, ?_⟩
        rcases hov.2 with ⟨rfl, _⟩ | ⟨g', cv, cur, rfl, hBg, hh, h1, h2, h3, h4⟩
        · simp [Value.ownBlock] at hb
        · simp [Value.ownBlock] at hb
          subst hb
          rcases ho.2 with ⟨h', _⟩ | ⟨g2, c2, cur2, e2, hB2, hh2, k1, k2, k3, k4⟩
          · simp at h'
          · simp only [Value.slice.injEq, Option.some.injEq, Addr.mk.injEq, and_true, true_and] at e2
            obtain ⟨rfl, rfl⟩ := e2
            rcases h.own.2 with ⟨h', _⟩ | ⟨g3, c3, cur3, e3, hB3, hh3, l1, l2, l3, l4⟩
            · simp at h'
            · simp only [Value.slice.injEq, Option.some.injEq, Addr.mk.injEq, and_true, true_and] at e3
              obtain ⟨rfl, rfl⟩ := e3
              rw [hh] at hh3
              simp at hh3
              subst hh3
              have hcap : cv = cap' := by omega
              subst hcap
              refine .inr ⟨g', cv, cur2, rfl, hBg, hh2, h1, h2, k3, ?_⟩
              have : cur2.toList.take q = (cur2.toList.take (nl + 1)).take q := by rw [List.take_take]; congr 1; omega
              simp only [Nat.mul_one] at k4 ⊢
              rw [this, k4, List.take_replicate]
              congr 1; omega
      · exact ⟨q, hq, hov.kept hg (.inr hb)⟩
    · intro v m' g' hm hv hl
      obtain ⟨a, b⟩ := h.chain v m' g' hm hv hl
      exact ⟨a, by omega⟩
    · intro j hkj hjn v m' hj
      exact h.fut j hkj hjn v m' hj
  · refine ⟨?_, ?_, ho, ?_, ?_⟩
    · exact h.al.kept hg (.inr (by simp [Value.ownBlock]))
    · intro v m' hm
      obtain ⟨q, hq, hov⟩ := h.ents v m' hm
      refine ⟨q, hq, hov.kept hg ?_⟩
      by_cases hn : v.ownBlock = none
      · exact .inl hn
      · exact .inr hn
    · intro v m' g' hm hv hl
      obtain ⟨q, hq, hov⟩ := h.ents v m' hm
      have := hlt v q _ _ _ g' hov hv
      simp only [Value.ownBlock, Option.some.injEq] at hl
      omega
    · intro j hkj hjn v m' hj
      refine ⟨(h.fut j hkj hjn v m' hj).1, ?_⟩
      intro g' hv
      refine ⟨?_, ((h.fut j hkj hjn v m' hj).2 g' hv).2⟩
      intro hl
      obtain ⟨q, hq, hov⟩ := h.ents v m' (List.mem_of_getElem? hj)
      have := hlt v q _ _ _ g' hov hv
      simp only [Value.ownBlock, Option.some.injEq] at hl
      omega

/-- the grown list is laid into the list of lists -/
theorem Inv.lay {w w' : World} {B A cap A' cap' : Nat} {E : List (Value × Nat)} {l : Value} {nl m k n L : Nat} (h : Inv w B A cap E l nl m k n L) (hnl : nl ≤ L + 3) (hn : n ≤ E.length)
    (ho : w'.ownsRow B 34 2 (.slice (some ⟨A', 0, none⟩) (E.length + 1) cap') (E.length + 1) (flat E ++ [l, B8 m]))
    (hg : w.grownBy w' (some A) ∨ w.grownBy w' none) : Inv w' B A' cap' (E ++ [(l, m)]) l nl m k n L := by
  have hk : ∀ (v : Value) (q : Nat) (xs : List Value), w.ownsRow B 5 1 v q xs → w'.ownsRow B 5 1 v q xs := by
    intro v q xs hv
    rcases hg with hg | hg
    · refine hv.kept hg (.inr fun e => ?_)
      exact owns_types hv h.al (by decide) e rfl
    · by_cases hn : v.ownBlock = none
      · exact hv.kept hg (.inl hn)
      · exact hv.kept hg (.inr hn)
  refine ⟨?_, ?_, hk _ _ _ h.own, ?_, ?_⟩
  · rw [flat_snoc, List.length_append]; exact ho
  · intro v m' hm
    simp only [List.mem_append, List.mem_cons, List.not_mem_nil, or_false, Prod.mk.injEq] at hm
    rcases hm with hm | ⟨rfl, rfl⟩
    · obtain ⟨q, hq, hov⟩ := h.ents v m' hm; exact ⟨q, hq, hk _ _ _ hov⟩
    · exact ⟨nl, hnl, hk _ _ _ h.own⟩
  · intro v m' g hm hv hl
    simp only [List.mem_append, List.mem_cons, List.not_mem_nil, or_false, Prod.mk.injEq] at hm
    rcases hm with hm | ⟨rfl, rfl⟩
    · exact h.chain v m' g hm hv hl
    · exact ⟨rfl, by rw [owns_vlen h.own]; exact Nat.le_refl _⟩
  · intro j hkj hjn v m' hj
    rw [List.getElem?_append_left (by omega)] at hj
    obtain ⟨a, b⟩ := h.fut j hkj hjn v m' hj
    refine ⟨a, fun g hv => ⟨(b g hv).1, ?_⟩⟩
    intro j' v' m'' hne hj'
    by_cases hlt : j' < E.length
    · rw [List.getElem?_append_left hlt] at hj'
      exact (b g hv).2 j' v' m'' hne hj'
    · rw [List.getElem?_append_right (by omega)] at hj'
      have : j' - E.length = 0 := by
        rcases Nat.eq_zero_or_pos (j' - E.length) with h0 | h0
        · exact h0
        · rw [List.getElem?_eq_none (by simp; omega)] at hj'; cases hj'
      rw [this] at hj'
      simp at hj'
      obtain ⟨rfl, rfl⟩ := hj'
      exact (b g hv).1
end Go.Proofs.Ytlaoaiffgbdnpaa
