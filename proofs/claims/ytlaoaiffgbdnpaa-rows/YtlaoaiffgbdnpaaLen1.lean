import Derived.Test.YtlaoaiffgbdnpaaInv7
import Derived.Test.YtlaoaiffgbdnpaaSol3
import Derived.Test.YtlaoaiffgbdnpaaAgr
namespace Go.Proofs.Ytlaoaiffgbdnpaa
open Go.RowKit
set_option linter.unusedVariables false

/-- the rows that were lent: whole, and without what stands behind them -/
def allV (M : List (List Nat)) (bs : List Nat) (t : Nat) : List Value := (List.range t).map (fun k => .slice (some ⟨bs.getD k 0, 0, none⟩) ((Gf.row M k).length + 2) ((Gf.row M k).length + 2))
def inV (M : List (List Nat)) (bs : List Nat) (t : Nat) : List Value := (List.range t).map (fun k => .slice (some ⟨bs.getD k 0, 0, none⟩) (Gf.row M k).length ((Gf.row M k).length + 2))
theorem allV_length (M : List (List Nat)) (bs : List Nat) (t : Nat) : (allV M bs t).length = t := by simp [allV]
theorem inV_length (M : List (List Nat)) (bs : List Nat) (t : Nat) : (inV M bs t).length = t := by simp [inV]
theorem getD_snoc (bs : List Nat) (b k : Nat) (h : k < bs.length) : (bs ++ [b]).getD k 0 = bs.getD k 0 := by simp [List.getElem?_append_left h]
theorem getD_last (bs : List Nat) (b : Nat) : (bs ++ [b]).getD bs.length 0 = b := by simp
theorem allV_snoc (M : List (List Nat)) (bs : List Nat) (b t : Nat) (h : bs.length = t) : allV M (bs ++ [b]) (t + 1) = allV M bs t ++ [.slice (some ⟨b, 0, none⟩) ((Gf.row M t).length + 2) ((Gf.row M t).length + 2)] := by
  subst h
  simp only [allV, List.range_succ, List.map_append, List.map_cons, List.map_nil, getD_last]
  congr 1
  apply List.map_congr_left
  intro k hk
  rw [getD_snoc bs b k (by simpa using hk)]
theorem inV_snoc (M : List (List Nat)) (bs : List Nat) (b t : Nat) (h : bs.length = t) : inV M (bs ++ [b]) (t + 1) = inV M bs t ++ [.slice (some ⟨b, 0, none⟩) (Gf.row M t).length ((Gf.row M t).length + 2)] := by
  subst h
  simp only [inV, List.range_succ, List.map_append, List.map_cons, List.map_nil, getD_last]
  congr 1
  apply List.map_congr_left
  intro k hk
  rw [getD_snoc bs b k (by simpa using hk)]
theorem allV_at (M : List (List Nat)) (bs : List Nat) (t k : Nat) (h : k < t) : (allV M bs t)[k]? = some (.slice (some ⟨bs.getD k 0, 0, none⟩) ((Gf.row M k).length + 2) ((Gf.row M k).length + 2)) := by simp [allV, h]
theorem inV_at (M : List (List Nat)) (bs : List Nat) (t k : Nat) (h : k < t) : (inV M bs t)[k]? = some (.slice (some ⟨bs.getD k 0, 0, none⟩) (Gf.row M k).length ((Gf.row M k).length + 2)) := by simp [inV, h]

structure Lent (w : World) (gi n t : Nat) (av : Value) (bs : List Nat) (M : List (List Nat)) : Prop where
  all : w.ownsRow (gi + 1) 27 1 av t (allV M bs t)
  inn : w.heap[gi]? = some (.cells (splice (List.replicate (n + 1) (.slice none 0 0)) 0 (inV M bs t)).toArray 27 (0, 0))
  len : bs.length = t
  rows : ∀ k, k < t → gi < bs.getD k 0 ∧ w.heap[bs.getD k 0]? = some (.cells (bvs (Gf.row M k ++ [77, 78])).toArray 5 (0, 0))
theorem Lent.below {w w' : World} {gi n t : Nat} {av : Value} {bs : List Nat} {M : List (List Nat)} (h : Lent w gi n t av bs M) (hb : Below w.heap.size w w') : Lent w' gi n t av bs M :=
  ⟨owns_below h.all hb, by rw [hb.block _ (block_lt h.inn)]; exact h.inn, h.len, fun k hk => ⟨(h.rows k hk).1, by rw [hb.block _ (block_lt (h.rows k hk).2)]; exact (h.rows k hk).2⟩⟩
/-- it lies below B -/
theorem Lent.belowB {w w' : World} {gi n t B : Nat} {av : Value} {bs : List Nat} {M : List (List Nat)} (h : Lent w gi n t av bs M) {w0 : World} (h0 : Lent w0 gi n t av bs M) (hB : w0.heap.size ≤ B) (hb : Below B w w') : Lent w' gi n t av bs M := by
  have hi := block_lt h0.inn
  refine ⟨?_, by rw [hb.block _ (by omega)]; exact h.inn, h.len, fun k hk => ⟨(h.rows k hk).1, by rw [hb.block _ (by have := block_lt (h0.rows k hk).2; omega)]; exact (h.rows k hk).2⟩⟩
  refine ⟨h.all.1, ?_⟩
  rcases h.all.2 with hn | ⟨g, c, cur, rfl, h1, h2, h3⟩
  · exact .inl hn
  · refine .inr ⟨g, c, cur, rfl, h1, ?_, h3⟩
    have := (h0.all.lt g rfl).2
    rw [hb.block _ (by omega)]; exact h2
theorem Lent.view {w : World} {gi n : Nat} {av : Value} {bs : List Nat} {M : List (List Nat)} (h : Lent w gi n n av bs M) (hM : M.length = n) (hl : ∀ x ∈ M, x.length ≤ 140737488355328) : View w gi 0 n (inV M bs n) M := by
  refine ⟨inV_length M bs n, hM, ?_, ?_⟩
  · intro k r hr
    have hk : k < n := by have := (List.getElem?_eq_some_iff.1 hr).1; rw [inV_length] at this; exact this
    rw [Nat.zero_add, cell_of_row w gi k _ 27 _ h.inn, List.getElem?_toArray, splice_at _ _ _ _ (by simp [inV_length]), if_neg (by omega), if_pos (by rw [inV_length]; omega), Nat.sub_zero]
    exact hr
  · intro k r x hr hx
    have hk : k < n := by have := (List.getElem?_eq_some_iff.1 hx).1; rw [hM] at this; exact this
    rw [inV_at M bs n k hk] at hr
    simp only [Option.some.injEq] at hr
    subst hr
    have hrow : Gf.row M k = x := by simp [Gf.row, hx]
    rw [hrow]
    refine ⟨_, _, rfl, ?_, by omega, hl x (List.mem_of_getElem? hx)⟩
    refine cells_head (ys := [77, 78]) ?_
    rw [← hrow]
    exact (h.rows k hk).2
/-- one row more: lent, appended, laid -/
theorem Lent.push {w w1 w2 : World} {gi n t g : Nat} {av av' : Value} {bs : List Nat} {M : List (List Nat)} (h : Lent w gi n t av bs M) (ht : t < n) (hgi : gi < g) (hb1 : Below w.heap.size w w1) (hg : w1.heap[g]? = some (.cells (bvs (Gf.row M t ++ [77, 78])).toArray 5 (0, 0))) (hgw : w.heap.size ≤ g)
    (ho : w2.ownsRow (gi + 1) 27 1 av' (t + 1) (allV M bs t ++ [.slice (some ⟨g, 0, none⟩) ((Gf.row M t).length + 2) ((Gf.row M t).length + 2)])) (hgr : w1.grownBy w2 av.ownBlock) :
    Lent (w2.setCell ⟨gi, t, none⟩ (.slice (some ⟨g, 0, none⟩) (Gf.row M t).length ((Gf.row M t).length + 2))) gi n (t + 1) av' (bs ++ [g]) M := by
  have hgl := block_lt hg
  have h1 := h.below hb1
  have hav : ∀ k, av.ownBlock = some k → k ≠ gi ∧ gi + 1 ≤ k := fun k hk => by have := (h.all.lt k hk).1; omega
  have hinn2 : w2.heap[gi]? = some (.cells (splice (List.replicate (n + 1) (.slice none 0 0)) 0 (inV M bs t)).toArray 27 (0, 0)) := by
    rw [hgr.block gi (block_lt h1.inn) (fun e => (hav gi e.symm).1 rfl)]; exact h1.inn
  have hblk : ∀ (b : Nat) (cs : Array Value), w1.heap[b]? = some (.cells cs 5 (0, 0)) → w2.heap[b]? = some (.cells cs 5 (0, 0)) := by
    intro b cs hbb
    rw [hgr.block b (block_lt hbb)]
    · exact hbb
    · intro e
      obtain ⟨c', hc'⟩ := owns_block_of h1.all e.symm
      rw [hbb] at hc'
      simp at hc'
  refine ⟨?_, ?_, by simp [h.len], ?_⟩
  · rw [allV_snoc M bs g t h.len]
    refine ownsRow_setCell_other (a := ⟨gi, t, none⟩) ho ?_ _
    intro e
    have := (ho.lt gi e).1
    omega
  · rw [heap_setCell_same _ _ _ _ 27 _ hinn2, inV_snoc M bs g t h.len]
    have := splice_snoc (List.replicate (n + 1) (Value.slice none 0 0)) (inV M bs t) 0 (.slice (some ⟨g, 0, none⟩) (Gf.row M t).length ((Gf.row M t).length + 2)) (by simp [inV_length]; omega)
    rw [inV_length, Nat.zero_add] at this
    rw [this]
  · intro k hk
    by_cases e : k < t
    · rw [getD_snoc bs g k (by rw [h.len]; exact e)]
      obtain ⟨r1, r2⟩ := h1.rows k e
      exact ⟨r1, by rw [heap_setCell_other _ _ _ _ (by simp only; omega)]; exact hblk _ _ r2⟩
    · obtain rfl : k = t := by omega
      have e2 : (bs ++ [g]).getD k 0 = g := by rw [← h.len]; exact getD_last bs g
      rw [e2]
      exact ⟨hgi, by rw [heap_setCell_other _ _ _ _ (by simp only; omega)]; exact hblk _ _ hg⟩
end Go.Proofs.Ytlaoaiffgbdnpaa
