import Derived.Test.YtlfhbpihdjipeaaV1
import Derived.Handy
namespace Go.Proofs.Ytlfhbpihdjipeaa
open Go.RowKit

structure Ph (w : World) (B A cap : Nat) (E : List (Value × Int)) (k i L : Nat) : Prop where
  al : w.ownsRow B 42 2 (.slice (some ⟨A, 0, none⟩) E.length cap) E.length (flat E)
  ents : ∀ (j : Nat) (v : Value) (m : Int), E[j]? = some (v, m) → ∃ q, q ≤ L ∧ ∃ xs, w.ownsRow B 3 1 v q xs ∧ (j < k → xs = List.replicate q (I8 m)) ∧ (j = k → ∀ t, t < i → t < q → xs[t]? = some (I8 m))
  dist : ∀ (j j' : Nat) (v : Value) (m : Int) (v' : Value) (m' : Int) (g : Nat), j ≠ j' → E[j]? = some (v, m) → E[j']? = some (v', m') → v.ownBlock = some g → v'.ownBlock ≠ some g

theorem Ph.drew {w : World} {B A cap : Nat} {E : List (Value × Int)} {k i L : Nat} (h : Ph w B A cap E k i L) : Ph w.drew B A cap E k i L :=
  ⟨h.al.drew, fun j v m hj => by obtain ⟨q, hq, xs, ho, r⟩ := h.ents j v m hj; exact ⟨q, hq, xs, ho.drew, r⟩, h.dist⟩

theorem Ph.store {w : World} {B A cap : Nat} {E : List (Value × Int)} {k i L g q c : Nat} {m : Int} (h : Ph w B A cap E k i L) (hE : E[k]? = some (.slice (some ⟨g, 0, none⟩) q c, m)) :
    Ph (w.setCell ⟨g, i, none⟩ (I8 m)) B A cap E k (i + 1) L := by
  obtain ⟨q', hq', xs0, ho0, h01, h02⟩ := h.ents k _ m hE
  have hqq : q = q' := by have := owns_vlen ho0; simpa [vlen] using this
  subst hqq
  refine ⟨?_, ?_, h.dist⟩
  · exact ownsRow_setCell_other (a := ⟨g, i, none⟩) h.al (owns_types ho0 h.al (by decide) rfl) _
  · intro j v m' hj
    by_cases e : j = k
    · subst e
      rw [hE] at hj
      simp only [Option.some.injEq, Prod.mk.injEq] at hj
      obtain ⟨rfl, rfl⟩ := hj
      refine ⟨q, hq', xs0.set i (I8 m), (ho0.stored i _).1, fun h => absurd h (by omega), ?_⟩
      intro _ t ht htq
      have hl : xs0.length = q := by have := ho0.1; omega
      rw [List.getElem?_set]
      by_cases e2 : i = t
      · subst e2; rw [if_pos rfl, if_pos (by omega)]
      · rw [if_neg e2]; exact h02 rfl t (by omega) htq
    · obtain ⟨q', hq2, xs, ho, h1, h2⟩ := h.ents j v m' hj
      refine ⟨q', hq2, xs, ownsRow_setCell_other (a := ⟨g, i, none⟩) ho (h.dist k j _ m v m' g (fun e' => e e'.symm) hE hj rfl) _, h1, fun e' => absurd e' e⟩

theorem Ph.next {w : World} {B A cap : Nat} {E : List (Value × Int)} {k i L : Nat} {m : Int} {v : Value} (h : Ph w B A cap E k i L) (hE : E[k]? = some (v, m)) (hi : vlen v ≤ i) : Ph w B A cap E (k + 1) 0 L := by
  refine ⟨h.al, ?_, h.dist⟩
  intro j v' m' hj
  obtain ⟨q, hq, xs, ho, h1, h2⟩ := h.ents j v' m' hj
  refine ⟨q, hq, xs, ho, ?_, fun _ t ht => by omega⟩
  intro hlt
  by_cases e : j = k
  · subst e
    rw [hE] at hj
    cases hj
    have hv := owns_vlen ho
    have hl : xs.length = q := by have := ho.1; omega
    apply List.ext_getElem?
    intro t
    by_cases ht : t < q
    · rw [h2 rfl t (by omega) ht, List.getElem?_replicate, if_pos ht]
    · rw [List.getElem?_eq_none (by omega), List.getElem?_eq_none (by simp; omega)]
  · exact h1 (by omega)

theorem Ph.out {w : World} {B A cap : Nat} {E : List (Value × Int)} {L : Nat} (h : Ph w B A cap E E.length 0 L) : Out w B A cap E 0 E.length L := by
  refine ⟨h.al, ?_, ?_⟩
  · intro v m hm
    obtain ⟨j, hj⟩ := List.getElem?_of_mem hm
    obtain ⟨q, hq, xs, ho, h1, _⟩ := h.ents j v m hj
    have hlt : j < E.length := (List.getElem?_eq_some_iff.1 hj).1
    refine ⟨q, by omega, ?_⟩
    rw [← h1 hlt]; exact ho
  · intro j _ hjn v m hj
    obtain ⟨q, hq, xs, ho, _⟩ := h.ents j v m hj
    refine ⟨by rw [owns_vlen ho]; exact hq, ?_⟩
    intro g hg j' v' m' hne hj'
    exact h.dist j j' v m v' m' g (Ne.symm hne) hj hj' hg

theorem all_cells {w : World} {B A cap n : Nat} {E : List (Value × Int)} {k : Nat} {m : Int} {v : Value} (h : w.ownsRow B 42 2 (.slice (some ⟨A, 0, none⟩) n cap) n (flat E)) (hn : E.length = n) (hE : E[k]? = some (v, m)) :
    w.cell? ⟨A, k * 2, none⟩ = some v ∧ w.cell? ⟨A, k * 2 + 1, none⟩ = some (.int .i64 m) := by
  have hk : k < E.length := (List.getElem?_eq_some_iff.1 hE).1
  have hf := flat_at E k v m hE
  exact ⟨by rw [h.cellAt _ (by omega)]; exact hf.1, by rw [h.cellAt _ (by omega)]; exact hf.2⟩

/-- the blocks of S are as they were -/
structure Kept (S : Nat → Prop) (w w' : World) : Prop where
  os : w'.os = w.os
  tape : w'.tape = w.tape
  output : w'.output = w.output
  size : w.heap.size ≤ w'.heap.size
  block : ∀ k, S k → w'.heap[k]? = w.heap[k]?
theorem Kept.refl (S : Nat → Prop) (w : World) : Kept S w w := ⟨rfl, rfl, rfl, Nat.le_refl _, fun _ _ => rfl⟩
theorem Kept.drew {S : Nat → Prop} {w w' : World} (h : Kept S w w') : Kept S w w'.drew := ⟨h.os, h.tape, h.output, h.size, h.block⟩
theorem Kept.alloc {S : Nat → Prop} {w w' : World} (h : Kept S w w') (hS : ∀ k, S k → k < w.heap.size) (o : Obj) : Kept S w (w'.alloc o) := by
  have hs := h.size
  exact ⟨h.os, h.tape, h.output, by simp; omega, fun k hk => by rw [Below.heap_alloc _ _ _ (by have := hS k hk; omega)]; exact h.block k hk⟩
theorem Kept.setCell {S : Nat → Prop} {w w' : World} (h : Kept S w w') {a : Addr} (ha : ¬ S a.block) (v : Value) : Kept S w (w'.setCell a v) := by
  refine ⟨h.os, h.tape, h.output, by simpa using h.size, fun k hk => ?_⟩
  rw [Below.heap_setCell _ _ _ _ (fun e => ha (e ▸ hk))]; exact h.block k hk
theorem Kept.grown {S : Nat → Prop} {w w' w'' : World} {row : Option Nat} (h : Kept S w w') (hS : ∀ k, S k → k < w.heap.size) (hg : w'.grownBy w'' row) (hr : ∀ k, row = some k → ¬ S k) : Kept S w w'' := by
  have hs := h.size
  exact ⟨hg.os.trans h.os, hg.tape.trans h.tape, hg.output.trans h.output, Nat.le_trans h.size hg.size, fun k hk => by rw [hg.block k (by have := hS k hk; omega) (fun e => hr k e.symm hk)]; exact h.block k hk⟩
theorem Kept.below {B : Nat} {w w' : World} (h : Kept (· < B) w w') : Below B w w' := ⟨h.os, h.tape, h.output, h.size, h.block⟩
theorem Kept.mono {S T : Nat → Prop} {w w' : World} (h : Kept S w w') (hT : ∀ k, T k → S k) : Kept T w w' := ⟨h.os, h.tape, h.output, h.size, fun k hk => h.block k (hT k hk)⟩

def Off (S : Nat → Prop) (E : List (Value × Int)) : Prop := ∀ v m g, (v, m) ∈ E → v.ownBlock = some g → ¬ S g

theorem info42 : (Try.prog.info? 42).map (fun i => (i.zero, i.size, i.bytes)) = some (some (.agg #[.slice none 0 0, .int .i64 0]), 2, 32) := by kernel_rfl
end Go.Proofs.Ytlfhbpihdjipeaa
