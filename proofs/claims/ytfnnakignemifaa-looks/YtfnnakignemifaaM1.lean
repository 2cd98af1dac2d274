import Derived.Test.YtfnnakignemifaaL9
namespace Go.Proofs.Ytfnnakignemifaa
open Go.RowKit

/-- is the frame t good? -/
def okB (f : ByteArray) (b i t : Nat) : Bool := decide (pos b t + (b + 8) ≤ f.size) && ((f.extract (pos b t) (pos b t + (b + 8))).toList == (fr i t (f.extract (pos b t + 4) (pos b t + (4 + b)))).toList)
/-- the frames below T that are not good -/
def bads (f : ByteArray) (b i : Nat) : Nat → List Nat
  | 0 => []
  | T + 1 => bads f b i T ++ (if okB f b i T then [] else [T])
theorem bads_len (f : ByteArray) (b i T : Nat) : (bads f b i T).length ≤ T := by
  induction T with
  | zero => simp [bads]
  | succ T ih => rw [bads, List.length_append]; split <;> simp <;> omega
theorem bads_ok (f : ByteArray) (b i T : Nat) (h : okB f b i T = true) : bads f b i (T + 1) = bads f b i T := by simp [bads, h]
theorem bads_no (f : ByteArray) (b i T : Nat) (h : okB f b i T = false) : bads f b i (T + 1) = bads f b i T ++ [T] := by simp [bads, h]
theorem okB_short (f : ByteArray) (b i t : Nat) (h : f.size < pos b t + (b + 8)) : okB f b i t = false := by
  unfold okB
  rw [decide_eq_false (by omega)]; rfl
theorem okB_long (f : ByteArray) (b i t : Nat) (h : pos b t + (b + 8) ≤ f.size) : okB f b i t = ((f.extract (pos b t) (pos b t + (b + 8))).toList == (fr i t (f.extract (pos b t + 4) (pos b t + (4 + b)))).toList) := by
  unfold okB
  rw [decide_eq_true h, Bool.true_and]
theorem pos_succ (b t : Nat) : pos b (t + 1) = pos b t + (b + 8) := by unfold pos; rw [Nat.succ_mul]; omega
theorem pos_mono (b s t : Nat) (h : s ≤ t) : pos b s ≤ pos b t := by
  unfold pos; have := Nat.mul_le_mul_right (b + 8) h; omega

/-- but for S nothing that was there has turned -/
structure Mods (S : Nat → Prop) (w w' : World) : Prop where
  os : w'.os = w.os
  tape : w'.tape = w.tape
  output : w'.output = w.output
  size : w.heap.size ≤ w'.heap.size
  block : ∀ k, k < w.heap.size → ¬ S k → w'.heap[k]? = w.heap[k]?
theorem Mods.refl (S : Nat → Prop) (w : World) : Mods S w w := ⟨rfl, rfl, rfl, Nat.le_refl _, fun _ _ _ => rfl⟩
theorem Mods.row {S : Nat → Prop} {a w w' : World} {row : Option Nat} (h : Mods S a w) (hg : w.grownBy w' row) (hr : ∀ k, row = some k → S k ∨ a.heap.size ≤ k) : Mods S a w' :=
  ⟨hg.os.trans h.os, hg.tape.trans h.tape, hg.output.trans h.output, Nat.le_trans h.size hg.size, fun k hk hS =>
    (hg.block k (Nat.lt_of_lt_of_le hk h.size) (fun e => by rcases hr k e.symm with h1 | h1; exact hS h1; omega)).trans (h.block k hk hS)⟩
theorem gb_setj (w : World) (b j : Nat) (v : Value) : w.grownBy (w.setCell ⟨b, j, none⟩ v) (some b) :=
  ⟨rfl, rfl, rfl, by simp [World.setCell], fun i _ hne => Below.heap_setCell _ _ _ _ (fun e => hne (by rw [e]))⟩
theorem Mods.set {S : Nat → Prop} {a w : World} (h : Mods S a w) (b j : Nat) (v : Value) (hb : S b ∨ a.heap.size ≤ b) : Mods S a (w.setCell ⟨b, j, none⟩ v) :=
  h.row (gb_setj w b j v) (fun k hk => by cases hk; exact hb)
theorem Mods.alloc {S : Nat → Prop} {a w : World} (h : Mods S a w) (o : Obj) : Mods S a (w.alloc o) := h.row (gb_alloc w o none) (fun k hk => by cases hk)
theorem owns_gb {w w' : World} {B g : Nat} {e : TypeId} {size : Nat} {v : Value} {n : Nat} {xs : List Value} (h : w.ownsRow B e size v n xs) (hg : w.grownBy w' (some g)) (hB : g < B) : w'.ownsRow B e size v n xs := by
  refine ⟨h.1, ?_⟩
  rcases h.2 with hn | ⟨k, cap, cur, rfl, hk, hkk, rest⟩
  · exact .inl hn
  · exact .inr ⟨k, cap, cur, rfl, hk, by rw [hg.block k (Array.getElem?_eq_some_iff.1 hkk).1 (by simp; omega)]; exact hkk, rest⟩
def numOf (w : World) (pn : Nat) : Int := intOf ((w.cell? ⟨pn, 0, none⟩).getD (.int .i64 0))
theorem numOf_eq {w : World} {pn : Nat} {n : Int} (h : w.heap[pn]? = some (.cells #[.int .i64 n] 3)) : numOf w pn = n := by
  unfold numOf
  rw [cell_block h]; rfl

/-- what the inner function of readBadFrames holds when t frames are read -/
structure BF (wc : World) (f : ByteArray) (g pn pb b i t : Nat) (v : Value) (w' : World) : Prop where
  mods : Mods (fun k => k = g ∨ k = pn ∨ k = pb) wc w'
  num : w'.heap[pn]? = some (.cells #[.int .i64 t] 3)
  bad : w'.heap[pb]? = some (.cells #[v] 35)
  rd : w'.cell? ⟨g, 0, none⟩ = some (.string (tl f (pos b t)))
  fz : w'.frozen? ⟨g, 0, none⟩ = false
  own : w'.ownsRow wc.heap.size 3 1 v (bads f b i t).length (ivs (bads f b i t))
theorem BF.alloc {wc : World} {f : ByteArray} {g pn pb b i t : Nat} {v : Value} {w' : World} (h : BF wc f g pn pb b i t v w') (o : Obj) : BF wc f g pn pb b i t v (w'.alloc o) :=
  ⟨h.mods.alloc o, heap_past h.num o, heap_past h.bad o, al1 h.rd o, al1f h.rd h.fz o, h.own.alloc o⟩

/-- where things lie -/
structure Lay (wc : World) (g pn pe pf ph pb : Nat) (k n b i l E : Nat) : Prop where
  end_ : wc.heap[pe]? = some (.cells #[.int .i64 E] 3)
  frm : wc.heap[pf]? = some (.cells #[.pointer (some ⟨g, 0, none⟩)] 47)
  hdb : wc.heap[ph]? = some (.cells #[.int .i64 k, .int .i64 n, .int .i64 b, .int .i64 i, .int .i64 l] 28)
  gw : g < wc.heap.size
  pnw : pn < wc.heap.size
  pbw : pb < wc.heap.size
  e1 : pe ≠ g
  e2 : pe ≠ pn
  e3 : pe ≠ pb
  f1 : pf ≠ g
  f2 : pf ≠ pn
  f3 : pf ≠ pb
  h1 : ph ≠ g
  h2 : ph ≠ pn
  h3 : ph ≠ pb
  n1 : pn ≠ g
  n2 : pn ≠ pb
  b1 : pb ≠ g
theorem Lay.at {wc : World} {g pn pe pf ph pb k n b i l E : Nat} (h : Lay wc g pn pe pf ph pb k n b i l E) {w' : World} (hm : Mods (fun k => k = g ∨ k = pn ∨ k = pb) wc w') :
    w'.heap[pe]? = some (.cells #[.int .i64 E] 3) ∧ w'.heap[pf]? = some (.cells #[.pointer (some ⟨g, 0, none⟩)] 47) ∧ w'.heap[ph]? = some (.cells #[.int .i64 k, .int .i64 n, .int .i64 b, .int .i64 i, .int .i64 l] 28) := by
  have l1 := (Array.getElem?_eq_some_iff.1 h.end_).1
  have l2 := (Array.getElem?_eq_some_iff.1 h.frm).1
  have l3 := (Array.getElem?_eq_some_iff.1 h.hdb).1
  refine ⟨?_, ?_, ?_⟩
  · rw [hm.block pe l1 (by rintro (e | e | e); exact h.e1 e; exact h.e2 e; exact h.e3 e)]; exact h.end_
  · rw [hm.block pf l2 (by rintro (e | e | e); exact h.f1 e; exact h.f2 e; exact h.f3 e)]; exact h.frm
  · rw [hm.block ph l3 (by rintro (e | e | e); exact h.h1 e; exact h.h2 e; exact h.h3 e)]; exact h.hdb
end Go.Proofs.Ytfnnakignemifaa
