import Derived.Test.YtlfhbpihdjipeaaV10
import Derived.Laws.MakeOwn
namespace Go.Proofs.Ytlfhbpihdjipeaa
open Go.RowKit

/-- a row of n Scans at block g of which the first are laid -/
structure Part (w : World) (B g n : Nat) (L : List (Sc × Value)) : Prop where
  row : ∃ cs : Array Value, w.heap[g]? = some (.cells cs 36 (0, 0)) ∧ cs.size = n * 8 ∧ cs.toList.take (L.length * 8) = fl L
  low : B ≤ g
  fits : L.length ≤ n
  bad : ∀ p ∈ L, p.1.xs.length ≤ 16384 ∧ w.ownsRow B 3 1 p.2 p.1.xs.length (ivs p.1.xs)
  dist : ∀ (i j : Nat) (p q : Sc × Value) (b : Nat), i ≠ j → L[i]? = some p → L[j]? = some q → p.2.ownBlock = some b → q.2.ownBlock ≠ some b
theorem Part.below {w w' : World} {B g n : Nat} {L : List (Sc × Value)} (h : Part w B g n L) (hb : Below w.heap.size w w') : Part w' B g n L := by
  obtain ⟨cs, h1, h2, h3⟩ := h.row
  exact ⟨⟨cs, by rw [hb.block g (Array.getElem?_eq_some_iff.1 h1).1]; exact h1, h2, h3⟩, h.low, h.fits, fun p hp => ⟨(h.bad p hp).1, owns_below (h.bad p hp).2 hb⟩, h.dist⟩
theorem Part.there {w : World} {B g n k : Nat} {L : List (Sc × Value)} (h : Part w B g n L) (hk : k < n) : w.there g (k * 8) 8 := by
  obtain ⟨cs, h1, h2, _⟩ := h.row
  intro j hj
  rw [cell_block h1, frozen_block h1]
  exact ⟨by rw [Array.getElem?_eq_getElem (by omega)]; rfl, rfl⟩
theorem Part.scans {w : World} {B g n : Nat} {L : List (Sc × Value)} (h : Part w B g n L) (hn : L.length = n) (hm : n ≤ maxLen) : Scans w B (.slice (some ⟨g, 0, none⟩) n n) L := by
  obtain ⟨cs, h1, h2, h3⟩ := h.row
  refine ⟨?_, h.bad, h.dist⟩
  rw [hn]
  rw [hn] at h3
  exact ⟨by rw [fl_length, hn], .inr ⟨g, n, cs, rfl, h.low, h1, Nat.le_refl _, hm, h2, h3⟩⟩

/-- one more is laid -/
theorem Part.lay {w w1 : World} {B g n : Nat} {L : List (Sc × Value)} {s : Sc} {u : Value} (h : Part w B g n L) (hlt : L.length < n) (hs : s.xs.length ≤ 16384) (hb : Below w.heap.size w w1) (hw : B ≤ w.heap.size) (hu : w1.ownsRow w.heap.size 3 1 u s.xs.length (ivs s.xs)) :
    Part (w1.setCells g (L.length * 8) (s.cells u)) B g n (L ++ [(s, u)]) := by
  obtain ⟨cs, h1, h2, h3⟩ := (h.below hb).row
  obtain ⟨cs', k1, k2, k3, k4⟩ := setCells_at g 36 (s.cells u) (L.length * 8) w1 cs h1
  have hgb := setCells_gb g (s.cells u) (L.length * 8) w1
  have kept : ∀ (x : Value) (m : Nat) (ys : List Value) (B' : Nat), w1.ownsRow B' 3 1 x m ys → (w1.setCells g (L.length * 8) (s.cells u)).ownsRow B' 3 1 x m ys := by
    intro x m ys B' hx
    refine hx.kept hgb (.inr ?_)
    intro e
    obtain ⟨c2, hc2⟩ := owns_block_of hx e
    rw [h1] at hc2
    simp at hc2
  refine ⟨⟨cs', k1, by omega, ?_⟩, h.low, by simp; omega, ?_, ?_⟩
  · rw [fl_snoc, List.length_append]
    apply List.ext_getElem?
    intro j
    have hfl := fl_length L
    rw [List.getElem?_take]
    by_cases hj : j < L.length * 8
    · rw [if_pos (by simp; omega), List.getElem?_append_left (by omega), ← h3, List.getElem?_take, if_pos hj]
      have := k3 j hj
      simpa using this
    · by_cases hj2 : j < L.length * 8 + 8
      · rw [if_pos (by simp; omega), List.getElem?_append_right (by omega), hfl]
        obtain ⟨v, hv⟩ : ∃ v, (s.cells u)[j - L.length * 8]? = some v := ⟨_, List.getElem?_eq_getElem (by simp; omega)⟩
        have := k4 _ v hv (by omega)
        rw [show L.length * 8 + (j - L.length * 8) = j by omega] at this
        rw [hv]
        simpa using this
      · rw [if_neg (by simp; omega), List.getElem?_eq_none (by simp [fl_length]; omega)]
  · intro p hp
    rcases List.mem_append.1 hp with hp | hp
    · exact ⟨(h.bad p hp).1, kept _ _ _ _ (owns_below (h.bad p hp).2 hb)⟩
    · simp at hp; subst hp; exact ⟨hs, kept _ _ _ _ (owns_mono hu hw)⟩
  · intro i j p q b hij hp hq hpg hqg
    have low : ∀ (k : Nat) (r : Sc × Value), k < L.length → (L ++ [(s, u)])[k]? = some r → L[k]? = some r := fun k r hk hr => by rwa [List.getElem?_append_left hk] at hr
    have top : ∀ (k : Nat) (r : Sc × Value), ¬ k < L.length → (L ++ [(s, u)])[k]? = some r → k = L.length ∧ r = (s, u) := fun k r hk hr => by
      have hlt : k < L.length + 1 := by have := (List.getElem?_eq_some_iff.1 hr).1; simpa using this
      have e : k = L.length := by omega
      subst e
      simp at hr
      exact ⟨rfl, hr.symm⟩
    have new : ∀ b, u.ownBlock = some b → w.heap.size ≤ b := fun b hb => (hu.lt b hb).1
    have old : ∀ (k : Nat) (r : Sc × Value) (b : Nat), L[k]? = some r → r.2.ownBlock = some b → b < w.heap.size := fun k r b hr hb => ((h.bad r (List.mem_of_getElem? hr)).2.lt b hb).2
    by_cases hi : i < L.length
    · by_cases hj : j < L.length
      · exact h.dist i j p q b hij (low i p hi hp) (low j q hj hq) hpg hqg
      · obtain ⟨_, rfl⟩ := top j q hj hq
        have := new b hqg
        have := old i p b (low i p hi hp) hpg
        omega
    · obtain ⟨ei, rfl⟩ := top i p hi hp
      by_cases hj : j < L.length
      · have := new b hpg
        have := old j q b (low j q hj hq) hqg
        omega
      · obtain ⟨ej, _⟩ := top j q hj hq
        omega

theorem verify_large (a : Option Addr) (n cap : Nat) (w : World) (hn : 32 < n) (hn2 : n ≤ 140737488355328) : Calls Try.prog 6 #[.slice a n cap] w fun e w' => e = .returned (.tuple #[.slice none 0 0, .int .i64 3]) ∧ Below w.heap.size w w' := by
  have h1 : (32 : Int) < (n : Int) := by omega
  go_enter Try.func6, Try.ntmps6
  go_wp2
  go_ret2
  exact ⟨rfl, Below.refl _ _⟩

theorem run_make36 (n : Nat) (hn : n ≤ 32) (w : World) : (Instr.makeSlice 24 (.int .i64 (n : Int)) (.int .i64 (n : Int))).run Try.prog w = .ok (.slice (some ⟨w.heap.size, 0, none⟩) n n) (w.alloc (.cells (madeCells z8 (n * 8)) 36)) := by
  obtain ⟨i36, hi36, hz0, hz1, hz2⟩ := info_parts info36
  have h := run_make (P := Try.prog) w 24 36 i36 (.agg z8) Try.underlying24 hi36 hz0 .i64 .i64 n n (by omega) (Int.le_refl _) (by rw [hz2]; omega) (by omega)
  rw [hz1] at h
  simpa [Value.cells] using h

theorem wpList_store_part {P : Program} {ops : Array Oper} {rest : List Oper} {op : Oper} {a : Act} {w : World} {Q : Exit → Act → World → Prop} (hgd : op.guard = none) (ty : TypeId) (x y : Operand) (ho : op.op = .store ty x y) (b o : Nat) (s : Sc) (a' : Option Addr) (m c : Nat)
    (hx : a.eval x = .pointer (some ⟨b, o, none⟩)) (hy : a.eval y = .agg #[.int .i64 s.S, .int .i64 s.K, .int .i64 s.N, .int .i64 s.B, .int .i64 s.I, .int .i64 s.L, .slice a' m c, .int .i64 s.Q])
    (ht : w.there b o 8) (hi : (P.info? ty).map (·.size) = some 8) (h : ∀ w', Hid (w' = w.setCells b o (s.cells (.slice a' m c))) → wpList P ops Q rest (a.put op.dst undef) w') : wpList P ops Q (op :: rest) a w :=
  wpList_store_mid hgd ty x y ho b o _ hx hy ht hi (one8 s.S s.K s.N s.B s.I s.L a' m c s.Q) (h _ rfl)

set_option maxHeartbeats 2000000 in
theorem verify_any (a : Option Addr) (n cap : Nat) (fs : List ByteArray) (ss : List Sc) (w : World) (hn : n ≤ 32) (hl : fs.length = n) (hf : Texts w a fs) (hs : Seen fs ss) :
    Calls Try.prog 6 #[.slice a n cap] w fun e w' => ∃ v L, e = .returned (.tuple #[v, .int .i64 0]) ∧ Below w.heap.size w w' ∧ Scans w' w.heap.size v L ∧ L.map (·.1) = ss := by
  have h1 : ¬ (32 : Int) < (n : Int) := by omega
  have hmk := fun w => run_make36 n hn w
  have HL : Hid (fs.length = n) := hl
  have HF : Hid (Texts w a fs) := hf
  have HS : Hid (Seen fs ss) := hs
  have P0 : Hid (Part (w.alloc (.cells (madeCells z8 (n * 8)) 36)) w.heap.size w.heap.size n []) := ⟨⟨_, heap_alloc_new _ _, size_madeCells _ _, by simp [fl]⟩, Nat.le_refl _, by simp, fun p hp => by simp at hp, fun i j p q b _ hp => by simp at hp⟩
  have B0 : Hid (Below w.heap.size w (w.alloc (.cells (madeCells z8 (n * 8)) 36))) := (Below.refl _ _).alloc (Nat.le_refl _) _
  clear hl hf hs
  go_enter Try.func6, Try.ntmps6
  go_wp2_with fail
  clear hmk
  go_loopw [15] (fun ii w' => ∃ (t : Nat) (L : List (Sc × Value)), t ≤ n ∧ ii = .int .i64 t ∧ Below w.heap.size w w' ∧ Hid (L.length = t) ∧ Part w' w.heap.size w.heap.size n L ∧ Hid (L.map (·.1) = ss.take t)) (fun ii _ => (n - intOf ii).toNat)
  case atStart => exact ⟨0, [], by omega, rfl, B0.out, rfl, P0.out, by show _ = _; simp⟩
  case round =>
    obtain ⟨t, L, ht, rfl, hb, LL, hP, LM⟩ := hrel
    have sz := hb.size
    by_cases hlt : t < n
    · obtain ⟨f, hf⟩ : ∃ f, fs[t]? = some f := ⟨_, List.getElem?_eq_getElem (by rw [HL.out]; exact hlt)⟩
      obtain ⟨s, hst, hsee⟩ := HS.out.2 t f hf
      obtain ⟨b, off, rfl, hblt, hcell⟩ := HF.out.pos (by rw [HL.out]; omega)
      have cf : wr.cell? ⟨b, off + t, none⟩ = some (.string f) := by rw [hb.cell (p := ⟨b, off + t, none⟩) hblt]; exact hcell t f hf
      have i1 : (0 : Int) ≤ (t : Int) := by omega
      have i2 : (t : Int) < (n : Int) := by omega
      have LM2 : Hid (∀ u : Value, (L ++ [(s, u)]).map (·.1) = ss.take (t + 1)) := by
        intro u
        rw [List.map_append, LM.out, List.take_add_one, hst]; rfl
      have few := hsee.few
      have HD : Hid (∀ w : World, Calls Try.prog 11 #[.string f] w fun e w' => ∃ v, e = .returned (s.val v) ∧ Below w.heap.size w w' ∧ w'.ownsRow w.heap.size 3 1 v s.xs.length (ivs s.xs)) := hsee.prog
      clear hf hst hsee hcell
      go_wp2_with fail
      refine (HD.out _).mono ?_
      rintro e w1 ⟨u, rfl, hb1, ou⟩
      obtain ⟨au, cu, rfl⟩ := owns_form ou
      have hs1 := hb1.size
      have th : Hid (w1.there w.heap.size (t * 8) 8) := (hP.below hb1).there hlt
      have HP : Hid (Part (w1.setCells w.heap.size (t * 8) (s.cells (.slice au s.xs.length cu))) w.heap.size w.heap.size n (L ++ [(s, .slice au s.xs.length cu)])) := by
        have := hP.lay (s := s) (u := .slice au s.xs.length cu) (by rw [LL.out]; exact hlt) few hb1 sz ou
        rw [LL.out] at this
        exact this
      have HB : Hid (Below w.heap.size w (w1.setCells w.heap.size (t * 8) (s.cells (.slice au s.xs.length cu)))) := Below.grown (hb.trans (hb1.mono sz)) (setCells_gb _ _ _ _) (by omega) (fun g hg => by cases hg; exact Nat.le_refl _)
      have LL2 : Hid ((L ++ [(s, (.slice au s.xs.length cu : Value))]).length = t + 1) := by show _ = _; rw [List.length_append, LL.out]; rfl
      have LM3 : Hid ((L ++ [(s, (.slice au s.xs.length cu : Value))]).map (·.1) = ss.take (t + 1)) := LM2.out _
      clear cf hb hb1 ou hP LM LM2
      go_wp2_with (refine wpList_store_part rfl 36 _ _ (by rfl) w.heap.size (t * 8) s au s.xs.length cu (by rfl) (by rfl) th.out size37 ?_; intro w5 hw5)
      have HP5 : Hid (Part w5 w.heap.size w.heap.size n (L ++ [(s, .slice au s.xs.length cu)])) := by show Part _ _ _ _ _; rw [hw5.out]; exact HP.out
      have HB5 : Hid (Below w.heap.size w w5) := by show Below _ _ _; rw [hw5.out]; exact HB.out
      clear HP HB hw5 th
      go_wp2_with fail
      go_roundw
      case rel => exact ⟨t + 1, _, by omega, by go_num, HB5.out, LL2, HP5.out, LM3⟩
      case measure => simp [intOf]; omega
    · obtain rfl : t = n := by omega
      go_wp2_with fail
      go_ret2
      refine ⟨_, _, rfl, hb, hP.scans LL.out (by unfold maxLen; omega), ?_⟩
      rw [LM.out, List.take_of_length_le (by rw [HS.out.1, HL.out]; exact Nat.le_refl _)]
theorem verify_ok : VerifyOk := ⟨verify_any, verify_large⟩
end Go.Proofs.Ytlfhbpihdjipeaa
