import Derived.Test.YtlaoaiffgbdnpaaSol1
import Derived.Deep.RegionWith
namespace Go.Proofs.Ytlaoaiffgbdnpaa
open Go.RowKit
set_option linter.unusedVariables false

def flatQ (qs : List (Value × Value)) : List Value := qs.flatMap fun p => [p.1, p.2]
theorem flatQ_length (qs : List (Value × Value)) : (flatQ qs).length = qs.length * 2 := by
  induction qs with
  | nil => rfl
  | cons p r ih => simp only [flatQ, List.flatMap_cons, List.length_append, List.length_cons, List.length_nil] at *; omega
theorem flatQ_cons (p : Value × Value) (r : List (Value × Value)) : flatQ (p :: r) = p.1 :: p.2 :: flatQ r := rfl
theorem flatQ_snoc (qs : List (Value × Value)) (a b : Value) : flatQ (qs ++ [(a, b)]) = flatQ qs ++ [a, b] := by simp [flatQ]
theorem flatQ_at (qs : List (Value × Value)) (k : Nat) (a b : Value) (h : qs[k]? = some (a, b)) : (flatQ qs)[k * 2]? = some a ∧ (flatQ qs)[k * 2 + 1]? = some b := by
  induction qs generalizing k with
  | nil => simp at h
  | cons p r ih =>
    cases k with
    | zero => simp at h; subst h; simp [flatQ]
    | succ k =>
      simp at h
      have := ih k h
      rw [flatQ_cons, show (k + 1) * 2 = k * 2 + 1 + 1 by omega]
      simpa using this
theorem flatQ_set (qs : List (Value × Value)) (k : Nat) (a b : Value) : flatQ (qs.set k (a, b)) = ((flatQ qs).set (k * 2) a).set (k * 2 + 1) b := by
  induction qs generalizing k with
  | nil => rfl
  | cons p r ih =>
    cases k with
    | zero => simp [flatQ]
    | succ k =>
      rw [List.set_cons_succ, flatQ_cons, flatQ_cons, ih k, show (k + 1) * 2 = k * 2 + 1 + 1 by omega]
      simp

/-- equations in memory -/
structure Eqs (w : World) (B A cap n : Nat) (qs : List (Value × Value)) (T : List (List Nat)) : Prop where
  top : w.ownsRow B 63 2 (.slice (some ⟨A, 0, none⟩) n cap) n (flatQ qs)
  len : qs.length = n
  tbl : Gf.Tbl n (n + n) T
  rows : ∀ (k : Nat) (a b : Value), qs[k]? = some (a, b) → w.ownsRow B 5 1 a n (bvs ((Gf.row T k).take n)) ∧ w.ownsRow B 5 1 b n (bvs ((Gf.row T k).drop n))
theorem Eqs.below {w w' : World} {B A cap n : Nat} {qs : List (Value × Value)} {T : List (List Nat)} (h : Eqs w B A cap n qs T) (hb : Below w.heap.size w w') : Eqs w' B A cap n qs T :=
  ⟨owns_below h.top hb, h.len, h.tbl, fun k a b hk => ⟨owns_below (h.rows k a b hk).1 hb, owns_below (h.rows k a b hk).2 hb⟩⟩
theorem Eqs.set {w : World} {B A cap n : Nat} {qs : List (Value × Value)} {T : List (List Nat)} (h : Eqs w B A cap n qs T) (k : Nat) (a b : Value) (x : List Nat) (hk : k < n) (hx : Gf.Bytes (n + n) x)
    (ha : w.ownsRow B 5 1 a n (bvs (x.take n))) (hb : w.ownsRow B 5 1 b n (bvs (x.drop n))) :
    Eqs ((w.setCell ⟨A, k * 2, none⟩ a).setCell ⟨A, k * 2 + 1, none⟩ b) B A cap n (qs.set k (a, b)) (T.set k x) := by
  have key : ∀ (v : Value) (m : Nat) (xs : List Value), w.ownsRow B 5 1 v m xs → ((w.setCell ⟨A, k * 2, none⟩ a).setCell ⟨A, k * 2 + 1, none⟩ b).ownsRow B 5 1 v m xs := by
    intro v m xs hv
    have hne : v.ownBlock ≠ some A := fun e => owns_types hv h.top (by decide) e rfl
    exact ownsRow_setCell_other (a := ⟨A, k * 2 + 1, none⟩) (ownsRow_setCell_other (a := ⟨A, k * 2, none⟩) hv hne _) hne _
  refine ⟨?_, by simpa using h.len, h.tbl.set hx, ?_⟩
  · rw [flatQ_set]
    exact ((h.top.stored (k * 2) a).1.stored (k * 2 + 1) b).1
  · intro j c d hj
    rw [Gf.row_set _ _ _ _ (by rw [h.tbl.1]; exact hk)]
    by_cases e : k = j
    · subst e
      rw [List.getElem?_set_self (by rw [h.len]; exact hk)] at hj
      simp only [Option.some.injEq, Prod.mk.injEq] at hj
      obtain ⟨rfl, rfl⟩ := hj
      rw [if_pos rfl]
      exact ⟨key _ _ _ ha, key _ _ _ hb⟩
    · rw [List.getElem?_set_ne e] at hj
      rw [if_neg e]
      exact ⟨key _ _ _ (h.rows j c d hj).1, key _ _ _ (h.rows j c d hj).2⟩
theorem ent_take (r : List Nat) (n k : Nat) (h : k < n) : Gf.ent (r.take n) k = Gf.ent r k := by
  simp [Gf.ent, h]
/-- what can be read of an equation -/
theorem Eqs.at {w : World} {B A cap n : Nat} {qs : List (Value × Value)} {T : List (List Nat)} (h : Eqs w B A cap n qs T) {k : Nat} (hk : k < n) :
    ∃ b1 c1 b2 c2, qs[k]? = some (.slice (some ⟨b1, 0, none⟩) n c1, .slice (some ⟨b2, 0, none⟩) n c2) ∧ w.cell? ⟨A, k * 2, none⟩ = some (.slice (some ⟨b1, 0, none⟩) n c1) ∧ w.cell? ⟨A, k * 2 + 1, none⟩ = some (.slice (some ⟨b2, 0, none⟩) n c2) ∧
      (∀ j, j < n → w.cell? ⟨b1, j, none⟩ = some (.int .u8 ((Gf.ent (Gf.row T k) j : Nat) : Int))) ∧ b1 < w.heap.size := by
  obtain ⟨⟨a, b⟩, hq⟩ : ∃ p, qs[k]? = some p := ⟨_, List.getElem?_eq_getElem (by rw [h.len]; exact hk)⟩
  obtain ⟨o1, o2⟩ := h.rows k a b hq
  have form : ∀ (v : Value) (xs : List Value), w.ownsRow B 5 1 v n xs → ∃ g c, v = .slice (some ⟨g, 0, none⟩) n c := by
    intro v xs hv
    rcases hv.2 with ⟨_, h0⟩ | ⟨g, c, cur, hv', _⟩
    · omega
    · exact ⟨g, c, hv'⟩
  obtain ⟨b1, c1, rfl⟩ := form a _ o1
  obtain ⟨b2, c2, rfl⟩ := form b _ o2
  have hf := flatQ_at qs k _ _ hq
  refine ⟨b1, c1, b2, c2, hq, by rw [h.top.cellAt _ (by omega)]; exact hf.1, by rw [h.top.cellAt _ (by omega)]; exact hf.2, ?_, (o1.lt b1 rfl).2⟩
  intro j hj
  rw [o1.cellAt j (by omega)]
  have hlen : ((Gf.row T k).take n).length = n := by rw [List.length_take, (h.tbl.2 k hk).1]; omega
  have h1 : ((Gf.row T k).take n)[j]? = some ((Gf.row T k).take n)[j] := List.getElem?_eq_getElem (by omega)
  rw [bvs_at _ j _ h1]
  have := Gf.ent_some h1
  rw [ent_take _ _ _ hj] at this
  rw [this]
theorem info63 : (Try.prog.info? 63).map (fun i => (i.zero, i.size, i.bytes)) = some (some (.agg #[.slice none 0 0, .slice none 0 0]), 2, 48) := by kernel_rfl

theorem Eqs.swap {w : World} {B A cap n : Nat} {qs : List (Value × Value)} {T : List (List Nat)} (h : Eqs w B A cap n qs T) {a c : Nat} {va ra vc rc : Value} (ha : a < n) (hc : c < n) (hqa : qs[a]? = some (va, ra)) (hqc : qs[c]? = some (vc, rc)) :
    Eqs ((((w.setCell ⟨A, a * 2, none⟩ vc).setCell ⟨A, a * 2 + 1, none⟩ rc).setCell ⟨A, c * 2, none⟩ va).setCell ⟨A, c * 2 + 1, none⟩ ra) B A cap n ((qs.set a (vc, rc)).set c (va, ra)) (Gf.swapT T c a) := by
  have h1 := h.set a vc rc (Gf.row T c) ha (h.tbl.2 c hc) (h.rows c vc rc hqc).1 (h.rows c vc rc hqc).2
  have key : ∀ (v : Value) (m : Nat) (xs : List Value), w.ownsRow B 5 1 v m xs → ((w.setCell ⟨A, a * 2, none⟩ vc).setCell ⟨A, a * 2 + 1, none⟩ rc).ownsRow B 5 1 v m xs := by
    intro v m xs hv
    have hne : v.ownBlock ≠ some A := fun e => owns_types hv h.top (by decide) e rfl
    exact ownsRow_setCell_other (a := ⟨A, a * 2 + 1, none⟩) (ownsRow_setCell_other (a := ⟨A, a * 2, none⟩) hv hne _) hne _
  exact h1.set c va ra (Gf.row T a) hc (h.tbl.2 a ha) (key _ _ _ (h.rows a va ra hqa).1) (key _ _ _ (h.rows a va ra hqa).2)
theorem mulAdd_take (r o : List Nat) (k n : Nat) : (Gf.mulAdd r o k).take n = Gf.mulAdd (r.take n) (o.take n) k := by simp [Gf.mulAdd, List.take_zipWith]
theorem mulAdd_drop (r o : List Nat) (k n : Nat) : (Gf.mulAdd r o k).drop n = Gf.mulAdd (r.drop n) (o.drop n) k := by simp [Gf.mulAdd, List.drop_zipWith]
theorem bytes_take {n : Nat} {r : List Nat} (h : Gf.Bytes (n + n) r) : Gf.Bytes n (r.take n) := ⟨by rw [List.length_take, h.1]; omega, fun x hx => h.2 x (List.mem_of_mem_take hx)⟩
theorem bytes_drop {n : Nat} {r : List Nat} (h : Gf.Bytes (n + n) r) : Gf.Bytes n (r.drop n) := ⟨by rw [List.length_drop, h.1]; omega, fun x hx => h.2 x (List.mem_of_mem_drop hx)⟩

theorem putGo_congr (n c : Nat) (T X X' : List (List Nat)) (m : Nat) (h : ∀ j, c < j → j < c + 1 + m → Gf.row X j = Gf.row X' j) : Gf.putGo n c T X m = Gf.putGo n c T X' m := by
  induction m with
  | zero => rfl
  | succ m ih => simp only [Gf.putGo]; rw [ih (fun j h1 h2 => h j h1 (by omega)), h (c + 1 + m) (by omega) (by omega)]
theorem backRow_congr (n c : Nat) (T X X' : List (List Nat)) (hc : c < n) (h : ∀ j, c < j → j < n → Gf.row X j = Gf.row X' j) : Gf.backRow n c T X = Gf.backRow n c T X' := by
  unfold Gf.backRow
  rw [putGo_congr n c T X X' _ (fun j h1 h2 => h j h1 (by omega))]

/-- the answer, as far as it has been made: from d on -/
structure OutT (w : World) (B G n d : Nat) (vs : List Value) (X T : List (List Nat)) : Prop where
  top : w.heap[G]? = some (.cells vs.toArray 27 (0, 0))
  len : vs.length = n
  lenX : X.length = n
  base : B ≤ G
  rows : ∀ k, d ≤ k → k < n → ∃ a cp, vs[k]? = some (.slice a n cp) ∧ w.ownsRow B 5 1 (.slice a n cp) n (bvs (Gf.row X k)) ∧ Gf.Bytes n (Gf.row X k) ∧ Gf.row X k = Gf.backRow n k T X
theorem OutT.below {w w' : World} {B G n d : Nat} {vs : List Value} {X T : List (List Nat)} (h : OutT w B G n d vs X T) (hb : Below w.heap.size w w') : OutT w' B G n d vs X T :=
  ⟨by rw [hb.block _ (block_lt h.top)]; exact h.top, h.len, h.lenX, h.base, fun k h1 h2 => by
    obtain ⟨a, cp, r1, r2, r3, r4⟩ := h.rows k h1 h2
    exact ⟨a, cp, r1, owns_below r2 hb, r3, r4⟩⟩
theorem OutT.set {w : World} {B G n c : Nat} {vs : List Value} {X T : List (List Nat)} (h : OutT w B G n (c + 1) vs X T) (hc : c < n) (a : Option Addr) (cp : Nat) (x : List Nat) (hx : Gf.Bytes n x) (hxe : x = Gf.backRow n c T X)
    (ho : w.ownsRow B 5 1 (.slice a n cp) n (bvs x)) : OutT (w.setCell ⟨G, c, none⟩ (.slice a n cp)) B G n c (vs.set c (.slice a n cp)) (X.set c x) T := by
  have key : ∀ (v : Value) (m : Nat) (xs : List Value), w.ownsRow B 5 1 v m xs → (w.setCell ⟨G, c, none⟩ (.slice a n cp)).ownsRow B 5 1 v m xs := by
    intro v m xs hv
    refine ownsRow_setCell_other (a := ⟨G, c, none⟩) hv ?_ _
    intro e
    obtain ⟨cur, hcur⟩ := owns_block_of hv e
    rw [h.top] at hcur
    simp at hcur
  have hr := fun j => Gf.row_set X c j x (by rw [h.lenX]; exact hc)
  refine ⟨by rw [heap_setCell_same _ _ _ _ 27 _ h.top]; simp, by simpa using h.len, by simpa using h.lenX, h.base, ?_⟩
  intro k h1 h2
  rw [hr k]
  by_cases e : c = k
  · subst e
    refine ⟨a, cp, by rw [List.getElem?_set_self (by rw [h.len]; exact hc)], by rw [if_pos rfl]; exact key _ _ _ ho, by rw [if_pos rfl]; exact hx, ?_⟩
    rw [if_pos rfl]
    exact hxe.trans (backRow_congr n c T _ _ hc (fun j j1 j2 => by rw [hr j, if_neg (by omega)]))
  · obtain ⟨a', cp', r1, r2, r3, r4⟩ := h.rows k (by omega) h2
    refine ⟨a', cp', by rw [List.getElem?_set_ne e]; exact r1, by rw [if_neg e]; exact key _ _ _ r2, by rw [if_neg e]; exact r3, ?_⟩
    rw [if_neg e, r4]
    exact backRow_congr n k T _ _ h2 (fun j j1 j2 => by rw [hr j, if_neg (by omega)])

set_option maxRecDepth 100000 in
set_option maxHeartbeats 4000000 in
theorem solve_any (B A cap n : Nat) (qs : List (Value × Value)) (T0 : List (List Nat)) (w : World) (hn : 1 ≤ n) (hn2 : n ≤ 32) (hB : B ≤ w.heap.size) (hE : Eqs w B A cap n qs T0) :
    Calls Try.prog 35 #[.slice (some ⟨A, 0, none⟩) n cap] w fun e w' =>
      (∃ T g vs X, e = .returned (.tuple #[.slice (some ⟨g, 0, none⟩) n n, .bool true]) ∧ Below B w w' ∧ Gf.Fwd n (n + n) n T0 T ∧ View w' g 0 n vs X ∧ Gf.Tbl n n X ∧ ∀ c, c < n → Gf.row X c = Gf.backRow n c T X) ∨
      (∃ T c, e = .returned (.tuple #[.slice none 0 0, .bool false]) ∧ Below B w w' ∧ Gf.Fwd n (n + n) c T0 T ∧ c < n ∧ ∀ r, c ≤ r → r < n → Gf.ent (Gf.row T r) c = 0) := by
  have hmk := fun w => run_make_row' (P := Try.prog) 38 27 (.slice none 0 0) 24 Try.underlying38 info27 rfl .i64 .i64 n (by omega) (by omega) w
  have hmk2 := fun w => run_make_row' (P := Try.prog) 27 5 (.int .u8 0) 1 Try.underlying27 info5 rfl .i64 .i64 n (by omega) (by omega) w
  go_enter Try.func35, Try.ntmps35
  go_wp2
  go_loopw [5] (fun cc w' => ∃ (c : Nat) (T : List (List Nat)) (qs' : List (Value × Value)), c ≤ n ∧ cc = .int .i64 c ∧ Below B w w' ∧ Eqs w' B A cap n qs' T ∧ Gf.Fwd n (n + n) c T0 T) (fun cc _ => (n - intOf cc).toNat)
  case atStart => exact ⟨0, T0, qs, by omega, rfl, Below.refl _ _, hE, ⟨hE.tbl, fun _ _ => Iff.rfl, fun j hj => by omega⟩⟩
  case round =>
    clear hE
    obtain ⟨c, T, qs', hc, rfl, hb, hE, hF⟩ := hrel
    have sz := hb.size
    by_cases hlt : c < n
    · go_wp2_with fail
      go_loop [6] (fun aa => ∃ a : Nat, c ≤ a ∧ a ≤ n ∧ aa = .int .i64 a ∧ Hid (∀ r, c ≤ r → r < a → Gf.ent (Gf.row T r) c = 0)) (fun aa => (n - intOf aa).toNat)
      case atStart => exact ⟨c, by omega, by omega, rfl, fun r h1 h2 => by omega⟩
      case round =>
        obtain ⟨a, hca, han, rfl, hz⟩ := hrel
        have i1 : (0 : Int) ≤ (a : Int) := by omega
        have i3 : (0 : Int) ≤ (c : Int) := by omega
        have i4 : (c : Int) < (n : Int) := by omega
        by_cases hlt2 : a < n
        · obtain ⟨b1, c1, b2, c2, hq, k1, k2, k3, _⟩ := hE.at hlt2
          have d1 : decide ((a : Int) < (n : Int)) = true := decide_eq_true (by omega)
          have i2 : (a : Int) < (n : Int) := by omega
          have k4 := k3 c hlt
          by_cases h0 : Gf.ent (Gf.row T a) c = 0
          · rw [h0] at k4
            have hz' : Hid (∀ r, c ≤ r → r < a + 1 → Gf.ent (Gf.row T r) c = 0) := by
              intro r h1 h2
              by_cases e : r = a
              · rw [e]; exact h0
              · exact hz.out r h1 (by omega)
            clear k3 hq h0 hz
            go_wp2_with fail
            go_round
            case rel => exact ⟨a + 1, by omega, by omega, by go_num, hz'⟩
            case measure => simp [intOf]; omega
          · have e1 : (((Gf.ent (Gf.row T a) c : Nat) : Int) == 0) = false := by rw [beq_eq_false_iff_ne]; omega
            have e2 : ((a : Int) == (n : Int)) = false := by rw [beq_eq_false_iff_ne]; omega
            obtain ⟨b3, c3, b4, c4, hq', m1, m2, m3, _⟩ := hE.at hlt
            have hA : A < wr.heap.size := (hE.top.lt A rfl).2
            have z1 : wr.frozen? ⟨A, a * 2, none⟩ = false := hE.top.frozenAt _
            have z2 : wr.frozen? ⟨A, a * 2 + 1, none⟩ = false := hE.top.frozenAt _
            have z3 : wr.frozen? ⟨A, c * 2, none⟩ = false := hE.top.frozenAt _
            have z4 : wr.frozen? ⟨A, c * 2 + 1, none⟩ = false := hE.top.frozenAt _
            clear m3 k3
            by_cases eac : a = c
            · have eca : c = a := eac.symm
              subst eca
              have e5 := hq.symm.trans hq'
              simp only [Option.some.injEq, Prod.mk.injEq, Value.slice.injEq, Addr.mk.injEq, and_true, true_and] at e5
              obtain ⟨⟨rfl, rfl⟩, rfl, rfl⟩ := e5
              go_wp2_with fail
              generalize hw3 : ((((wr.setCell ⟨A, c * 2, none⟩ (.slice (some ⟨b1, 0, none⟩) n c1)).setCell ⟨A, c * 2 + 1, none⟩ (.slice (some ⟨b2, 0, none⟩) n c2)).setCell ⟨A, c * 2, none⟩ (.slice (some ⟨b1, 0, none⟩) n c1)).setCell ⟨A, c * 2 + 1, none⟩ (.slice (some ⟨b2, 0, none⟩) n c2)).alloc (.cells #[.slice (some ⟨b1, 0, none⟩) n c1, .slice (some ⟨b2, 0, none⟩) n c2] 63) = w3
              have hE3 : Eqs w3 B A cap n ((qs'.set c (.slice (some ⟨b1, 0, none⟩) n c1, .slice (some ⟨b2, 0, none⟩) n c2)).set c (.slice (some ⟨b1, 0, none⟩) n c1, .slice (some ⟨b2, 0, none⟩) n c2)) (Gf.swapT T c c) := by
                rw [← hw3]
                exact (hE.swap hlt2 hlt hq hq').below ((Below.refl _ _).alloc (Nat.le_refl _) _)
              have hbox : w3.heap[wr.heap.size]? = some (.cells #[.slice (some ⟨b1, 0, none⟩) n c1, .slice (some ⟨b2, 0, none⟩) n c2] 63 (0, 0)) := by
                rw [← hw3]
                have := heap_alloc_new ((((wr.setCell ⟨A, c * 2, none⟩ (.slice (some ⟨b1, 0, none⟩) n c1)).setCell ⟨A, c * 2 + 1, none⟩ (.slice (some ⟨b2, 0, none⟩) n c2)).setCell ⟨A, c * 2, none⟩ (.slice (some ⟨b1, 0, none⟩) n c1)).setCell ⟨A, c * 2 + 1, none⟩ (.slice (some ⟨b2, 0, none⟩) n c2)) (.cells #[.slice (some ⟨b1, 0, none⟩) n c1, .slice (some ⟨b2, 0, none⟩) n c2] 63)
                simpa using this
              have hBA : B ≤ A := (hE.top.lt A rfl).1
              have b03 : Below B w w3 := by
                rw [← hw3]
                exact ((((hb.setCell (by simpa using hBA) _).setCell (by simpa using hBA) _).setCell (by simpa using hBA) _).setCell (by simpa using hBA) _).alloc (by simp; omega) _
              have hqc : ((qs'.set c ((.slice (some ⟨b1, 0, none⟩) n c1 : Value), (.slice (some ⟨b2, 0, none⟩) n c2 : Value))).set c (.slice (some ⟨b1, 0, none⟩) n c1, .slice (some ⟨b2, 0, none⟩) n c2))[c]? = some (.slice (some ⟨b1, 0, none⟩) n c1, .slice (some ⟨b2, 0, none⟩) n c2) := by
                rw [List.getElem?_set_self (by simp [hE.len]; exact hlt)]
              have hpiv : Gf.ent (Gf.row (Gf.swapT T c c) c) c ≠ 0 := by rw [Gf.swapT_row T n c c c hE.tbl.1 hlt hlt2, if_pos rfl]; exact h0
              have hstep := hF.step hlt hca hlt2 h0
              have ht1 := hE3.tbl
              generalize hS : Gf.swapT T c c = S at *
              have BE : B ≤ wr.heap.size := by omega
              have hEA : wr.heap.size ≠ A := by omega
              generalize hEw : wr.heap.size = E at *
              clear hw3 hEw hS hE hF hb k1 k2 k4 m1 m2 z1 z2 z3 z4 e1 hq hq' hz h0 hA sz
              go_loopw [8] (fun ii w' => ∃ (i m : Nat) (qs1 : List (Value × Value)), ii = .int .i64 i ∧ Hid (i = c + 1 + m) ∧ c < i ∧ i ≤ n ∧ Below B w w' ∧ Eqs w' B A cap n qs1 (Gf.elimGo c S m) ∧ Hid (w'.heap[E]? = some (.cells #[.slice (some ⟨b1, 0, none⟩) n c1, .slice (some ⟨b2, 0, none⟩) n c2] 63 (0, 0))) ∧ Hid (qs1[c]? = some (.slice (some ⟨b1, 0, none⟩) n c1, .slice (some ⟨b2, 0, none⟩) n c2))) (fun ii _ => (n - intOf ii).toNat)
              case atStart => exact ⟨c + 1, 0, _, by go_num, rfl, by omega, by omega, b03, hE3, hbox, hqc⟩
              case round =>
                clear hE3 hbox hqc b03
                obtain ⟨i, m, qs1, rfl, him, hci, hin, hb, hE, hbox, hqc⟩ := hrel
                have sz := hb.size
                by_cases hlt3 : i < n
                · obtain ⟨bi, ci, br, cr, hqi, g1, g2, g3, _⟩ := hE.at hlt3
                  obtain ⟨x1, y1, x2, y2, hq2, _, _, m3, _⟩ := hE.at hlt
                  have e5 := hq2.symm.trans hqc.out
                  simp only [Option.some.injEq, Prod.mk.injEq, Value.slice.injEq, Addr.mk.injEq, and_true, true_and] at e5
                  obtain ⟨⟨rfl, rfl⟩, rfl, rfl⟩ := e5
                  have hrc : Gf.row (Gf.elimGo c S m) c = Gf.row S c := by rw [Gf.elimGo_row ht1 hlt m (by have := him.out; omega), if_neg (by omega)]
                  have hp0 : Gf.ent (Gf.row (Gf.elimGo c S m) c) c ≠ 0 := by rw [hrc]; exact hpiv
                  have ti := hE.tbl.2 i hlt3
                  have tc := hE.tbl.2 c hlt
                  have g4 := g3 c hlt
                  have m4 := m3 c hlt
                  have x5 : wr.cell? ⟨E, 0, none⟩ = some (.slice (some ⟨x1, 0, none⟩) n y1) := by rw [cell_of_row wr E 0 _ 63 _ hbox.out]; rfl
                  have x6 : wr.cell? ⟨E, 1, none⟩ = some (.slice (some ⟨x2, 0, none⟩) n y2) := by rw [cell_of_row wr E 1 _ 63 _ hbox.out]; rfl
                  have oi := hE.rows i _ _ hqi
                  have oc := hE.rows c _ _ hq2
                  have hqel := Gf.ent_lt ti c
                  have hpel := Gf.ent_lt tc c
                  have HTI : Hid (Gf.Bytes (n + n) (Gf.row (Gf.elimGo c S m) i)) := ti
                  have HTC : Hid (Gf.Bytes (n + n) (Gf.row (Gf.elimGo c S m) c)) := tc
                  generalize hpe : Gf.ent (Gf.row (Gf.elimGo c S m) c) c = pv at *
                  generalize hqe : Gf.ent (Gf.row (Gf.elimGo c S m) i) c = qv at *
                  have HPE : Hid (Gf.ent (Gf.row (Gf.elimGo c S m) c) c = pv) := hpe
                  have HQE : Hid (Gf.ent (Gf.row (Gf.elimGo c S m) i) c = qv) := hqe
                  have i5 : (0 : Int) ≤ (i : Int) := by omega
                  have i6 : (i : Int) < (n : Int) := by omega
                  have l1 := World.block_lt_of_cell? _ _ g1
                  have l2 := World.block_lt_of_cell? _ _ g4
                  have l3 := World.block_lt_of_cell? _ _ x5
                  have l4 := World.block_lt_of_cell? _ _ m4
                  simp only at l1 l2 l3 l4
                  have HE := hE
                  clear hpe hqe g3 m3 hrc ti tc hE hq2
                  go_wp2_with fail
                  go_region_held3 (fun w' => w'.cell? ⟨A, i * 2, none⟩ = some (.slice (some ⟨bi, 0, none⟩) n ci) ∧ w'.cell? ⟨bi, c, none⟩ = some (.int .u8 (qv : Int)) ∧ w'.cell? ⟨E, 0, none⟩ = some (.slice (some ⟨x1, 0, none⟩) n y1) ∧ w'.cell? ⟨x1, c, none⟩ = some (.int .u8 (pv : Int))) (first | exact ⟨(hb5.cell (p := ⟨A, i * 2, none⟩) l1).trans g1, (hb5.cell (p := ⟨bi, c, none⟩) l2).trans g4, (hb5.cell (p := ⟨E, 0, none⟩) l3).trans x5, (hb5.cell (p := ⟨x1, c, none⟩) l4).trans m4⟩ | go_keep) (first | (go_at_call 12; refine (refDiv_any qv pv _ hqel hpel hp0).mono ?_; rintro e w5 ⟨rfl, hb5⟩))
                  have b5 : Below wr.heap.size wr w5 := (Below.refl _ _).drew.trans hb5
                  have s5 := b5.size
                  have E5 := HE.below b5
                  have y5 : w5.cell? ⟨E, 0, none⟩ = some (.slice (some ⟨x1, 0, none⟩) n y1) := (b5.cell (p := ⟨E, 0, none⟩) l3).trans x5
                  have y6 : w5.cell? ⟨E, 1, none⟩ = some (.slice (some ⟨x2, 0, none⟩) n y2) := (b5.cell (p := ⟨E, 1, none⟩) l3).trans x6
                  have y1' : w5.cell? ⟨A, i * 2, none⟩ = some (.slice (some ⟨bi, 0, none⟩) n ci) := (b5.cell (p := ⟨A, i * 2, none⟩) l1).trans g1
                  have y2' : w5.cell? ⟨A, i * 2 + 1, none⟩ = some (.slice (some ⟨br, 0, none⟩) n cr) := (b5.cell (p := ⟨A, i * 2 + 1, none⟩) l1).trans g2
                  have hbox5 : Hid (w5.heap[E]? = some (.cells #[.slice (some ⟨x1, 0, none⟩) n y1, .slice (some ⟨x2, 0, none⟩) n y2] 63 (0, 0))) := by show _ = _; rw [b5.block E l3]; exact hbox.out
                  have hfl : Gf.gdiv qv pv < 256 := Gf.gm_lt _ _ hqel
                  have LE : Hid (∀ wx : World, wx.heap = w5.heap → Calls Try.prog 43 #[.agg #[.slice (some ⟨bi, 0, none⟩) n ci, .slice (some ⟨br, 0, none⟩) n cr], .agg #[.slice (some ⟨x1, 0, none⟩) n y1, .slice (some ⟨x2, 0, none⟩) n y2], .int .u8 ((Gf.gdiv qv pv : Nat) : Int)] wx fun e w' => ∃ vl vr, e = .returned (.agg #[vl, vr]) ∧ Below w5.heap.size wx w' ∧
                      w'.ownsRow w5.heap.size 5 1 vl n (bvs (Gf.mulAdd ((Gf.row (Gf.elimGo c S m) i).take n) ((Gf.row (Gf.elimGo c S m) c).take n) (Gf.gdiv qv pv))) ∧ w'.ownsRow w5.heap.size 5 1 vr n (bvs (Gf.mulAdd ((Gf.row (Gf.elimGo c S m) i).drop n) ((Gf.row (Gf.elimGo c S m) c).drop n) (Gf.gdiv qv pv)))) := by
                    intro wx hw
                    have o1 := (owns_cells (owns_below oi.1 b5)).1.heap hw
                    have o2 := (owns_cells (owns_below oi.2 b5)).1.heap hw
                    have o3 := (owns_cells (owns_below oc.1 b5)).1.heap hw
                    have o4 := (owns_cells (owns_below oc.2 b5)).1.heap hw
                    have := less_any _ _ _ _ n ci cr y1 y2 (Gf.gdiv qv pv) _ _ _ _ wx (by omega) hfl (bytes_take HTI.out) (bytes_drop HTI.out) (bytes_take HTC.out) (bytes_drop HTC.out) o1 o2 o3 o4
                    rw [hw] at this
                    exact this
                  have hAl : A < w5.heap.size := by omega
                  have z1 : w5.frozen? ⟨A, i * 2, none⟩ = false := E5.top.frozenAt _
                  have z2 : w5.frozen? ⟨A, i * 2 + 1, none⟩ = false := E5.top.frozenAt _
                  have b05 : Below B w w5 := hb.trans (b5.mono (by omega))
                  clear hb5 b5 HE oi oc g1 g2 g4 m4 x5 x6 hb hbox l1 l2 l3 l4 hqel hpel hp0
                  go_wp2_with fail
                  go_region_with (first | (go_at_call 43; refine (LE.out _ ?_).mono ?_; exact rfl; rintro e w6 ⟨vl, vr, rfl, hb6, ho1, ho2⟩; obtain ⟨pl, ql, hvl⟩ := owns_form ho1; obtain ⟨pr, qr, hvr⟩ := owns_form ho2; subst hvl; subst hvr; have u1 : w6.cell? ⟨A, i * 2, none⟩ = some (.slice (some ⟨bi, 0, none⟩) n ci) := (hb6.cell (p := ⟨A, i * 2, none⟩) hAl).trans y1'; have u2 : w6.cell? ⟨A, i * 2 + 1, none⟩ = some (.slice (some ⟨br, 0, none⟩) n cr) := (hb6.cell (p := ⟨A, i * 2 + 1, none⟩) hAl).trans y2'; have v1 : w6.frozen? ⟨A, i * 2, none⟩ = false := (hb6.frozen (p := ⟨A, i * 2, none⟩) hAl).trans z1; have v2 : w6.frozen? ⟨A, i * 2 + 1, none⟩ = false := (hb6.frozen (p := ⟨A, i * 2 + 1, none⟩) hAl).trans z2))
                  all_goals
                    have b6 : Below w5.heap.size w5 w6 := (Below.refl _ _).drew.trans hb6
                    have E6 := (E5.below b6).set i (.slice pl n ql) (.slice pr n qr) (Gf.mulAdd (Gf.row (Gf.elimGo c S m) i) (Gf.row (Gf.elimGo c S m) c) (Gf.gdiv qv pv)) hlt3 (Gf.bytes_mulAdd HTI.out HTC.out _) (by rw [mulAdd_take]; exact owns_mono ho1 (by omega)) (by rw [mulAdd_drop]; exact owns_mono ho2 (by omega))
                    have HST : Hid (Gf.elimGo c S (m + 1) = (Gf.elimGo c S m).set i (Gf.mulAdd (Gf.row (Gf.elimGo c S m) i) (Gf.row (Gf.elimGo c S m) c) (Gf.gdiv qv pv))) := by
                      show _ = _
                      rw [Gf.elimGo, ← him.out, HPE.out, HQE.out]
                    have b06 : Below B w ((w6.setCell ⟨A, i * 2, none⟩ (.slice pl n ql)).setCell ⟨A, i * 2 + 1, none⟩ (.slice pr n qr)) := ((b05.trans (b6.mono (by omega))).setCell (by simpa using hBA) _).setCell (by simpa using hBA) _
                    have hbox6 : Hid (((w6.setCell ⟨A, i * 2, none⟩ (.slice pl n ql)).setCell ⟨A, i * 2 + 1, none⟩ (.slice pr n qr)).heap[E]? = some (.cells #[.slice (some ⟨x1, 0, none⟩) n y1, .slice (some ⟨x2, 0, none⟩) n y2] 63 (0, 0))) := by
                      show _ = _
                      rw [heap_setCell_other _ _ _ _ hEA, heap_setCell_other _ _ _ _ hEA, b6.block E (block_lt hbox5.out)]
                      exact hbox5.out
                    have hqc6 : Hid ((qs1.set i ((.slice pl n ql : Value), (.slice pr n qr : Value)))[c]? = some (.slice (some ⟨x1, 0, none⟩) n y1, .slice (some ⟨x2, 0, none⟩) n y2)) := by
                      show _ = _
                      rw [List.getElem?_set_ne (by omega)]; exact hqc.out
                    clear hb6 b6 ho1 ho2 u1 u2 v1 v2 E5 y5 y6 y1' y2' LE hbox5 hqc b05 z1 z2
                    go_wp2_with fail
                    go_roundw
                    case rel => exact ⟨i + 1, m + 1, _, by go_num, by show _ = _; have := him.out; omega, by omega, by omega, b06, by rw [HST.out]; exact E6, hbox6, hqc6⟩
                    case measure => simp [intOf]; omega
                · have hm : m = n - (c + 1) := by have := him.out; omega
                  have hst : Gf.Fwd n (n + n) (c + 1) T0 (Gf.elimGo c S m) := by rw [hm]; exact hstep
                  clear hm hstep
                  go_wp2_with fail
                  go_roundw
                  case rel => exact ⟨c + 1, _, qs1, by omega, by go_num, hb, hE, hst⟩
                  case measure => simp [intOf]; omega
            · have n1 : ¬ a * 2 = c * 2 := by omega
              have n2 : ¬ a * 2 = c * 2 + 1 := by omega
              have n3 : ¬ a * 2 + 1 = c * 2 := by omega
              have n4 : ¬ a * 2 + 1 = c * 2 + 1 := by omega
              have eca : ¬ c = a := fun h => eac h.symm
              go_wp2_with fail
              clear n1 n2 n3 n4 eca
              generalize hw3 : ((((wr.setCell ⟨A, a * 2, none⟩ (.slice (some ⟨b3, 0, none⟩) n c3)).setCell ⟨A, a * 2 + 1, none⟩ (.slice (some ⟨b4, 0, none⟩) n c4)).setCell ⟨A, c * 2, none⟩ (.slice (some ⟨b1, 0, none⟩) n c1)).setCell ⟨A, c * 2 + 1, none⟩ (.slice (some ⟨b2, 0, none⟩) n c2)).alloc (.cells #[.slice (some ⟨b1, 0, none⟩) n c1, .slice (some ⟨b2, 0, none⟩) n c2] 63) = w3
              have hE3 : Eqs w3 B A cap n ((qs'.set a (.slice (some ⟨b3, 0, none⟩) n c3, .slice (some ⟨b4, 0, none⟩) n c4)).set c (.slice (some ⟨b1, 0, none⟩) n c1, .slice (some ⟨b2, 0, none⟩) n c2)) (Gf.swapT T c a) := by
                rw [← hw3]
                exact (hE.swap hlt2 hlt hq hq').below ((Below.refl _ _).alloc (Nat.le_refl _) _)
              have hbox : w3.heap[wr.heap.size]? = some (.cells #[.slice (some ⟨b1, 0, none⟩) n c1, .slice (some ⟨b2, 0, none⟩) n c2] 63 (0, 0)) := by
                rw [← hw3]
                have := heap_alloc_new ((((wr.setCell ⟨A, a * 2, none⟩ (.slice (some ⟨b3, 0, none⟩) n c3)).setCell ⟨A, a * 2 + 1, none⟩ (.slice (some ⟨b4, 0, none⟩) n c4)).setCell ⟨A, c * 2, none⟩ (.slice (some ⟨b1, 0, none⟩) n c1)).setCell ⟨A, c * 2 + 1, none⟩ (.slice (some ⟨b2, 0, none⟩) n c2)) (.cells #[.slice (some ⟨b1, 0, none⟩) n c1, .slice (some ⟨b2, 0, none⟩) n c2] 63)
                simpa using this
              have hBA : B ≤ A := (hE.top.lt A rfl).1
              have b03 : Below B w w3 := by
                rw [← hw3]
                exact ((((hb.setCell (by simpa using hBA) _).setCell (by simpa using hBA) _).setCell (by simpa using hBA) _).setCell (by simpa using hBA) _).alloc (by simp; omega) _
              have hqc : ((qs'.set a ((.slice (some ⟨b3, 0, none⟩) n c3 : Value), (.slice (some ⟨b4, 0, none⟩) n c4 : Value))).set c (.slice (some ⟨b1, 0, none⟩) n c1, .slice (some ⟨b2, 0, none⟩) n c2))[c]? = some (.slice (some ⟨b1, 0, none⟩) n c1, .slice (some ⟨b2, 0, none⟩) n c2) := by
                rw [List.getElem?_set_self (by simp [hE.len]; exact hlt)]
              have hpiv : Gf.ent (Gf.row (Gf.swapT T c a) c) c ≠ 0 := by rw [Gf.swapT_row T n c a c hE.tbl.1 hlt hlt2, if_pos rfl]; exact h0
              have hstep := hF.step hlt hca hlt2 h0
              have ht1 := hE3.tbl
              generalize hS : Gf.swapT T c a = S at *
              have BE : B ≤ wr.heap.size := by omega
              have hEA : wr.heap.size ≠ A := by omega
              generalize hEw : wr.heap.size = E at *
              clear hw3 hEw hS hE hF hb k1 k2 k4 m1 m2 z1 z2 z3 z4 e1 hq hq' hz h0 hA sz
              go_loopw [8] (fun ii w' => ∃ (i m : Nat) (qs1 : List (Value × Value)), ii = .int .i64 i ∧ Hid (i = c + 1 + m) ∧ c < i ∧ i ≤ n ∧ Below B w w' ∧ Eqs w' B A cap n qs1 (Gf.elimGo c S m) ∧ Hid (w'.heap[E]? = some (.cells #[.slice (some ⟨b1, 0, none⟩) n c1, .slice (some ⟨b2, 0, none⟩) n c2] 63 (0, 0))) ∧ Hid (qs1[c]? = some (.slice (some ⟨b1, 0, none⟩) n c1, .slice (some ⟨b2, 0, none⟩) n c2))) (fun ii _ => (n - intOf ii).toNat)
              case atStart => exact ⟨c + 1, 0, _, by go_num, rfl, by omega, by omega, b03, hE3, hbox, hqc⟩
              case round =>
                clear hE3 hbox hqc b03
                obtain ⟨i, m, qs1, rfl, him, hci, hin, hb, hE, hbox, hqc⟩ := hrel
                have sz := hb.size
                by_cases hlt3 : i < n
                · obtain ⟨bi, ci, br, cr, hqi, g1, g2, g3, _⟩ := hE.at hlt3
                  obtain ⟨x1, y1, x2, y2, hq2, _, _, m3, _⟩ := hE.at hlt
                  have e5 := hq2.symm.trans hqc.out
                  simp only [Option.some.injEq, Prod.mk.injEq, Value.slice.injEq, Addr.mk.injEq, and_true, true_and] at e5
                  obtain ⟨⟨rfl, rfl⟩, rfl, rfl⟩ := e5
                  have hrc : Gf.row (Gf.elimGo c S m) c = Gf.row S c := by rw [Gf.elimGo_row ht1 hlt m (by have := him.out; omega), if_neg (by omega)]
                  have hp0 : Gf.ent (Gf.row (Gf.elimGo c S m) c) c ≠ 0 := by rw [hrc]; exact hpiv
                  have ti := hE.tbl.2 i hlt3
                  have tc := hE.tbl.2 c hlt
                  have g4 := g3 c hlt
                  have m4 := m3 c hlt
                  have x5 : wr.cell? ⟨E, 0, none⟩ = some (.slice (some ⟨x1, 0, none⟩) n y1) := by rw [cell_of_row wr E 0 _ 63 _ hbox.out]; rfl
                  have x6 : wr.cell? ⟨E, 1, none⟩ = some (.slice (some ⟨x2, 0, none⟩) n y2) := by rw [cell_of_row wr E 1 _ 63 _ hbox.out]; rfl
                  have oi := hE.rows i _ _ hqi
                  have oc := hE.rows c _ _ hq2
                  have hqel := Gf.ent_lt ti c
                  have hpel := Gf.ent_lt tc c
                  have HTI : Hid (Gf.Bytes (n + n) (Gf.row (Gf.elimGo c S m) i)) := ti
                  have HTC : Hid (Gf.Bytes (n + n) (Gf.row (Gf.elimGo c S m) c)) := tc
                  generalize hpe : Gf.ent (Gf.row (Gf.elimGo c S m) c) c = pv at *
                  generalize hqe : Gf.ent (Gf.row (Gf.elimGo c S m) i) c = qv at *
                  have HPE : Hid (Gf.ent (Gf.row (Gf.elimGo c S m) c) c = pv) := hpe
                  have HQE : Hid (Gf.ent (Gf.row (Gf.elimGo c S m) i) c = qv) := hqe
                  have i5 : (0 : Int) ≤ (i : Int) := by omega
                  have i6 : (i : Int) < (n : Int) := by omega
                  have l1 := World.block_lt_of_cell? _ _ g1
                  have l2 := World.block_lt_of_cell? _ _ g4
                  have l3 := World.block_lt_of_cell? _ _ x5
                  have l4 := World.block_lt_of_cell? _ _ m4
                  simp only at l1 l2 l3 l4
                  have HE := hE
                  clear hpe hqe g3 m3 hrc ti tc hE hq2
                  go_wp2_with fail
                  go_region_held3 (fun w' => w'.cell? ⟨A, i * 2, none⟩ = some (.slice (some ⟨bi, 0, none⟩) n ci) ∧ w'.cell? ⟨bi, c, none⟩ = some (.int .u8 (qv : Int)) ∧ w'.cell? ⟨E, 0, none⟩ = some (.slice (some ⟨x1, 0, none⟩) n y1) ∧ w'.cell? ⟨x1, c, none⟩ = some (.int .u8 (pv : Int))) (first | exact ⟨(hb5.cell (p := ⟨A, i * 2, none⟩) l1).trans g1, (hb5.cell (p := ⟨bi, c, none⟩) l2).trans g4, (hb5.cell (p := ⟨E, 0, none⟩) l3).trans x5, (hb5.cell (p := ⟨x1, c, none⟩) l4).trans m4⟩ | go_keep) (first | (go_at_call 12; refine (refDiv_any qv pv _ hqel hpel hp0).mono ?_; rintro e w5 ⟨rfl, hb5⟩))
                  have b5 : Below wr.heap.size wr w5 := (Below.refl _ _).drew.trans hb5
                  have s5 := b5.size
                  have E5 := HE.below b5
                  have y5 : w5.cell? ⟨E, 0, none⟩ = some (.slice (some ⟨x1, 0, none⟩) n y1) := (b5.cell (p := ⟨E, 0, none⟩) l3).trans x5
                  have y6 : w5.cell? ⟨E, 1, none⟩ = some (.slice (some ⟨x2, 0, none⟩) n y2) := (b5.cell (p := ⟨E, 1, none⟩) l3).trans x6
                  have y1' : w5.cell? ⟨A, i * 2, none⟩ = some (.slice (some ⟨bi, 0, none⟩) n ci) := (b5.cell (p := ⟨A, i * 2, none⟩) l1).trans g1
                  have y2' : w5.cell? ⟨A, i * 2 + 1, none⟩ = some (.slice (some ⟨br, 0, none⟩) n cr) := (b5.cell (p := ⟨A, i * 2 + 1, none⟩) l1).trans g2
                  have hbox5 : Hid (w5.heap[E]? = some (.cells #[.slice (some ⟨x1, 0, none⟩) n y1, .slice (some ⟨x2, 0, none⟩) n y2] 63 (0, 0))) := by show _ = _; rw [b5.block E l3]; exact hbox.out
                  have hfl : Gf.gdiv qv pv < 256 := Gf.gm_lt _ _ hqel
                  have LE : Hid (∀ wx : World, wx.heap = w5.heap → Calls Try.prog 43 #[.agg #[.slice (some ⟨bi, 0, none⟩) n ci, .slice (some ⟨br, 0, none⟩) n cr], .agg #[.slice (some ⟨x1, 0, none⟩) n y1, .slice (some ⟨x2, 0, none⟩) n y2], .int .u8 ((Gf.gdiv qv pv : Nat) : Int)] wx fun e w' => ∃ vl vr, e = .returned (.agg #[vl, vr]) ∧ Below w5.heap.size wx w' ∧
                      w'.ownsRow w5.heap.size 5 1 vl n (bvs (Gf.mulAdd ((Gf.row (Gf.elimGo c S m) i).take n) ((Gf.row (Gf.elimGo c S m) c).take n) (Gf.gdiv qv pv))) ∧ w'.ownsRow w5.heap.size 5 1 vr n (bvs (Gf.mulAdd ((Gf.row (Gf.elimGo c S m) i).drop n) ((Gf.row (Gf.elimGo c S m) c).drop n) (Gf.gdiv qv pv)))) := by
                    intro wx hw
                    have o1 := (owns_cells (owns_below oi.1 b5)).1.heap hw
                    have o2 := (owns_cells (owns_below oi.2 b5)).1.heap hw
                    have o3 := (owns_cells (owns_below oc.1 b5)).1.heap hw
                    have o4 := (owns_cells (owns_below oc.2 b5)).1.heap hw
                    have := less_any _ _ _ _ n ci cr y1 y2 (Gf.gdiv qv pv) _ _ _ _ wx (by omega) hfl (bytes_take HTI.out) (bytes_drop HTI.out) (bytes_take HTC.out) (bytes_drop HTC.out) o1 o2 o3 o4
                    rw [hw] at this
                    exact this
                  have hAl : A < w5.heap.size := by omega
                  have z1 : w5.frozen? ⟨A, i * 2, none⟩ = false := E5.top.frozenAt _
                  have z2 : w5.frozen? ⟨A, i * 2 + 1, none⟩ = false := E5.top.frozenAt _
                  have b05 : Below B w w5 := hb.trans (b5.mono (by omega))
                  clear hb5 b5 HE oi oc g1 g2 g4 m4 x5 x6 hb hbox l1 l2 l3 l4 hqel hpel hp0
                  go_wp2_with fail
                  go_region_with (first | (go_at_call 43; refine (LE.out _ ?_).mono ?_; exact rfl; rintro e w6 ⟨vl, vr, rfl, hb6, ho1, ho2⟩; obtain ⟨pl, ql, hvl⟩ := owns_form ho1; obtain ⟨pr, qr, hvr⟩ := owns_form ho2; subst hvl; subst hvr; have u1 : w6.cell? ⟨A, i * 2, none⟩ = some (.slice (some ⟨bi, 0, none⟩) n ci) := (hb6.cell (p := ⟨A, i * 2, none⟩) hAl).trans y1'; have u2 : w6.cell? ⟨A, i * 2 + 1, none⟩ = some (.slice (some ⟨br, 0, none⟩) n cr) := (hb6.cell (p := ⟨A, i * 2 + 1, none⟩) hAl).trans y2'; have v1 : w6.frozen? ⟨A, i * 2, none⟩ = false := (hb6.frozen (p := ⟨A, i * 2, none⟩) hAl).trans z1; have v2 : w6.frozen? ⟨A, i * 2 + 1, none⟩ = false := (hb6.frozen (p := ⟨A, i * 2 + 1, none⟩) hAl).trans z2))
                  all_goals
                    have b6 : Below w5.heap.size w5 w6 := (Below.refl _ _).drew.trans hb6
                    have E6 := (E5.below b6).set i (.slice pl n ql) (.slice pr n qr) (Gf.mulAdd (Gf.row (Gf.elimGo c S m) i) (Gf.row (Gf.elimGo c S m) c) (Gf.gdiv qv pv)) hlt3 (Gf.bytes_mulAdd HTI.out HTC.out _) (by rw [mulAdd_take]; exact owns_mono ho1 (by omega)) (by rw [mulAdd_drop]; exact owns_mono ho2 (by omega))
                    have HST : Hid (Gf.elimGo c S (m + 1) = (Gf.elimGo c S m).set i (Gf.mulAdd (Gf.row (Gf.elimGo c S m) i) (Gf.row (Gf.elimGo c S m) c) (Gf.gdiv qv pv))) := by
                      show _ = _
                      rw [Gf.elimGo, ← him.out, HPE.out, HQE.out]
                    have b06 : Below B w ((w6.setCell ⟨A, i * 2, none⟩ (.slice pl n ql)).setCell ⟨A, i * 2 + 1, none⟩ (.slice pr n qr)) := ((b05.trans (b6.mono (by omega))).setCell (by simpa using hBA) _).setCell (by simpa using hBA) _
                    have hbox6 : Hid (((w6.setCell ⟨A, i * 2, none⟩ (.slice pl n ql)).setCell ⟨A, i * 2 + 1, none⟩ (.slice pr n qr)).heap[E]? = some (.cells #[.slice (some ⟨x1, 0, none⟩) n y1, .slice (some ⟨x2, 0, none⟩) n y2] 63 (0, 0))) := by
                      show _ = _
                      rw [heap_setCell_other _ _ _ _ hEA, heap_setCell_other _ _ _ _ hEA, b6.block E (block_lt hbox5.out)]
                      exact hbox5.out
                    have hqc6 : Hid ((qs1.set i ((.slice pl n ql : Value), (.slice pr n qr : Value)))[c]? = some (.slice (some ⟨x1, 0, none⟩) n y1, .slice (some ⟨x2, 0, none⟩) n y2)) := by
                      show _ = _
                      rw [List.getElem?_set_ne (by omega)]; exact hqc.out
                    clear hb6 b6 ho1 ho2 u1 u2 v1 v2 E5 y5 y6 y1' y2' LE hbox5 hqc b05 z1 z2
                    go_wp2_with fail
                    go_roundw
                    case rel => exact ⟨i + 1, m + 1, _, by go_num, by show _ = _; have := him.out; omega, by omega, by omega, b06, by rw [HST.out]; exact E6, hbox6, hqc6⟩
                    case measure => simp [intOf]; omega
                · have hm : m = n - (c + 1) := by have := him.out; omega
                  have hst : Gf.Fwd n (n + n) (c + 1) T0 (Gf.elimGo c S m) := by rw [hm]; exact hstep
                  clear hm hstep
                  go_wp2_with fail
                  go_roundw
                  case rel => exact ⟨c + 1, _, qs1, by omega, by go_num, hb, hE, hst⟩
                  case measure => simp [intOf]; omega
        · have d1 : decide ((a : Int) < (n : Int)) = false := decide_eq_false (by omega)
          have e2 : ((a : Int) == (n : Int)) = true := by rw [beq_iff_eq]; omega
          go_wp2_with fail
          go_ret2
          first | exact .inr ⟨rfl, hb, T, c, hF, hlt, fun r h1 h2 => hz.out r h1 (by omega)⟩ | exact .inr ⟨T, c, rfl, hb, hF, hlt, fun r h1 h2 => hz.out r h1 (by omega)⟩
    · obtain rfl : c = n := by omega
      have ho0 : OutT (wr.alloc (.cells (madeCells #[.slice none 0 0] c) 27)) B wr.heap.size c c (List.replicate c (.slice none 0 0)) (List.replicate c []) T := by
        refine ⟨?_, by simp, by simp, by omega, fun k h1 h2 => by omega⟩
        rw [heap_alloc_new]
        have : madeCells #[Value.slice none 0 0] c = (List.replicate c (Value.slice none 0 0)).toArray := by apply Array.ext'; rw [toList_madeCells_one]
        rw [this]
      have hE1 := hE.below (w' := wr.alloc (.cells (madeCells #[.slice none 0 0] c) 27)) ((Below.refl _ _).alloc (Nat.le_refl _) _)
      have hb1 : Below B w (wr.alloc (.cells (madeCells #[.slice none 0 0] c) 27)) := hb.alloc (by omega) _
      clear hE hb hlt hc
      go_wp2_with fail
      generalize hG : wr.heap.size = G at *
      clear hmk
      go_loopw [12] (fun cc w' => ∃ (d : Nat) (vs : List Value) (X : List (List Nat)), ((∃ t : Nat, cc = .int .i64 t ∧ d = t + 1) ∨ (cc = .int .i64 (-1) ∧ d = 0)) ∧ d ≤ c ∧ Below B w w' ∧ B ≤ w'.heap.size ∧ Eqs w' B A cap c qs' T ∧ OutT w' B G c d vs X T) (fun cc _ => (intOf cc + 1).toNat)
      case atStart => exact ⟨c, _, _, .inl ⟨c - 1, by go_num, by omega⟩, by omega, hb1, by have := hb1.size; omega, hE1, ho0⟩
      case round =>
        clear hE1 hb1 ho0 hG sz
        obtain ⟨d, vs, X, hd, hdc, hb, hBw, hE, hO⟩ := hrel
        rcases hd with ⟨t, rfl, rfl⟩ | ⟨rfl, rfl⟩
        · obtain ⟨b1, c1, b2, c2, hq, k1, k2, k3, _⟩ := hE.at (show t < c by omega)
          have i1 : (0 : Int) ≤ (t : Int) := by omega
          have i2 : (t : Int) < (c : Int) := by omega
          have orr := (hE.rows t _ _ hq).2
          have hput : bvs ((Gf.row T t).drop c) = bvs (Gf.putGo c t T X 0) := rfl
          rw [hput] at orr
          clear hput
          go_wp2_with fail
          go_loopw [13, 14] (fun rv jj w' => ∃ (j m pc : Nat) (pa : Option Addr), rv = .slice pa c pc ∧ jj = .int .i64 j ∧ Hid (j = t + 1 + m) ∧ t < j ∧ j ≤ c ∧ Below B w w' ∧ B ≤ w'.heap.size ∧ Eqs w' B A cap c qs' T ∧ OutT w' B G c (t + 1) vs X T ∧ w'.ownsRow B 5 1 (.slice pa c pc) c (bvs (Gf.putGo c t T X m))) (fun _ jj _ => (c - intOf jj).toNat)
          case atStart => exact ⟨t + 1, 0, _, _, rfl, by go_num, rfl, by omega, by omega, hb, hBw, hE, hO, orr⟩
          case round =>
            clear hb hBw hE hO orr k1 k2 k3
            obtain ⟨j, m, pc, pa, rfl, rfl, hjm, htj, hjc, hb, hBw, hE, hO, orr⟩ := hrel
            have sz := hb.size
            obtain ⟨b1', c1', b2', c2', hq2, k1, k2, k3, l4⟩ := hE.at (show t < c by omega)
            have e5 := hq2.symm.trans hq
            simp only [Option.some.injEq, Prod.mk.injEq, Value.slice.injEq, Addr.mk.injEq, and_true, true_and] at e5
            obtain ⟨⟨rfl, rfl⟩, rfl, rfl⟩ := e5
            have tt := hE.tbl.2 t (by omega)
            have hXb : ∀ q, t < q → q < c → Gf.Bytes c (Gf.row X q) := by
              intro q h1 h2
              obtain ⟨_, _, _, _, r3, _⟩ := hO.rows q (by omega) h2
              exact r3
            have hpb : Gf.Bytes c (Gf.putGo c t T X m) := Gf.putGo_bytes hE.tbl (show t < c by omega) m (fun q h1 h2 => hXb q h1 (by have := hjm.out; omega))
            by_cases hlt : j < c
            · obtain ⟨ao, co, o1, o2, o3, _⟩ := hO.rows j (by omega) hlt
              have g1 : wr.cell? ⟨G, j, none⟩ = some (.slice ao c co) := by rw [cell_of_row wr G j _ 27 _ hO.top]; simpa using o1
              have g2 := k3 j hlt
              have hel := Gf.ent_lt tt j
              have l1 := World.block_lt_of_cell? _ _ g1
              have l2 := World.block_lt_of_cell? _ _ k1
              have l3 := World.block_lt_of_cell? _ _ g2
              simp only at l1 l2 l3
              have i5 : (0 : Int) ≤ (j : Int) := by omega
              have i6 : (j : Int) < (c : Int) := by omega
              have MA : Hid (∀ wx : World, wx.heap = wr.heap → Calls Try.prog 14 #[.slice pa c pc, .slice ao c co, .int .u8 ((Gf.ent (Gf.row T t) j : Nat) : Int)] wx fun e w' => ∃ v, e = .returned (.tuple #[v, .int .i64 0]) ∧
                  Below wr.heap.size wx w' ∧ w'.ownsRow wr.heap.size 5 1 v c (bvs (Gf.mulAdd (Gf.putGo c t T X m) (Gf.row X j) (Gf.ent (Gf.row T t) j)))) := by
                intro wx hw
                have := refMulAdd_same pa ao c pc co (Gf.ent (Gf.row T t) j) _ _ wx (by omega) hel hpb.1 o3.1 hpb.2 o3.2 ((owns_cells orr).1.heap hw) ((owns_cells o2).1.heap hw)
                rw [hw] at this
                exact this
              have HE := hE
              have HO := hO
              clear hE hO k3 o1 o2 hq2 hXb hpb tt
              go_wp2_with fail
              go_region_held3 (fun w' => w'.cell? ⟨G, j, none⟩ = some (.slice ao c co) ∧ w'.cell? ⟨A, t * 2, none⟩ = some (.slice (some ⟨b1', 0, none⟩) c c1') ∧ w'.cell? ⟨b1', j, none⟩ = some (.int .u8 ((Gf.ent (Gf.row T t) j : Nat) : Int))) (first | exact ⟨(hb5.cell (p := ⟨G, j, none⟩) l1).trans g1, (hb5.cell (p := ⟨A, t * 2, none⟩) l2).trans k1, (hb5.cell (p := ⟨b1', j, none⟩) l3).trans g2⟩ | go_keep) (first | (go_at_call 14; refine (MA.out _ ?_).mono ?_; exact rfl; rintro e w5 ⟨v5, rfl, hb5, ho5⟩))
              obtain ⟨p5, q5, hv5⟩ := owns_form ho5
              subst hv5
              have b5 : Below wr.heap.size wr w5 := (Below.refl _ _).drew.trans hb5
              have s5 := b5.size
              have E5 := HE.below b5
              have O5 := HO.below b5
              have b05 : Below B w w5 := hb.trans (b5.mono (by omega))
              have ow5 : Hid (w5.ownsRow B 5 1 (.slice p5 c q5) c (bvs (Gf.putGo c t T X (m + 1)))) := by
                show World.ownsRow _ _ _ _ _ _ _
                rw [Gf.putGo, ← hjm.out]
                exact owns_mono ho5 (by omega)
              clear HE HO hb5 b5 ho5 orr hb g1 g2 k1 k2 MA l1 l2 l3 l4
              go_wp2_with fail
              go_roundw
              case rel => exact ⟨j + 1, m + 1, q5, p5, rfl, by go_num, by show _ = _; have := hjm.out; omega, by omega, by omega, b05, by omega, E5, O5, ow5.out⟩
              case measure => simp [intOf]; omega
            · have hm : m = c - (t + 1) := by have := hjm.out; omega
              have g2 := k3 t (by omega)
              have hel := Gf.ent_lt tt t
              have hp0 := (hF.tri t (by omega)).1
              rw [hm] at orr hpb
              have i5 : (t : Int) < (c : Int) := by omega
              clear hm k3 hq2 hXb hjm htj
              go_wp2_with fail
              refine (refDiv_one (Gf.ent (Gf.row T t) t) _ hel hp0).mono ?_
              rintro e w5 ⟨rfl, hb5⟩
              have s5 := hb5.size
              have E5 := hE.below hb5
              have O5 := hO.below hb5
              have or5 := owns_below orr hb5
              have b05 : Below B w w5 := hb.trans (hb5.mono (by omega))
              have hfl : Gf.gdiv 1 (Gf.ent (Gf.row T t) t) < 256 := Gf.gm_lt _ _ (by decide)
              have hz6 : Below w5.heap.size w5 (w5.alloc (.cells (madeCells #[.int .u8 0] c) 5)) := (Below.refl _ _).alloc (Nat.le_refl _) _
              have hzc : Cells (w5.alloc (.cells (madeCells #[.int .u8 0] c) 5)) (some ⟨w5.heap.size, 0, none⟩) (List.replicate c 0) := by
                refine cells_block ?_
                rw [heap_alloc_new]
                have : madeCells #[Value.int .u8 0] c = (bvs (List.replicate c 0)).toArray := by
                  apply Array.ext'; rw [toList_madeCells_one]; simp [bvs]
                rw [this]
              have hrc := (owns_cells or5).1.keep hz6
              have E6 := E5.below hz6
              have O6 := O5.below hz6
              have b06 := b05.trans (hz6.mono (show B ≤ w5.heap.size by omega))
              have ZC : Hid (Cells (w5.alloc (.cells (madeCells #[.int .u8 0] c) 5)) (some ⟨w5.heap.size, 0, none⟩) (List.replicate c 0)) := hzc
              have RC : Hid (Cells (w5.alloc (.cells (madeCells #[.int .u8 0] c) 5)) pa (Gf.putGo c t T X (c - (t + 1)))) := hrc
              clear hb5 hE hO orr hb E5 O5 or5 b05 hz6 hzc hrc k1 k2 g2
              go_wp2_with fail
              refine (refMulAdd_same _ _ c _ _ (Gf.gdiv 1 (Gf.ent (Gf.row T t) t)) (List.replicate c 0) _ _ (by omega) hfl (by simp) hpb.1 (Gf.bytes_zero c).2 hpb.2 ZC.out RC.out).mono ?_
              rintro e w7 ⟨v7, rfl, hb7, ho7⟩
              obtain ⟨p7, q7, hv7⟩ := owns_form ho7
              subst hv7
              have E7 := E6.below hb7
              have O7 := O6.below hb7
              have s7 := hb7.size
              simp only [World.size_alloc] at s7
              have b07 : Below B w w7 := b06.trans (hb7.mono (by simp; omega))
              have hXq : ∀ q, t < q → q < c → Gf.Bytes c (Gf.row X q) := by
                intro q h1 h2
                obtain ⟨_, _, _, _, r3, _⟩ := O7.rows q (by omega) h2
                exact r3
              have O8 := O7.set (show t < c by omega) p7 q7 (Gf.backRow c t T X) (Gf.backRow_bytes E7.tbl (show t < c by omega) hXq) rfl (owns_mono ho7 (by simp; omega))
              obtain ⟨v0, c0⟩ : ∃ v0, w7.cell? ⟨G, t, none⟩ = some v0 := by
                rw [cell_of_row w7 G t _ 27 _ O7.top]
                exact ⟨_, Array.getElem?_eq_getElem (by simp [O7.len]; omega)⟩
              have f0 : w7.frozen? ⟨G, t, none⟩ = false := frozen_of_row w7 G _ _ 27 O7.top
              have E8 : Eqs (w7.setCell ⟨G, t, none⟩ (.slice p7 c q7)) B A cap c qs' T := by
                have key : ∀ (v : Value) (e sz m : Nat) (xs : List Value), e ≠ 27 → w7.ownsRow B e sz v m xs → (w7.setCell ⟨G, t, none⟩ (.slice p7 c q7)).ownsRow B e sz v m xs := by
                  intro v e sz m xs he hv
                  refine ownsRow_setCell_other (a := ⟨G, t, none⟩) hv ?_ _
                  intro eq
                  obtain ⟨cur, hcur⟩ := owns_block_of hv eq
                  rw [O7.top] at hcur
                  simp at hcur
                  exact he hcur.2.symm
                exact ⟨key _ _ _ _ _ (by decide) E7.top, E7.len, E7.tbl, fun k a b hk => ⟨key _ _ _ _ _ (by decide) (E7.rows k a b hk).1, key _ _ _ _ _ (by decide) (E7.rows k a b hk).2⟩⟩
              have b08 : Below B w (w7.setCell ⟨G, t, none⟩ (.slice p7 c q7)) := b07.setCell (by simpa using O7.base) _
              have sz8 : B ≤ (w7.setCell ⟨G, t, none⟩ (.slice p7 c q7)).heap.size := by simp; omega
              clear E6 O6 b06 ZC RC E7 O7 b07 ho7 hXq hb7
              go_wp2_with fail
              go_roundw
              case rel =>
                refine ⟨t, _, _, ?_, by omega, b08, sz8, E8, O8⟩
                by_cases ht0 : t = 0
                · right; exact ⟨by subst ht0; go_num, ht0⟩
                · left; exact ⟨t - 1, by go_num, by omega⟩
              case measure => first | (simp [intOf]; done) | (simp [intOf]; omega)
        · have hV : View wr G 0 c vs X := by
            refine ⟨hO.len, hO.lenX, ?_, ?_⟩
            · intro k r hr
              rw [Nat.zero_add, cell_of_row wr G k _ 27 _ hO.top]; simpa using hr
            · intro k r x hr hx
              have hk : k < c := by have := (List.getElem?_eq_some_iff.1 hx).1; rw [hO.lenX] at this; exact this
              obtain ⟨a, cp, r1, r2, r3, r4⟩ := hO.rows k (by omega) hk
              rw [r1] at hr
              simp only [Option.some.injEq] at hr
              subst hr
              have hrow : Gf.row X k = x := by simp [Gf.row, hx]
              rw [hrow] at r2 r3
              obtain ⟨e1, e2, e3, e4, e5⟩ := owns_cells r2
              exact ⟨a, cp, by rw [e2], e1, by omega, by omega⟩
          have hX : Gf.Tbl c c X := ⟨hO.lenX, fun k hk => by obtain ⟨_, _, _, _, r3, _⟩ := hO.rows k (by omega) hk; exact r3⟩
          have hR : ∀ k, k < c → Gf.row X k = Gf.backRow c k T X := fun k hk => by obtain ⟨_, _, _, _, _, r4⟩ := hO.rows k (by omega) hk; exact r4
          clear hO hE
          go_wp2_with fail
          go_ret2
          first | exact .inl ⟨T, G, vs, X, rfl, hb, hF, hV, hX, hR⟩ | (left; exact ⟨T, G, vs, X, by trivial, hb, hF, hV, hX, hR⟩)
end Go.Proofs.Ytlaoaiffgbdnpaa
