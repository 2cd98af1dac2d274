import Derived.Test.YtlfhbpihdjipeaaV6
namespace Go.Proofs.Ytlfhbpihdjipeaa
open Go.RowKit

structure C8 (w : World) (g o : Nat) (s : Sc) (v : Value) : Prop where
  c0 : w.cell? ⟨g, o, none⟩ = some (.int .i64 s.S)
  c1 : w.cell? ⟨g, o + 1, none⟩ = some (.int .i64 s.K)
  c2 : w.cell? ⟨g, o + 2, none⟩ = some (.int .i64 s.N)
  c3 : w.cell? ⟨g, o + 3, none⟩ = some (.int .i64 s.B)
  c4 : w.cell? ⟨g, o + 4, none⟩ = some (.int .i64 s.I)
  c5 : w.cell? ⟨g, o + 5, none⟩ = some (.int .i64 s.L)
  c6 : w.cell? ⟨g, o + 6, none⟩ = some v
  c7 : w.cell? ⟨g, o + 7, none⟩ = some (.int .i64 s.Q)
theorem c8_of {w : World} {B g n c k : Nat} {L : List (Sc × Value)} {p : Sc × Value} (h : w.ownsRow B 36 8 (.slice (some ⟨g, 0, none⟩) n c) n (fl L)) (hn : L.length = n) (hp : L[k]? = some p) : C8 w g (k * 8) p.1 p.2 := by
  have hk : k < L.length := (List.getElem?_eq_some_iff.1 hp).1
  have e : ∀ j v, (p.1.cells p.2)[j]? = some v → j < 8 → w.cell? ⟨g, k * 8 + j, none⟩ = some v := fun j v hv hj => by
    rw [h.cellAt _ (by omega)]; exact fl_at L k p hp j v hv
  exact ⟨e 0 _ rfl (by omega), e 1 _ rfl (by omega), e 2 _ rfl (by omega), e 3 _ rfl (by omega), e 4 _ rfl (by omega), e 5 _ rfl (by omega), e 6 _ rfl (by omega), e 7 _ rfl (by omega)⟩
theorem C8.below {w w' : World} {g o : Nat} {s : Sc} {v : Value} (h : C8 w g o s v) (hb : Below w.heap.size w w') (hg : g < w.heap.size) : C8 w' g o s v :=
  ⟨by rw [hb.cell (p := ⟨g, o, none⟩) hg]; exact h.c0, by rw [hb.cell (p := ⟨g, o + 1, none⟩) hg]; exact h.c1, by rw [hb.cell (p := ⟨g, o + 2, none⟩) hg]; exact h.c2, by rw [hb.cell (p := ⟨g, o + 3, none⟩) hg]; exact h.c3,
   by rw [hb.cell (p := ⟨g, o + 4, none⟩) hg]; exact h.c4, by rw [hb.cell (p := ⟨g, o + 5, none⟩) hg]; exact h.c5, by rw [hb.cell (p := ⟨g, o + 6, none⟩) hg]; exact h.c6, by rw [hb.cell (p := ⟨g, o + 7, none⟩) hg]; exact h.c7⟩
theorem c8_go {w w' : World} {g1 g2 o1 o2 : Nat} {s1 s2 : Sc} {v1 v2 : Value} (h : C8 w g1 o1 s1 v1 ∧ C8 w g2 o2 s2 v2 ∧ g1 < w.heap.size ∧ g2 < w.heap.size) (hb : Below w.heap.size w w') : C8 w' g1 o1 s1 v1 ∧ C8 w' g2 o2 s2 v2 ∧ g1 < w'.heap.size ∧ g2 < w'.heap.size :=
  ⟨h.1.below hb h.2.2.1, h.2.1.below hb h.2.2.2, Nat.lt_of_lt_of_le h.2.2.1 hb.size, Nat.lt_of_lt_of_le h.2.2.2 hb.size⟩
theorem Scans.form {w : World} {B : Nat} {v : Value} {L : List (Sc × Value)} (h : Scans w B v L) : ∃ a c, v = .slice a L.length c ∧ (0 < L.length → ∃ g, a = some ⟨g, 0, none⟩ ∧ B ≤ g ∧ g < w.heap.size) := by
  rcases h.row.2 with ⟨rfl, h0⟩ | ⟨g, c, cur, rfl, hB, hg, _⟩
  · exact ⟨_, _, by rw [h0], fun h => by omega⟩
  · exact ⟨_, _, rfl, fun _ => ⟨g, rfl, hB, (Array.getElem?_eq_some_iff.1 hg).1⟩⟩
theorem map_at {L : List (Sc × Value)} {ss : List Sc} (h : L.map (·.1) = ss) {k : Nat} {s : Sc} (hs : ss[k]? = some s) : ∃ v, L[k]? = some (s, v) := by
  subst h
  simp only [List.getElem?_map, Option.map_eq_some_iff] at hs
  obtain ⟨⟨a, v⟩, h1, rfl⟩ := hs
  exact ⟨v, h1⟩

set_option maxHeartbeats 2000000 in
theorem sameScans_pos (B1 B2 g1 g2 n c1 c2 : Nat) (L1 L2 : List (Sc × Value)) (ss : List Sc) (w : World) (hn : n ≤ 32) (hs : ss.length = n) (m1 : L1.map (·.1) = ss) (m2 : L2.map (·.1) = ss)
    (h1 : Scans w B1 (.slice (some ⟨g1, 0, none⟩) n c1) L1) (h2 : Scans w B2 (.slice (some ⟨g2, 0, none⟩) n c2) L2) :
    Calls Try.prog 7 #[.slice (some ⟨g1, 0, none⟩) n c1, .slice (some ⟨g2, 0, none⟩) n c2] w fun e w' => e = .returned (.bool true) ∧ Below w.heap.size w w' := by
  have hne : ((n : Int) != (n : Int)) = false := by simp
  have HS : Hid (ss.length = n) := hs
  have M1 : Hid (L1.map (·.1) = ss) := m1
  have M2 : Hid (L2.map (·.1) = ss) := m2
  have l1 : Hid (L1.length = n) := by show _ = _; rw [← hs, ← m1]; simp
  have l2 : Hid (L2.length = n) := by show _ = _; rw [← hs, ← m2]; simp
  have q1 := h1.row
  have q2 := h2.row
  rw [l1.out] at q1
  rw [l2.out] at q2
  have lt1 : g1 < w.heap.size := (q1.lt g1 rfl).2
  have lt2 : g2 < w.heap.size := (q2.lt g2 rfl).2
  have R1 : Hid (w.ownsRow B1 36 8 (.slice (some ⟨g1, 0, none⟩) n c1) n (fl L1)) := q1
  have R2 : Hid (w.ownsRow B2 36 8 (.slice (some ⟨g2, 0, none⟩) n c2) n (fl L2)) := q2
  clear hs m1 m2 q1 q2
  go_enter Try.func7, Try.ntmps7
  go_wp2
  clear hne
  go_loopw [5] (fun ii w' => ∃ k : Nat, k ≤ n ∧ ii = .int .i64 k ∧ Below w.heap.size w w') (fun ii _ => (n - intOf ii).toNat)
  case atStart => exact ⟨0, by omega, rfl, Below.refl _ _⟩
  case round =>
    obtain ⟨k, hk, rfl, hb⟩ := hrel
    by_cases hlt : k < n
    · obtain ⟨s, hs⟩ : ∃ s, ss[k]? = some s := ⟨_, List.getElem?_eq_getElem (by rw [HS.out]; exact hlt)⟩
      obtain ⟨v1, e1⟩ := map_at M1.out hs
      obtain ⟨v2, e2⟩ := map_at M2.out hs
      have C1 := (c8_of R1.out l1.out e1).below hb lt1
      have C2 := (c8_of R2.out l2.out e2).below hb lt2
      obtain ⟨few, o1⟩ := h1.bad _ (List.mem_of_getElem? e1)
      obtain ⟨_, o2⟩ := h2.bad _ (List.mem_of_getElem? e2)
      have HC : Hid (∀ wx : World, Below wr.heap.size wr wx → Calls Try.prog 12 #[s.val v1, s.val v2] wx fun e w' => e = .returned (.bool true) ∧ Below wx.heap.size wx w') := by
        intro wx hx
        have hx2 : Below w.heap.size w wx := hb.trans (hx.mono hb.size)
        exact sameScan_any s.S s.K s.N s.B s.I s.L s.Q (owns_below o1 hx2) (owns_below o2 hx2) few
      have i1 : (0 : Int) ≤ (k : Int) := by omega
      have i2 : (k : Int) < (n : Int) := by omega
      clear o1 o2 e1 e2 hs
      have hS : C8 wr.drew g1 (k * 8) s v1 ∧ C8 wr.drew g2 (k * 8) s v2 ∧ g1 < wr.drew.heap.size ∧ g2 < wr.drew.heap.size := ⟨⟨C1.c0, C1.c1, C1.c2, C1.c3, C1.c4, C1.c5, C1.c6, C1.c7⟩, ⟨C2.c0, C2.c1, C2.c2, C2.c3, C2.c4, C2.c5, C2.c6, C2.c7⟩, Nat.lt_of_lt_of_le lt1 hb.size, Nat.lt_of_lt_of_le lt2 hb.size⟩
      clear C1 C2
      go_wp2_with fail
      go_region_held3 (fun w' => w'.cell? ⟨g1, k * 8, none⟩ = some (.int .i64 s.S) ∧ w'.cell? ⟨g1, k * 8 + 1, none⟩ = some (.int .i64 s.K) ∧ w'.cell? ⟨g1, k * 8 + 2, none⟩ = some (.int .i64 s.N) ∧ w'.cell? ⟨g1, k * 8 + 3, none⟩ = some (.int .i64 s.B) ∧ w'.cell? ⟨g1, k * 8 + 4, none⟩ = some (.int .i64 s.I) ∧ w'.cell? ⟨g1, k * 8 + 5, none⟩ = some (.int .i64 s.L) ∧ w'.cell? ⟨g1, k * 8 + 6, none⟩ = some (v1) ∧ w'.cell? ⟨g1, k * 8 + 7, none⟩ = some (.int .i64 s.Q) ∧ w'.cell? ⟨g2, k * 8, none⟩ = some (.int .i64 s.S) ∧ w'.cell? ⟨g2, k * 8 + 1, none⟩ = some (.int .i64 s.K) ∧ w'.cell? ⟨g2, k * 8 + 2, none⟩ = some (.int .i64 s.N) ∧ w'.cell? ⟨g2, k * 8 + 3, none⟩ = some (.int .i64 s.B) ∧ w'.cell? ⟨g2, k * 8 + 4, none⟩ = some (.int .i64 s.I) ∧ w'.cell? ⟨g2, k * 8 + 5, none⟩ = some (.int .i64 s.L) ∧ w'.cell? ⟨g2, k * 8 + 6, none⟩ = some (v2) ∧ w'.cell? ⟨g2, k * 8 + 7, none⟩ = some (.int .i64 s.Q)) (exact ⟨hS.1.c0, hS.1.c1, hS.1.c2, hS.1.c3, hS.1.c4, hS.1.c5, hS.1.c6, hS.1.c7, hS.2.1.c0, hS.2.1.c1, hS.2.1.c2, hS.2.1.c3, hS.2.1.c4, hS.2.1.c5, hS.2.1.c6, hS.2.1.c7⟩) (first | (go_at_call 12; with_reducible refine (HC.out _ (Below.refl _ _).drew).mono ?_; rintro e w5 ⟨rfl, hb5⟩; have hS := c8_go hS hb5))
      all_goals
        have hb6 : Below w.heap.size w w5 := hb.drew.trans (hb5.mono hb.size)
        clear hS hb5
        go_wp2_with fail
        go_roundw
        case rel => exact ⟨k + 1, by omega, by go_num, hb6⟩
        case measure => simp [intOf]; omega
    · go_wp2_with fail
      go_ret
      exact ⟨rfl, hb⟩
end Go.Proofs.Ytlfhbpihdjipeaa
