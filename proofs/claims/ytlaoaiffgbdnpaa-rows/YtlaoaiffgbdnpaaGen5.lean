import Derived.Test.YtlaoaiffgbdnpaaGen4
namespace Go.Proofs.Ytlaoaiffgbdnpaa
open Go.RowKit
set_option linter.unusedVariables false

def entsA (vs : List Value) (base t : Nat) : List (Value × Nat) := (List.range t).map (fun i => (vs.getD i (.slice none 0 0), base + i))
theorem entsA_length (vs : List Value) (base t : Nat) : (entsA vs base t).length = t := by simp [entsA]
theorem entsA_succ (vs : List Value) (base t : Nat) (r : Value) (h : vs[t]? = some r) : entsA vs base (t + 1) = entsA vs base t ++ [(r, base + t)] := by
  simp [entsA, List.range_succ, h]
theorem entsA_at (vs : List Value) (base t i : Nat) (v : Value) (m : Nat) (h : (entsA vs base t)[i]? = some (v, m)) (hl : t ≤ vs.length) : vs[i]? = some v ∧ i < t := by
  have hi : i < t := by have := (List.getElem?_eq_some_iff.1 h).1; rw [entsA_length] at this; exact this
  simp [entsA, hi] at h
  refine ⟨?_, hi⟩
  have h2 : vs[i]? = some vs[i] := List.getElem?_eq_getElem (by omega)
  rw [h2] at h ⊢
  simp at h
  rw [h.1]

set_option maxHeartbeats 1000000 in
theorem rowsOf_pos (B1 B2 g1 g2 n c1 c2 : Nat) (vs1 vs2 : List Value) (M M' : List (List Nat)) (w : World) (hn : M.length = n) (hn' : M'.length = n) (hn32 : n ≤ 32) (hn0 : 0 < n)
    (h1 : Mat w B1 (.slice (some ⟨g1, 0, none⟩) n c1) vs1 M) (h2 : Mat w B2 (.slice (some ⟨g2, 0, none⟩) n c2) vs2 M') :
    Calls Try.prog 21 #[.slice (some ⟨g1, 0, none⟩) n c1, .slice (some ⟨g2, 0, none⟩) n c2] w fun e w' => ∃ A cap, e = .returned (.slice (some ⟨A, 0, none⟩) (n + n) cap) ∧ Below w.heap.size w w' ∧
      w'.ownsRow w.heap.size 34 2 (.slice (some ⟨A, 0, none⟩) (n + n) cap) (n + n) (flat (entsA vs1 1 n ++ entsA vs2 101 n)) := by
  have HN : Hid (M.length = n) := hn
  have HN' : Hid (M'.length = n) := hn'
  clear hn hn'
  obtain ⟨i34, hi34, hz340, hz341, hz342⟩ := info_parts info34
  have t1 := h1.top
  have t2 := h2.top
  rw [HN.out] at t1
  rw [HN'.out] at t2
  have T1 : Hid (∀ k, k < n → w.cell? ⟨g1, k, none⟩ = vs1[k]?) := fun k hk => t1.cellAt k (by omega)
  have T2 : Hid (∀ k, k < n → w.cell? ⟨g2, k, none⟩ = vs2[k]?) := fun k hk => t2.cellAt k (by omega)
  have lt1 : g1 < w.heap.size := (t1.lt g1 rfl).2
  have lt2 : g2 < w.heap.size := (t2.lt g2 rfl).2
  clear t1 t2
  go_enter Try.func21, Try.ntmps21
  go_wp2
  go_loopw [5, 6] (fun av ii w' => ∃ t : Nat, t ≤ n ∧ ii = .int .i64 t ∧ Below w.heap.size w w' ∧ w'.ownsRow w.heap.size 34 2 av t (flat (entsA vs1 1 t))) (fun _ ii _ => (n - intOf ii).toNat)
  case atStart => exact ⟨0, by omega, rfl, Below.refl _ _, World.ownsRow_nil _ _ _ _⟩
  case round =>
    obtain ⟨t, ht, rfl, hb, hown⟩ := hrel
    have sz := hb.size
    by_cases hlt : t < n
    · obtain ⟨r, hr⟩ : ∃ r, vs1[t]? = some r := ⟨_, List.getElem?_eq_getElem (by rw [h1.length, HN.out]; exact hlt)⟩
      obtain ⟨x, hx, o1⟩ := h1.rowAt hr
      obtain ⟨a, c, rfl⟩ := owns_form o1
      have ca : wr.cell? ⟨g1, t, none⟩ = some (.slice a x.length c) := by rw [hb.cell (p := ⟨g1, t, none⟩) lt1, T1.out t hlt]; exact hr
      have HE : Hid (entsA vs1 1 (t + 1) = entsA vs1 1 t ++ [((.slice a x.length c : Value), 1 + t)]) := entsA_succ vs1 1 t _ hr
      have i1 : (0 : Int) ≤ (t : Int) := by omega
      have i2 : (t : Int) < (n : Int) := by omega
      clear o1 hx hr
      go_wp2_with (at_builtin; refine wpList_append_own _ rfl (.tmp 14) (.tmp 23) 35 rfl w.heap.size 34 i34 (.agg #[.slice none 0 0, .int .u8 0]) 2 32 Try.underlying35 hi34 hz340 hz341 hz342 rfl (by decide) _ _ _ rfl (hown.alloc _) ⟨wr.heap.size, 0, none⟩ 1 1 [.slice a x.length c, .int .u8 (1 + (t : Int))] rfl rfl ?c1 ?c2 ?c3 ?c4 ?c5 ?_)
      case c1 => exact World.news_of_block (heap_alloc_new wr _)
      case c2 => intro u hu; simp at hu; rcases hu with rfl | rfl <;> rfl
      case c3 => unfold maxLen; omega
      case c4 => omega
      case c5 => simp; omega
      intro v' w2 hown2 hgrow _
      have hb2 : Below w.heap.size w w2 := Below.grown (hb.alloc (by omega) _) hgrow (by simp; omega) (fun g hg => (hown.lt g hg).1)
      have HO : Hid (w2.ownsRow w.heap.size 34 2 v' (t + 1) (flat (entsA vs1 1 (t + 1)))) := by
        show World.ownsRow _ _ _ _ _ _ _
        rw [HE.out, flat_snoc]
        have : B8 (1 + t) = .int .u8 (1 + (t : Int)) := by show Value.int .u8 _ = _; go_num
        rw [this]; exact hown2
      clear hown2 hgrow hown hb ca
      go_wp2
      go_roundw
      case rel => exact ⟨t + 1, by omega, by go_num, hb2, HO.out⟩
      case measure => simp [intOf]; omega
    · obtain rfl : t = n := by omega
      go_wp2_with fail
      go_loopw [5, 7] (fun av ii w' => ∃ s : Nat, s ≤ t ∧ ii = .int .i64 s ∧ Below w.heap.size w w' ∧ w'.ownsRow w.heap.size 34 2 av (t + s) (flat (entsA vs1 1 t ++ entsA vs2 101 s))) (fun _ ii _ => (t - intOf ii).toNat)
      case atStart => exact ⟨0, by omega, rfl, hb, by simpa [entsA] using hown⟩
      case round =>
        clear hown hb sz
        obtain ⟨s, hs, rfl, hb, hown⟩ := hrel
        have sz := hb.size
        by_cases hlt : s < t
        · obtain ⟨r, hr⟩ : ∃ r, vs2[s]? = some r := ⟨_, List.getElem?_eq_getElem (by rw [h2.length, HN'.out]; exact hlt)⟩
          obtain ⟨x, hx, o1⟩ := h2.rowAt hr
          obtain ⟨a, c, rfl⟩ := owns_form o1
          have ca : wr.cell? ⟨g2, s, none⟩ = some (.slice a x.length c) := by rw [hb.cell (p := ⟨g2, s, none⟩) lt2, T2.out s hlt]; exact hr
          have HE : Hid (entsA vs2 101 (s + 1) = entsA vs2 101 s ++ [((.slice a x.length c : Value), 101 + s)]) := entsA_succ vs2 101 s _ hr
          have i1 : (0 : Int) ≤ (s : Int) := by omega
          have i2 : (s : Int) < (t : Int) := by omega
          clear o1 hx hr
          go_wp2_with (at_builtin; refine wpList_append_own _ rfl (.tmp 31) (.tmp 40) 35 rfl w.heap.size 34 i34 (.agg #[.slice none 0 0, .int .u8 0]) 2 32 Try.underlying35 hi34 hz340 hz341 hz342 rfl (by decide) _ _ _ rfl (hown.alloc _) ⟨wr.heap.size, 0, none⟩ 1 1 [.slice a x.length c, .int .u8 (101 + (s : Int))] rfl rfl ?d1 ?d2 ?d3 ?d4 ?d5 ?_)
          case d1 => exact World.news_of_block (heap_alloc_new wr _)
          case d2 => intro u hu; simp at hu; rcases hu with rfl | rfl <;> rfl
          case d3 => unfold maxLen; omega
          case d4 => omega
          case d5 => simp; omega
          intro v' w2 hown2 hgrow _
          have hb2 : Below w.heap.size w w2 := Below.grown (hb.alloc (by omega) _) hgrow (by simp; omega) (fun g hg => (hown.lt g hg).1)
          have HO : Hid (w2.ownsRow w.heap.size 34 2 v' (t + (s + 1)) (flat (entsA vs1 1 t ++ entsA vs2 101 (s + 1)))) := by
            show World.ownsRow _ _ _ _ _ _ _
            rw [HE.out, ← List.append_assoc, flat_snoc]
            have : B8 (101 + s) = .int .u8 (101 + (s : Int)) := by show Value.int .u8 _ = _; go_num
            rw [this]; exact hown2
          clear hown2 hgrow hown hb ca
          go_wp2
          go_roundw
          case rel => exact ⟨s + 1, by omega, by go_num, hb2, HO.out⟩
          case measure => simp [intOf]; omega
        · obtain rfl : s = t := by omega
          obtain ⟨A, cap, hu⟩ : ∃ A cap, u5 = .slice (some ⟨A, 0, none⟩) (s + s) cap := by
            rcases hown.2 with ⟨_, h0⟩ | ⟨g, cap, cur, h, _⟩
            · omega
            · exact ⟨g, cap, h⟩
          subst hu
          go_wp2
          go_ret
          exact ⟨A, cap, rfl, hb, hown⟩

/-- the rows of two matrices, ready to be written into -/
theorem ph_rows {w w' : World} {B1 B2 B A cap n L : Nat} {v1 v2 : Value} {vs1 vs2 : List Value} {M M' : List (List Nat)} (h1 : Mat w B1 v1 vs1 M) (h2 : Mat w B2 v2 vs2 M') (hn : M.length = n) (hn' : M'.length = n)
    (hb : Below w.heap.size w w') (hB1 : B ≤ B1) (hB2 : B ≤ B2) (hBw : B ≤ w.heap.size) (hl : ∀ x ∈ M, x.length ≤ L) (hl' : ∀ x ∈ M', x.length ≤ L)
    (hd : ∀ (i j : Nat) (r r' : Value) (g : Nat), vs1[i]? = some r → vs2[j]? = some r' → r.ownBlock = some g → r'.ownBlock ≠ some g)
    (ho : w'.ownsRow w.heap.size 34 2 (.slice (some ⟨A, 0, none⟩) (n + n) cap) (n + n) (flat (entsA vs1 1 n ++ entsA vs2 101 n))) :
    Ph w' B A cap (entsA vs1 1 n ++ entsA vs2 101 n) 0 0 L := by
  have hlen : (entsA vs1 1 n ++ entsA vs2 101 n).length = n + n := by rw [List.length_append, entsA_length, entsA_length]
  have l1 : vs1.length = n := by rw [h1.length, hn]
  have l2 : vs2.length = n := by rw [h2.length, hn']
  have split : ∀ (j : Nat) (v : Value) (m : Nat), (entsA vs1 1 n ++ entsA vs2 101 n)[j]? = some (v, m) → (j < n ∧ vs1[j]? = some v) ∨ (n ≤ j ∧ vs2[j - n]? = some v) := by
    intro j v m hj
    by_cases hlt : j < n
    · rw [List.getElem?_append_left (by rw [entsA_length]; exact hlt)] at hj
      exact .inl ⟨hlt, (entsA_at vs1 1 n j v m hj (by omega)).1⟩
    · rw [List.getElem?_append_right (by rw [entsA_length]; omega), entsA_length] at hj
      exact .inr ⟨by omega, (entsA_at vs2 101 n (j - n) v m hj (by omega)).1⟩
  refine ⟨?_, ?_, ?_⟩
  · rw [hlen]; exact owns_mono ho hBw
  · intro j v m hj
    rcases split j v m hj with ⟨_, hv⟩ | ⟨_, hv⟩
    · obtain ⟨x, hx, o⟩ := h1.rowAt hv
      exact ⟨x.length, hl x (List.mem_of_getElem? hx), bvs x, owns_mono (owns_below o hb) hB1, fun h => by omega, fun _ t ht => by omega⟩
    · obtain ⟨x, hx, o⟩ := h2.rowAt hv
      exact ⟨x.length, hl' x (List.mem_of_getElem? hx), bvs x, owns_mono (owns_below o hb) hB2, fun h => by omega, fun _ t ht => by omega⟩
  · intro j j' v m v' m' g hjj hj hj' hv
    rcases split j v m hj with ⟨a1, a⟩ | ⟨a1, a⟩ <;> rcases split j' v' m' hj' with ⟨b1, b⟩ | ⟨b1, b⟩
    · exact h1.dist j j' v v' g hjj a b hv
    · exact hd j (j' - n) v v' g a b hv
    · intro hv'; exact hd j' (j - n) v' v g b a hv' hv
    · exact h2.dist (j - n) (j' - n) v v' g (by omega) a b hv
end Go.Proofs.Ytlaoaiffgbdnpaa
