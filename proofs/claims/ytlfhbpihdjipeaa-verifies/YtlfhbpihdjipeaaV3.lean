import Derived.Test.YtlfhbpihdjipeaaV2
namespace Go.Proofs.Ytlfhbpihdjipeaa
open Go.RowKit

def entsI (vs : List Value) (base : Int) (t : Nat) : List (Value × Int) := (List.range t).map (fun i => (vs.getD i (.slice none 0 0), base - i))
theorem entsI_length (vs : List Value) (base : Int) (t : Nat) : (entsI vs base t).length = t := by simp [entsI]
theorem entsI_succ (vs : List Value) (base : Int) (t : Nat) (r : Value) (h : vs[t]? = some r) : entsI vs base (t + 1) = entsI vs base t ++ [(r, base - t)] := by
  simp [entsI, List.range_succ, h]
theorem entsI_at (vs : List Value) (base : Int) (t i : Nat) (v : Value) (m : Int) (h : (entsI vs base t)[i]? = some (v, m)) (hl : t ≤ vs.length) : vs[i]? = some v ∧ i < t := by
  have hi : i < t := by have := (List.getElem?_eq_some_iff.1 h).1; rw [entsI_length] at this; exact this
  simp [entsI, hi] at h
  refine ⟨?_, hi⟩
  have h2 : vs[i]? = some vs[i] := List.getElem?_eq_getElem (by omega)
  rw [h2] at h ⊢
  simp at h
  rw [h.1]

/-- the Bad lists of an answer: where they stand, that they are owned -/
structure Bads (w : World) (g n : Nat) (vs : List Value) : Prop where
  len : vs.length = n
  lt : g < w.heap.size
  at_ : ∀ (k : Nat) (v : Value), vs[k]? = some v → w.cell? ⟨g, k * 8 + 6, none⟩ = some v
  own : ∀ (k : Nat) (v : Value), vs[k]? = some v → ∃ q xs, q ≤ 16384 ∧ w.ownsRow 0 3 1 v q xs
  dist : ∀ (i j : Nat) (v v' : Value) (b : Nat), i ≠ j → vs[i]? = some v → vs[j]? = some v' → v.ownBlock = some b → v'.ownBlock ≠ some b

theorem ph_bads {w w' : World} {A cap n g1 g2 : Nat} {vs1 vs2 : List Value} (h1 : Bads w g1 n vs1) (h2 : Bads w g2 n vs2) (hb : Below w.heap.size w w')
    (hd : ∀ (i j : Nat) (v v' : Value) (b : Nat), vs1[i]? = some v → vs2[j]? = some v' → v.ownBlock = some b → v'.ownBlock ≠ some b)
    (ho : w'.ownsRow w.heap.size 42 2 (.slice (some ⟨A, 0, none⟩) (n + n) cap) (n + n) (flat (entsI vs1 (-1) n ++ entsI vs2 (-101) n))) :
    Ph w' 0 A cap (entsI vs1 (-1) n ++ entsI vs2 (-101) n) 0 0 16384 := by
  have hlen : (entsI vs1 (-1) n ++ entsI vs2 (-101) n).length = n + n := by rw [List.length_append, entsI_length, entsI_length]
  have l1 := h1.len
  have l2 := h2.len
  have split : ∀ (j : Nat) (v : Value) (m : Int), (entsI vs1 (-1) n ++ entsI vs2 (-101) n)[j]? = some (v, m) → (j < n ∧ vs1[j]? = some v) ∨ (n ≤ j ∧ vs2[j - n]? = some v) := by
    intro j v m hj
    by_cases hlt : j < n
    · rw [List.getElem?_append_left (by rw [entsI_length]; exact hlt)] at hj
      exact .inl ⟨hlt, (entsI_at vs1 (-1) n j v m hj (by omega)).1⟩
    · rw [List.getElem?_append_right (by rw [entsI_length]; omega), entsI_length] at hj
      exact .inr ⟨by omega, (entsI_at vs2 (-101) n (j - n) v m hj (by omega)).1⟩
  refine ⟨?_, ?_, ?_⟩
  · rw [hlen]; exact owns_mono ho (Nat.zero_le _)
  · intro j v m hj
    rcases split j v m hj with ⟨_, hv⟩ | ⟨_, hv⟩
    · obtain ⟨q, xs, hq, o⟩ := h1.own _ _ hv
      exact ⟨q, hq, xs, owns_below o hb, fun h => by omega, fun _ t ht => by omega⟩
    · obtain ⟨q, xs, hq, o⟩ := h2.own _ _ hv
      exact ⟨q, hq, xs, owns_below o hb, fun h => by omega, fun _ t ht => by omega⟩
  · intro j j' v m v' m' g hjj hj hj' hv
    rcases split j v m hj with ⟨a1, a⟩ | ⟨a1, a⟩ <;> rcases split j' v' m' hj' with ⟨b1, b⟩ | ⟨b1, b⟩
    · exact h1.dist j j' v v' g hjj a b hv
    · exact hd j (j' - n) v v' g a b hv
    · intro hv'; exact hd j' (j - n) v' v g b a hv' hv
    · exact h2.dist (j - n) (j' - n) v v' g (by omega) a b hv

theorem crossed_nil (w : World) (a b : Option Addr) (c d : Nat) : Calls Try.prog 9 #[.slice a 0 c, .slice b 0 d] w fun e w' => e = .returned (.bool false) ∧ w' = w := by
  go_enter Try.func9, Try.ntmps9
  go_wp2
  refine wp_loop_rounds 1 ?_
  rw [rounds_succ]
  go_wp2
  refine wp_loop_rounds 1 ?_
  rw [rounds_succ]
  go_wp2
  refine wp_loop_rounds 1 ?_
  rw [rounds_succ]
  go_wp2
  refine wp_loop_rounds 1 ?_
  rw [rounds_succ]
  go_wp2
  refine wp_loop_rounds 1 ?_
  rw [rounds_succ]
  go_wp2
  go_ret
  exact ⟨rfl, rfl⟩

set_option maxHeartbeats 4000000 in
theorem crossed_pos (w : World) (S : Nat → Prop) (hS : Hid (∀ k, S k → k < w.heap.size)) (g1 g2 nn c1 c2 : Nat) (vs1 vs2 : List Value) (hn0 : 0 < nn) (hn32 : nn ≤ 32) (h1 : Bads w g1 nn vs1) (h2 : Bads w g2 nn vs2)
    (hd : ∀ (i j : Nat) (v v' : Value) (b : Nat), vs1[i]? = some v → vs2[j]? = some v' → v.ownBlock = some b → v'.ownBlock ≠ some b)
    (hS1 : ∀ (v : Value) (b : Nat), v ∈ vs1 → v.ownBlock = some b → ¬ S b) (hS2 : ∀ (v : Value) (b : Nat), v ∈ vs2 → v.ownBlock = some b → ¬ S b) :
    Calls Try.prog 9 #[.slice (some ⟨g1, 0, none⟩) nn c1, .slice (some ⟨g2, 0, none⟩) nn c2] w fun e w' => e = .returned (.bool false) ∧ Kept S w w' := by
  obtain ⟨i34, hi34, hz340, hz341, hz342⟩ := info_parts info42
  have T1 : Hid (∀ (k : Nat) (v : Value), vs1[k]? = some v → w.cell? ⟨g1, k * 8 + 6, none⟩ = some v) := h1.at_
  have T2 : Hid (∀ (k : Nat) (v : Value), vs2[k]? = some v → w.cell? ⟨g2, k * 8 + 6, none⟩ = some v) := h2.at_
  have lt1 := h1.lt
  have lt2 := h2.lt
  have L1 : Hid (vs1.length = nn) := h1.len
  have L2 : Hid (vs2.length = nn) := h2.len
  go_enter Try.func9, Try.ntmps9
  go_wp2
  go_loopw [5, 6] (fun av ii w' => ∃ t : Nat, t ≤ nn ∧ ii = .int .i64 t ∧ Below w.heap.size w w' ∧ w'.ownsRow w.heap.size 42 2 av t (flat (entsI vs1 (-1) t))) (fun _ ii _ => (nn - intOf ii).toNat)
  case atStart => exact ⟨0, by omega, rfl, Below.refl _ _, World.ownsRow_nil _ _ _ _⟩
  case round =>
    obtain ⟨t, ht, rfl, hb, hown⟩ := hrel
    have sz := hb.size
    by_cases hlt : t < nn
    · obtain ⟨r, hr⟩ : ∃ r, vs1[t]? = some r := ⟨_, List.getElem?_eq_getElem (by rw [L1.out]; exact hlt)⟩
      obtain ⟨q, xs, hq, o1⟩ := h1.own _ _ hr
      obtain ⟨a, c, rfl⟩ := owns_form o1
      have ca : wr.cell? ⟨g1, t * 8 + 6, none⟩ = some (.slice a q c) := by rw [hb.cell (p := ⟨g1, t * 8 + 6, none⟩) lt1]; exact T1.out t _ hr
      have HE : Hid (entsI vs1 (-1) (t + 1) = entsI vs1 (-1) t ++ [((.slice a q c : Value), (-1 : Int) - (t : Int))]) := entsI_succ vs1 (-1) t _ hr
      have i1 : (0 : Int) ≤ (t : Int) := by omega
      have i2 : (t : Int) < (nn : Int) := by omega
      clear o1 hr
      go_wp2_with (at_builtin; refine wpList_append_own _ rfl (.tmp 22) (.tmp 31) 40 rfl w.heap.size 42 i34 (.agg #[.slice none 0 0, .int .i64 0]) 2 32 Try.underlying40 hi34 hz340 hz341 hz342 rfl (by decide) _ _ _ rfl (hown.alloc _) ⟨wr.heap.size, 0, none⟩ 1 1 [.slice a q c, .int .i64 (-1 - (t : Int))] rfl rfl ?c1 ?c2 ?c3 ?c4 ?c5 ?_)
      case c1 => exact World.news_of_block (heap_alloc_new wr _)
      case c2 => intro u hu; simp at hu; rcases hu with rfl | rfl <;> rfl
      case c3 => unfold maxLen; omega
      case c4 => omega
      case c5 => simp; omega
      intro v' w2 hown2 hgrow _
      have hb2 : Below w.heap.size w w2 := Below.grown (hb.alloc (by omega) _) hgrow (by simp; omega) (fun g hg => (hown.lt g hg).1)
      have HO : Hid (w2.ownsRow w.heap.size 42 2 v' (t + 1) (flat (entsI vs1 (-1) (t + 1)))) := by
        show World.ownsRow _ _ _ _ _ _ _
        rw [HE.out, flat_snoc]
        exact hown2
      clear hown2 hgrow hown hb ca
      go_wp2
      go_roundw
      case rel => exact ⟨t + 1, by omega, by go_num, hb2, HO.out⟩
      case measure => simp [intOf]; omega
    · obtain rfl : t = nn := by omega
      go_wp2_with fail
      go_loopw [5, 7] (fun av ii w' => ∃ s : Nat, s ≤ t ∧ ii = .int .i64 s ∧ Below w.heap.size w w' ∧ w'.ownsRow w.heap.size 42 2 av (t + s) (flat (entsI vs1 (-1) t ++ entsI vs2 (-101) s))) (fun _ ii _ => (t - intOf ii).toNat)
      case atStart => exact ⟨0, by omega, rfl, hb, by simpa [entsI] using hown⟩
      case round =>
        clear hown hb sz
        obtain ⟨s, hs, rfl, hb, hown⟩ := hrel
        have sz := hb.size
        by_cases hlt : s < t
        · obtain ⟨r, hr⟩ : ∃ r, vs2[s]? = some r := ⟨_, List.getElem?_eq_getElem (by rw [L2.out]; exact hlt)⟩
          obtain ⟨q, xs, hq, o1⟩ := h2.own _ _ hr
          obtain ⟨a, c, rfl⟩ := owns_form o1
          have ca : wr.cell? ⟨g2, s * 8 + 6, none⟩ = some (.slice a q c) := by rw [hb.cell (p := ⟨g2, s * 8 + 6, none⟩) lt2]; exact T2.out s _ hr
          have HE : Hid (entsI vs2 (-101) (s + 1) = entsI vs2 (-101) s ++ [((.slice a q c : Value), (-101 : Int) - (s : Int))]) := entsI_succ vs2 (-101) s _ hr
          have i1 : (0 : Int) ≤ (s : Int) := by omega
          have i2 : (s : Int) < (t : Int) := by omega
          clear o1 hr
          go_wp2_with (at_builtin; refine wpList_append_own _ rfl (.tmp 39) (.tmp 48) 40 rfl w.heap.size 42 i34 (.agg #[.slice none 0 0, .int .i64 0]) 2 32 Try.underlying40 hi34 hz340 hz341 hz342 rfl (by decide) _ _ _ rfl (hown.alloc _) ⟨wr.heap.size, 0, none⟩ 1 1 [.slice a q c, .int .i64 (-101 - (s : Int))] rfl rfl ?d1 ?d2 ?d3 ?d4 ?d5 ?_)
          case d1 => exact World.news_of_block (heap_alloc_new wr _)
          case d2 => intro u hu; simp at hu; rcases hu with rfl | rfl <;> rfl
          case d3 => unfold maxLen; omega
          case d4 => omega
          case d5 => simp; omega
          intro v' w2 hown2 hgrow _
          have hb2 : Below w.heap.size w w2 := Below.grown (hb.alloc (by omega) _) hgrow (by simp; omega) (fun g hg => (hown.lt g hg).1)
          have HO : Hid (w2.ownsRow w.heap.size 42 2 v' (t + (s + 1)) (flat (entsI vs1 (-1) t ++ entsI vs2 (-101) (s + 1)))) := by
            show World.ownsRow _ _ _ _ _ _ _
            rw [HE.out, ← List.append_assoc, flat_snoc]
            exact hown2
          clear hown2 hgrow hown hb ca
          go_wp2
          go_roundw
          case rel => exact ⟨s + 1, by omega, by go_num, hb2, HO.out⟩
          case measure => simp [intOf]; omega
        · obtain rfl : s = t := by omega
          obtain ⟨A, cap, hu⟩ : ∃ A cap, u5 = .slice (some ⟨A, 0, none⟩) (s + s) cap := by
            rcases hown.2 with ⟨_, h0⟩ | ⟨g, cap, cur, h, _⟩
            · omega
            · exact ⟨g, cap, h⟩
          subst hu
          obtain ⟨B, L, hP, HB, hL⟩ : ∃ B L, Ph wr B A cap (entsI vs1 (-1) s ++ entsI vs2 (-101) s) 0 0 L ∧ B ≤ w.heap.size ∧ L ≤ 16384 := ⟨0, 16384, ph_bads h1 h2 hb hd hown, Nat.zero_le _, Nat.le_refl _⟩
          have hA0 : Hid (¬ S A) := fun h => by have := hS.out A h; have := (hown.lt A rfl).1; omega
          have hOff : Off S (entsI vs1 (-1) s ++ entsI vs2 (-101) s) := by
            intro v m g hm hv
            rcases List.mem_append.1 hm with hm | hm
            · obtain ⟨j, hj⟩ := List.getElem?_of_mem hm
              exact hS1 v g (List.mem_of_getElem? (entsI_at vs1 _ _ _ _ _ hj (by rw [L1.out]; exact Nat.le_refl _)).1) hv
            · obtain ⟨j, hj⟩ := List.getElem?_of_mem hm
              exact hS2 v g (List.mem_of_getElem? (entsI_at vs2 _ _ _ _ _ hj (by rw [L2.out]; exact Nat.le_refl _)).1) hv
          have HN : Hid ((entsI vs1 (-1) s ++ entsI vs2 (-101) s).length = s + s) := by show _ = _; rw [List.length_append, entsI_length, entsI_length]
          have hK : Kept S w wr := ⟨hb.os, hb.tape, hb.output, hb.size, fun k hk => hb.block k (hS.out k hk)⟩
          have hn0 : s + s ≤ 1000 := by omega
          clear hown hb sz h1 h2 hd hS1 hS2 T1 T2 L1 L2 lt1 lt2
          generalize entsI vs1 (-1) s ++ entsI vs2 (-101) s = E at *
          generalize s + s = n at *
          go_wp2
          go_loopw [9] (fun kk w' => ∃ k : Nat, k ≤ n ∧ kk = .int .i64 k ∧ Kept S w w' ∧ Ph w' B A cap E k 0 L) (fun kk _ => (n - intOf kk).toNat)
          case atStart => exact ⟨0, by omega, rfl, hK, hP⟩
          case round =>
            clear hP hK
            obtain ⟨k, hk, rfl, hb, hP⟩ := hrel
            by_cases hlt : k < n
            · obtain ⟨⟨v, m⟩, hE⟩ : ∃ p, E[k]? = some p := ⟨_, List.getElem?_eq_getElem (by rw [HN.out]; exact hlt)⟩
              obtain ⟨a, q, c, rfl, ha⟩ : ∃ a q c, v = .slice a q c ∧ (0 < q → ∃ g, a = some ⟨g, 0, none⟩) := by
                obtain ⟨q, _, xs, ho, _⟩ := hP.ents k v m hE
                rcases ho.2 with ⟨rfl, rfl⟩ | ⟨g, c, cur, rfl, _⟩
                · exact ⟨_, _, _, rfl, fun h => by omega⟩
                · exact ⟨_, _, _, rfl, fun _ => ⟨g, rfl⟩⟩
              have hqL : q ≤ L := by obtain ⟨q', hq', xs, ho, _⟩ := hP.ents k _ m hE; have := owns_vlen ho; simp [vlen] at this; omega
              by_cases hq0 : 0 < q
              · obtain ⟨g, rfl⟩ := ha hq0
                have HE : Hid (E[k]? = some (.slice (some ⟨g, 0, none⟩) q c, m)) := hE
                clear hE ha
                go_wp2
                go_loopw [10] (fun ii w' => ∃ i : Nat, i ≤ q ∧ ii = .int .i64 i ∧ Kept S w w' ∧ Ph w' B A cap E k i L) (fun ii _ => (q - intOf ii).toNat)
                case atStart => exact ⟨0, by omega, rfl, hb, hP⟩
                case round =>
                  clear hP hb
                  obtain ⟨i, hi, rfl, hb, hP⟩ := hrel
                  have hal := hP.al
                  rw [HN.out] at hal
                  obtain ⟨ca, cm⟩ := all_cells hal HN.out HE.out
                  have j1 : (0 : Int) ≤ (k : Int) := by omega
                  have j2 : (k : Int) < (n : Int) := by omega
                  clear hal
                  by_cases hiq : i < q
                  · have j3 : (0 : Int) ≤ (i : Int) := by omega
                    have j4 : (i : Int) < (q : Int) := by omega
                    have hBg : Hid (¬ S g) := hOff _ m g (List.mem_of_getElem? HE.out) rfl
                    obtain ⟨v0, c0, f0⟩ : ∃ v0, wr.cell? ⟨g, i, none⟩ = some v0 ∧ wr.frozen? ⟨g, i, none⟩ = false := by
                      obtain ⟨q', hq', xs, ho, _⟩ := hP.ents k _ m HE.out
                      have := owns_vlen ho; simp only [vlen] at this; subst this
                      have hl : xs.length = q := by have := ho.1; omega
                      exact ⟨_, by rw [ho.cellAt i (by omega)]; exact List.getElem?_eq_getElem (by omega), ho.frozenAt i⟩
                    have HP := hP
                    clear hP
                    go_wp2_with fail
                    go_region
                    all_goals
                      go_wp2_with fail
                      go_roundw
                      case rel => exact ⟨i + 1, by omega, by go_num, (hb.setCell (a := ⟨g, i, none⟩) hBg.out _).drew, (HP.store HE.out).drew⟩
                      case measure => simp [intOf]; omega
                  · go_wp2_with fail
                    go_roundw
                    case rel => exact ⟨k + 1, by omega, by go_num, hb, hP.next HE.out (by simp only [vlen]; omega)⟩
                    case measure => simp [intOf]; omega
              · have hq00 : q = 0 := by omega
                subst hq00
                have HE : Hid (E[k]? = some (.slice a 0 c, m)) := hE
                have hal := hP.al
                rw [HN.out] at hal
                obtain ⟨ca, cm⟩ := all_cells hal HN.out hE
                have j1 : (0 : Int) ≤ (k : Int) := by omega
                have j2 : (k : Int) < (n : Int) := by omega
                clear hE ha hal
                go_wp2
                refine wp_loop_rounds 1 ?_
                rw [rounds_succ]
                go_wp2_with fail
                go_roundw
                case rel => exact ⟨k + 1, by omega, by go_num, hb, hP.next HE.out (by simp only [vlen]; omega)⟩
                case measure => simp [intOf]; omega
            · obtain rfl : k = n := by omega
              have hO : Out wr B A cap E 0 k L := by
                have h := hP
                rw [← HN.out] at h
                have h2 := h.out
                rw [HN.out] at h2
                exact h2
              clear hP hk hlt
              obtain ⟨i5, hi5, hz50, hz51, hz52⟩ := info_parts info3
              obtain ⟨i34, hi34, hz340, hz341, hz342⟩ := info_parts info42
              have hsz := hb.size
              go_wp2_with fail
              go_loopw [5, 11] (fun a0 kk w' => ∃ (q N A' cap' : Nat) (E' : List (Value × Int)), q ≤ k ∧ kk = .int .i64 q ∧ a0 = .slice (some ⟨A', 0, none⟩) N cap' ∧ N = k + 3 * q ∧ Hid (E'.length = N) ∧ Hid (¬ S A') ∧ Off S E' ∧ Kept S w w' ∧ Out w' B A' cap' E' q k L) (fun _ kk _ => (k - intOf kk).toNat)
              case atStart => exact ⟨0, k, A, cap, E, by omega, rfl, rfl, by omega, HN.out, hA0, hOff, hb, hO⟩
              case round =>
                clear hO hb HN hA0 hOff
                obtain ⟨q, N, A, cap, E, hq, rfl, rfl, hNe, HN, hA0, hOff, hb, hO⟩ := hrel
                have hNl : k + 3 * q ≤ N := by omega
                have hNu : N ≤ k + 3 * q := by omega
                clear hNe
                have hsz := hb.size
                by_cases hlt : q < k
                · obtain ⟨⟨v, m⟩, hE⟩ : ∃ p, E[q]? = some p := ⟨_, List.getElem?_eq_getElem (by rw [HN.out]; omega)⟩
                  have hI := hO.start hlt hE
                  have hvL := (hO.fut q (Nat.le_refl _) hlt v m hE).1
                  have hal := hO.al
                  rw [HN.out] at hal
                  obtain ⟨ca, cm⟩ := all_cells hal HN.out hE
                  have HE : Hid (E[q]? = some (v, m)) := hE
                  have j1 : (0 : Int) ≤ (q : Int) := by omega
                  have j2 : (q : Int) < (N : Int) := by omega
                  clear hE hal hO
                  go_wp2_with fail
                  go_loopw [5, 12, 13] (fun a0 l ii w' => ∃ (i N' A' cap' nl : Nat) (E' : List (Value × Int)), i ≤ 3 ∧ ii = .int .i64 i ∧ a0 = .slice (some ⟨A', 0, none⟩) N' cap' ∧ N + i ≤ N' ∧ N' ≤ N + i ∧ Hid (E'.length = N') ∧ Hid (E'[q]? = some (v, m)) ∧ nl ≤ L + i ∧ Hid (¬ S A') ∧ Off S E' ∧ Hid (∀ g, l.ownBlock = some g → ¬ S g) ∧ Kept S w w' ∧ Inv w' B A' cap' E' l nl m q k L) (fun _ _ ii _ => (3 - intOf ii).toNat)
                  case atStart => exact ⟨0, N, A, cap, _, E, by omega, rfl, rfl, by omega, by omega, HN, HE, by omega, hA0, hOff, fun g hg => hOff v m g (List.mem_of_getElem? HE.out) hg, hb, hI⟩
                  case round =>
                    clear hI hb ca cm HE HN hsz hA0 hOff
                    obtain ⟨i, N', A, cap, nl, E, hi, rfl, rfl, hN1, hN2, HN, HE, hnl, hA0, hOff, hlo, hb, hI⟩ := hrel
                    have hsz := hb.size
                    have hal := hI.al
                    rw [HN.out] at hal
                    obtain ⟨ca, cm⟩ := all_cells hal HN.out HE.out
                    have j3 : (q : Int) < (N' : Int) := by omega
                    clear hal j2
                    by_cases hi3 : i < 3
                    · go_wp2_with (at_builtin; refine wpList_append_two _ rfl (.tmp 93) (.tmp 99) 34 rfl B 3 i5 (.int .i64 0) 1 8 Try.underlying34 hi5 hz50 hz51 hz52 rfl (by decide) _ _ _ rfl (hI.own.alloc _) ⟨wr.heap.size, 0, none⟩ 1 1 [.int .i64 m] rfl rfl ?c1 ?c2 (by decide) ?c3 ?c4 ?c5 ?_)
                      case c1 => exact cell_one_new _ _ _
                      case c2 => intro u hu; simp at hu; subst hu; rfl
                      case c3 => unfold maxLen; omega
                      case c4 => omega
                      case c5 => simp; omega
                      intro g cap1 w1 ho1 hc1
                      have hc1' : (u12 = .slice (some ⟨g, 0, none⟩) nl cap1 ∧ (wr.alloc (.cells #[.int .i64 m] 3)).grownBy w1 (some g)) ∨ ((wr.alloc (.cells #[.int .i64 m] 3)).heap.size ≤ g ∧ (wr.alloc (.cells #[.int .i64 m] 3)).grownBy w1 none) := by
                        rcases hc1 with h | ⟨h1, h2⟩
                        · exact .inl h
                        · exact .inr ⟨by simpa using h1, h2⟩
                      have hI1 : Inv w1 B A cap E (.slice (some ⟨g, 0, none⟩) (nl + 1) cap1) (nl + 1) m q k L := (hI.below ((Below.refl _ _).alloc (Nat.le_refl _) _)).push ho1 hc1'
                      have hgS : Hid (¬ S g) := by
                        rcases hc1 with ⟨hl, _⟩ | ⟨hg0, _⟩
                        · exact hlo.out g (by rw [hl]; rfl)
                        · intro hSg; have := hS.out g hSg; omega
                      have hb1 : Kept S w w1 := by
                        rcases hc1 with ⟨hl, hg⟩ | ⟨hg0, hg⟩
                        · refine Kept.grown (hb.alloc hS.out _) hS.out hg ?_
                          intro g' hg'
                          cases hg'
                          exact hgS.out
                        · exact Kept.grown (hb.alloc hS.out _) hS.out hg (fun g' hg' => by cases hg')
                      have hsz1 := hb1.size
                      have hal1 := hI1.al
                      rw [HN.out] at hal1
                      obtain ⟨ca1, cm1⟩ := all_cells hal1 HN.out HE.out
                      clear hI hb ca cm ho1 hc1 hc1' hsz
                      go_wp2_with (at_builtin; refine wpList_append_two _ rfl (.tmp 101) (.tmp 109) 40 rfl B 42 i34 (.agg #[.slice none 0 0, .int .i64 0]) 2 32 Try.underlying40 hi34 hz340 hz341 hz342 rfl (by decide) _ _ _ rfl (hal1.alloc _) ⟨w1.heap.size, 0, none⟩ 1 1 [.slice (some ⟨g, 0, none⟩) (nl + 1) cap1, .int .i64 m] rfl rfl ?d1 ?d2 (by decide) ?d3 ?d4 ?d5 ?_)
                      case d1 => exact World.news_of_block (heap_alloc_new w1 _)
                      case d2 => intro u hu; simp at hu; rcases hu with rfl | rfl <;> rfl
                      case d3 => unfold maxLen; omega
                      case d4 => omega
                      case d5 => simp; omega
                      intro g2 cap2 w2 ho2 hc2
                      have hI2 : Inv w2 B g2 cap2 (E ++ [(.slice (some ⟨g, 0, none⟩) (nl + 1) cap1, m)]) (.slice (some ⟨g, 0, none⟩) (nl + 1) cap1) (nl + 1) m q k L := by
                        refine (hI1.below ((Below.refl _ _).alloc (Nat.le_refl _) (.cells #[.slice (some ⟨g, 0, none⟩) (nl + 1) cap1, .int .i64 m] 42))).lay (by omega) (by rw [HN.out]; omega) (by rw [HN.out]; exact ho2) ?_
                        rcases hc2 with ⟨hl, hg⟩ | ⟨hg0, hg⟩
                        · left
                          have hA : A = g2 := hl.1
                          rw [hA]; exact hg
                        · right; exact hg
                      have hA2 : Hid (¬ S g2) := by
                        rcases hc2 with ⟨hl, _⟩ | ⟨hg0, _⟩
                        · have hA : A = g2 := hl.1
                          rw [← hA]; exact hA0.out
                        · intro hSg; have := hS.out g2 hSg; omega
                      have hb2 : Kept S w w2 := by
                        rcases hc2 with ⟨hl, hg⟩ | ⟨hg0, hg⟩
                        · refine Kept.grown (hb1.alloc hS.out _) hS.out hg ?_
                          intro g' hg'
                          cases hg'
                          exact hA2.out
                        · exact Kept.grown (hb1.alloc hS.out _) hS.out hg (fun g' hg' => by cases hg')
                      have hOff2 : Off S (E ++ [((.slice (some ⟨g, 0, none⟩) (nl + 1) cap1 : Value), m)]) := by
                        intro v' m' g' hm hv
                        simp only [List.mem_append, List.mem_cons, List.not_mem_nil, or_false, Prod.mk.injEq] at hm
                        rcases hm with hm | ⟨rfl, rfl⟩
                        · exact hOff v' m' g' hm hv
                        · simp only [Value.ownBlock, Option.some.injEq] at hv; rw [← hv]; exact hgS.out
                      have hlo2 : Hid (∀ g', (.slice (some ⟨g, 0, none⟩) (nl + 1) cap1 : Value).ownBlock = some g' → ¬ S g') := by
                        intro g' hv
                        simp only [Value.ownBlock, Option.some.injEq] at hv; rw [← hv]; exact hgS.out
                      have HN2 : Hid ((E ++ [((.slice (some ⟨g, 0, none⟩) (nl + 1) cap1 : Value), m)]).length = N' + 1) := by show _ = _; rw [List.length_append, HN.out]; rfl
                      have HE2 : Hid ((E ++ [((.slice (some ⟨g, 0, none⟩) (nl + 1) cap1 : Value), m)])[q]? = some (v, m)) := by show _ = _; rw [List.getElem?_append_left (by rw [HN.out]; omega)]; exact HE.out
                      clear hI1 hb1 ca1 cm1 ho2 hc2 hsz1 hal1
                      go_wp2_with fail
                      go_roundw
                      case rel => exact ⟨i + 1, N' + 1, g2, cap2, nl + 1, _, by omega, by go_num, rfl, by omega, by omega, HN2, HE2, by omega, hA2, hOff2, hlo2, hb2, hI2⟩
                      case measure => simp [intOf]; omega
                    · go_wp2_with fail
                      go_roundw
                      case rel => exact ⟨q + 1, N', A, cap, E, by omega, by go_num, rfl, by omega, HN, hA0, hOff, hb, hI.stop⟩
                      case measure => simp [intOf]; omega
                · go_wp2_with fail
                  go_loopw [14] (fun kk w' => ∃ t : Nat, t ≤ N ∧ kk = .int .i64 t ∧ Kept S w w' ∧ Out w' B A cap E q k L) (fun kk _ => (N - intOf kk).toNat)
                  case atStart => exact ⟨0, by omega, rfl, hb, hO⟩
                  case round =>
                    clear hb hO hsz
                    obtain ⟨t, ht, rfl, hb, hO⟩ := hrel
                    by_cases htN : t < N
                    · obtain ⟨⟨v, m⟩, hE⟩ : ∃ p, E[t]? = some p := ⟨_, List.getElem?_eq_getElem (by rw [HN.out]; omega)⟩
                      obtain ⟨a, r, c, rfl, ha⟩ : ∃ a r c, v = .slice a r c ∧ (0 < r → ∃ g, a = some ⟨g, 0, none⟩) := by
                        obtain ⟨r, _, ho⟩ := hO.ents v m (List.mem_of_getElem? hE)
                        rcases ho.2 with ⟨rfl, rfl⟩ | ⟨g, c, cur, rfl, _⟩
                        · exact ⟨_, _, _, rfl, fun h => by omega⟩
                        · exact ⟨_, _, _, rfl, fun _ => ⟨g, rfl⟩⟩
                      have hrL : r ≤ L + 3 := by obtain ⟨r', hr', ho⟩ := hO.ents _ m (List.mem_of_getElem? hE); have := owns_vlen ho; simp [vlen] at this; omega
                      have j1 : (0 : Int) ≤ (t : Int) := by omega
                      have j2 : (t : Int) < (N : Int) := by omega
                      by_cases hr0 : 0 < r
                      · obtain ⟨g, rfl⟩ := ha hr0
                        have HE : Hid (E[t]? = some (.slice (some ⟨g, 0, none⟩) r c, m)) := hE
                        clear hE ha
                        go_wp2_with fail
                        go_loopw [15] (fun ii w' => ∃ i : Nat, i ≤ r ∧ ii = .int .i64 i ∧ Kept S w w' ∧ Out w' B A cap E q k L) (fun ii _ => (r - intOf ii).toNat)
                        case atStart => exact ⟨0, by omega, rfl, hb, hO⟩
                        case round =>
                          clear hO hb
                          obtain ⟨i, hi, rfl, hb, hO⟩ := hrel
                          have hal := hO.al
                          rw [HN.out] at hal
                          obtain ⟨ca, cm⟩ := all_cells hal HN.out HE.out
                          clear hal
                          by_cases hir : i < r
                          · have j3 : (0 : Int) ≤ (i : Int) := by omega
                            have j4 : (i : Int) < (r : Int) := by omega
                            have c0 : wr.cell? ⟨g, i, none⟩ = some (.int .i64 m) := by
                              obtain ⟨r', hr', ho⟩ := hO.ents _ m (List.mem_of_getElem? HE.out)
                              have := owns_vlen ho; simp only [vlen] at this; subst this
                              rw [ho.cellAt i (by omega), List.getElem?_replicate, if_pos hir]
                            have hmm : ((m : Int) != (m : Int)) = false := by simp
                            have HO := hO
                            clear hO
                            go_wp2_with fail
                            go_region
                            all_goals
                              go_wp2_with fail
                              go_roundw
                              case rel => exact ⟨i + 1, by omega, by go_num, hb.drew, ⟨HO.al, HO.ents, HO.fut⟩⟩
                              case measure => simp [intOf]; omega
                          · go_wp2_with fail
                            go_roundw
                            case rel => exact ⟨t + 1, by omega, by go_num, hb, hO⟩
                            case measure => simp [intOf]; omega
                      · have hr00 : r = 0 := by omega
                        subst hr00
                        have hal := hO.al
                        rw [HN.out] at hal
                        obtain ⟨ca, cm⟩ := all_cells hal HN.out hE
                        clear hE ha hal
                        go_wp2_with fail
                        refine wp_loop_rounds 1 ?_
                        rw [rounds_succ]
                        go_wp2_with fail
                        go_roundw
                        case rel => exact ⟨t + 1, by omega, by go_num, hb, hO⟩
                        case measure => simp [intOf]; omega
                    · go_wp2_with fail
                      go_ret
                      exact ⟨rfl, hb⟩
end Go.Proofs.Ytlfhbpihdjipeaa
