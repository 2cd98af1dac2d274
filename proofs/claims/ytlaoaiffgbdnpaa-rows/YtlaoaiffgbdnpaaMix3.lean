import Derived.Test.YtlaoaiffgbdnpaaMix2
namespace Go.Proofs.Ytlaoaiffgbdnpaa
open Go.RowKit

/-- the blocks of S are as they were -/
structure Kept (S : Nat → Prop) (w w' : World) : Prop where
  os : w'.os = w.os
  tape : w'.tape = w.tape
  output : w'.output = w.output
  size : w.heap.size ≤ w'.heap.size
  block : ∀ k, S k → w'.heap[k]? = w.heap[k]?
theorem Kept.refl (S : Nat → Prop) (w : World) : Kept S w w := ⟨rfl, rfl, rfl, Nat.le_refl _, fun _ _ => rfl⟩
theorem Kept.drew {S : Nat → Prop} {w w' : World} (h : Kept S w w') : Kept S w w'.drew := ⟨h.os, h.tape, h.output, h.size, h.block⟩
theorem Kept.alloc {S : Nat → Prop} {w w' : World} (h : Kept S w w') (hS : ∀ k, S k → k < w.heap.size) (o : Obj) : Kept S w (w'.alloc o) := by
  have hs := h.size
  exact ⟨h.os, h.tape, h.output, by simp; omega, fun k hk => by rw [Below.heap_alloc _ _ _ (by have := hS k hk; omega)]; exact h.block k hk⟩
theorem Kept.setCell {S : Nat → Prop} {w w' : World} (h : Kept S w w') {a : Addr} (ha : ¬ S a.block) (v : Value) : Kept S w (w'.setCell a v) := by
  refine ⟨h.os, h.tape, h.output, by simpa using h.size, fun k hk => ?_⟩
  rw [Below.heap_setCell _ _ _ _ (fun e => ha (e ▸ hk))]; exact h.block k hk
theorem Kept.grown {S : Nat → Prop} {w w' w'' : World} {row : Option Nat} (h : Kept S w w') (hS : ∀ k, S k → k < w.heap.size) (hg : w'.grownBy w'' row) (hr : ∀ k, row = some k → ¬ S k) : Kept S w w'' := by
  have hs := h.size
  exact ⟨hg.os.trans h.os, hg.tape.trans h.tape, hg.output.trans h.output, Nat.le_trans h.size hg.size, fun k hk => by rw [hg.block k (by have := hS k hk; omega) (fun e => hr k e.symm hk)]; exact h.block k hk⟩
theorem Kept.below {B : Nat} {w w' : World} (h : Kept (· < B) w w') : Below B w w' := ⟨h.os, h.tape, h.output, h.size, h.block⟩
theorem Kept.mono {S T : Nat → Prop} {w w' : World} (h : Kept S w w') (hT : ∀ k, T k → S k) : Kept T w w' := ⟨h.os, h.tape, h.output, h.size, fun k hk => h.block k (hT k hk)⟩

theorem mixed_nil (w : World) : Calls Try.prog 17 #[.slice none 0 0] w fun e w' => e = .returned (.bool false) ∧ w' = w := by
  go_enter Try.func17, Try.ntmps17
  go_wp2
  refine wp_loop_rounds 1 ?_
  rw [rounds_succ]
  go_wp2
  refine wp_loop_rounds 1 ?_
  rw [rounds_succ]
  go_wp2
  refine wp_loop_rounds 1 ?_
  rw [rounds_succ]
  go_wp2
  go_ret
  exact ⟨rfl, rfl⟩

def Off (S : Nat → Prop) (E : List (Value × Nat)) : Prop := ∀ v m g, (v, m) ∈ E → v.ownBlock = some g → ¬ S g

set_option maxHeartbeats 2000000 in
theorem mixed_kept (w : World) (S : Nat → Prop) (hS : Hid (∀ k, S k → k < w.heap.size)) (B A cap n L : Nat) (E : List (Value × Nat)) (hA0 : Hid (¬ S A)) (hOff : Off S E) (hB : B ≤ w.heap.size) (hn : E.length = n) (hn0 : n ≤ 1000) (hL : L ≤ 140737488355324) (hP : Ph w B A cap E 0 0 L) :
    Calls Try.prog 17 #[.slice (some ⟨A, 0, none⟩) n cap] w fun e w' => e = .returned (.bool false) ∧ Kept S w w' := by
  have HN : Hid (E.length = n) := hn
  clear hn
  go_enter Try.func17, Try.ntmps17
  go_wp2
  go_loopw [4] (fun kk w' => ∃ k : Nat, k ≤ n ∧ kk = .int .i64 k ∧ Kept S w w' ∧ Ph w' B A cap E k 0 L) (fun kk _ => (n - intOf kk).toNat)
  case atStart => exact ⟨0, by omega, rfl, Kept.refl _ _, hP⟩
  case round =>
    clear hP
    obtain ⟨k, hk, rfl, hb, hP⟩ := hrel
    by_cases hlt : k < n
    · obtain ⟨⟨v, m⟩, hE⟩ : ∃ p, E[k]? = some p := ⟨_, List.getElem?_eq_getElem (by rw [HN.out]; exact hlt)⟩
      obtain ⟨a, q, c, rfl, ha⟩ : ∃ a q c, v = .slice a q c ∧ (0 < q → ∃ g, a = some ⟨g, 0, none⟩) := by
        obtain ⟨q, _, xs, ho, _⟩ := hP.ents k v m hE
        rcases ho.2 with ⟨rfl, rfl⟩ | ⟨g, c, cur, rfl, _⟩
        · exact ⟨_, _, _, rfl, fun h => by omega⟩
        · exact ⟨_, _, _, rfl, fun _ => ⟨g, rfl⟩⟩
      have hqL : q ≤ L := by obtain ⟨q', hq', xs, ho, _⟩ := hP.ents k _ m hE; have := owns_vlen ho; simp [vlen] at this; omega
      by_cases hq0 : 0 < q
      · obtain ⟨g, rfl⟩ := ha hq0
        have HE : Hid (E[k]? = some (.slice (some ⟨g, 0, none⟩) q c, m)) := hE
        clear hE ha
        go_wp2
        go_loopw [5] (fun ii w' => ∃ i : Nat, i ≤ q ∧ ii = .int .i64 i ∧ Kept S w w' ∧ Ph w' B A cap E k i L) (fun ii _ => (q - intOf ii).toNat)
        case atStart => exact ⟨0, by omega, rfl, hb, hP⟩
        case round =>
          clear hP hb
          obtain ⟨i, hi, rfl, hb, hP⟩ := hrel
          have hal := hP.al
          rw [HN.out] at hal
          obtain ⟨ca, cm⟩ := all_cells hal HN.out HE.out
          have j1 : (0 : Int) ≤ (k : Int) := by omega
          have j2 : (k : Int) < (n : Int) := by omega
          clear hal
          by_cases hiq : i < q
          · have j3 : (0 : Int) ≤ (i : Int) := by omega
            have j4 : (i : Int) < (q : Int) := by omega
            have hBg : Hid (¬ S g) := hOff _ m g (List.mem_of_getElem? HE.out) rfl
            obtain ⟨v0, c0, f0⟩ : ∃ v0, wr.cell? ⟨g, i, none⟩ = some v0 ∧ wr.frozen? ⟨g, i, none⟩ = false := by
              obtain ⟨q', hq', xs, ho, _⟩ := hP.ents k _ m HE.out
              have := owns_vlen ho; simp only [vlen] at this; subst this
              have hl : xs.length = q := by have := ho.1; omega
              exact ⟨_, by rw [ho.cellAt i (by omega)]; exact List.getElem?_eq_getElem (by omega), ho.frozenAt i⟩
            have HP := hP
            clear hP
            go_wp2_with fail
            go_region
            all_goals
              go_wp2_with fail
              go_roundw
              case rel => exact ⟨i + 1, by omega, by go_num, (hb.setCell (a := ⟨g, i, none⟩) hBg.out _).drew, (HP.store HE.out).drew⟩
              case measure => simp [intOf]; omega
          · go_wp2_with fail
            go_roundw
            case rel => exact ⟨k + 1, by omega, by go_num, hb, hP.next HE.out (by simp only [vlen]; omega)⟩
            case measure => simp [intOf]; omega
      · have hq00 : q = 0 := by omega
        subst hq00
        have HE : Hid (E[k]? = some (.slice a 0 c, m)) := hE
        have hal := hP.al
        rw [HN.out] at hal
        obtain ⟨ca, cm⟩ := all_cells hal HN.out hE
        have j1 : (0 : Int) ≤ (k : Int) := by omega
        have j2 : (k : Int) < (n : Int) := by omega
        clear hE ha hal
        go_wp2
        refine wp_loop_rounds 1 ?_
        rw [rounds_succ]
        go_wp2_with fail
        go_roundw
        case rel => exact ⟨k + 1, by omega, by go_num, hb, hP.next HE.out (by simp only [vlen]; omega)⟩
        case measure => simp [intOf]; omega
    · obtain rfl : k = n := by omega
      have hO : Out wr B A cap E 0 k L := by
        have h := hP
        rw [← HN.out] at h
        have h2 := h.out
        rw [HN.out] at h2
        exact h2
      clear hP hk hlt
      obtain ⟨i5, hi5, hz50, hz51, hz52⟩ := info_parts info5
      obtain ⟨i34, hi34, hz340, hz341, hz342⟩ := info_parts info34
      have hsz := hb.size
      go_wp2_with fail
      go_loopw [0, 6] (fun a0 kk w' => ∃ (q N A' cap' : Nat) (E' : List (Value × Nat)), q ≤ k ∧ kk = .int .i64 q ∧ a0 = .slice (some ⟨A', 0, none⟩) N cap' ∧ N = k + 3 * q ∧ Hid (E'.length = N) ∧ Hid (¬ S A') ∧ Off S E' ∧ Kept S w w' ∧ Out w' B A' cap' E' q k L) (fun _ kk _ => (k - intOf kk).toNat)
      case atStart => exact ⟨0, k, A, cap, E, by omega, rfl, rfl, by omega, HN.out, hA0, hOff, hb, hO⟩
      case round =>
        clear hO hb HN hA0 hOff
        obtain ⟨q, N, A, cap, E, hq, rfl, rfl, hNe, HN, hA0, hOff, hb, hO⟩ := hrel
        have hNl : k + 3 * q ≤ N := by omega
        have hNu : N ≤ k + 3 * q := by omega
        clear hNe
        have hsz := hb.size
        by_cases hlt : q < k
        · obtain ⟨⟨v, m⟩, hE⟩ : ∃ p, E[q]? = some p := ⟨_, List.getElem?_eq_getElem (by rw [HN.out]; omega)⟩
          have hI := hO.start hlt hE
          have hvL := (hO.fut q (Nat.le_refl _) hlt v m hE).1
          have hal := hO.al
          rw [HN.out] at hal
          obtain ⟨ca, cm⟩ := all_cells hal HN.out hE
          have HE : Hid (E[q]? = some (v, m)) := hE
          have j1 : (0 : Int) ≤ (q : Int) := by omega
          have j2 : (q : Int) < (N : Int) := by omega
          clear hE hal hO
          go_wp2_with fail
          go_loopw [0, 7, 8] (fun a0 l ii w' => ∃ (i N' A' cap' nl : Nat) (E' : List (Value × Nat)), i ≤ 3 ∧ ii = .int .i64 i ∧ a0 = .slice (some ⟨A', 0, none⟩) N' cap' ∧ N + i ≤ N' ∧ N' ≤ N + i ∧ Hid (E'.length = N') ∧ Hid (E'[q]? = some (v, m)) ∧ nl ≤ L + i ∧ Hid (¬ S A') ∧ Off S E' ∧ Hid (∀ g, l.ownBlock = some g → ¬ S g) ∧ Kept S w w' ∧ Inv w' B A' cap' E' l nl m q k L) (fun _ _ ii _ => (3 - intOf ii).toNat)
          case atStart => exact ⟨0, N, A, cap, _, E, by omega, rfl, rfl, by omega, by omega, HN, HE, by omega, hA0, hOff, fun g hg => hOff v m g (List.mem_of_getElem? HE.out) hg, hb, hI⟩
          case round =>
            clear hI hb ca cm HE HN hsz hA0 hOff
            obtain ⟨i, N', A, cap, nl, E, hi, rfl, rfl, hN1, hN2, HN, HE, hnl, hA0, hOff, hlo, hb, hI⟩ := hrel
            have hsz := hb.size
            have hal := hI.al
            rw [HN.out] at hal
            obtain ⟨ca, cm⟩ := all_cells hal HN.out HE.out
            have j3 : (q : Int) < (N' : Int) := by omega
            clear hal j2
            by_cases hi3 : i < 3
            · go_wp2_with (at_builtin; refine wpList_append_two _ rfl (.tmp 54) (.tmp 60) 27 rfl B 5 i5 (.int .u8 0) 1 1 Try.underlying27 hi5 hz50 hz51 hz52 rfl (by decide) _ _ _ rfl (hI.own.alloc _) ⟨wr.heap.size, 0, none⟩ 1 1 [.int .u8 (m : Nat)] rfl rfl ?c1 ?c2 (by decide) ?c3 ?c4 ?c5 ?_)
              case c1 => exact cell_one_new _ _ _
              case c2 => intro u hu; simp at hu; subst hu; rfl
              case c3 => unfold maxLen; omega
              case c4 => omega
              case c5 => simp; omega
              intro g cap1 w1 ho1 hc1
              have hc1' : (u7 = .slice (some ⟨g, 0, none⟩) nl cap1 ∧ (wr.alloc (.cells #[.int .u8 (m : Nat)] 5)).grownBy w1 (some g)) ∨ ((wr.alloc (.cells #[.int .u8 (m : Nat)] 5)).heap.size ≤ g ∧ (wr.alloc (.cells #[.int .u8 (m : Nat)] 5)).grownBy w1 none) := by
                rcases hc1 with h | ⟨h1, h2⟩
                · exact .inl h
                · exact .inr ⟨by simpa using h1, h2⟩
              have hI1 : Inv w1 B A cap E (.slice (some ⟨g, 0, none⟩) (nl + 1) cap1) (nl + 1) m q k L := (hI.below ((Below.refl _ _).alloc (Nat.le_refl _) _)).push ho1 hc1'
              have hgS : Hid (¬ S g) := by
                rcases hc1 with ⟨hl, _⟩ | ⟨hg0, _⟩
                · exact hlo.out g (by rw [hl]; rfl)
                · intro hSg; have := hS.out g hSg; omega
              have hb1 : Kept S w w1 := by
                rcases hc1 with ⟨hl, hg⟩ | ⟨hg0, hg⟩
                · refine Kept.grown (hb.alloc hS.out _) hS.out hg ?_
                  intro g' hg'
                  cases hg'
                  exact hgS.out
                · exact Kept.grown (hb.alloc hS.out _) hS.out hg (fun g' hg' => by cases hg')
              have hsz1 := hb1.size
              have hal1 := hI1.al
              rw [HN.out] at hal1
              obtain ⟨ca1, cm1⟩ := all_cells hal1 HN.out HE.out
              clear hI hb ca cm ho1 hc1 hc1' hsz
              go_wp2_with (at_builtin; refine wpList_append_two _ rfl (.tmp 62) (.tmp 70) 35 rfl B 34 i34 (.agg #[.slice none 0 0, .int .u8 0]) 2 32 Try.underlying35 hi34 hz340 hz341 hz342 rfl (by decide) _ _ _ rfl (hal1.alloc _) ⟨w1.heap.size, 0, none⟩ 1 1 [.slice (some ⟨g, 0, none⟩) (nl + 1) cap1, .int .u8 (m : Nat)] rfl rfl ?d1 ?d2 (by decide) ?d3 ?d4 ?d5 ?_)
              case d1 => exact World.news_of_block (heap_alloc_new w1 _)
              case d2 => intro u hu; simp at hu; rcases hu with rfl | rfl <;> rfl
              case d3 => unfold maxLen; omega
              case d4 => omega
              case d5 => simp; omega
              intro g2 cap2 w2 ho2 hc2
              have hI2 : Inv w2 B g2 cap2 (E ++ [(.slice (some ⟨g, 0, none⟩) (nl + 1) cap1, m)]) (.slice (some ⟨g, 0, none⟩) (nl + 1) cap1) (nl + 1) m q k L := by
                refine (hI1.below ((Below.refl _ _).alloc (Nat.le_refl _) (.cells #[.slice (some ⟨g, 0, none⟩) (nl + 1) cap1, .int .u8 (m : Nat)] 34))).lay (by omega) (by rw [HN.out]; omega) (by rw [HN.out]; exact ho2) ?_
                rcases hc2 with ⟨hl, hg⟩ | ⟨hg0, hg⟩
                · left
                  have hA : A = g2 := hl.1
                  rw [hA]; exact hg
                · right; exact hg
              have hA2 : Hid (¬ S g2) := by
                rcases hc2 with ⟨hl, _⟩ | ⟨hg0, _⟩
                · have hA : A = g2 := hl.1
                  rw [← hA]; exact hA0.out
                · intro hSg; have := hS.out g2 hSg; omega
              have hb2 : Kept S w w2 := by
                rcases hc2 with ⟨hl, hg⟩ | ⟨hg0, hg⟩
                · refine Kept.grown (hb1.alloc hS.out _) hS.out hg ?_
                  intro g' hg'
                  cases hg'
                  exact hA2.out
                · exact Kept.grown (hb1.alloc hS.out _) hS.out hg (fun g' hg' => by cases hg')
              have hOff2 : Off S (E ++ [((.slice (some ⟨g, 0, none⟩) (nl + 1) cap1 : Value), m)]) := by
                intro v' m' g' hm hv
                simp only [List.mem_append, List.mem_cons, List.not_mem_nil, or_false, Prod.mk.injEq] at hm
                rcases hm with hm | ⟨rfl, rfl⟩
                · exact hOff v' m' g' hm hv
                · simp only [Value.ownBlock, Option.some.injEq] at hv; rw [← hv]; exact hgS.out
              have hlo2 : Hid (∀ g', (.slice (some ⟨g, 0, none⟩) (nl + 1) cap1 : Value).ownBlock = some g' → ¬ S g') := by
                intro g' hv
                simp only [Value.ownBlock, Option.some.injEq] at hv; rw [← hv]; exact hgS.out
              have HN2 : Hid ((E ++ [((.slice (some ⟨g, 0, none⟩) (nl + 1) cap1 : Value), m)]).length = N' + 1) := by show _ = _; rw [List.length_append, HN.out]; rfl
              have HE2 : Hid ((E ++ [((.slice (some ⟨g, 0, none⟩) (nl + 1) cap1 : Value), m)])[q]? = some (v, m)) := by show _ = _; rw [List.getElem?_append_left (by rw [HN.out]; omega)]; exact HE.out
              clear hI1 hb1 ca1 cm1 ho2 hc2 hsz1 hal1
              go_wp2_with fail
              go_roundw
              case rel => exact ⟨i + 1, N' + 1, g2, cap2, nl + 1, _, by omega, by go_num, rfl, by omega, by omega, HN2, HE2, by omega, hA2, hOff2, hlo2, hb2, hI2⟩
              case measure => simp [intOf]; omega
            · go_wp2_with fail
              go_roundw
              case rel => exact ⟨q + 1, N', A, cap, E, by omega, by go_num, rfl, by omega, HN, hA0, hOff, hb, hI.stop⟩
              case measure => simp [intOf]; omega
        · go_wp2_with fail
          go_loopw [9] (fun kk w' => ∃ t : Nat, t ≤ N ∧ kk = .int .i64 t ∧ Kept S w w' ∧ Out w' B A cap E q k L) (fun kk _ => (N - intOf kk).toNat)
          case atStart => exact ⟨0, by omega, rfl, hb, hO⟩
          case round =>
            clear hb hO hsz
            obtain ⟨t, ht, rfl, hb, hO⟩ := hrel
            by_cases htN : t < N
            · obtain ⟨⟨v, m⟩, hE⟩ : ∃ p, E[t]? = some p := ⟨_, List.getElem?_eq_getElem (by rw [HN.out]; omega)⟩
              obtain ⟨a, r, c, rfl, ha⟩ : ∃ a r c, v = .slice a r c ∧ (0 < r → ∃ g, a = some ⟨g, 0, none⟩) := by
                obtain ⟨r, _, ho⟩ := hO.ents v m (List.mem_of_getElem? hE)
                rcases ho.2 with ⟨rfl, rfl⟩ | ⟨g, c, cur, rfl, _⟩
                · exact ⟨_, _, _, rfl, fun h => by omega⟩
                · exact ⟨_, _, _, rfl, fun _ => ⟨g, rfl⟩⟩
              have hrL : r ≤ L + 3 := by obtain ⟨r', hr', ho⟩ := hO.ents _ m (List.mem_of_getElem? hE); have := owns_vlen ho; simp [vlen] at this; omega
              have j1 : (0 : Int) ≤ (t : Int) := by omega
              have j2 : (t : Int) < (N : Int) := by omega
              by_cases hr0 : 0 < r
              · obtain ⟨g, rfl⟩ := ha hr0
                have HE : Hid (E[t]? = some (.slice (some ⟨g, 0, none⟩) r c, m)) := hE
                clear hE ha
                go_wp2_with fail
                go_loopw [10] (fun ii w' => ∃ i : Nat, i ≤ r ∧ ii = .int .i64 i ∧ Kept S w w' ∧ Out w' B A cap E q k L) (fun ii _ => (r - intOf ii).toNat)
                case atStart => exact ⟨0, by omega, rfl, hb, hO⟩
                case round =>
                  clear hO hb
                  obtain ⟨i, hi, rfl, hb, hO⟩ := hrel
                  have hal := hO.al
                  rw [HN.out] at hal
                  obtain ⟨ca, cm⟩ := all_cells hal HN.out HE.out
                  clear hal
                  by_cases hir : i < r
                  · have j3 : (0 : Int) ≤ (i : Int) := by omega
                    have j4 : (i : Int) < (r : Int) := by omega
                    have c0 : wr.cell? ⟨g, i, none⟩ = some (.int .u8 (m : Nat)) := by
                      obtain ⟨r', hr', ho⟩ := hO.ents _ m (List.mem_of_getElem? HE.out)
                      have := owns_vlen ho; simp only [vlen] at this; subst this
                      rw [ho.cellAt i (by omega), List.getElem?_replicate, if_pos hir]
                    have hmm : ((m : Int) != (m : Int)) = false := by simp
                    have HO := hO
                    clear hO
                    go_wp2_with fail
                    go_region
                    all_goals
                      go_wp2_with fail
                      go_roundw
                      case rel => exact ⟨i + 1, by omega, by go_num, hb.drew, ⟨HO.al, HO.ents, HO.fut⟩⟩
                      case measure => simp [intOf]; omega
                  · go_wp2_with fail
                    go_roundw
                    case rel => exact ⟨t + 1, by omega, by go_num, hb, hO⟩
                    case measure => simp [intOf]; omega
              · have hr00 : r = 0 := by omega
                subst hr00
                have hal := hO.al
                rw [HN.out] at hal
                obtain ⟨ca, cm⟩ := all_cells hal HN.out hE
                clear hE ha hal
                go_wp2_with fail
                refine wp_loop_rounds 1 ?_
                rw [rounds_succ]
                go_wp2_with fail
                go_roundw
                case rel => exact ⟨t + 1, by omega, by go_num, hb, hO⟩
                case measure => simp [intOf]; omega
            · go_wp2_with fail
              go_ret
              exact ⟨rfl, hb⟩
end Go.Proofs.Ytlaoaiffgbdnpaa
