import Derived.Test.YtlaoaiffgbdnpaaMix1
import Derived.Handy
namespace Go.Proofs.Ytlaoaiffgbdnpaa
open Go.RowKit

structure Ph (w : World) (B A cap : Nat) (E : List (Value × Nat)) (k i L : Nat) : Prop where
  al : w.ownsRow B 34 2 (.slice (some ⟨A, 0, none⟩) E.length cap) E.length (flat E)
  ents : ∀ (j : Nat) (v : Value) (m : Nat), E[j]? = some (v, m) → ∃ q, q ≤ L ∧ ∃ xs, w.ownsRow B 5 1 v q xs ∧ (j < k → xs = List.replicate q (B8 m)) ∧ (j = k → ∀ t, t < i → t < q → xs[t]? = some (B8 m))
  dist : ∀ (j j' : Nat) (v : Value) (m : Nat) (v' : Value) (m' g : Nat), j ≠ j' → E[j]? = some (v, m) → E[j']? = some (v', m') → v.ownBlock = some g → v'.ownBlock ≠ some g

theorem Ph.drew {w : World} {B A cap : Nat} {E : List (Value × Nat)} {k i L : Nat} (h : Ph w B A cap E k i L) : Ph w.drew B A cap E k i L :=
  ⟨h.al.drew, fun j v m hj => by obtain ⟨q, hq, xs, ho, r⟩ := h.ents j v m hj; exact ⟨q, hq, xs, ho.drew, r⟩, h.dist⟩

theorem Ph.store {w : World} {B A cap : Nat} {E : List (Value × Nat)} {k i L g q c m : Nat} (h : Ph w B A cap E k i L) (hE : E[k]? = some (.slice (some ⟨g, 0, none⟩) q c, m)) :
    Ph (w.setCell ⟨g, i, none⟩ (B8 m)) B A cap E k (i + 1) L := by
  obtain ⟨q', hq', xs0, ho0, h01, h02⟩ := h.ents k _ m hE
  have hqq : q = q' := by have := owns_vlen ho0; simpa [vlen] using this
  subst hqq
  refine ⟨?_, ?_, h.dist⟩
  · exact ownsRow_setCell_other (a := ⟨g, i, none⟩) h.al (owns_types ho0 h.al (by decide) rfl) _
  · intro j v m' hj
    by_cases e : j = k
    · subst e
      rw [hE] at hj
      simp only [Option.some.injEq, Prod.mk.injEq] at hj
      obtain ⟨rfl, rfl⟩ := hj
      refine ⟨q, hq', xs0.set i (B8 m), (ho0.stored i _).1, fun h => absurd h (by omega), ?_⟩
      intro _ t ht htq
      have hl : xs0.length = q := by have := ho0.1; omega
      rw [List.getElem?_set]
      by_cases e2 : i = t
      · subst e2; rw [if_pos rfl, if_pos (by omega)]
      · rw [if_neg e2]; exact h02 rfl t (by omega) htq
    · obtain ⟨q', hq2, xs, ho, h1, h2⟩ := h.ents j v m' hj
      refine ⟨q', hq2, xs, ownsRow_setCell_other (a := ⟨g, i, none⟩) ho (h.dist k j _ m v m' g (fun e' => e e'.symm) hE hj rfl) _, h1, fun e' => absurd e' e⟩

theorem Ph.next {w : World} {B A cap : Nat} {E : List (Value × Nat)} {k i L m : Nat} {v : Value} (h : Ph w B A cap E k i L) (hE : E[k]? = some (v, m)) (hi : vlen v ≤ i) : Ph w B A cap E (k + 1) 0 L := by
  refine ⟨h.al, ?_, h.dist⟩
  intro j v' m' hj
  obtain ⟨q, hq, xs, ho, h1, h2⟩ := h.ents j v' m' hj
  refine ⟨q, hq, xs, ho, ?_, fun _ t ht => by omega⟩
  intro hlt
  by_cases e : j = k
  · subst e
    rw [hE] at hj
    cases hj
    have hv := owns_vlen ho
    have hl : xs.length = q := by have := ho.1; omega
    apply List.ext_getElem?
    intro t
    by_cases ht : t < q
    · rw [h2 rfl t (by omega) ht, List.getElem?_replicate, if_pos ht]
    · rw [List.getElem?_eq_none (by omega), List.getElem?_eq_none (by simp; omega)]
  · exact h1 (by omega)

theorem Ph.out {w : World} {B A cap : Nat} {E : List (Value × Nat)} {L : Nat} (h : Ph w B A cap E E.length 0 L) : Out w B A cap E 0 E.length L := by
  refine ⟨h.al, ?_, ?_⟩
  · intro v m hm
    obtain ⟨j, hj⟩ := List.getElem?_of_mem hm
    obtain ⟨q, hq, xs, ho, h1, _⟩ := h.ents j v m hj
    have hlt : j < E.length := (List.getElem?_eq_some_iff.1 hj).1
    refine ⟨q, by omega, ?_⟩
    rw [← h1 hlt]; exact ho
  · intro j _ hjn v m hj
    obtain ⟨q, hq, xs, ho, _⟩ := h.ents j v m hj
    refine ⟨by rw [owns_vlen ho]; exact hq, ?_⟩
    intro g hg j' v' m' hne hj'
    exact h.dist j j' v m v' m' g (Ne.symm hne) hj hj' hg

theorem all_cells {w : World} {B A cap n : Nat} {E : List (Value × Nat)} {k m : Nat} {v : Value} (h : w.ownsRow B 34 2 (.slice (some ⟨A, 0, none⟩) n cap) n (flat E)) (hn : E.length = n) (hE : E[k]? = some (v, m)) :
    w.cell? ⟨A, k * 2, none⟩ = some v ∧ w.cell? ⟨A, k * 2 + 1, none⟩ = some (.int .u8 (m : Nat)) := by
  have hk : k < E.length := (List.getElem?_eq_some_iff.1 hE).1
  have hf := flat_at E k v m hE
  exact ⟨by rw [h.cellAt _ (by omega)]; exact hf.1, by rw [h.cellAt _ (by omega)]; exact hf.2⟩

theorem info34 : (Try.prog.info? 34).map (fun i => (i.zero, i.size, i.bytes)) = some (some (.agg #[.slice none 0 0, .int .u8 0]), 2, 32) := by kernel_rfl

set_option maxHeartbeats 2000000 in
theorem mixed_any (B A cap n L : Nat) (E : List (Value × Nat)) (w : World) (hB : B ≤ w.heap.size) (hn : E.length = n) (hn0 : n ≤ 1000) (hL : L ≤ 140737488355324) (hP : Ph w B A cap E 0 0 L) :
    Calls Try.prog 17 #[.slice (some ⟨A, 0, none⟩) n cap] w fun e w' => e = .returned (.bool false) ∧ Below B w w' := by
  have HN : Hid (E.length = n) := hn
  clear hn
  go_enter Try.func17, Try.ntmps17
  go_wp2
  go_loopw [4] (fun kk w' => ∃ k : Nat, k ≤ n ∧ kk = .int .i64 k ∧ Below B w w' ∧ Ph w' B A cap E k 0 L) (fun kk _ => (n - intOf kk).toNat)
  case atStart => exact ⟨0, by omega, rfl, Below.refl _ _, hP⟩
  case round =>
    clear hP
    obtain ⟨k, hk, rfl, hb, hP⟩ := hrel
    by_cases hlt : k < n
    · obtain ⟨⟨v, m⟩, hE⟩ : ∃ p, E[k]? = some p := ⟨_, List.getElem?_eq_getElem (by rw [HN.out]; exact hlt)⟩
      obtain ⟨a, q, c, rfl, ha⟩ : ∃ a q c, v = .slice a q c ∧ (0 < q → ∃ g, a = some ⟨g, 0, none⟩) := by
        obtain ⟨q, _, xs, ho, _⟩ := hP.ents k v m hE
        rcases ho.2 with ⟨rfl, rfl⟩ | ⟨g, c, cur, rfl, _⟩
        · exact ⟨_, _, _, rfl, fun h => by omega⟩
        · exact ⟨_, _, _, rfl, fun _ => ⟨g, rfl⟩⟩
      have hqL : q ≤ L := by obtain ⟨q', hq', xs, ho, _⟩ := hP.ents k _ m hE; have := owns_vlen ho; simp [vlen] at this; omega
      by_cases hq0 : 0 < q
      · obtain ⟨g, rfl⟩ := ha hq0
        have HE : Hid (E[k]? = some (.slice (some ⟨g, 0, none⟩) q c, m)) := hE
        clear hE ha
        go_wp2
        go_loopw [5] (fun ii w' => ∃ i : Nat, i ≤ q ∧ ii = .int .i64 i ∧ Below B w w' ∧ Ph w' B A cap E k i L) (fun ii _ => (q - intOf ii).toNat)
        case atStart => exact ⟨0, by omega, rfl, hb, hP⟩
        case round =>
          clear hP hb
          obtain ⟨i, hi, rfl, hb, hP⟩ := hrel
          have hal := hP.al
          rw [HN.out] at hal
          obtain ⟨ca, cm⟩ := all_cells hal HN.out HE.out
          have j1 : (0 : Int) ≤ (k : Int) := by omega
          have j2 : (k : Int) < (n : Int) := by omega
          clear hal
          by_cases hiq : i < q
          · have j3 : (0 : Int) ≤ (i : Int) := by omega
            have j4 : (i : Int) < (q : Int) := by omega
            obtain ⟨v0, c0, f0, hBg⟩ : ∃ v0, wr.cell? ⟨g, i, none⟩ = some v0 ∧ wr.frozen? ⟨g, i, none⟩ = false ∧ B ≤ g := by
              obtain ⟨q', hq', xs, ho, _⟩ := hP.ents k _ m HE.out
              have := owns_vlen ho; simp only [vlen] at this; subst this
              have hl : xs.length = q := by have := ho.1; omega
              exact ⟨_, by rw [ho.cellAt i (by omega)]; exact List.getElem?_eq_getElem (by omega), ho.frozenAt i, (ho.lt g rfl).1⟩
            have HP := hP
            clear hP
            go_wp2_with fail
            go_region
            all_goals
              go_wp2_with fail
              go_roundw
              case rel => exact ⟨i + 1, by omega, by go_num, (hb.setCell (by simpa using hBg) _).drew, (HP.store HE.out).drew⟩
              case measure => simp [intOf]; omega
          · go_wp2_with fail
            go_roundw
            case rel => exact ⟨k + 1, by omega, by go_num, hb, hP.next HE.out (by simp only [vlen]; omega)⟩
            case measure => simp [intOf]; omega
      · have hq00 : q = 0 := by omega
        subst hq00
        have HE : Hid (E[k]? = some (.slice a 0 c, m)) := hE
        have hal := hP.al
        rw [HN.out] at hal
        obtain ⟨ca, cm⟩ := all_cells hal HN.out hE
        have j1 : (0 : Int) ≤ (k : Int) := by omega
        have j2 : (k : Int) < (n : Int) := by omega
        clear hE ha hal
        go_wp2
        refine wp_loop_rounds 1 ?_
        rw [rounds_succ]
        go_wp2_with fail
        go_roundw
        case rel => exact ⟨k + 1, by omega, by go_num, hb, hP.next HE.out (by simp only [vlen]; omega)⟩
        case measure => simp [intOf]; omega
    · obtain rfl : k = n := by omega
      have hO : Out wr B A cap E 0 k L := by
        have h := hP
        rw [← HN.out] at h
        have h2 := h.out
        rw [HN.out] at h2
        exact h2
      clear hP hk hlt
      obtain ⟨i5, hi5, hz50, hz51, hz52⟩ := info_parts info5
      obtain ⟨i34, hi34, hz340, hz341, hz342⟩ := info_parts info34
      have hsz := hb.size
      go_wp2_with fail
      go_loopw [0, 6] (fun a0 kk w' => ∃ (q N A' cap' : Nat) (E' : List (Value × Nat)), q ≤ k ∧ kk = .int .i64 q ∧ a0 = .slice (some ⟨A', 0, none⟩) N cap' ∧ N = k + 3 * q ∧ Hid (E'.length = N) ∧ Below B w w' ∧ Out w' B A' cap' E' q k L) (fun _ kk _ => (k - intOf kk).toNat)
      case atStart => exact ⟨0, k, A, cap, E, by omega, rfl, rfl, by omega, HN.out, hb, hO⟩
      case round =>
        clear hO hb HN
        obtain ⟨q, N, A, cap, E, hq, rfl, rfl, hNe, HN, hb, hO⟩ := hrel
        have hNl : k + 3 * q ≤ N := by omega
        have hNu : N ≤ k + 3 * q := by omega
        clear hNe
        have hsz := hb.size
        by_cases hlt : q < k
        · obtain ⟨⟨v, m⟩, hE⟩ : ∃ p, E[q]? = some p := ⟨_, List.getElem?_eq_getElem (by rw [HN.out]; omega)⟩
          have hI := hO.start hlt hE
          have hvL := (hO.fut q (Nat.le_refl _) hlt v m hE).1
          have hal := hO.al
          rw [HN.out] at hal
          obtain ⟨ca, cm⟩ := all_cells hal HN.out hE
          have HE : Hid (E[q]? = some (v, m)) := hE
          have j1 : (0 : Int) ≤ (q : Int) := by omega
          have j2 : (q : Int) < (N : Int) := by omega
          clear hE hal hO
          go_wp2_with fail
          go_loopw [0, 7, 8] (fun a0 l ii w' => ∃ (i N' A' cap' nl : Nat) (E' : List (Value × Nat)), i ≤ 3 ∧ ii = .int .i64 i ∧ a0 = .slice (some ⟨A', 0, none⟩) N' cap' ∧ N + i ≤ N' ∧ N' ≤ N + i ∧ Hid (E'.length = N') ∧ Hid (E'[q]? = some (v, m)) ∧ nl ≤ L + i ∧ Below B w w' ∧ Inv w' B A' cap' E' l nl m q k L) (fun _ _ ii _ => (3 - intOf ii).toNat)
          case atStart => exact ⟨0, N, A, cap, _, E, by omega, rfl, rfl, by omega, by omega, HN, HE, by omega, hb, hI⟩
          case round =>
            clear hI hb ca cm HE HN hsz
            obtain ⟨i, N', A, cap, nl, E, hi, rfl, rfl, hN1, hN2, HN, HE, hnl, hb, hI⟩ := hrel
            have hsz := hb.size
            have hal := hI.al
            rw [HN.out] at hal
            obtain ⟨ca, cm⟩ := all_cells hal HN.out HE.out
            have j3 : (q : Int) < (N' : Int) := by omega
            clear hal j2
            by_cases hi3 : i < 3
            · go_wp2_with (at_builtin; refine wpList_append_two _ rfl (.tmp 54) (.tmp 60) 27 rfl B 5 i5 (.int .u8 0) 1 1 Try.underlying27 hi5 hz50 hz51 hz52 rfl (by decide) _ _ _ rfl (hI.own.alloc _) ⟨wr.heap.size, 0, none⟩ 1 1 [.int .u8 (m : Nat)] rfl rfl ?c1 ?c2 (by decide) ?c3 ?c4 ?c5 ?_)
              case c1 => exact cell_one_new _ _ _
              case c2 => intro u hu; simp at hu; subst hu; rfl
              case c3 => unfold maxLen; omega
              case c4 => omega
              case c5 => simp; omega
              intro g cap1 w1 ho1 hc1
              have hc1' : (u7 = .slice (some ⟨g, 0, none⟩) nl cap1 ∧ (wr.alloc (.cells #[.int .u8 (m : Nat)] 5)).grownBy w1 (some g)) ∨ ((wr.alloc (.cells #[.int .u8 (m : Nat)] 5)).heap.size ≤ g ∧ (wr.alloc (.cells #[.int .u8 (m : Nat)] 5)).grownBy w1 none) := by
                rcases hc1 with h | ⟨h1, h2⟩
                · exact .inl h
                · exact .inr ⟨by simpa using h1, h2⟩
              have hI1 : Inv w1 B A cap E (.slice (some ⟨g, 0, none⟩) (nl + 1) cap1) (nl + 1) m q k L := (hI.below ((Below.refl _ _).alloc (Nat.le_refl _) _)).push ho1 hc1'
              have hb1 : Below B w w1 := by
                rcases hc1 with ⟨hl, hg⟩ | ⟨hg0, hg⟩
                · refine Below.grown (hb.alloc (by omega) _) hg (by simp; omega) ?_
                  intro g' hg'
                  cases hg'
                  exact (hI1.own.lt g rfl).1
                · exact Below.grown (hb.alloc (by omega) _) hg (by simp; omega) (fun g' hg' => by cases hg')
              have hsz1 := hb1.size
              have hal1 := hI1.al
              rw [HN.out] at hal1
              obtain ⟨ca1, cm1⟩ := all_cells hal1 HN.out HE.out
              clear hI hb ca cm ho1 hc1 hc1' hsz
              go_wp2_with (at_builtin; refine wpList_append_two _ rfl (.tmp 62) (.tmp 70) 35 rfl B 34 i34 (.agg #[.slice none 0 0, .int .u8 0]) 2 32 Try.underlying35 hi34 hz340 hz341 hz342 rfl (by decide) _ _ _ rfl (hal1.alloc _) ⟨w1.heap.size, 0, none⟩ 1 1 [.slice (some ⟨g, 0, none⟩) (nl + 1) cap1, .int .u8 (m : Nat)] rfl rfl ?d1 ?d2 (by decide) ?d3 ?d4 ?d5 ?_)
              case d1 => exact World.news_of_block (heap_alloc_new w1 _)
              case d2 => intro u hu; simp at hu; rcases hu with rfl | rfl <;> rfl
              case d3 => unfold maxLen; omega
              case d4 => omega
              case d5 => simp; omega
              intro g2 cap2 w2 ho2 hc2
              have hI2 : Inv w2 B g2 cap2 (E ++ [(.slice (some ⟨g, 0, none⟩) (nl + 1) cap1, m)]) (.slice (some ⟨g, 0, none⟩) (nl + 1) cap1) (nl + 1) m q k L := by
                refine (hI1.below ((Below.refl _ _).alloc (Nat.le_refl _) (.cells #[.slice (some ⟨g, 0, none⟩) (nl + 1) cap1, .int .u8 (m : Nat)] 34))).lay (by omega) (by rw [HN.out]; omega) (by rw [HN.out]; exact ho2) ?_
                rcases hc2 with ⟨hl, hg⟩ | ⟨hg0, hg⟩
                · left
                  have hA : A = g2 := hl.1
                  rw [hA]; exact hg
                · right; exact hg
              have hb2 : Below B w w2 := by
                rcases hc2 with ⟨hl, hg⟩ | ⟨hg0, hg⟩
                · refine Below.grown (hb1.alloc (by omega) _) hg (by simp; omega) ?_
                  intro g' hg'
                  cases hg'
                  exact (hI2.al.lt g2 rfl).1
                · exact Below.grown (hb1.alloc (by omega) _) hg (by simp; omega) (fun g' hg' => by cases hg')
              have HN2 : Hid ((E ++ [((.slice (some ⟨g, 0, none⟩) (nl + 1) cap1 : Value), m)]).length = N' + 1) := by show _ = _; rw [List.length_append, HN.out]; rfl
              have HE2 : Hid ((E ++ [((.slice (some ⟨g, 0, none⟩) (nl + 1) cap1 : Value), m)])[q]? = some (v, m)) := by show _ = _; rw [List.getElem?_append_left (by rw [HN.out]; omega)]; exact HE.out
              clear hI1 hb1 ca1 cm1 ho2 hc2 hsz1 hal1
              go_wp2_with fail
              go_roundw
              case rel => exact ⟨i + 1, N' + 1, g2, cap2, nl + 1, _, by omega, by go_num, rfl, by omega, by omega, HN2, HE2, by omega, hb2, hI2⟩
              case measure => simp [intOf]; omega
            · go_wp2_with fail
              go_roundw
              case rel => exact ⟨q + 1, N', A, cap, E, by omega, by go_num, rfl, by omega, HN, hb, hI.stop⟩
              case measure => simp [intOf]; omega
        · go_wp2_with fail
          go_loopw [9] (fun kk w' => ∃ t : Nat, t ≤ N ∧ kk = .int .i64 t ∧ Below B w w' ∧ Out w' B A cap E q k L) (fun kk _ => (N - intOf kk).toNat)
          case atStart => exact ⟨0, by omega, rfl, hb, hO⟩
          case round =>
            clear hb hO hsz
            obtain ⟨t, ht, rfl, hb, hO⟩ := hrel
            by_cases htN : t < N
            · obtain ⟨⟨v, m⟩, hE⟩ : ∃ p, E[t]? = some p := ⟨_, List.getElem?_eq_getElem (by rw [HN.out]; omega)⟩
              obtain ⟨a, r, c, rfl, ha⟩ : ∃ a r c, v = .slice a r c ∧ (0 < r → ∃ g, a = some ⟨g, 0, none⟩) := by
                obtain ⟨r, _, ho⟩ := hO.ents v m (List.mem_of_getElem? hE)
                rcases ho.2 with ⟨rfl, rfl⟩ | ⟨g, c, cur, rfl, _⟩
                · exact ⟨_, _, _, rfl, fun h => by omega⟩
                · exact ⟨_, _, _, rfl, fun _ => ⟨g, rfl⟩⟩
              have hrL : r ≤ L + 3 := by obtain ⟨r', hr', ho⟩ := hO.ents _ m (List.mem_of_getElem? hE); have := owns_vlen ho; simp [vlen] at this; omega
              have j1 : (0 : Int) ≤ (t : Int) := by omega
              have j2 : (t : Int) < (N : Int) := by omega
              by_cases hr0 : 0 < r
              · obtain ⟨g, rfl⟩ := ha hr0
                have HE : Hid (E[t]? = some (.slice (some ⟨g, 0, none⟩) r c, m)) := hE
                clear hE ha
                go_wp2_with fail
                go_loopw [10] (fun ii w' => ∃ i : Nat, i ≤ r ∧ ii = .int .i64 i ∧ Below B w w' ∧ Out w' B A cap E q k L) (fun ii _ => (r - intOf ii).toNat)
                case atStart => exact ⟨0, by omega, rfl, hb, hO⟩
                case round =>
                  clear hO hb
                  obtain ⟨i, hi, rfl, hb, hO⟩ := hrel
                  have hal := hO.al
                  rw [HN.out] at hal
                  obtain ⟨ca, cm⟩ := all_cells hal HN.out HE.out
                  clear hal
                  by_cases hir : i < r
                  · have j3 : (0 : Int) ≤ (i : Int) := by omega
                    have j4 : (i : Int) < (r : Int) := by omega
                    have c0 : wr.cell? ⟨g, i, none⟩ = some (.int .u8 (m : Nat)) := by
                      obtain ⟨r', hr', ho⟩ := hO.ents _ m (List.mem_of_getElem? HE.out)
                      have := owns_vlen ho; simp only [vlen] at this; subst this
                      rw [ho.cellAt i (by omega), List.getElem?_replicate, if_pos hir]
                    have hmm : ((m : Int) != (m : Int)) = false := by simp
                    have HO := hO
                    clear hO
                    go_wp2_with fail
                    go_region
                    all_goals
                      go_wp2_with fail
                      go_roundw
                      case rel => exact ⟨i + 1, by omega, by go_num, hb.drew, ⟨HO.al, HO.ents, HO.fut⟩⟩
                      case measure => simp [intOf]; omega
                  · go_wp2_with fail
                    go_roundw
                    case rel => exact ⟨t + 1, by omega, by go_num, hb, hO⟩
                    case measure => simp [intOf]; omega
              · have hr00 : r = 0 := by omega
                subst hr00
                have hal := hO.al
                rw [HN.out] at hal
                obtain ⟨ca, cm⟩ := all_cells hal HN.out hE
                clear hE ha hal
                go_wp2_with fail
                refine wp_loop_rounds 1 ?_
                rw [rounds_succ]
                go_wp2_with fail
                go_roundw
                case rel => exact ⟨t + 1, by omega, by go_num, hb, hO⟩
                case measure => simp [intOf]; omega
            · go_wp2_with fail
              go_ret
              exact ⟨rfl, hb⟩
end Go.Proofs.Ytlaoaiffgbdnpaa
