import Derived.Test.YtlaoaiffgbdnpaaW1
import Derived.Test.YtlaoaiffgbdnpaaGr
import Derived.Handy
import Derived.Deep.RegionHeld3
import Derived.BigRegion
namespace Go.Proofs.Ytlaoaiffgbdnpaa
open Go.RowKit

abbrev bV (a t : Nat) : Value := .int .i64 ((Gf.bt a t : Nat) : Int)
abbrev bits8 (a : Nat) : Array Value := #[bV a 0, bV a 1, bV a 2, bV a 3, bV a 4, bV a 5, bV a 6, bV a 7]

theorem bt0 (a : Nat) : (a : Int) % 2 = ((Gf.bt a 0 : Nat) : Int) := by simp [Gf.bt]
theorem bt1 (a : Nat) : (a : Int) / 2 % 2 = ((Gf.bt a 1 : Nat) : Int) := by simp [Gf.bt]
theorem bt2 (a : Nat) : (a : Int) / 2 / 2 % 2 = ((Gf.bt a 2 : Nat) : Int) := by simp [Gf.bt]; omega
theorem bt3 (a : Nat) : (a : Int) / 2 / 2 / 2 % 2 = ((Gf.bt a 3 : Nat) : Int) := by simp [Gf.bt]; omega
theorem bt4 (a : Nat) : (a : Int) / 2 / 2 / 2 / 2 % 2 = ((Gf.bt a 4 : Nat) : Int) := by simp [Gf.bt]; omega
theorem bt5 (a : Nat) : (a : Int) / 2 / 2 / 2 / 2 / 2 % 2 = ((Gf.bt a 5 : Nat) : Int) := by simp [Gf.bt]; omega
theorem bt6 (a : Nat) : (a : Int) / 2 / 2 / 2 / 2 / 2 / 2 % 2 = ((Gf.bt a 6 : Nat) : Int) := by simp [Gf.bt]; omega
theorem bt7 (a : Nat) : (a : Int) / 2 / 2 / 2 / 2 / 2 / 2 / 2 % 2 = ((Gf.bt a 7 : Nat) : Int) := by simp [Gf.bt]; omega

set_option maxHeartbeats 1000000 in
theorem terms_any (a : Nat) (w : World) (ha : a < 256) :
    Calls Try.prog 28 #[.int .u8 a] w fun e w' => e = .returned (.agg (bits8 a)) ∧ Below w.heap.size w w' := by
  go_enter Try.func28, Try.ntmps28
  go_wp2
  refine wp_loop_rounds 9 ?_
  iterate 9 (rw [rounds_succ]; go_wp2)
  refine bodyPost_ret (v := .agg (bits8 a)) ?_ rfl ⟨rfl, ?_⟩
  · rw [bt0, bt1, bt2, bt3, bt4, bt5, bt6, bt7]
    simp [results, Try.results28, go_sem]
  · exact ((Below.refl _ _).alloc (Nat.le_refl _) _).alloc (by simp) _

structure St (w w' : World) (bp bq bl a b L : Nat) : Prop where
  below : Below w.heap.size w w'
  p : ∀ t, t < 8 → w'.cell? ⟨bp, t, none⟩ = some (.int .i64 ((Gf.bt a t : Nat) : Int))
  q : ∀ t, t < 8 → w'.cell? ⟨bq, t, none⟩ = some (.int .i64 ((Gf.bt b t : Nat) : Int))
  l : ∀ t, t < 15 → w'.cell? ⟨bl, t, none⟩ = some (.int .i64 ((Gf.bt L t : Nat) : Int))
  fz : ∀ t, t < 15 → w'.frozen? ⟨bl, t, none⟩ = false
  sz : bl < w'.heap.size

theorem bits8_at (a t : Nat) (h : t < 8) : (bits8 a)[t]? = some (.int .i64 ((Gf.bt a t : Nat) : Int)) := by
  have : t = 0 ∨ t = 1 ∨ t = 2 ∨ t = 3 ∨ t = 4 ∨ t = 5 ∨ t = 6 ∨ t = 7 := by omega
  rcases this with rfl | rfl | rfl | rfl | rfl | rfl | rfl | rfl <;> rfl
abbrev zero15 : Array Value := #[.int .i64 0, .int .i64 0, .int .i64 0, .int .i64 0, .int .i64 0, .int .i64 0, .int .i64 0, .int .i64 0, .int .i64 0, .int .i64 0, .int .i64 0, .int .i64 0, .int .i64 0, .int .i64 0, .int .i64 0]
theorem zero15_at (t : Nat) (h : t < 15) : zero15[t]? = some (.int .i64 ((Gf.bt 0 t : Nat) : Int)) := by
  have : t = 0 ∨ t = 1 ∨ t = 2 ∨ t = 3 ∨ t = 4 ∨ t = 5 ∨ t = 6 ∨ t = 7 ∨ t = 8 ∨ t = 9 ∨ t = 10 ∨ t = 11 ∨ t = 12 ∨ t = 13 ∨ t = 14 := by omega
  rcases this with rfl | rfl | rfl | rfl | rfl | rfl | rfl | rfl | rfl | rfl | rfl | rfl | rfl | rfl | rfl <;> rfl

theorem st0 (w w1 w2 : World) (a b : Nat) (hb1 : Below w.heap.size w w1) (hb2 : Below (w1.alloc (.cells (bits8 a) 53)).heap.size (w1.alloc (.cells (bits8 a) 53)) w2) :
    St w ((w2.alloc (.cells (bits8 b) 53)).alloc (.cells zero15 55)) w1.heap.size w2.heap.size (w2.heap.size + 1) a b 0 := by
  have s1 := hb1.size
  have s2 := hb2.size
  simp only [World.size_alloc] at s2
  refine ⟨?_, ?_, ?_, ?_, ?_, by simp⟩
  · refine Below.alloc (Below.alloc (((hb1.alloc s1 _).trans (hb2.mono ?_))) ?_ _) ?_ _
    · simp; omega
    · omega
    · simp; omega
  · intro t ht
    rw [World.cell?_alloc_past _ _ _ (by simp; omega), World.cell?_alloc_past _ _ _ (by omega)]
    rw [hb2.cell (p := ⟨w1.heap.size, t, none⟩) (by simp)]
    rw [World.cell?_alloc_at _ _ _ _ rfl, bits8_at a t ht]
  · intro t ht
    rw [World.cell?_alloc_past _ _ _ (by simp), World.cell?_alloc_at _ _ _ _ rfl, bits8_at b t ht]
  · intro t ht
    rw [World.cell?_alloc_at _ _ _ _ (by simp), zero15_at t ht]
  · intro t _
    rw [World.frozen?_alloc_at _ _ _ _ (by simp)]

theorem St.store {w w' : World} {bp bq bl a b L : Nat} (h : St w w' bp bq bl a b L) (k e : Nat) (hk : k < 15) (he : e ≤ 1) (h1 : bp ≠ bl) (h2 : bq ≠ bl) (h3 : w.heap.size ≤ bl) :
    St w (w'.setCell ⟨bl, k, none⟩ (.int .i64 (((Gf.bt L k + e) % 2 : Nat) : Int))) bp bq bl a b (L ^^^ (e * 2 ^ k)) := by
  refine ⟨h.below.setCell h3 _, ?_, ?_, ?_, ?_, by simpa using h.sz⟩
  · intro t ht; rw [World.cell?_setCell_far _ _ _ _ (Ne.symm h1)]; exact h.p t ht
  · intro t ht; rw [World.cell?_setCell_far _ _ _ _ (Ne.symm h2)]; exact h.q t ht
  · intro t ht
    rw [Gf.bt_xor_pow _ _ _ _ he]
    by_cases e1 : t = k
    · subst e1; rw [if_pos rfl, World.cell?_setCell_same (h := h.l t ht)]
    · rw [if_neg e1, World.cell?_setCell_other (h := by intro e2; cases e2; exact e1 rfl)]; exact h.l t ht
  · intro t ht; rw [World.frozen?_setCell]; exact h.fz t ht
theorem St.drew {w w' : World} {bp bq bl a b L : Nat} (h : St w w' bp bq bl a b L) : St w w'.drew bp bq bl a b L := ⟨h.below.drew, h.p, h.q, h.l, h.fz, h.sz⟩

theorem St.alloc {w w' : World} {bp bq bl a b L : Nat} (h : St w w' bp bq bl a b L) (o : Obj) (h1 : bp < bl) (h2 : bq < bl) (h3 : w.heap.size ≤ bl) : St w (w'.alloc o) bp bq bl a b L := by
  have sz := h.sz
  refine ⟨h.below.alloc (by omega) _, ?_, ?_, ?_, ?_, by simp; omega⟩
  · intro t ht; rw [World.cell?_alloc_past _ _ _ (by omega)]; exact h.p t ht
  · intro t ht; rw [World.cell?_alloc_past _ _ _ (by omega)]; exact h.q t ht
  · intro t ht; rw [World.cell?_alloc_past _ _ _ (by omega)]; exact h.l t ht
  · intro t ht; rw [World.frozen?_alloc_past _ _ _ (by omega)]; exact h.fz t ht
theorem pw_at (t : Nat) (h : t < 5) : (#[.int .i64 8, .int .i64 4, .int .i64 3, .int .i64 2, .int .i64 0] : Array Value)[t]? = some (.int .i64 ((Gf.pw t : Nat) : Int)) := by
  have : t = 0 ∨ t = 1 ∨ t = 2 ∨ t = 3 ∨ t = 4 := by omega
  rcases this with rfl | rfl | rfl | rfl | rfl <;> rfl
theorem pw_le (t : Nat) : Gf.pw t ≤ 8 := by
  unfold Gf.pw
  rcases t with _ | _ | _ | _ | _ | t <;> simp

set_option maxHeartbeats 1000000 in
theorem refMul_any (a b : Nat) (w : World) (ha : a < 256) (hb : b < 256) :
    Calls Try.prog 10 #[.int .u8 a, .int .u8 b] w fun e w' => e = .returned (.int .u8 (Gf.refMul a b : Nat)) ∧ Below w.heap.size w w' := by
  go_enter Try.func10, Try.ntmps10
  go_wp2_with fail
  refine (terms_any _ _ ha).mono ?_
  rintro e w1 ⟨rfl, hb1⟩
  go_wp2_with fail
  refine (terms_any _ _ hb).mono ?_
  rintro e w2 ⟨rfl, hb2⟩
  go_wp2_with fail
  have hS0 := st0 w w1 w2 a b hb1 hb2
  have s1 := hb1.size
  have s2 := hb2.size
  simp only [World.size_alloc] at s2
  clear hb1 hb2
  go_loopw [8] (fun i w' => ∃ k : Nat, k ≤ 8 ∧ i = .int .i64 k ∧ St w w' w1.heap.size w2.heap.size (w2.heap.size + 1) a b (Gf.cl a b k)) (fun i _ => (8 - intOf i).toNat)
  case atStart => exact ⟨0, by omega, rfl, hS0⟩
  case round =>
    obtain ⟨k, hk, rfl, hS⟩ := hrel
    by_cases hlt : k < 8
    · go_wp2_with fail
      go_loopw [9] (fun j w' => ∃ m : Nat, m ≤ 8 ∧ j = .int .i64 m ∧ St w w' w1.heap.size w2.heap.size (w2.heap.size + 1) a b (Gf.clRow a b k m (Gf.cl a b k))) (fun j _ => (8 - intOf j).toNat)
      case atStart => exact ⟨0, by omega, rfl, hS⟩
      case round =>
        clear hS
        obtain ⟨m, hm, rfl, hS⟩ := hrel
        by_cases hmt : m < 8
        · have cp := hS.p k hlt
          have cq := hS.q m hmt
          have cL := hS.l (k + m) (by omega)
          have cf := hS.fz (k + m) (by omega)
          have i1 : (0 : Int) ≤ (k : Int) := by omega
          have i2 : (k : Int) < 8 := by omega
          have i3 : (0 : Int) ≤ (m : Int) := by omega
          have i4 : (m : Int) < 8 := by omega
          have i5 : IntKind.i64.wrap ((k : Int) + (m : Int)) = (k : Int) + (m : Int) := by simp [IntKind.wrap, IntKind.bits, IntKind.signed]; omega
          have i6 : (0 : Int) ≤ (k : Int) + (m : Int) := by omega
          have i7 : (k : Int) + (m : Int) < 15 := by omega
          have i8 : ((k : Int) + (m : Int)).toNat = k + m := by omega
          have j1 := Gf.bt_le b m
          have j2 := Gf.bt_le (Gf.clRow a b k m (Gf.cl a b k)) (k + m)
          have HS := hS
          clear hS hS0
          rcases Gf.bt_01 a k with ea | ea
          · rw [ea] at cp
            go_wp2_with fail
            go_region
            go_wp2_with fail
            go_roundw
            case rel =>
              have h := (HS.store (k + m) (Gf.bt a k * Gf.bt b m) (by omega) (by rw [ea]; omega) (by omega) (by omega) (by omega)).drew
              have e1 : (((Gf.bt (Gf.clRow a b k m (Gf.cl a b k)) (k + m) + Gf.bt a k * Gf.bt b m) % 2 : Nat) : Int) = ((Gf.bt (Gf.clRow a b k m (Gf.cl a b k)) (k + m) : Nat) : Int) % 2 := by rw [ea]; simp
              rw [e1] at h
              exact ⟨m + 1, by omega, by go_num, h⟩
            case measure => simp [intOf]; omega
          · rw [ea] at cp
            go_wp2_with fail
            go_region
            go_wp2_with fail
            go_roundw
            case rel =>
              have h := (HS.store (k + m) (Gf.bt a k * Gf.bt b m) (by omega) (by rw [ea]; omega) (by omega) (by omega) (by omega)).drew
              have e1 : (((Gf.bt (Gf.clRow a b k m (Gf.cl a b k)) (k + m) + Gf.bt a k * Gf.bt b m) % 2 : Nat) : Int) = (((Gf.bt (Gf.clRow a b k m (Gf.cl a b k)) (k + m) : Nat) : Int) + ((Gf.bt b m : Nat) : Int)) % 2 := by rw [ea]; simp
              rw [e1] at h
              exact ⟨m + 1, by omega, by go_num, h⟩
            case measure => simp [intOf]; omega
        · have hm8 : m = 8 := by omega
          subst hm8
          go_wp2_with fail
          go_roundw
          case rel => exact ⟨k + 1, by omega, by go_num, hS⟩
          case measure => simp [intOf]; omega
    · have hk8 : k = 8 := by omega
      subst hk8
      clear hlt hk hS0
      go_wp2_with fail
      go_loopw [10] (fun i w' => ∃ c n : Nat, n + c = 14 ∧ n ≤ 7 ∧ i = .int .i64 c ∧ St w w' w1.heap.size w2.heap.size (w2.heap.size + 1) a b (Gf.redGo (Gf.cl a b 8) n)) (fun i _ => (intOf i - 7).toNat)
      case atStart => exact ⟨14, 0, by omega, by omega, rfl, hS⟩
      case round =>
        clear hS
        obtain ⟨c, n, hcn, hn, rfl, hS⟩ := hrel
        by_cases hc8 : 8 ≤ c
        · generalize hL : Gf.redGo (Gf.cl a b 8) n = L at hS
          have HL : Hid (Gf.redGo (Gf.cl a b 8) n = L) := hL
          clear hL
          have cL := hS.l c (by omega)
          have i1 : (0 : Int) ≤ (c : Int) := by omega
          have i2 : (c : Int) < 15 := by omega
          rcases Gf.bt_01 L c with ea | ea
          · rw [ea] at cL
            go_wp2_with fail
            go_roundw
            case rel =>
              refine ⟨c - 1, n + 1, by omega, by omega, by go_num, ?_⟩
              have e2 : Gf.redGo (Gf.cl a b 8) (n + 1) = L := by
                simp only [Gf.redGo]; rw [HL.out, show 14 - n = c by omega]; unfold Gf.red1; rw [ea]; rfl
              rw [e2]; exact hS
            case measure => simp [intOf]; omega
          · rw [ea] at cL
            go_wp2_with fail
            go_loopw [12] (fun kk w' => ∃ q : Nat, q ≤ 5 ∧ kk = .int .i64 q ∧ St w w' w1.heap.size w2.heap.size (w2.heap.size + 1) a b (Gf.flips L (c - 8) q) ∧ ∀ t, t < 5 → w'.cell? ⟨wr.heap.size, t, none⟩ = some (.int .i64 ((Gf.pw t : Nat) : Int))) (fun kk _ => (5 - intOf kk).toNat)
            case atStart =>
              refine ⟨0, by omega, rfl, hS.alloc _ (by omega) (by omega) (by omega), ?_⟩
              intro t ht
              rw [World.cell?_alloc_at _ _ _ _ rfl, pw_at t ht]
            case round =>
              obtain ⟨q, hq, rfl, hF, hP⟩ := hrel
              by_cases hq5 : q < 5
              · have szr := hS.sz
                have cq := hP q hq5
                have pl := pw_le q
                have k1 : (0 : Int) ≤ (q : Int) := by omega
                have k2 : (q : Int) < 5 := by omega
                have k8 : ((c : Int) - 8 + ((Gf.pw q : Nat) : Int)).toNat = c - 8 + Gf.pw q := by omega
                have k9 : (0 : Int) ≤ (c : Int) - 8 + ((Gf.pw q : Nat) : Int) := by omega
                have k10 : (c : Int) - 8 + ((Gf.pw q : Nat) : Int) < 15 := by omega
                have cf := hF.l (c - 8 + Gf.pw q) (by omega)
                have cz := hF.fz (c - 8 + Gf.pw q) (by omega)
                have bl := Gf.bt_le (Gf.flips L (c - 8) q) (c - 8 + Gf.pw q)
                clear cL hS
                go_wp2_with fail
                go_roundw
                case rel =>
                  have h := hF.store (c - 8 + Gf.pw q) 1 (by omega) (by omega) (by omega) (by omega) (by omega)
                  have e1 : (((Gf.bt (Gf.flips L (c - 8) q) (c - 8 + Gf.pw q) + 1) % 2 : Nat) : Int) = 1 - ((Gf.bt (Gf.flips L (c - 8) q) (c - 8 + Gf.pw q) : Nat) : Int) := by omega
                  rw [e1] at h
                  refine ⟨q + 1, by omega, by go_num, h, ?_⟩
                  intro t ht
                  rw [World.cell?_setCell_far _ _ _ _ (by simp; omega)]
                  exact hP t ht
                case measure => simp [intOf]; omega
              · have hq5' : q = 5 := by omega
                subst hq5'
                go_wp2_with fail
                go_roundw
                case rel =>
                  refine ⟨c - 1, n + 1, by omega, by omega, by go_num, ?_⟩
                  have e2 : Gf.redGo (Gf.cl a b 8) (n + 1) = Gf.flips L (c - 8) 5 := by
                    simp only [Gf.redGo]; rw [HL.out, show 14 - n = c by omega, Gf.flips_5 _ _ (by omega)]; unfold Gf.red1; rw [if_pos ea]
                  rw [e2]; exact hF
                case measure => simp [intOf]; omega
        · have hn7 : n = 7 := by omega
          subst hn7
          have hc7 : c < 8 := by omega
          clear hcn hn
          generalize hL : Gf.redGo (Gf.cl a b 8) 7 = L at hS
          have HL : Hid (Gf.redGo (Gf.cl a b 8) 7 = L) := hL
          clear hL
          go_wp2_with fail
          go_loop [14, 15] (fun nn i => ∃ r : Nat, r ≤ 8 ∧ i = .int .i64 (7 - (r : Int)) ∧ nn = .int .i64 ((Gf.top L r : Nat) : Int)) (fun _ i => (intOf i + 1).toNat)
          case atStart => exact ⟨0, by omega, rfl, rfl⟩
          case round =>
            obtain ⟨r, hr, rfl, rfl⟩ := hrel
            have tl := Gf.top_lt L r hr
            have tl2 : 2 ^ r ≤ 2 ^ 8 := Nat.pow_le_pow_right (by decide) hr
            have tl3 : Gf.top L r < 256 := by omega
            clear tl tl2
            by_cases hr8 : r < 8
            · have cL := hS.l (7 - r) (by omega)
              have k1 : (0 : Int) ≤ 7 - (r : Int) := by omega
              have k2 : 7 - (r : Int) < 15 := by omega
              have k3 : (7 - (r : Int)).toNat = 7 - r := by omega
              have bl := Gf.bt_le L (7 - r)
              go_wp2_with fail
              go_round
              case rel => exact ⟨r + 1, by omega, by go_num, by simp only [Gf.top]; go_num⟩
              case measure => simp [intOf]; omega
            · have hr8' : r = 8 := by omega
              subst hr8'
              go_wp2_with fail
              go_ret
              refine ⟨ret_u8 ?_, hS.below⟩
              rw [Gf.top_8, ← HL.out]; rfl

theorem refMul_gm (a b : Nat) (w : World) (ha : a < 256) (hb : b < 256) :
    Calls Try.prog 10 #[.int .u8 a, .int .u8 b] w fun e w' => e = .returned (.int .u8 (Gf.gm a b : Nat)) ∧ Below w.heap.size w w' := by
  refine (refMul_any a b w ha hb).mono ?_
  rintro e w' ⟨rfl, h⟩
  exact ⟨ret_u8 (by rw [Gf.refMul_eq a b ha hb]), h⟩

set_option maxHeartbeats 400000 in
theorem refDiv_zero (a : Nat) (w : World) :
    Calls Try.prog 12 #[.int .u8 a, .int .u8 0] w fun e w' => e = .returned (.tuple #[.int .u8 0, .int .i64 1]) ∧ Below w.heap.size w w' := by
  go_enter Try.func12, Try.ntmps12
  go_wp2
  go_ret2
  exact ⟨rfl, Below.refl _ _⟩

theorem ret_u8e {a b c : Int} (h : a = b) : Ending.returned (.tuple #[.int .u8 a, .int .i64 c]) = .returned (.tuple #[.int .u8 b, .int .i64 c]) := by rw [h]

set_option maxRecDepth 100000 in
set_option maxHeartbeats 400000 in
theorem refDiv_any (a b : Nat) (w : World) (ha : a < 256) (hb : b < 256) (h0 : b ≠ 0) :
    Calls Try.prog 12 #[.int .u8 a, .int .u8 b] w fun e w' => e = .returned (.tuple #[.int .u8 (Gf.gdiv a b : Nat), .int .i64 0]) ∧ Below w.heap.size w w' := by
  have hb0 : ((b : Int) == 0) = false := by simp; omega
  have hd : Gf.gdiv a b < 256 := Gf.gm_lt _ _ ha
  go_enter Try.func12, Try.ntmps12
  go_wp2_with fail
  go_loopw [6] (fun n w' => ∃ k : Nat, k ≤ Gf.gdiv a b ∧ n = .int .i64 k ∧ Below w.heap.size w w') (fun n _ => (256 - intOf n).toNat)
  case atStart => exact ⟨0, by omega, rfl, Below.refl _ _⟩
  case round =>
    obtain ⟨k, hk, rfl, hw⟩ := hrel
    have hk8 : k < 256 := by omega
    by_cases he : k = Gf.gdiv a b
    · have hm : (((Gf.gm k b : Nat) : Int) == (a : Int)) = true := by rw [he, Gf.gdiv_mul a b ha hb h0]; simp
      have HE : Hid (k = Gf.gdiv a b) := he
      clear he
      go_wp2_with fail
      refine (refMul_gm _ _ _ hk8 hb).mono ?_
      rintro e w1 ⟨rfl, h1⟩
      go_wp2_with fail
      go_ret2
      exact ⟨ret_u8e (by rw [HE.out]), hw.trans (h1.mono hw.size)⟩
    · have hm : (((Gf.gm k b : Nat) : Int) == (a : Int)) = false := by
        have : Gf.gm k b ≠ a := fun h => he (Gf.gdiv_unique a b k ha hb hk8 h0 h)
        simp; omega
      go_wp2_with fail
      refine (refMul_gm _ _ _ hk8 hb).mono ?_
      rintro e w1 ⟨rfl, h1⟩
      go_wp2_with fail
      go_roundw
      case rel => exact ⟨k + 1, by omega, by go_num, hw.trans (h1.mono hw.size)⟩
      case measure => simp [intOf]; omega

end Go.Proofs.Ytlaoaiffgbdnpaa
