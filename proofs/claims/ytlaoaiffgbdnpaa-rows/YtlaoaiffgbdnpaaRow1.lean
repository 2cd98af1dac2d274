import Derived.Test.YtlaoaiffgbdnpaaLen2
import Derived.Test.YtlaoaiffgbdnpaaGc
namespace Go.Proofs.Ytlaoaiffgbdnpaa
open Go.RowKit
set_option linter.unusedVariables false

theorem ret_i64 {a b : Int} (h : a = b) : Ending.returned (.int .i64 a) = .returned (.int .i64 b) := by rw [h]
set_option maxHeartbeats 400000 in
theorem pick_any (v : Int) (n : Nat) (w : World) (hv : -9223372036854775808 ≤ v) (hv2 : v ≤ 9223372036854775807) (hn : 1 ≤ n) (hn2 : n ≤ 32) :
    Calls Try.prog 24 #[.int .i64 v, .int .i64 n] w fun e w' => (∃ r : Nat, r < n ∧ e = .returned (.int .i64 r)) ∧ w' = w := by
  have hz : (n : Int) ≠ 0 := by omega
  by_cases h : v < 0
  · have d : decide (v < 0) = true := decide_eq_true h
    go_enter Try.func24, Try.ntmps24
    go_wp2
    go_ret
    refine ⟨⟨((-(v + 1)) % n).toNat, ?_, ret_i64 ?_⟩, rfl⟩
    · have a := Int.emod_lt_of_pos (-(v + 1)) (show (0 : Int) < n by omega)
      omega
    · have a := Int.emod_nonneg (-(v + 1)) hz
      rw [← Int.neg_tmod, Int.tmod_eq_emod_of_nonneg (by omega)]
      omega
  · have d : decide (v < 0) = false := decide_eq_false h
    go_enter Try.func24, Try.ntmps24
    go_wp2
    go_ret
    refine ⟨⟨(v % n).toNat, ?_, ret_i64 ?_⟩, rfl⟩
    · have a := Int.emod_lt_of_pos v (show (0 : Int) < n by omega)
      omega
    · have a := Int.emod_nonneg v hz
      omega

set_option maxHeartbeats 400000 in
theorem square_any (g n c : Nat) (vs : List Value) (M : List (List Nat)) (w : World) (hn : n ≤ 32) (hV : View w g 0 n vs M) (hM : Gf.Tbl n n M) :
    Calls Try.prog 25 #[.slice (some ⟨g, 0, none⟩) n c, .int .i64 n] w fun e w' => e = .returned (.bool true) ∧ w' = w := by
  have hne : ((n : Int) != (n : Int)) = false := by simp
  go_enter Try.func25, Try.ntmps25
  go_wp2
  go_loopw [5] (fun ii w' => ∃ k : Nat, k ≤ n ∧ ii = .int .i64 k ∧ w' = w) (fun ii _ => (n - intOf ii).toNat)
  case atStart => exact ⟨0, by omega, rfl, rfl⟩
  case round =>
    obtain ⟨k, hk, rfl, rfl⟩ := hrel
    by_cases hlt : k < n
    · obtain ⟨a, cc, x, hx, _, ca, _, _, _⟩ := hV.at hlt
      have hl : x.length = n := by
        have := (hM.2 k hlt).1
        have hr : Gf.row M k = x := by simp [Gf.row, hx]
        rw [hr] at this; exact this
      rw [hl, Nat.zero_add] at ca
      have i1 : (0 : Int) ≤ (k : Int) := by omega
      have i2 : (k : Int) < (n : Int) := by omega
      clear hx hl
      go_wp2
      go_roundw
      case rel => exact ⟨k + 1, by omega, by go_num, trivial⟩
      case measure => simp [intOf]; omega
    · go_wp2
      go_ret
      exact ⟨rfl, rfl⟩

theorem cells_ent {w : World} {a : Option Addr} {x : List Nat} (h : Cells w a x) {j : Nat} (hj : j < x.length) : ∃ b o, a = some ⟨b, o, none⟩ ∧ w.cell? ⟨b, o + j, none⟩ = some (.int .u8 ((Gf.ent x j : Nat) : Int)) := by
  have hx : x[j]? = some (Gf.ent x j) := by
    have := List.getElem?_eq_getElem hj
    rw [this, Gf.ent_some this]
  exact h j _ hx

set_option maxHeartbeats 800000 in
theorem product_any (g1 g2 n c1 c2 i j : Nat) (vs1 vs2 : List Value) (A B : List (List Nat)) (w : World) (hn : n ≤ 32) (hi : i < n) (hj : j < n) (hA : Gf.Tbl n n A) (hB : Gf.Tbl n n B)
    (h1 : View w g1 0 n vs1 A) (h2 : View w g2 0 n vs2 B) :
    Calls Try.prog 41 #[.slice (some ⟨g1, 0, none⟩) n c1, .slice (some ⟨g2, 0, none⟩) n c2, .int .i64 i, .int .i64 j] w fun e w' =>
      e = .returned (.int .u8 (Gf.xsum n (fun t => Gf.gm (Gf.ent (Gf.row A i) t) (Gf.ent (Gf.row B t) j)) : Nat)) ∧ w'.heap = w.heap ∧ Below w.heap.size w w' := by
  obtain ⟨a1, cc1, x, hx, _, ca0, ea, _, _⟩ := h1.at hi
  have hrA : Gf.row A i = x := by simp [Gf.row, hx]
  have hxl := (hA.2 i hi).1
  rw [hrA] at hxl ⊢
  rw [Nat.zero_add, hxl] at ca0
  have BA : Gf.Bytes n x := by rw [← hrA]; exact hA.2 i hi
  have CA0 : Hid (w.cell? ⟨g1, i, none⟩ = some (.slice a1 n cc1)) := ca0
  have i1 : (0 : Int) ≤ (i : Int) := by omega
  have i2 : (i : Int) < (n : Int) := by omega
  have j1 : (0 : Int) ≤ (j : Int) := by omega
  have j2 : (j : Int) < (n : Int) := by omega
  obtain ⟨ba, oa, rfl, _⟩ := cells_ent ea (j := 0) (by omega)
  clear hx hrA ca0
  go_enter Try.func41, Try.ntmps41
  go_wp2
  go_loopw [9, 10] (fun ov kk w' => ∃ k : Nat, k ≤ n ∧ kk = .int .i64 k ∧ ov = .int .u8 (Gf.xsum k (fun t => Gf.gm (Gf.ent x t) (Gf.ent (Gf.row B t) j)) : Nat) ∧ Hid (w'.heap = w.heap) ∧ Below w.heap.size w w') (fun _ kk _ => (n - intOf kk).toNat)
  case atStart => exact ⟨0, by omega, rfl, rfl, rfl, Below.refl _ _⟩
  case round =>
    obtain ⟨k, hk, rfl, rfl, hh, hb⟩ := hrel
    by_cases hlt : k < n
    · obtain ⟨a2, cc2, y, hy, _, cb0, eb, _, _⟩ := h2.at hlt
      have hrB : Gf.row B k = y := by simp [Gf.row, hy]
      have hyl := (hB.2 k hlt).1
      rw [hrB] at hyl
      have BB : Gf.Bytes n y := by rw [← hrB]; exact hB.2 k hlt
      rw [Nat.zero_add, hyl] at cb0
      obtain ⟨bb, ob, rfl, cy0⟩ := cells_ent eb (j := j) (by omega)
      obtain ⟨ba', oa', e, cx0⟩ := cells_ent ea (j := k) (by omega)
      simp only [Option.some.injEq, Addr.mk.injEq, and_true] at e
      obtain ⟨rfl, rfl⟩ := e
      have up : ∀ {p : Addr} {v : Value}, w.cell? p = some v → wr.cell? p = some v := fun {p v} h => by rw [World.cell?_of_block (w := w) (by rw [hh.out])]; exact h
      have ca := up CA0.out
      have cb := up cb0
      have cx := up cx0
      have cy := up cy0
      have ux := Gf.ent_lt BA k
      have uy := Gf.ent_lt BB j
      have k1 : (0 : Int) ≤ (k : Int) := by omega
      have k2 : (k : Int) < (n : Int) := by omega
      have xl := Gf.xsum_lt k (fun t => Gf.gm (Gf.ent x t) (Gf.ent (Gf.row B t) j)) (fun t _ => Gf.gm_lt _ _ (Gf.ent_lt BA t))
      have hgl := Gf.gm_lt (Gf.ent x k) (Gf.ent y j) ux
      have hs : Hid (Gf.xsum (k + 1) (fun t => Gf.gm (Gf.ent x t) (Gf.ent (Gf.row B t) j)) = Gf.xsum k (fun t => Gf.gm (Gf.ent x t) (Gf.ent (Gf.row B t) j)) ^^^ Gf.gm (Gf.ent x k) (Gf.ent y j)) := by show _ = _; simp only [Gf.xsum]; rw [hrB]
      clear up cb0 cx0 cy0 hy hrB eb
      generalize Gf.xsum k (fun t => Gf.gm (Gf.ent x t) (Gf.ent (Gf.row B t) j)) = sm at *
      go_wp2_with fail
      go_region_held3 (fun w' => w'.cell? ⟨g1, i, none⟩ = some (.slice (some ⟨ba, oa, none⟩) n cc1) ∧ w'.cell? ⟨g2, k, none⟩ = some (.slice (some ⟨bb, ob, none⟩) n cc2) ∧ w'.cell? ⟨ba, oa + k, none⟩ = some (.int .u8 ((Gf.ent x k : Nat) : Int)) ∧ w'.cell? ⟨bb, ob + j, none⟩ = some (.int .u8 ((Gf.ent y j : Nat) : Int))) (go_keep) (first | (go_at_call 9; refine (mul_any _ _ _ ux uy).mono ?_; rintro e w5 ⟨rfl, rfl⟩))
      all_goals
        go_wp2
        go_roundw
        case rel =>
          refine ⟨k + 1, by omega, by go_num, ?_, hh, hb.drew⟩
          rw [u8_xor_nat _ _ xl hgl, hs.out]
        case measure => simp [intOf]; omega
    · obtain rfl : k = n := by omega
      go_wp2
      go_ret
      exact ⟨rfl, hh.out, hb⟩

set_option maxHeartbeats 800000 in
theorem one_any (g1 g2 n c1 c2 : Nat) (vs1 vs2 : List Value) (A B : List (List Nat)) (w : World) (hn : n ≤ 32) (hA : Gf.Tbl n n A) (hB : Gf.Tbl n n B)
    (h1 : View w g1 0 n vs1 A) (h2 : View w g2 0 n vs2 B) (hD : ∀ r c, r < n → c < n → Gf.xsum n (fun t => Gf.gm (Gf.ent (Gf.row A r) t) (Gf.ent (Gf.row B t) c)) = if r = c then 1 else 0) :
    Calls Try.prog 26 #[.slice (some ⟨g1, 0, none⟩) n c1, .slice (some ⟨g2, 0, none⟩) n c2] w fun e w' => e = .returned (.bool true) ∧ Below w.heap.size w w' := by
  have HD : Hid (∀ r c, r < n → c < n → Gf.xsum n (fun t => Gf.gm (Gf.ent (Gf.row A r) t) (Gf.ent (Gf.row B t) c)) = if r = c then 1 else 0) := hD
  clear hD
  go_enter Try.func26, Try.ntmps26
  go_wp2
  go_loopw [5] (fun ii w' => ∃ i : Nat, i ≤ n ∧ ii = .int .i64 i ∧ Below w.heap.size w w') (fun ii _ => (n - intOf ii).toNat)
  case atStart => exact ⟨0, by omega, rfl, Below.refl _ _⟩
  case round =>
    obtain ⟨i, hi, rfl, hb⟩ := hrel
    by_cases hlt : i < n
    · go_wp2_with fail
      go_loopw [6] (fun jj w' => ∃ j : Nat, j ≤ n ∧ jj = .int .i64 j ∧ Below w.heap.size w w') (fun jj _ => (n - intOf jj).toNat)
      case atStart => exact ⟨0, by omega, rfl, hb⟩
      case round =>
        clear hb
        obtain ⟨j, hj, rfl, hb⟩ := hrel
        by_cases hjt : j < n
        · have v1 := h1.below hb
          have v2 := h2.below hb
          go_wp2_with fail
          refine (product_any g1 g2 n c1 c2 i j vs1 vs2 A B _ hn hlt hjt hA hB v1 v2).mono ?_
          rintro e w5 ⟨rfl, _, b5⟩
          rw [HD.out i j hlt hjt]
          have hb5 : Below w.heap.size w w5 := hb.trans (b5.mono hb.size)
          by_cases hij : i = j
          · subst hij
            rw [if_pos rfl]
            have e1 : ((i : Int) == (i : Int)) = true := by simp
            have e2 : ((i : Int) != (i : Int)) = false := by simp
            clear v1 v2 b5
            go_wp2
            go_roundw
            case rel => exact ⟨i + 1, by omega, by go_num, hb5⟩
            case measure => simp [intOf]; omega
          · rw [if_neg hij]
            have e1 : ((i : Int) == (j : Int)) = false := by rw [beq_eq_false_iff_ne]; omega
            have e2 : ((i : Int) != (j : Int)) = true := by rw [bne_iff_ne]; omega
            clear v1 v2 b5
            go_wp2
            go_roundw
            case rel => exact ⟨j + 1, by omega, by go_num, hb5⟩
            case measure => simp [intOf]; omega
        · go_wp2
          go_roundw
          case rel => exact ⟨i + 1, by omega, by go_num, hb⟩
          case measure => simp [intOf]; omega
    · go_wp2
      go_ret
      exact ⟨rfl, hb⟩
end Go.Proofs.Ytlaoaiffgbdnpaa
