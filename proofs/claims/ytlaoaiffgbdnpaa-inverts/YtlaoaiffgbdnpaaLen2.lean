import Derived.Test.YtlaoaiffgbdnpaaLen1
namespace Go.Proofs.Ytlaoaiffgbdnpaa
open Go.RowKit
set_option linter.unusedVariables false

set_option maxHeartbeats 800000 in
theorem sameRows_views (g1 g2 n c1 c2 : Nat) (vs1 vs2 : List Value) (M : List (List Nat)) (w : World) (hn32 : n ≤ 32)
    (h1 : View w g1 0 n vs1 M) (h2 : View w g2 0 n vs2 M) :
    Calls Try.prog 20 #[.slice (some ⟨g1, 0, none⟩) n c1, .slice (some ⟨g2, 0, none⟩) n c2] w fun e w' => e = .returned (.bool true) ∧ w'.heap = w.heap ∧ Below w.heap.size w w' := by
  have hne : ((n : Int) != (n : Int)) = false := by simp
  go_enter Try.func20, Try.ntmps20
  go_wp2
  clear hne
  go_loopw [5] (fun ii w' => ∃ k : Nat, k ≤ n ∧ ii = .int .i64 k ∧ Hid (w'.heap = w.heap) ∧ Below w.heap.size w w') (fun ii _ => (n - intOf ii).toNat)
  case atStart => exact ⟨0, by omega, rfl, rfl, Below.refl _ _⟩
  case round =>
    obtain ⟨k, hk, rfl, hh, hb⟩ := hrel
    by_cases hlt : k < n
    · obtain ⟨a1, cc1, x, hx, hr1, ca0, e1, _, hxl⟩ := h1.at hlt
      obtain ⟨a2, cc2, x2, hx2, hr2, cb0, e2, _, _⟩ := h2.at hlt
      rw [hx] at hx2
      simp only [Option.some.injEq] at hx2
      subst hx2
      rw [Nat.zero_add] at ca0 cb0
      have ca : wr.cell? ⟨g1, k, none⟩ = some (.slice a1 x.length cc1) := by rw [World.cell?_of_block (w := w) (by rw [hh.out])]; exact ca0
      have cb : wr.cell? ⟨g2, k, none⟩ = some (.slice a2 x.length cc2) := by rw [World.cell?_of_block (w := w) (by rw [hh.out])]; exact cb0
      have SB : Hid (∀ wx : World, wx.heap = wr.heap → Calls Try.prog 16 #[.slice a1 x.length cc1, .slice a2 x.length cc2] wx fun e w' => e = .returned (.bool true) ∧ w'.heap = wx.heap ∧ Below wx.heap.size wx w') := by
        intro wx hw
        exact same_any a1 a2 x.length cc1 cc2 x wx (by omega) rfl (e1.heap (hw.trans hh.out)) (e2.heap (hw.trans hh.out))
      have i1 : (0 : Int) ≤ (k : Int) := by omega
      have i2 : (k : Int) < (n : Int) := by omega
      clear e1 e2 ca0 cb0 hr1 hr2 hx
      go_wp2_with fail
      go_region_held3 (fun w' => w'.cell? ⟨g1, k, none⟩ = some (.slice a1 x.length cc1) ∧ w'.cell? ⟨g2, k, none⟩ = some (.slice a2 x.length cc2)) (first | go_keep | exact ⟨by rw [World.cell?_of_block (w := wr) (by rw [hh5.out])]; exact ca, by rw [World.cell?_of_block (w := wr) (by rw [hh5.out])]; exact cb⟩) (first | (go_at_call 16; refine (SB.out _ ?_).mono ?_; exact rfl; rintro e w5 ⟨rfl, hh5', hb5⟩; have hh5 : Hid (w5.heap = wr.heap) := hh5'; clear hh5'))
      all_goals
        have hb6 : Below w.heap.size w w5 := hb.drew.trans (hb5.mono hb.size)
        have hh6 : Hid (w5.heap = w.heap) := hh5.out.trans hh.out
        go_wp2
        go_roundw
        case rel => exact ⟨k + 1, by omega, by go_num, hh6, hb6⟩
        case measure => simp [intOf]; omega
    · go_wp2
      go_ret
      exact ⟨rfl, hh.out, hb⟩


theorem Mat.view {w : World} {B g n c : Nat} {vs : List Value} {M : List (List Nat)} (h : Mat w B (.slice (some ⟨g, 0, none⟩) n c) vs M) (hn : M.length = n) (hl : ∀ x ∈ M, x.length ≤ 140737488355328) : View w g 0 n vs M := by
  have ht := h.top
  rw [hn] at ht
  refine ⟨by rw [h.length, hn], hn, ?_, ?_⟩
  · intro k r hr
    have hk : k < n := by have := (List.getElem?_eq_some_iff.1 hr).1; rw [h.length, hn] at this; exact this
    rw [Nat.zero_add, ht.cellAt k (by omega)]; exact hr
  · intro k r x hr hx
    have o := h.rows k r x hr hx
    obtain ⟨a, cp, rfl⟩ := owns_form o
    obtain ⟨e1, e2, e3, e4, e5⟩ := owns_cells o
    exact ⟨a, cp, rfl, e1, e4, hl x (List.mem_of_getElem? hx)⟩

def Bad (n : Nat) (M : List (List Nat)) : Prop := 32 < n ∨ ¬ ∀ x ∈ M, x.length = n
def Ker (n : Nat) (M : List (List Nat)) : Prop := ∃ x : Nat → Nat, (∀ j, x j < 256) ∧ (∃ j, j < n ∧ x j ≠ 0) ∧ Gf.AZ n (Gf.res n x n) (Gf.aug n M)
def Err (n : Nat) (M : List (List Nat)) (f : Int) : Prop := (Bad n M ∧ f = 1) ∨ (¬ Bad n M ∧ Ker n M ∧ f = 2)
theorem tbl_of {w : World} {g off n : Nat} {vs : List Value} {M : List (List Nat)} (hV : View w g off n vs M) (hb : ¬ Bad n M) (hby : ∀ x ∈ M, ∀ y ∈ x, y < 256) : Gf.Tbl n n M := by
  refine ⟨hV.lenM, ?_⟩
  intro k hk
  obtain ⟨x, hx⟩ : ∃ x, M[k]? = some x := ⟨_, List.getElem?_eq_getElem (by rw [hV.lenM]; exact hk)⟩
  have : Gf.row M k = x := by simp [Gf.row, hx]
  rw [this]
  refine ⟨?_, hby x (List.mem_of_getElem? hx)⟩
  by_cases h : x.length = n
  · exact h
  · exact absurd (Or.inr fun ha => h (ha x (List.mem_of_getElem? hx))) hb

theorem ref_err (g off n c : Nat) (vs : List Value) (M : List (List Nat)) (w : World) (f : Int) (hn : 1 ≤ n) (hl : n ≤ 140737488355328) (hV : View w g off n vs M) (hby : ∀ x ∈ M, ∀ y ∈ x, y < 256) (hE : Err n M f) :
    Calls Try.prog 22 #[.slice (some ⟨g, off, none⟩) n c] w fun e w' => e = .returned (.tuple #[.slice none 0 0, .int .i64 f]) ∧ Below w.heap.size w w' := by
  by_cases h32 : 32 < n
  · refine (refInvert_size _ n c w (.inr h32) hl).mono ?_
    rintro e w' ⟨rfl, rfl⟩
    rcases hE with ⟨_, rfl⟩ | ⟨hb, _⟩
    · exact ⟨rfl, Below.refl _ _⟩
    · exact absurd (Or.inl h32) hb
  · refine (refInvert_any g off n c vs M w hn (by omega) hV hby).mono ?_
    rintro e w' ⟨hb, (⟨rfl, h1⟩ | ⟨h0, T, g', vs', X, rfl, h1, h2, h3, h4⟩ | ⟨h0, T, k, rfl, h1, h2, h3⟩)⟩
    · rcases hE with ⟨_, rfl⟩ | ⟨hb', _⟩
      · exact ⟨rfl, hb⟩
      · exact absurd (Or.inr h1) hb'
    · rcases hE with ⟨hb' | hb', _⟩ | ⟨_, ⟨x, x1, ⟨j, x2, x3⟩, x4⟩, _⟩
      · omega
      · exact absurd h0 hb'
      · exact absurd (h1.kernel x x1 x4 j x2) x3
    · rcases hE with ⟨hb' | hb', _⟩ | ⟨_, _, rfl⟩
      · omega
      · exact absurd h0 hb'
      · exact ⟨rfl, hb⟩
theorem ref_ok (g off n c : Nat) (vs : List Value) (M : List (List Nat)) (w : World) (hn : 1 ≤ n) (hV : View w g off n vs M) (hby : ∀ x ∈ M, ∀ y ∈ x, y < 256) (hB : ¬ Bad n M) (hK : ¬ Ker n M) :
    Calls Try.prog 22 #[.slice (some ⟨g, off, none⟩) n c] w fun e w' => ∃ T g' vs' X, e = .returned (.tuple #[.slice (some ⟨g', 0, none⟩) n n, .int .i64 0]) ∧ Below w.heap.size w w' ∧ Gf.Fwd n (n + n) n (Gf.aug n M) T ∧ View w' g' 0 n vs' X ∧ Gf.Tbl n n X ∧ ∀ k, k < n → Gf.row X k = Gf.backRow n k T X := by
  have h32 : n ≤ 32 := by
    by_cases h : 32 < n
    · exact absurd (Or.inl h) hB
    · omega
  refine (refInvert_any g off n c vs M w hn h32 hV hby).mono ?_
  rintro e w' ⟨hb, (⟨rfl, h1⟩ | ⟨h0, T, g', vs', X, rfl, h1, h2, h3, h4⟩ | ⟨h0, T, k, rfl, h1, h2, h3⟩)⟩
  · exact absurd (Or.inr h1) hB
  · exact ⟨T, g', vs', X, rfl, hb, h1, h2, h3, h4⟩
  · obtain ⟨x, x1, x2, x3⟩ := h1.fail h2 h3
    exact absurd ⟨x, x1, ⟨k, h2, x2⟩, x3⟩ hK
theorem grid_err (g off n c : Nat) (vs : List Value) (M : List (List Nat)) (w : World) (f : Int) (hn : 1 ≤ n) (hl : n ≤ 140737488355328) (hV : View w g off n vs M) (hby : ∀ x ∈ M, ∀ y ∈ x, y < 256) (hE : Err n M f) :
    Calls Try.prog 23 #[.slice (some ⟨g, off, none⟩) n c] w fun e w' => e = .returned (.tuple #[.slice none 0 0, .int .i64 f]) ∧ Below w.heap.size w w' := by
  by_cases h32 : 32 < n
  · refine (invert_size _ n c w (.inr h32) hl).mono ?_
    rintro e w' ⟨rfl, rfl⟩
    rcases hE with ⟨_, rfl⟩ | ⟨hb, _⟩
    · exact ⟨rfl, Below.refl _ _⟩
    · exact absurd (Or.inl h32) hb
  · by_cases hr : ∀ x ∈ M, x.length = n
    · have hB : ¬ Bad n M := by rintro (h | h); exact h32 h; exact h hr
      refine (invert_square g off n c vs M w hn (by omega) hV (tbl_of hV hB hby)).mono ?_
      rintro e w' (⟨g', T, rfl, hb, _, _, h1, _⟩ | ⟨T, i, rfl, hb, h1, h2, h3⟩)
      · rcases hE with ⟨hb', _⟩ | ⟨_, ⟨x, x1, ⟨j, x2, x3⟩, x4⟩, _⟩
        · exact absurd hb' hB
        · have := (h1.done x x1 n).1 x4 j x2
          rw [Gf.ent_none (by rw [(h1.tbl.2 j x2).1]; omega)] at this
          exact absurd this x3
      · rcases hE with ⟨hb', _⟩ | ⟨_, _, rfl⟩
        · exact absurd hb' hB
        · exact ⟨rfl, hb⟩
    · refine (invert_ragged g off n c vs M w hn (by omega) hV hr).mono ?_
      rintro e w' ⟨rfl, rfl⟩
      rcases hE with ⟨_, rfl⟩ | ⟨hb', _⟩
      · exact ⟨rfl, Below.refl _ _⟩
      · exact absurd (Or.inr hr) hb'
theorem grid_ok (g off n c : Nat) (vs : List Value) (M : List (List Nat)) (w : World) (hn : 1 ≤ n) (hV : View w g off n vs M) (hby : ∀ x ∈ M, ∀ y ∈ x, y < 256) (hB : ¬ Bad n M) (hK : ¬ Ker n M) :
    Calls Try.prog 23 #[.slice (some ⟨g, off, none⟩) n c] w fun e w' => ∃ g' T, e = .returned (.tuple #[.slice (some ⟨g', 0, none⟩) n n, .int .i64 0]) ∧ Below w.heap.size w w' ∧ w.heap.size ≤ g' ∧ g' + 1 + n = w'.heap.size ∧ Gf.Reach n (n + n) n (Gf.aug n M) T ∧ Mat w' g' (.slice (some ⟨g', 0, none⟩) n n) (rowsV g' n n) (rightOf n T) := by
  have h32 : n ≤ 32 := by
    by_cases h : 32 < n
    · exact absurd (Or.inl h) hB
    · omega
  refine (invert_square g off n c vs M w hn h32 hV (tbl_of hV hB hby)).mono ?_
  rintro e w' (⟨g', T, rfl, hb, r1, r2, h1, h2⟩ | ⟨T, i, rfl, hb, h1, h2, h3⟩)
  · exact ⟨g', T, rfl, hb, r1, r2, h1, h2⟩
  · obtain ⟨x, x1, x2, x3⟩ := h1.fail h2 h3
    exact absurd ⟨x, x1, ⟨i, h2, x2⟩, x3⟩ hK
end Go.Proofs.Ytlaoaiffgbdnpaa
