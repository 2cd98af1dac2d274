import Derived.Test.YtlaoaiffgbdnpaaW1
import Derived.Test.YtlaoaiffgbdnpaaGp
import Derived.BigRegion
import Derived.BigQuiet
import Derived.Deep.QuietTactic
import Derived.Laws.CopyOwn
namespace Go.Proofs.Ytlaoaiffgbdnpaa
open Go.RowKit

theorem orI (p x k : Nat) (hp : p < 256 ^ k) (hx : x < 256) (hk : k < 8) : bits BinOp.or IntKind.u64 (p : Int) (IntKind.u64.wrap ((x : Int) * 2 ^ (8 * k))) = ((p + x * 256 ^ k : Nat) : Int) := by
  have h2 : (256 : Nat) ^ (k + 1) ≤ 256 ^ 8 := Nat.pow_le_pow_right (by decide) (by omega)
  have h3 : (256 : Nat) ^ 8 = 18446744073709551616 := by decide
  have h4 : x * 256 ^ k ≤ 255 * 256 ^ k := Nat.mul_le_mul_right _ (by omega)
  rw [Nat.pow_succ] at h2
  have e1 : ((x : Int) * 2 ^ (8 * k)) = ((x * 256 ^ k : Nat) : Int) := by
    rw [Gf.pow256]; push_cast; rfl
  rw [e1, IntKind.wrap_u64, ← Gf.or_add p x k hp]
  have e2 : ((x * 256 ^ k : Nat) : Int) % 18446744073709551616 = ((x * 256 ^ k : Nat) : Int) := by omega
  rw [e2, u64_or_nat _ _ (by omega) (by omega)]

theorem take_snoc' (xs : List Nat) (k x : Nat) (h : xs[k]? = some x) : xs.take (k + 1) = xs.take k ++ [x] := by
  rw [List.take_add_one, h]; rfl
theorem take_lt (xs : List Nat) (k : Nat) (h : ∀ x ∈ xs, x < 256) : ∀ x ∈ xs.take k, x < 256 := fun x hx => h x (List.mem_of_mem_take hx)

set_option maxHeartbeats 400000 in
theorem load_any (b off n cap : Nat) (xs : List Nat) (w : World) (hn : xs.length = n) (hl : n ≤ 140737488355328) (hx : ∀ x ∈ xs, x < 256)
    (hc : ∀ i x, xs[i]? = some x → w.cell? ⟨b, off + i, none⟩ = some (.int .u8 (x : Nat))) :
    Calls Try.prog 31 #[.slice (some ⟨b, off, none⟩) n cap] w fun e w' => e = .returned (.int .u64 (Gf.pack (xs.take 8) : Nat)) ∧ w' = w := by
  have HN : Hid (xs.length = n) := hn
  have HC : Hid (∀ i x, xs[i]? = some x → w.cell? ⟨b, off + i, none⟩ = some (.int .u8 (x : Nat))) := hc
  clear hn hc
  by_cases h8 : 8 ≤ n
  all_goals
    go_enter Try.func31, Try.ntmps31
    go_wp2
    go_loop [3, 8] (fun p i => ∃ k : Nat, k ≤ 8 ∧ k ≤ n ∧ i = .int .i64 k ∧ p = .int .u64 ((Gf.pack (xs.take k) : Nat) : Int)) (fun _ i => (8 - intOf i).toNat)
    case atStart => exact ⟨0, by omega, by omega, rfl, rfl⟩
    case round =>
      obtain ⟨k, hk, hkn, rfl, rfl⟩ := hrel
      by_cases hlt : k < 8 ∧ k < n
      · obtain ⟨hlt1, hlt2⟩ := hlt
        obtain ⟨x, hxk⟩ : ∃ x, xs[k]? = some x := ⟨_, List.getElem?_eq_getElem (by rw [HN.out]; exact hlt2)⟩
        have HX : Hid (xs[k]? = some x) := hxk
        have hx8 : x < 256 := hx x (List.mem_of_getElem? hxk)
        have cx := HC.out k x hxk
        clear hxk
        have hkl : (xs.take k).length = k := by rw [List.length_take, HN.out]; omega
        have HP : Hid (Gf.pack (xs.take k) < 256 ^ k ∧ Gf.pack (xs.take (k + 1)) = Gf.pack (xs.take k) + x * 256 ^ k) := by
          have h1 := Gf.pack_lt (xs.take k) (take_lt xs k hx)
          rw [hkl] at h1
          refine ⟨h1, ?_⟩
          rw [take_snoc' xs k x HX.out, Gf.pack_snoc, hkl]
        clear hkl
        go_wp2
        go_round
        case rel => exact ⟨k + 1, by omega, by omega, by go_num, by rw [orI _ _ _ HP.out.1 hx8 hlt1, HP.out.2]⟩
        case measure => simp [intOf]; omega
      · go_wp2
        go_ret
        refine ⟨ret_u64 ?_, rfl⟩
        have : xs.take k = xs.take 8 := by
          by_cases h : k = 8
          · rw [h]
          · have hkn' : k = n := by omega
            rw [List.take_of_length_le (by rw [HN.out]; omega), List.take_of_length_le (by rw [HN.out]; omega)]
        rw [this]

abbrev B8 (x : Nat) : Value := .int .u8 (x : Nat)
def bvs (xs : List Nat) : List Value := xs.map B8
theorem bvs_length (xs : List Nat) : (bvs xs).length = xs.length := by simp [bvs]
theorem bvs_at (xs : List Nat) (i x : Nat) (h : xs[i]? = some x) : (bvs xs)[i]? = some (B8 x) := by simp [bvs, h]
theorem bvs_snoc (xs : List Nat) (x : Nat) : bvs (xs ++ [x]) = bvs xs ++ [B8 x] := by simp [bvs]

theorem splice_snoc (cur vs : List Value) (off : Nat) (v : Value) (h : off + vs.length < cur.length) :
    (splice cur off vs).toArray.setIfInBounds (off + vs.length) v = (splice cur off (vs ++ [v])).toArray := by
  apply Array.ext'
  have hl : (splice cur off vs).length = cur.length := length_splice _ _ _ (by omega)
  simp only [Array.toList_setIfInBounds]
  apply List.ext_getElem?
  intro i
  rw [List.getElem?_set]
  have key : ∀ (us : List Value) (j : Nat), off + us.length ≤ cur.length → (splice cur off us)[j]? = if j < off then cur[j]? else if j < off + us.length then us[j - off]? else cur[j]? := by
    intro us j hu
    simp only [splice, List.getElem?_append, List.length_take, List.getElem?_take, List.getElem?_drop]
    rw [show min off cur.length = off by omega]
    by_cases a : j < off
    · simp [a]
    · by_cases b : j < off + us.length
      · simp [a, b]; omega
      · have b' : ¬ j - off < us.length := by omega
        simp only [a, b, b', if_false]
        congr 1; omega
  rw [key vs i (by omega), key (vs ++ [v]) i (by simp; omega)]
  simp only [List.length_append, List.length_cons, List.length_nil]
  by_cases h1 : off + vs.length = i
  · subst h1
    have a : ¬ off + vs.length < off := by omega
    have b : off + vs.length < off + (vs.length + 1) := by omega
    simp only [a, b, if_true, if_false]
    rw [if_pos (by simp [hl]; omega)]
    simp
  · rw [if_neg h1]
    by_cases a : i < off
    · simp [a]
    · by_cases b : i < off + vs.length
      · have b' : i < off + (vs.length + 1) := by omega
        simp only [a, b, b', if_true, if_false]
        rw [List.getElem?_append_left (by omega)]
      · have b' : ¬ i < off + (vs.length + 1) := by omega
        simp only [a, b, b', if_false]
theorem pack_cast (P k y : Nat) (h : P / 2 ^ (8 * k) % 256 = y) : ((P : Nat) : Int) / 2 ^ (8 * k) % 256 = (y : Int) := by
  rw [← h, Int.natCast_emod, Int.natCast_ediv, Int.natCast_pow]; rfl

theorem store_val (ys : List Nat) (hy : ∀ x ∈ ys, x < 256) (k y : Nat) (hk : ys[k]? = some y) : IntKind.u8.wrap (((Gf.pack ys : Nat) : Int) / 2 ^ (8 * k)) = ((y : Nat) : Int) := by
  have h := Gf.pack_byte ys hy k y hk
  rw [Gf.pow256] at h
  rw [IntKind.wrap_u8']
  exact pack_cast _ _ _ h

set_option maxHeartbeats 400000 in
theorem store_any (g off n cap : Nat) (cur : List Value) (ys : List Nat) (w : World) (hn : ys.length = 8 ∨ ys.length = n) (hn8 : ys.length ≤ 8) (hnn : ys.length ≤ n) (hl : n ≤ 140737488355328) (hy : ∀ x ∈ ys, x < 256)
    (hg : w.heap[g]? = some (.cells cur.toArray 5 (0, 0))) (hfit : off + n ≤ cur.length) :
    Calls Try.prog 30 #[.slice (some ⟨g, off, none⟩) n cap, .int .u64 (Gf.pack ys : Nat)] w fun e w' => e = .returned (.tuple #[]) ∧ Below g w w' ∧ w'.heap.size = w.heap.size ∧ w'.heap[g]? = some (.cells (splice cur off (bvs ys)).toArray 5 (0, 0)) := by
  have HG : Hid (w.heap[g]? = some (.cells cur.toArray 5 (0, 0))) := hg
  have HN : Hid (ys.length = 8 ∨ ys.length = n) := hn
  clear hg hn
  by_cases h8 : 8 ≤ n
  all_goals
    go_enter Try.func30, Try.ntmps30
    go_wp2
    go_loopw [8] (fun i w' => ∃ k : Nat, k ≤ ys.length ∧ i = .int .i64 k ∧ Below g w w' ∧ w'.heap.size = w.heap.size ∧ w'.heap[g]? = some (.cells (splice cur off (bvs (ys.take k))).toArray 5 (0, 0))) (fun i _ => (8 - intOf i).toNat)
    case atStart => exact ⟨0, by omega, rfl, Below.refl _ _, rfl, by rw [HG.out]; simp [splice, bvs]⟩
    case round =>
      obtain ⟨k, hk, rfl, hb, hsz, hgk⟩ := hrel
      by_cases hlt : k < ys.length
      · obtain ⟨y, hyk⟩ : ∃ y, ys[k]? = some y := ⟨_, List.getElem?_eq_getElem hlt⟩
        have hv := store_val ys hy k y hyk
        have HY : Hid (ys[k]? = some y) := hyk
        have hkl : (bvs (ys.take k)).length = k := by rw [bvs_length, List.length_take]; omega
        have hin : off + k < (splice cur off (bvs (ys.take k))).toArray.size := by
          rw [List.size_toArray, length_splice _ _ _ (by omega)]; omega
        obtain ⟨v0, hs⟩ : ∃ v0, wr.cell? ⟨g, off + k, none⟩ = some v0 := by
          rw [cell_of_row wr g (off + k) _ 5 _ hgk]; exact ⟨_, Array.getElem?_eq_getElem hin⟩
        have hf : wr.frozen? ⟨g, off + k, none⟩ = false := frozen_of_row wr g _ _ 5 hgk
        have HS : Hid ((wr.setCell ⟨g, off + k, none⟩ (B8 y)).heap[g]? = some (.cells (splice cur off (bvs (ys.take (k + 1)))).toArray 5 (0, 0))) := by
          show _ = _
          rw [heap_setCell_same wr g _ _ 5 _ hgk, take_snoc' ys k y hyk, bvs_snoc]
          have := splice_snoc cur (bvs (ys.take k)) off (B8 y) (by omega)
          rw [hkl] at this
          rw [this]
        have hbb : Below g w (wr.setCell ⟨g, off + k, none⟩ (B8 y)) := hb.setCell (Nat.le_refl _) _
        have HB := hbb
        clear hyk hkl hin hgk hb hbb
        have k8 : k < 8 := by omega
        have kn : k < n := by omega
        go_wp2
        go_roundw
        case rel => exact ⟨k + 1, by omega, by go_num, HB, by simpa using hsz, HS.out⟩
        case measure => simp [intOf]; omega
      · have hkk : k = ys.length := by omega
        have hfin := HN.out
        go_wp2
        go_end0
        subst hkk
        exact ⟨rfl, hb, hsz, by rw [hgk, List.take_length]⟩
end Go.Proofs.Ytlaoaiffgbdnpaa
