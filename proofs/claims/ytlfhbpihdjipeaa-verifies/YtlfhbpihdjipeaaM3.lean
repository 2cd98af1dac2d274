import Derived.Test.YtlfhbpihdjipeaaM2
namespace Go.Proofs.Ytlfhbpihdjipeaa
open Go.RowKit

theorem owns_mono {w : World} {B B' : Nat} {e : TypeId} {size : Nat} {v : Value} {n : Nat} {xs : List Value} (h : w.ownsRow B e size v n xs) (hB : B' ≤ B) : w.ownsRow B' e size v n xs := by
  refine ⟨h.1, ?_⟩
  rcases h.2 with hn | ⟨g, cap, cur, rfl, hg, rest⟩
  · exact .inl hn
  · exact .inr ⟨g, cap, cur, rfl, by omega, rest⟩
/-- as BF, the reader left out -/
structure BG (wc : World) (f : ByteArray) (g pn pb b i t : Nat) (v : Value) (w' : World) : Prop where
  mods : Mods (fun k => k = g ∨ k = pn ∨ k = pb) wc w'
  num : w'.heap[pn]? = some (.cells #[.int .i64 t] 3)
  bad : w'.heap[pb]? = some (.cells #[v] 34)
  own : w'.ownsRow wc.heap.size 3 1 v (bads f b i t).length (ivs (bads f b i t))

set_option maxHeartbeats 1000000 in
theorem readBad_any (f : ByteArray) (g k n b i l : Nat) (w : World) (hk : 1 ≤ k) (hk2 : k ≤ 32) (hb : 1 ≤ b) (hb2 : b ≤ 256) (hi : i ≤ 31) (hl : l ≤ 16384) (hp : 18 ≤ f.size)
    (hg : w.cell? ⟨g, 0, none⟩ = some (.string (tl f 18))) (hz : w.frozen? ⟨g, 0, none⟩ = false) :
    Calls Try.prog 17 #[.pointer (some ⟨g, 0, none⟩), hdr k n b i l] w fun e w' =>
      ∃ v, e = .returned v ∧ w.grownBy w' (some g) ∧ w'.ownsRow w.heap.size 3 1 v (bads f b i (st k b l)).length (ivs (bads f b i (st k b l))) := by
  have hlt := World.block_lt_of_cell? _ _ hg
  have hE : st k b l ≤ 16384 := Nat.le_trans (st_le k b l hk hb) hl
  have hmf : ∀ (fn : Fn) (first cap : Array Value) (w : World), (Instr.makeFunc fn first cap).run Try.prog w = .ok (.func fn first cap) w := fun _ _ _ _ => rfl
  obtain ⟨i3, hi3, hz0, hz1, hz2⟩ := info_parts info3
  go_enter Try.func17, Try.ntmps17
  go_wp2_with fail
  refine (stripes_any k n b i l _ hk hk2 hb hb2 hl).mono ?_
  rintro e w1 ⟨rfl, hb1⟩
  have hs1 := hb1.size
  simp only [World.size_alloc] at hs1
  have F1 : w1.heap[w.heap.size]? = some (.cells #[.pointer (some ⟨g, 0, none⟩)] 48) := by
    rw [hb1.block _ (by simp; omega)]; exact heap_past (heap_past (heap_new _ _) _) _
  have H1 : w1.heap[w.heap.size + 1]? = some (.cells #[.int .i64 k, .int .i64 n, .int .i64 b, .int .i64 i, .int .i64 l] 33) := by
    rw [hb1.block _ (by simp)]
    have := heap_new (w.alloc (.cells #[.pointer (some ⟨g, 0, none⟩)] 48)) (.cells #[.int .i64 k, .int .i64 n, .int .i64 b, .int .i64 i, .int .i64 l] 33)
    rw [World.size_alloc] at this
    exact heap_past this _
  have B1 : w1.heap[w.heap.size + 2]? = some (.cells #[.slice none 0 0] 34) := by
    rw [hb1.block _ (by simp)]
    have := heap_new ((w.alloc (.cells #[.pointer (some ⟨g, 0, none⟩)] 48)).alloc (.cells #[.int .i64 k, .int .i64 n, .int .i64 b, .int .i64 i, .int .i64 l] 33)) (.cells #[.slice none 0 0] 34)
    rw [World.size_alloc, World.size_alloc] at this
    exact this
  have cg : w1.cell? ⟨g, 0, none⟩ = some (.string (tl f 18)) := by
    rw [cell_of (hb1.block g (by simp; omega))]; exact al1 (al2 hg _ _) _
  have zg : w1.frozen? ⟨g, 0, none⟩ = false := by
    rw [frozen_of (hb1.block g (by simp; omega))]; exact al1f (al2 hg _ _) (al2f hg hz _ _) _
  have W1 : Hid (Below w.heap.size w w1) := ((((Below.refl _ _).alloc (Nat.le_refl _) _).alloc (by simp) _).alloc (by simp; omega) _).trans (hb1.mono (by simp; omega))
  clear hb1 hg hz
  go_wp2_with fail
  generalize hEE : st k b l = E at *
  have HEE : Hid (st k b l = E) := hEE
  clear hEE
  have hwc0 := heap_past (heap_new w1 (.cells #[.int .i64 0] 3)) (.cells #[.int .i64 (E : Int)] 3)
  have hwc1 := heap_new (w1.alloc (.cells #[.int .i64 0] 3)) (.cells #[.int .i64 (E : Int)] 3)
  rw [World.size_alloc] at hwc1
  have hwcF := heap_past (heap_past F1 (.cells #[.int .i64 0] 3)) (.cells #[.int .i64 (E : Int)] 3)
  have hwcH := heap_past (heap_past H1 (.cells #[.int .i64 0] 3)) (.cells #[.int .i64 (E : Int)] 3)
  have hwcB := heap_past (heap_past B1 (.cells #[.int .i64 0] 3)) (.cells #[.int .i64 (E : Int)] 3)
  have hwcg := al2 cg (.cells #[.int .i64 0] 3) (.cells #[.int .i64 (E : Int)] 3)
  have hwcz := al2f cg zg (.cells #[.int .i64 0] 3) (.cells #[.int .i64 (E : Int)] 3)
  have hwcs : ((w1.alloc (.cells #[.int .i64 0] 3)).alloc (.cells #[.int .i64 (E : Int)] 3)).heap.size = w1.heap.size + 2 := by simp
  have WC : Hid (w.grownBy ((w1.alloc (.cells #[.int .i64 0] 3)).alloc (.cells #[.int .i64 (E : Int)] 3)) (some g)) := by
    have h1 := W1.out
    refine gb_trans ⟨h1.os, h1.tape, h1.output, h1.size, fun i hi _ => h1.block i hi⟩ (gb0 _ _ _ _)
  generalize (w1.alloc (.cells #[.int .i64 0] 3)).alloc (.cells #[.int .i64 (E : Int)] 3) = wc at *
  clear F1 H1 B1 cg zg
  have LL : Lay wc g w1.heap.size (w1.heap.size + 1) w.heap.size (w.heap.size + 1) (w.heap.size + 1 + 1) k n b i l E := ⟨hwc1, hwcF, hwcH, by omega, by omega, by omega, by omega, by omega, by omega, by omega, by omega, by omega, by omega, by omega, by omega, by omega, by omega, by omega⟩
  have HLL : Hid (Lay wc g w1.heap.size (w1.heap.size + 1) w.heap.size (w.heap.size + 1) (w.heap.size + 1 + 1) k n b i l E) := LL
  have h0 : BF wc f g w1.heap.size (w.heap.size + 1 + 1) b i 0 (.slice none 0 0) wc := ⟨Mods.refl _ _, hwc0, hwcB, by rw [show pos b 0 = 18 by simp [pos]]; exact hwcg, hwcz, World.ownsRow_nil _ _ _ _⟩
  have U := untilEnd_any 29 #[.pointer (some ⟨w1.heap.size, 0, none⟩), .pointer (some ⟨w1.heap.size + 1, 0, none⟩), .pointer (some ⟨w.heap.size, 0, none⟩), .pointer (some ⟨w.heap.size + 1, 0, none⟩), .pointer (some ⟨w.heap.size + 1 + 1, 0, none⟩)] wc
    (fun w' => ∃ t v, t ≤ E ∧ (t < E → f.size < pos b t + (b + 8)) ∧ BF wc f g w1.heap.size (w.heap.size + 1 + 1) b i t v w')
    (cf34 _) (by rintro w' ⟨t, v, h1, h2, h3⟩; exact ⟨t, v, h1, h2, h3.alloc _⟩)
    (rb1_any f g w1.heap.size (w1.heap.size + 1) w.heap.size (w.heap.size + 1) (w.heap.size + 1 + 1) k n b i l E (.slice none 0 0) wc LL hb hb2 hi hE hp h0)
  refine U.mono ?_
  clear U h0 LL hwcg hwcz hwcH hwcF hwc0 hwc1 hwcB
  rintro e w2 ⟨rfl, t0, v0, ht0, hsh0, hB0⟩
  have S0 : Hid (BG wc f g w1.heap.size (w.heap.size + 1 + 1) b i t0 v0 w2) := ⟨hB0.mods, hB0.num, hB0.bad, hB0.own⟩
  clear hB0
  go_wp2_with fail
  go_loopw [12] (fun _ w' => ∃ t v, t ≤ E ∧ (t < E → f.size < pos b t + (b + 8)) ∧ BG wc f g w1.heap.size (w.heap.size + 1 + 1) b i t v w') (fun _ w' => (E - numOf w' w1.heap.size).toNat)
  case atStart => exact ⟨t0, v0, ht0, hsh0, S0.out⟩
  case round =>
    clear S0 hsh0 ht0
    obtain ⟨t, v, ht, hsh, hB⟩ := hrel
    obtain ⟨le, lf, lh⟩ := HLL.out.at hB.mods
    have num1 := hB.num
    have bad1 := hB.bad
    have own1 := hB.own
    have M1h : Hid (Mods (fun k => k = g ∨ k = w1.heap.size ∨ k = w.heap.size + 1 + 1) wc wr) := hB.mods
    have HM : Hid (numOf wr w1.heap.size = (t : Int)) := numOf_eq hB.num
    have N1 : Hid (wr.heap[w1.heap.size]? = some (.cells #[.int .i64 t] 3)) := num1
    have B1 : Hid (wr.heap[w.heap.size + 1 + 1]? = some (.cells #[v] 34)) := bad1
    have c2 : wr.cell? ⟨w1.heap.size + 1, 0, none⟩ = some (.int .i64 E) := cell_block le
    have q1 : wr.cell? ⟨w1.heap.size, 0, none⟩ = some (.int .i64 t) := cell_block num1
    have q2 : wr.cell? ⟨w.heap.size + 1 + 1, 0, none⟩ = some v := cell_block bad1
    have z1 : wr.frozen? ⟨w1.heap.size, 0, none⟩ = false := frozen_block num1
    have z2 : wr.frozen? ⟨w.heap.size + 1 + 1, 0, none⟩ = false := frozen_block bad1
    have hw1 : wc.heap.size ≤ wr.heap.size := hB.mods.size
    clear hB le lf lh num1 bad1
    have hlen := bads_len f b i t
    by_cases hlt : t < E
    · have hsz := hsh hlt
      have HT : Hid (bads f b i (t + 1) = bads f b i t ++ [t]) := bads_no f b i t (okB_short f b i t hsz)
      have hps : f.size < pos b (t + 1) + (b + 8) := by rw [pos_succ]; omega
      clear hsh hsz
      generalize hbl : bads f b i t = bl at *
      clear hbl
      go_wp2_with (at_builtin; refine wpList_append_own _ rfl _ _ 34 rfl wc.heap.size 3 i3 (.int .i64 0) 1 8 Try.underlying34 hi3 hz0 hz1 hz2 rfl (by decide) _ _ _ rfl (own1.alloc _) ⟨wr.heap.size, 0, none⟩ 1 1 [.int .i64 (t : Int)] rfl rfl ?c1 ?c2 ?c3 ?c4 ?c5 ?_)
      case c1 => exact cell_one_new _ _ _
      case c2 => intro u hu; simp at hu; subst hu; rfl
      case c3 => unfold maxLen; omega
      case c4 => omega
      case c5 => simp; omega
      intro v' w3 hown2 hgrow _
      have hrow : ∀ k, v.ownBlock = some k → wc.heap.size ≤ k := fun k hk => (own1.lt k hk).1
      have M2 : Mods (fun k => k = g ∨ k = w1.heap.size ∨ k = w.heap.size + 1 + 1) wc w3 := (M1h.out.alloc _).row hgrow (fun k hk => .inr (hrow k hk))
      have far : ∀ k, k < wc.heap.size → w3.heap[k]? = wr.heap[k]? := fun k hk => by
        rw [hgrow.block k (by simp; omega) (fun e => by have := hrow k e.symm; omega), Below.heap_alloc _ _ _ (by omega)]
      have num2 : w3.heap[w1.heap.size]? = some (.cells #[.int .i64 t] 3) := (far _ (by omega)).trans N1.out
      have bad2 : w3.heap[w.heap.size + 1 + 1]? = some (.cells #[v] 34) := (far _ (by omega)).trans B1.out
      have HO : Hid (w3.ownsRow wc.heap.size 3 1 v' (bads f b i (t + 1)).length (ivs (bads f b i (t + 1)))) := by
        show World.ownsRow _ _ _ _ _ _ _
        rw [HT.out, ivs_snoc, List.length_append, hwcs]; exact hown2
      obtain ⟨av, cv, rfl⟩ := owns_form hown2
      clear hown2 hgrow own1 q1 q2 z1 z2 far c2
      have q1 : w3.cell? ⟨w1.heap.size, 0, none⟩ = some (.int .i64 t) := cell_block num2
      have q2 : w3.cell? ⟨w.heap.size + 1 + 1, 0, none⟩ = some v := cell_block bad2
      have z1 : w3.frozen? ⟨w1.heap.size, 0, none⟩ = false := frozen_block num2
      have z2 : w3.frozen? ⟨w.heap.size + 1 + 1, 0, none⟩ = false := frozen_block bad2
      have n2 : w1.heap.size ≠ w.heap.size + 1 + 1 := by omega
      go_wp2_with fail
      go_roundw
      case rel =>
        refine ⟨t + 1, .slice av (bl.length + 1) cv, by omega, fun _ => hps, ?_⟩
        have hv : ((t : Int) + 1) = ((t + 1 : Nat) : Int) := by omega
        rw [hv]
        refine ⟨(M2.set (w.heap.size + 1 + 1) 0 _ (.inl (.inr (.inr rfl)))).set w1.heap.size 0 _ (.inl (.inr (.inl rfl))), ?_, ?_, owns_set (owns_set HO.out (by omega)) (by omega)⟩
        · simpa using heap_set (j := 0) (v := .int .i64 ((t + 1 : Nat) : Int)) (heap_far (b' := w.heap.size + 1 + 1) (j := 0) (v := .slice av (bl.length + 1) cv) num2 n2)
        · refine heap_far ?_ (fun e => n2 e.symm)
          simpa using heap_set (j := 0) (v := .slice av (bl.length + 1) cv) bad2
      case measure =>
        have hv : ((t : Int) + 1) = ((t + 1 : Nat) : Int) := by omega
        rw [HM.out, hv, numOf_eq (by simpa using heap_set (j := 0) (v := .int .i64 ((t + 1 : Nat) : Int)) (heap_far (b' := w.heap.size + 1 + 1) (j := 0) (v := .slice av (bl.length + 1) cv) num2 n2))]
        omega
    · have hte : t = E := by omega
      subst hte
      go_wp2_with fail
      go_ret
      refine ⟨v, rfl, ?_, ?_⟩
      · have hm := M1h.out
        have hc := WC.out
        refine ⟨hm.os.trans hc.os, hm.tape.trans hc.tape, hm.output.trans hc.output, Nat.le_trans hc.size hm.size, fun q hq hne => ?_⟩
        rw [hm.block q (by omega) (by rintro (e | e | e); exact hne (by rw [e]); omega; omega)]
        exact hc.block q hq hne
      · rw [HEE.out]; exact owns_mono own1 (by omega)
end Go.Proofs.Ytlfhbpihdjipeaa
