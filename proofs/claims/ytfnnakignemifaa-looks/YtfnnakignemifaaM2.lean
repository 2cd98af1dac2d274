import Derived.Test.YtfnnakignemifaaM1
namespace Go.Proofs.Ytfnnakignemifaa
open Go.RowKit

theorem owns_form {w : World} {B n : Nat} {e : TypeId} {v : Value} {xs : List Value} (h : w.ownsRow B e 1 v n xs) : ∃ a cap, v = .slice a n cap := by
  rcases h.2 with ⟨rfl, rfl⟩ | ⟨g, c, cur, rfl, _⟩
  · exact ⟨_, _, rfl⟩
  · exact ⟨_, _, rfl⟩
theorem owns_set {w : World} {B b j : Nat} {e : TypeId} {size : Nat} {v u : Value} {n : Nat} {xs : List Value} (h : w.ownsRow B e size v n xs) (hb : b < B) : (w.setCell ⟨b, j, none⟩ u).ownsRow B e size v n xs := owns_gb h (gb_setj w b j u) hb

set_option maxHeartbeats 1000000 in
theorem rb1_any (f : ByteArray) (g pn pe pf ph pb k n b i l E : Nat) (v0 : Value) (wc : World) (hL : Lay wc g pn pe pf ph pb k n b i l E) (hb : 1 ≤ b) (hb2 : b ≤ 256) (hi : i ≤ 31) (hE : E ≤ 16384) (hp : 18 ≤ f.size) (h0 : BF wc f g pn pb b i 0 v0 wc) :
    Calls Try.prog 34 #[.pointer (some ⟨pn, 0, none⟩), .pointer (some ⟨pe, 0, none⟩), .pointer (some ⟨pf, 0, none⟩), .pointer (some ⟨ph, 0, none⟩), .pointer (some ⟨pb, 0, none⟩)] wc fun e w' =>
      (e = .returned (.tuple #[]) ∨ e = .panicked [short]) ∧ ∃ t v, t ≤ E ∧ (t < E → f.size < pos b t + (b + 8)) ∧ BF wc f g pn pb b i t v w' := by
  obtain ⟨i3, hi3, hz0, hz1, hz2⟩ := info_parts info3
  have HL : Hid (Lay wc g pn pe pf ph pb k n b i l E) := hL
  have H0 : Hid (BF wc f g pn pb b i 0 v0 wc) := h0
  have gw := hL.gw
  have pnw := hL.pnw
  have pbw := hL.pbw
  have n1 := hL.n1
  have n2 := hL.n2
  have b1 := hL.b1
  clear hL h0
  go_enter Try.func34, Try.ntmps34
  go_wp2_with fail
  go_loopw [5] (fun _ w' => ∃ t v, t ≤ E ∧ pos b t ≤ f.size ∧ BF wc f g pn pb b i t v w') (fun _ w' => (E - numOf w' pn).toNat)
  case atStart => exact ⟨0, v0, by omega, by show 18 + 0 * (b + 8) ≤ f.size; omega, H0.out⟩
  case round =>
    obtain ⟨t, v, ht, hpt, hB⟩ := hrel
    obtain ⟨le, lf, lh⟩ := HL.out.at hB.mods
    have c1 : wr.cell? ⟨pn, 0, none⟩ = some (.int .i64 t) := cell_block hB.num
    have c2 : wr.cell? ⟨pe, 0, none⟩ = some (.int .i64 E) := cell_block le
    have c3 : wr.cell? ⟨pf, 0, none⟩ = some (.pointer (some ⟨g, 0, none⟩)) := cell_block lf
    have d0 : wr.cell? ⟨ph, 0, none⟩ = some (.int .i64 k) := cell_block lh
    have d1 : wr.cell? ⟨ph, 1, none⟩ = some (.int .i64 n) := cell_block lh
    have d2 : wr.cell? ⟨ph, 2, none⟩ = some (.int .i64 b) := cell_block lh
    have d3 : wr.cell? ⟨ph, 3, none⟩ = some (.int .i64 i) := cell_block lh
    have d4 : wr.cell? ⟨ph, 4, none⟩ = some (.int .i64 l) := cell_block lh
    have HB : Hid (BF wc f g pn pb b i t v wr) := hB
    have HM : Hid (numOf wr pn = (t : Int)) := numOf_eq hB.num
    clear hB le lf lh
    by_cases hlt : t < E
    · by_cases hs : f.size < pos b t + (b + 8)
      · go_wp2_with fail
        refine (goodFrame_short f k n b i l t (pos b t) g _ hb2 hs hpt HB.out.rd).mono ?_
        rintro e w1 ⟨rfl, hb1⟩
        have hl : wc.heap.size ≤ wr.heap.size := HB.out.mods.size
        refine ⟨rfl, .inr rfl, t, v, ht, fun _ => hs, ?_⟩
        refine ⟨HB.out.mods.row (gb_below none hb1) (fun k hk => by cases hk), ?_, ?_, ?_, ?_, owns_below HB.out.own hb1⟩
        · rw [hb1.block pn (by omega)]; exact HB.out.num
        · rw [hb1.block pb (by omega)]; exact HB.out.bad
        · rw [cell_of (hb1.block g (by omega))]; exact HB.out.rd
        · rw [frozen_of (hb1.block g (by omega))]; exact HB.out.fz
      · go_wp2_with fail
        refine (goodFrame_ok f k n b i l t (pos b t) g _ hb hb2 hi (by omega) (by omega) HB.out.rd HB.out.fz).mono ?_
        rintro e w1 ⟨rfl, hR⟩
        rw [← okB_long f b i t (by omega)]
        have hsz : wc.heap.size ≤ wr.heap.size := HB.out.mods.size
        have M1 : Mods (fun k => k = g ∨ k = pn ∨ k = pb) wc w1 := HB.out.mods.row hR.kept (fun k hk => by cases hk; exact .inl (.inl rfl))
        have num1 : w1.heap[pn]? = some (.cells #[.int .i64 t] 3) := by rw [hR.kept.block pn (by omega) (by simp; exact n1)]; exact HB.out.num
        have bad1 : w1.heap[pb]? = some (.cells #[v] 35) := by rw [hR.kept.block pb (by omega) (by simp; exact b1)]; exact HB.out.bad
        have own1 := owns_gb HB.out.own hR.kept gw
        have rd1 : w1.cell? ⟨g, 0, none⟩ = some (.string (tl f (pos b (t + 1)))) := by rw [pos_succ]; exact hR.cell
        have fz1 := hR.fz
        have hps : pos b (t + 1) ≤ f.size := by rw [pos_succ]; omega
        have hlen := bads_len f b i t
        clear hR c1 c2 c3 d0 d1 d2 d3 d4 HB hs hpt
        have q1 : w1.cell? ⟨pn, 0, none⟩ = some (.int .i64 t) := cell_block num1
        have q2 : w1.cell? ⟨pb, 0, none⟩ = some v := cell_block bad1
        have z1 : w1.frozen? ⟨pn, 0, none⟩ = false := frozen_block num1
        have z2 : w1.frozen? ⟨pb, 0, none⟩ = false := frozen_block bad1
        have M1h : Hid (Mods (fun k => k = g ∨ k = pn ∨ k = pb) wc w1) := M1
        have N1 : Hid (w1.heap[pn]? = some (.cells #[.int .i64 t] 3)) := num1
        have B1 : Hid (w1.heap[pb]? = some (.cells #[v] 35)) := bad1
        clear M1 num1 bad1
        cases hok : okB f b i t
        · have HT : Hid (bads f b i (t + 1) = bads f b i t ++ [t]) := bads_no f b i t hok
          clear hok
          generalize hbl : bads f b i t = bl at *
          have HBL : Hid (bads f b i t = bl) := hbl
          clear hbl
          have hw1 : wc.heap.size ≤ w1.heap.size := M1h.out.size
          go_wp2_with (at_builtin; refine wpList_append_own _ rfl _ _ 35 rfl wc.heap.size 3 i3 (.int .i64 0) 1 8 Try.underlying35 hi3 hz0 hz1 hz2 rfl (by decide) _ _ _ rfl (own1.alloc _) ⟨w1.heap.size, 0, none⟩ 1 1 [.int .i64 (t : Int)] rfl rfl ?c1 ?c2 ?c3 ?c4 ?c5 ?_)
          case c1 => exact cell_one_new _ _ _
          case c2 => intro u hu; simp at hu; subst hu; rfl
          case c3 => unfold maxLen; omega
          case c4 => omega
          case c5 => simp; omega
          intro v' w2 hown2 hgrow _
          have hrow : ∀ k, v.ownBlock = some k → wc.heap.size ≤ k := fun k hk => (own1.lt k hk).1
          have M2 : Mods (fun k => k = g ∨ k = pn ∨ k = pb) wc w2 := (M1h.out.alloc _).row hgrow (fun k hk => .inr (hrow k hk))
          have far : ∀ k, k < wc.heap.size → w2.heap[k]? = w1.heap[k]? := fun k hk => by
            rw [hgrow.block k (by simp; omega) (fun e => by have := hrow k e.symm; omega), Below.heap_alloc _ _ _ (by omega)]
          have num2 : w2.heap[pn]? = some (.cells #[.int .i64 t] 3) := (far pn pnw).trans N1.out
          have bad2 : w2.heap[pb]? = some (.cells #[v] 35) := (far pb pbw).trans B1.out
          have rd2 := (cell_of (j := 0) (far g gw)).trans rd1
          have fz2 := (frozen_of (j := 0) (far g gw)).trans fz1
          have HO : Hid (w2.ownsRow wc.heap.size 3 1 v' (bads f b i (t + 1)).length (ivs (bads f b i (t + 1)))) := by
            show World.ownsRow _ _ _ _ _ _ _
            rw [HT.out, ivs_snoc, List.length_append]; exact hown2
          obtain ⟨av, cv, rfl⟩ := owns_form hown2
          clear hown2 hgrow own1 q1 q2 z1 z2 rd1 fz1 far
          have q1 : w2.cell? ⟨pn, 0, none⟩ = some (.int .i64 t) := cell_block num2
          have q2 : w2.cell? ⟨pb, 0, none⟩ = some v := cell_block bad2
          have z1 : w2.frozen? ⟨pn, 0, none⟩ = false := frozen_block num2
          have z2 : w2.frozen? ⟨pb, 0, none⟩ = false := frozen_block bad2
          go_wp2
          go_roundw
          case rel =>
            refine ⟨t + 1, .slice av (bl.length + 1) cv, by omega, hps, ?_⟩
            have hv : ((t : Int) + 1) = ((t + 1 : Nat) : Int) := by omega
            rw [hv]
            refine ⟨(M2.set pb 0 _ (.inl (.inr (.inr rfl)))).set pn 0 _ (.inl (.inr (.inl rfl))), ?_, ?_, ?_, ?_, owns_set (owns_set HO.out pbw) pnw⟩
            · simpa using heap_set (j := 0) (v := .int .i64 ((t + 1 : Nat) : Int)) (heap_far (b' := pb) (j := 0) (v := .slice av (bl.length + 1) cv) num2 n2)
            · refine heap_far ?_ (fun e => n2 e.symm)
              simpa using heap_set (j := 0) (v := .slice av (bl.length + 1) cv) bad2
            · rw [cell_of ((Below.heap_setCell _ _ _ _ (fun e => n1 e.symm)).trans (Below.heap_setCell _ _ _ _ (fun e => b1 e.symm)))]; exact rd2
            · rw [frozen_of ((Below.heap_setCell _ _ _ _ (fun e => n1 e.symm)).trans (Below.heap_setCell _ _ _ _ (fun e => b1 e.symm)))]; exact fz2
          case measure =>
            have hv : ((t : Int) + 1) = ((t + 1 : Nat) : Int) := by omega
            rw [HM.out, hv, numOf_eq (by simpa using heap_set (j := 0) (v := .int .i64 ((t + 1 : Nat) : Int)) (heap_far (b' := pb) (j := 0) (v := .slice av (bl.length + 1) cv) num2 n2))]
            omega
        · have HT : Hid (bads f b i (t + 1) = bads f b i t) := bads_ok f b i t hok
          clear hok
          go_wp2
          go_roundw
          case rel =>
            refine ⟨t + 1, v, by omega, hps, ?_⟩
            have hv : ((t : Int) + 1) = ((t + 1 : Nat) : Int) := by omega
            rw [hv]
            refine ⟨M1h.out.set pn 0 _ (.inl (.inr (.inl rfl))), ?_, heap_far B1.out (fun e => n2 e.symm), ?_, ?_, ?_⟩
            · simpa using heap_set (j := 0) (v := .int .i64 ((t + 1 : Nat) : Int)) N1.out
            · rw [cell_of (Below.heap_setCell _ _ _ _ (fun e => n1 e.symm))]; exact rd1
            · rw [frozen_of (Below.heap_setCell _ _ _ _ (fun e => n1 e.symm))]; exact fz1
            · rw [HT.out]; exact owns_set own1 pnw
          case measure =>
            have hv : ((t : Int) + 1) = ((t + 1 : Nat) : Int) := by omega
            rw [HM.out, hv, numOf_eq (by simpa using heap_set (j := 0) (v := .int .i64 ((t + 1 : Nat) : Int)) N1.out)]
            omega
    · have hte : t = E := by omega
      subst hte
      go_wp2
      go_end0
      exact ⟨.inl rfl, t, v, ht, fun h => absurd h hlt, HB.out⟩
end Go.Proofs.Ytfnnakignemifaa
