import Derived.Test.YtfnnakignemifaaL4
namespace Go.Proofs.Ytfnnakignemifaa
open Go.RowKit

theorem gb_drew {a w : World} {row : Option Nat} (h : a.grownBy w row) : a.grownBy w.drew row := ⟨h.os, h.tape, h.output, h.size, h.block⟩
theorem heap_drew (w : World) (g : Nat) : w.drew.heap[g]? = w.heap[g]? := rfl
set_option maxHeartbeats 400000 in
theorem readHeader_core (g : Nat) (w : World) (C : Int → Int → Int → Int → Int → Bool → Prop) (D : Option Obj → Prop) (hlt : g < w.heap.size)
    (HU : Hid (Calls Try.prog 30 #[.func (.func 31) #[] #[.pointer (some ⟨w.heap.size, 0, none⟩), .pointer (some ⟨w.heap.size + 1, 0, none⟩), .pointer (some ⟨w.heap.size + 2, 0, none⟩)]] (wRH w g) fun e w' => e = .returned (.tuple #[]) ∧ ∃ K N B I L G, C K N B I L G ∧ RH w g K N B I L G w' ∧ D w'.heap[g]?)) :
    Calls Try.prog 23 #[.pointer (some ⟨g, 0, none⟩)] w fun e w' =>
      ∃ K N B I L G, C K N B I L G ∧ e = .returned (.tuple #[hdr K N B I L, .bool G]) ∧ w.grownBy w' (some g) ∧ D w'.heap[g]? := by
  have hmf : ∀ (fn : Fn) (first cap : Array Value) (w : World), (Instr.makeFunc fn first cap).run Try.prog w = .ok (.func fn first cap) w := fun _ _ _ _ => rfl
  go_enter Try.func23, Try.ntmps23
  go_wp2_with fail
  refine HU.out.mono ?_
  rintro e w1 ⟨rfl, K, N, B, I, L, G, hC, hR, hD⟩
  have HC : Hid (C K N B I L G) := hC
  have HD : Hid (D w1.heap[g]?) := hD
  have b1 := hR.h
  have b2 := hR.gd
  have K1 : Hid (w.grownBy w1 (some g)) := hR.kept
  clear hR hC hD
  have d0 : w1.cell? ⟨w.heap.size + 1, 0, none⟩ = some (.int .i64 K) := cell_block b1
  have d1 : w1.cell? ⟨w.heap.size + 1, 1, none⟩ = some (.int .i64 N) := cell_block b1
  have d2 : w1.cell? ⟨w.heap.size + 1, 2, none⟩ = some (.int .i64 B) := cell_block b1
  have d3 : w1.cell? ⟨w.heap.size + 1, 3, none⟩ = some (.int .i64 I) := cell_block b1
  have d4 : w1.cell? ⟨w.heap.size + 1, 4, none⟩ = some (.int .i64 L) := cell_block b1
  have d5 : w1.cell? ⟨w.heap.size + 2, 0, none⟩ = some (.bool G) := cell_block b2
  have e0 : w1.frozen? ⟨w.heap.size + 1, 0, none⟩ = false := frozen_block b1
  have e1 : w1.frozen? ⟨w.heap.size + 1, 1, none⟩ = false := frozen_block b1
  have e2 : w1.frozen? ⟨w.heap.size + 1, 2, none⟩ = false := frozen_block b1
  have e3 : w1.frozen? ⟨w.heap.size + 1, 3, none⟩ = false := frozen_block b1
  have e4 : w1.frozen? ⟨w.heap.size + 1, 4, none⟩ = false := frozen_block b1
  have e5 : w1.frozen? ⟨w.heap.size + 2, 0, none⟩ = false := frozen_block b2
  clear b1 b2
  go_wp2_with fail
  go_region
  go_wp2_with fail
  have hne1 : g ≠ w.heap.size + 1 := by omega
  have hne2 : g ≠ w.heap.size + 2 := by omega
  refine bodyPost_ret (v := .tuple #[hdr K N B I L, .bool G]) ?_ rfl ?_
  · simp [results, Try.results23, go_sem, d0, d1, d2, d3, d4, d5]
  · clear d0 d1 d2 d3 d4 d5 e0 e1 e2 e3 e4 e5
    have W2 : w.grownBy ((set5 w1 (w.heap.size + 1) K N B I L).setCell ⟨w.heap.size + 2, 0, none⟩ (.bool G)) (some g) := gb_high (set5_high K1.out (by omega) _ _ _ _ _) (by omega) _
    have eg : ((set5 w1 (w.heap.size + 1) K N B I L).setCell ⟨w.heap.size + 2, 0, none⟩ (.bool G)).heap[g]? = w1.heap[g]? := by
      rw [Below.heap_setCell _ _ _ _ hne2, set5_same _ _ _ _ _ _ _ _ hne1]
    have W3 : w.grownBy (((set5 w1 (w.heap.size + 1) K N B I L).setCell ⟨w.heap.size + 2, 0, none⟩ (.bool G)).drew) (some g) := gb_drew W2
    have eg3 : (((set5 w1 (w.heap.size + 1) K N B I L).setCell ⟨w.heap.size + 2, 0, none⟩ (.bool G)).drew).heap[g]? = w1.heap[g]? := (heap_drew _ _).trans eg
    refine ⟨K, N, B, I, L, G, HC.out, rfl, W3, ?_⟩
    show D (((set5 w1 (w.heap.size + 1) K N B I L).setCell ⟨w.heap.size + 2, 0, none⟩ (.bool G)).drew).heap[g]?
    rw [eg3]; exact HD.out

theorem readHeader_ok (f : ByteArray) (g : Nat) (w : World) (h : 18 ≤ f.size) (hg : w.cell? ⟨g, 0, none⟩ = some (.string (tl f 0))) (hz : w.frozen? ⟨g, 0, none⟩ = false) :
    Calls Try.prog 23 #[.pointer (some ⟨g, 0, none⟩)] w fun e w' =>
      (∃ G : Bool, (G = true ↔ Gd f) ∧ e = .returned (.tuple #[hdr (numAt f 4 1) (numAt f 5 1) (numAt f 8 2) (numAt f 6 1) (numAt f 10 4), .bool G])) ∧ Rd w f g 18 w' := by
  have hlt := World.block_lt_of_cell? _ _ hg
  have U := untilEnd_any 31 #[.pointer (some ⟨w.heap.size, 0, none⟩), .pointer (some ⟨w.heap.size + 1, 0, none⟩), .pointer (some ⟨w.heap.size + 2, 0, none⟩)] (wRH w g)
    (fun w' => ∃ (K N B I L : Int) (G : Bool), (((K = (numAt f 4 1 : Nat) ∧ N = (numAt f 5 1 : Nat)) ∧ (B = (numAt f 8 2 : Nat) ∧ I = (numAt f 6 1 : Nat) ∧ L = (numAt f 10 4 : Nat))) ∧ (G = true ↔ Gd f)) ∧ RH w g K N B I L G w' ∧ ∀ wz : World, wz.heap[g]? = w'.heap[g]? → wz.cell? ⟨g, 0, none⟩ = some (.string (tl f 18)) ∧ wz.frozen? ⟨g, 0, none⟩ = false)
    (cf31 _) (by
      rintro w' ⟨K, N, B, I, L, G, h1, h2, h3⟩
      refine ⟨K, N, B, I, L, G, h1, h2.alloc _, ?_⟩
      have hl : g < w'.heap.size := Nat.lt_of_lt_of_le hlt h2.kept.size
      intro wz hwz
      exact h3 wz (hwz.trans (Below.heap_alloc _ _ _ hl)))
    ((rh1_ok f g w h hg hz).mono (by
      rintro e w' ⟨rfl, G, h1, h2, h3, h4⟩
      exact ⟨.inl rfl, _, _, _, _, _, G, ⟨⟨⟨rfl, rfl⟩, rfl, rfl, rfl⟩, h1⟩, h2, fun wz hwz => ⟨(cell_of hwz).trans h3, (frozen_of hwz).trans h4⟩⟩))
  refine (readHeader_core g w (fun K N B I L G => ((K = (numAt f 4 1 : Nat) ∧ N = (numAt f 5 1 : Nat)) ∧ (B = (numAt f 8 2 : Nat) ∧ I = (numAt f 6 1 : Nat) ∧ L = (numAt f 10 4 : Nat))) ∧ (G = true ↔ Gd f))
    (fun o => ∀ wz : World, wz.heap[g]? = o → wz.cell? ⟨g, 0, none⟩ = some (.string (tl f 18)) ∧ wz.frozen? ⟨g, 0, none⟩ = false) hlt U).mono ?_
  rintro e w' ⟨K, N, B, I, L, G, ⟨⟨⟨rfl, rfl⟩, rfl, rfl, rfl⟩, hG⟩, rfl, hk, hd⟩
  exact ⟨⟨G, hG, rfl⟩, hk, (hd w' rfl).1, (hd w' rfl).2⟩

theorem readHeader_short (f : ByteArray) (g : Nat) (w : World) (h : ¬ 18 ≤ f.size) (hg : w.cell? ⟨g, 0, none⟩ = some (.string (tl f 0))) (hz : w.frozen? ⟨g, 0, none⟩ = false) :
    Calls Try.prog 23 #[.pointer (some ⟨g, 0, none⟩)] w fun e w' =>
      e = .returned (.tuple #[hdr 0 0 0 0 0, .bool false]) ∧ w.grownBy w' (some g) := by
  have hlt := World.block_lt_of_cell? _ _ hg
  have U := untilEnd_any 31 #[.pointer (some ⟨w.heap.size, 0, none⟩), .pointer (some ⟨w.heap.size + 1, 0, none⟩), .pointer (some ⟨w.heap.size + 2, 0, none⟩)] (wRH w g)
    (fun w' => ∃ (K N B I L : Int) (G : Bool), (K = 0 ∧ N = 0 ∧ B = 0 ∧ I = 0 ∧ L = 0 ∧ G = false) ∧ RH w g K N B I L G w' ∧ True)
    (cf31 _) (by rintro w' ⟨K, N, B, I, L, G, h1, h2, h3⟩; exact ⟨K, N, B, I, L, G, h1, h2.alloc _, trivial⟩)
    ((rh1_short f g w h hg hz).mono (by rintro e w' ⟨rfl, h2⟩; exact ⟨.inr rfl, _, _, _, _, _, _, ⟨rfl, rfl, rfl, rfl, rfl, rfl⟩, h2, trivial⟩))
  refine (readHeader_core g w (fun K N B I L G => K = 0 ∧ N = 0 ∧ B = 0 ∧ I = 0 ∧ L = 0 ∧ G = false) (fun _ => True) hlt U).mono ?_
  rintro e w' ⟨K, N, B, I, L, G, ⟨rfl, rfl, rfl, rfl, rfl, rfl⟩, rfl, hk, _⟩
  exact ⟨rfl, hk⟩
end Go.Proofs.Ytfnnakignemifaa
