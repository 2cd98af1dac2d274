import Derived.Test.YtlfhbpihdjipeaaL6
namespace Go.Proofs.Ytlfhbpihdjipeaa
open Go.RowKit

set_option maxHeartbeats 400000 in
theorem wholeBytes_any (k n b i l : Nat) (w : World) (hk : 1 ≤ k) (hk2 : k ≤ 32) (hb : 1 ≤ b) (hb2 : b ≤ 256) (hl : l ≤ 16384) :
    Calls Try.prog 18 #[hdr k n b i l] w fun e w' => e = .returned (.int .i64 ((18 + st k b l * (b + 8) : Nat) : Int)) ∧ Below w.heap.size w w' := by
  have hs1 := st_le k b l hk hb
  have hS := Box5.new w k n b i l 33
  have c0 := hS.c0
  have c1 := hS.c1
  have c2 := hS.c2
  have c3 := hS.c3
  have c4 := hS.c4
  have HP : Hid (∀ w, Calls Try.prog 28 #[hdr k n b i l] w fun e w' => e = .returned (.int .i64 (st k b l : Nat)) ∧ Below w.heap.size w w') := fun w => stripes_any k n b i l w hk hk2 hb hb2 hl
  have HQ : Hid (∀ w, Calls Try.prog 31 #[.agg #[.int .i64 k, .int .i64 n, .int .i64 b], .int .i64 (st k b l : Nat)] w fun e w' => e = .returned (.int .i64 ((18 + st k b l * (b + 8) : Nat) : Int)) ∧ Below w.heap.size w w') := fun w => framePlace_any k n b _ w hb2 (by omega)
  generalize 18 + st k b l * (b + 8) = y at *
  generalize hss : st k b l = s at *
  clear hss
  go_enter Try.func18, Try.ntmps18
  go_wp2_with fail
  have hS := hS.drew
  go_region_held3 (fun w' => w'.cell? ⟨w.heap.size, 0, none⟩ = some (.int .i64 k) ∧ w'.cell? ⟨w.heap.size, 1, none⟩ = some (.int .i64 n) ∧ w'.cell? ⟨w.heap.size, 2, none⟩ = some (.int .i64 b) ∧ w'.cell? ⟨w.heap.size, 3, none⟩ = some (.int .i64 i) ∧ w'.cell? ⟨w.heap.size, 4, none⟩ = some (.int .i64 l)) (exact ⟨hS.c0, hS.c1, hS.c2, hS.c3, hS.c4⟩) (first | (go_at_call 28; with_reducible refine (HP.out _).mono ?_; rintro e w2 ⟨rfl, hb2⟩; have hS := hS.go hb2; clear hb2) | (go_at_call 31; with_reducible refine (HQ.out _).mono ?_; rintro e w2 ⟨rfl, hb2⟩; have hS := hS.go hb2; clear hb2))
  go_wp2_with fail
  go_ret
  exact ⟨rfl, hS.below⟩

/-- where the frame t must stand -/
abbrev pos (b t : Nat) : Nat := 18 + t * (b + 8)
theorem ext_ext (f : ByteArray) (a b i j : Nat) (h : a + j ≤ b) : (f.extract a b).extract i j = f.extract (a + i) (a + j) := by
  rw [ByteArray.extract_extract]
  congr 1; omega

set_option maxHeartbeats 400000 in
theorem goodFrame_short (f : ByteArray) (k n b i l t a g : Nat) (w : World) (hb2 : b ≤ 256) (h : f.size < a + (b + 8)) (ha : a ≤ f.size) (hg : w.cell? ⟨g, 0, none⟩ = some (.string (tl f a))) :
    Calls Try.prog 30 #[.pointer (some ⟨g, 0, none⟩), hdr k n b i l, .int .i64 t] w fun e w' => e = .panicked [short] ∧ Below w.heap.size w w' := by
  have hlt := World.block_lt_of_cell? _ _ hg
  go_enter Try.func30, Try.ntmps30
  go_wp2_with fail
  refine (frameBytes_any k n b _ hb2).mono ?_
  rintro e w1 ⟨rfl, hb1⟩
  have cg : w1.cell? ⟨g, 0, none⟩ = some (.string (tl f a)) := (hb1.cell (p := ⟨g, 0, none⟩) (by simp; omega)).trans (al1 hg _)
  have B1 : Below w.heap.size w w1 := ((Below.refl _ _).alloc (Nat.le_refl _) _).trans (hb1.mono (by simp))
  clear hb1 hg
  go_wp2_with fail
  refine (take_short f a (b + 8) g _ h ha cg).mono ?_
  rintro e w2 ⟨rfl, rfl⟩
  exact ⟨rfl, rfl, B1⟩

theorem Rd.drew {w w' : World} {f : ByteArray} {g a : Nat} (h : Rd w f g a w') : Rd w f g a w'.drew := ⟨gb_drew h.kept, h.cell, h.fz⟩
theorem rd_go {w w2 w3 : World} {f : ByteArray} {g a : Nat} {x : Value} (h : Rd w f g a w2 ∧ w2.cell? ⟨w.heap.size, 3, none⟩ = some x ∧ w.heap.size < w2.heap.size) (hg : g < w.heap.size) (hb : Below w2.heap.size w2 w3) : Rd w f g a w3 ∧ w3.cell? ⟨w.heap.size, 3, none⟩ = some x ∧ w.heap.size < w3.heap.size := by
  obtain ⟨R2, c, l⟩ := h
  have hl2 : g < w2.heap.size := Nat.lt_trans hg l
  exact ⟨⟨gb_trans R2.kept (gb_below _ hb), (cell_of (hb.block g hl2)).trans R2.cell, (frozen_of (hb.block g hl2)).trans R2.fz⟩, (hb.cell (p := ⟨w.heap.size, 3, none⟩) l).trans c, Nat.lt_of_lt_of_le l hb.size⟩

set_option maxHeartbeats 400000 in
theorem goodFrame_ok (f : ByteArray) (k n b i l t a g : Nat) (w : World) (hb : 1 ≤ b) (hb2 : b ≤ 256) (hi : i ≤ 31) (ht : t ≤ 16384) (h : a + (b + 8) ≤ f.size) (hg : w.cell? ⟨g, 0, none⟩ = some (.string (tl f a))) (hz : w.frozen? ⟨g, 0, none⟩ = false) :
    Calls Try.prog 30 #[.pointer (some ⟨g, 0, none⟩), hdr k n b i l, .int .i64 t] w fun e w' => e = .returned (.bool ((f.extract a (a + (b + 8))).toList == (fr i t (f.extract (a + 4) (a + (4 + b)))).toList)) ∧ Rd w f g (a + (b + 8)) w' := by
  have hlt := World.block_lt_of_cell? _ _ hg
  have hbox := Box5.new w k n b i l 33
  go_enter Try.func30, Try.ntmps30
  go_wp2_with fail
  refine (frameBytes_any k n b _ hb2).mono ?_
  rintro e w1 ⟨rfl, hb1⟩
  have cg : w1.cell? ⟨g, 0, none⟩ = some (.string (tl f a)) := (hb1.cell (p := ⟨g, 0, none⟩) (by simp; omega)).trans (al1 hg _)
  have zg : w1.frozen? ⟨g, 0, none⟩ = false := by
    rw [frozen_of (hb1.block g (by simp; omega))]; exact al1f hg hz _
  have hS := hbox.go hb1
  have B1 : Below w.heap.size w w1 := hS.below
  clear hb1 hg hz hbox
  go_wp2_with fail
  refine (take_ok f a (b + 8) g _ h cg zg).mono ?_
  rintro e w2 ⟨rfl, hw2⟩
  have hne : w.heap.size ≠ g := by omega
  have eb : w2.heap[w.heap.size]? = w1.heap[w.heap.size]? := by rw [hw2]; exact Below.heap_setCell _ _ _ _ hne
  have c2 := (cell_of (j := 2) eb).trans hS.c2
  have c3 := (cell_of (j := 3) eb).trans hS.c3
  have R2 : Rd w f g (a + (b + 8)) w2 := by
    refine ⟨gb_trans (gb_below _ B1) (by rw [hw2]; exact gb_set _ _ _), by rw [hw2]; exact sc cg _, by rw [hw2]; exact scf zg _⟩
  have hlt2 : w.heap.size < w2.drew.heap.size := Nat.lt_of_lt_of_le hS.lt (by rw [hw2]; simp)
  clear hw2 eb hS B1 cg zg
  have hfs : (f.extract a (a + (b + 8))).size = b + 8 := by rw [ByteArray.size_extract]; omega
  have hcut : (f.extract a (a + (b + 8))).extract 4 ((f.extract a (a + (b + 8))).size - 4) = f.extract (a + 4) (a + (4 + b)) := by
    rw [hfs, show b + 8 - 4 = 4 + b by omega]; exact ext_ext f a _ 4 (4 + b) (by omega)
  have hbs : (f.extract (a + 4) (a + (4 + b))).size = b := by rw [ByteArray.size_extract]; omega
  generalize hF : f.extract a (a + (b + 8)) = F at *
  generalize hBk : f.extract (a + 4) (a + (4 + b)) = Bk at *
  have HF : Hid (f.extract a (a + (b + 8)) = F) := hF
  have HBk : Hid (f.extract (a + 4) (a + (4 + b)) = Bk) := hBk
  clear hF hBk
  have HB : Hid (∀ w, Calls Try.prog 44 #[.string F] w fun e w' => e = .returned (.string Bk) ∧ w' = w) := fun w => by
    have := blockOf_any F w (by omega) (by omega)
    rwa [hcut] at this
  have HR : Hid (∀ w, Calls Try.prog 43 #[.int .i64 i, .int .i64 t, .string Bk] w fun e w' => e = .returned (.tuple #[.string (fr i t Bk), .int .i64 0]) ∧ Below w.heap.size w w') := fun w => frame_yes i t Bk w ⟨by omega, by omega, by omega, by omega, by omega, by omega⟩
  clear hcut
  have hS : Rd w f g (a + (b + 8)) w2.drew ∧ w2.drew.cell? ⟨w.heap.size, 3, none⟩ = some (.int .i64 i) ∧ w.heap.size < w2.drew.heap.size := ⟨R2.drew, c3, hlt2⟩
  clear R2 c3 hlt2 c2
  go_wp2_with fail
  go_region_held3 (fun w' => w'.cell? ⟨w.heap.size, 3, none⟩ = some (.int .i64 i)) (exact hS.2.1) (first | (go_at_call 44; with_reducible refine (HB.out _).mono ?_; rintro e w3 ⟨rfl, rfl⟩) | (go_at_call 43; with_reducible refine (HR.out _).mono ?_; rintro e w3 ⟨rfl, hb3⟩; have hS := rd_go hS hlt hb3; clear hb3))
  have R3 := hS.1
  go_wp2_with fail
  go_ret
  exact ⟨by rw [HF.out, HBk.out]; rfl, R3⟩
end Go.Proofs.Ytlfhbpihdjipeaa
