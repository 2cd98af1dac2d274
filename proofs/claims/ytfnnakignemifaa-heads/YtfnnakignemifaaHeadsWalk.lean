import Derived.Test.YtfnnakignemifaaH6
namespace Go.Proofs.Ytfnnakignemifaa
open Go.RowKit

theorem nat_of (x : Int) (h : 0 ≤ x) : ∃ n : Nat, x = n := ⟨x.toNat, by omega⟩
/-- both ways of Head answer the same -/
theorem heads_both (K N B I L : Int) : ∃ (s : ByteArray) (c : Int), (∀ w : World, Calls Try.prog 9 #[hdr K N B I L] w fun e w' => e = .returned (.tuple #[.string s, .int .i64 c]) ∧ Below w.heap.size w w') ∧
    (∀ w : World, Calls Try.prog 10 #[hdr K N B I L] w fun e w' => e = .returned (.tuple #[.string s, .int .i64 c]) ∧ Below w.heap.size w w') := by
  by_cases h : Hok K N B I L
  · obtain ⟨hM, i0, iN, l0, lM⟩ := h
    obtain ⟨k, rfl⟩ := nat_of K (by have := hM.k1; omega)
    obtain ⟨n, rfl⟩ := nat_of N (by omega)
    obtain ⟨b, rfl⟩ := nat_of B (by have := hM.b1; omega)
    obtain ⟨i, rfl⟩ := nat_of I i0
    obtain ⟨l, rfl⟩ := nat_of L l0
    exact ⟨_, _, fun w => head_yes k n b i l w ⟨hM, i0, iN, l0, lM⟩, fun w => refHead_yes k n b i l w ⟨hM, i0, iN, l0, lM⟩⟩
  · exact ⟨_, _, fun w => head_no K N B I L w h, fun w => refHead_no K N B I L w h⟩

set_option maxHeartbeats 400000 in
theorem heads_walk (K N B I L : Int) (w : World) :
    Calls Try.prog 4 #[hdr K N B I L] w fun e w' => e = .returned (.bool true) ∧ Below w.heap.size w w' := by
  obtain ⟨s, c, h1, h2⟩ := heads_both K N B I L
  have H1 : Hid (∀ w : World, Calls Try.prog 9 #[hdr K N B I L] w fun e w' => e = .returned (.tuple #[.string s, .int .i64 c]) ∧ Below w.heap.size w w') := h1
  have H2 : Hid (∀ w : World, Calls Try.prog 10 #[hdr K N B I L] w fun e w' => e = .returned (.tuple #[.string s, .int .i64 c]) ∧ Below w.heap.size w w') := h2
  clear h1 h2
  go_enter Try.func4, Try.ntmps4
  go_wp2_with fail
  refine (H1.out _).mono ?_
  rintro e w1 ⟨rfl, hb⟩
  have hS := Box5i.new hb
  obtain ⟨c0, c1, c2, c3, c4, hbb⟩ := hS
  clear hb
  go_wp2_with fail
  refine (H2.out _).mono ?_
  rintro e w2 ⟨rfl, hb2⟩
  have hb3 : Below w.heap.size w w2 := hbb.trans (hb2.mono hbb.size)
  clear hb2
  go_wp2_with fail
  go_ret
  exact ⟨rfl, hb3⟩
end Go.Proofs.Ytfnnakignemifaa
