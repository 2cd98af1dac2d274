import Derived.Test.YtlfhbpihdjipeaaH6
namespace Go.Proofs.Ytlfhbpihdjipeaa
open Go.RowKit

theorem nat_of (x : Int) (h : 0 ≤ x) : ∃ n : Nat, x = n := ⟨x.toNat, by omega⟩
/-- both ways of Head answer the same -/
theorem heads_both (K N B I L : Int) : ∃ (s : ByteArray) (c : Int), (∀ w : World, Calls Try.prog 27 #[hdr K N B I L] w fun e w' => e = .returned (.tuple #[.string s, .int .i64 c]) ∧ Below w.heap.size w w') ∧
    (∀ w : World, Calls Try.prog 22 #[hdr K N B I L] w fun e w' => e = .returned (.tuple #[.string s, .int .i64 c]) ∧ Below w.heap.size w w') := by
  by_cases h : Hok K N B I L
  · obtain ⟨hM, i0, iN, l0, lM⟩ := h
    obtain ⟨k, rfl⟩ := nat_of K (by have := hM.k1; omega)
    obtain ⟨n, rfl⟩ := nat_of N (by omega)
    obtain ⟨b, rfl⟩ := nat_of B (by have := hM.b1; omega)
    obtain ⟨i, rfl⟩ := nat_of I i0
    obtain ⟨l, rfl⟩ := nat_of L l0
    exact ⟨_, _, fun w => head_yes k n b i l w ⟨hM, i0, iN, l0, lM⟩, fun w => refHead_yes k n b i l w ⟨hM, i0, iN, l0, lM⟩⟩
  · exact ⟨_, _, fun w => head_no K N B I L w h, fun w => refHead_no K N B I L w h⟩

end Go.Proofs.Ytlfhbpihdjipeaa
