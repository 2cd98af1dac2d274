import Derived.Test.YtlfhbpihdjipeaaV7
namespace Go.Proofs.Ytlfhbpihdjipeaa
open Go.RowKit

theorem sameScans_zero (a1 a2 : Option Addr) (c1 c2 : Nat) (w : World) :
    Calls Try.prog 7 #[.slice a1 0 c1, .slice a2 0 c2] w fun e w' => e = .returned (.bool true) ∧ w' = w := by
  go_enter Try.func7, Try.ntmps7
  go_wp2
  refine wp_loop_rounds 1 ?_
  rw [rounds_succ]
  go_wp2
  go_ret
  exact ⟨rfl, rfl⟩

/-- what is held of the program's own Verify -/
structure VerifyOk : Prop where
  ok : ∀ (a : Option Addr) (n cap : Nat) (fs : List ByteArray) (ss : List Sc) (w : World), n ≤ 32 → fs.length = n → Texts w a fs → Seen fs ss →
    Calls Try.prog 6 #[.slice a n cap] w fun e w' => ∃ v L, e = .returned (.tuple #[v, .int .i64 0]) ∧ Below w.heap.size w w' ∧ Scans w' w.heap.size v L ∧ L.map (·.1) = ss
  large : ∀ (a : Option Addr) (n cap : Nat) (w : World), 32 < n → n ≤ 140737488355328 → Calls Try.prog 6 #[.slice a n cap] w fun e w' => e = .returned (.tuple #[.slice none 0 0, .int .i64 3]) ∧ Below w.heap.size w w'

theorem map_length {L : List (Sc × Value)} {ss : List Sc} (h : L.map (·.1) = ss) : L.length = ss.length := by rw [← h]; simp

/-- the Bad lists of an answer, as crossed wants them -/
theorem Scans.bads {w : World} {B g n c : Nat} {L : List (Sc × Value)} (h : Scans w B (.slice (some ⟨g, 0, none⟩) n c) L) (hn : L.length = n) : Bads w g n (L.map (·.2)) := by
  have r := h.row
  rw [hn] at r
  have get : ∀ (k : Nat) (v : Value), (L.map (·.2))[k]? = some v → ∃ s, L[k]? = some (s, v) := by
    intro k v hv
    simp only [List.getElem?_map, Option.map_eq_some_iff] at hv
    obtain ⟨⟨s, u⟩, h1, rfl⟩ := hv
    exact ⟨s, h1⟩
  refine ⟨by simp [hn], (r.lt g rfl).2, ?_, ?_, ?_⟩
  · intro k v hv
    obtain ⟨s, hs⟩ := get k v hv
    exact (c8_of r hn hs).c6
  · intro k v hv
    obtain ⟨s, hs⟩ := get k v hv
    obtain ⟨few, o⟩ := h.bad _ (List.mem_of_getElem? hs)
    exact ⟨_, _, few, owns_mono o (Nat.zero_le _)⟩
  · intro i j v v' b hij hi hj hv hv'
    obtain ⟨s, hs⟩ := get i v hi
    obtain ⟨s', hs'⟩ := get j v' hj
    exact h.dist i j _ _ b hij hs hs' hv hv'

/-- the blocks that hold no Bad list of these -/
def Safe (N : Nat) (vs ws : List Value) (k : Nat) : Prop := k < N ∧ (∀ v ∈ vs, v.ownBlock ≠ some k) ∧ (∀ v ∈ ws, v.ownBlock ≠ some k)
theorem Scans.top_safe {w w' : World} {B B1 g n c : Nat} {v : Value} {L L1 : List (Sc × Value)} (h : Scans w B (.slice (some ⟨g, 0, none⟩) n c) L) (h1 : Scans w B1 v L1) (_ : w' = w) : ∀ u ∈ L1.map (·.2), u.ownBlock ≠ some g := by
  intro u hu e
  obtain ⟨p, hp, rfl⟩ := List.mem_map.1 hu
  obtain ⟨_, o⟩ := h1.bad p hp
  exact owns_types o h.row (by decide) e rfl
end Go.Proofs.Ytlfhbpihdjipeaa
