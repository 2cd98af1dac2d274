import Derived.Test.YtlaoaiffgbdnpaaGs
namespace Gf
theorem row_out {n W : Nat} {T : List (List Nat)} (h : Tbl n W T) {j : Nat} (hj : n ≤ j) : row T j = [] := by
  simp [row, List.getElem?_eq_none (show T.length ≤ j by rw [h.1]; exact hj)]
theorem ent_nil (k : Nat) : ent [] k = 0 := by simp [ent]
/-- both ways give the same matrix -/
theorem agree {n : Nat} {T0 T1 T2 X : List (List Nat)} (h1 : Reach n (n + n) n T0 T1) (h2 : Fwd n (n + n) n T0 T2) (hX : Tbl n n X) (hR : ∀ k, k < n → row X k = backRow n k T2 X) : T1.map (fun r => r.drop n) = X := by
  have key : ∀ c, ∀ j, j < n → ent (row X j) c = ent (row T1 j) (n + c) := by
    intro c
    have hx : ∀ j, ent (row X j) c < 256 := by
      intro j
      by_cases hj : j < n
      · exact ent_lt (hX.2 j hj) c
      · rw [row_out hX (by omega), ent_nil]; decide
    have := (h1.done (fun j => ent (row X j) c) hx c).1 ?_
    · exact this
    · rw [← h2.az _ (res_lin (n + n) n _ c hx)]
      intro k hk
      exact backRow_res h2.tbl h2.tri hk (fun j _ hj => hX.2 j hj) (hR k hk) c
  apply List.ext_getElem?
  intro k
  by_cases hk : k < n
  · have e1 : T1[k]? = some (row T1 k) := by
      obtain ⟨r, hr⟩ : ∃ r, T1[k]? = some r := ⟨_, List.getElem?_eq_getElem (by rw [h1.tbl.1]; exact hk)⟩
      rw [hr]; simp [row, hr]
    have e2 : X[k]? = some (row X k) := by
      obtain ⟨r, hr⟩ : ∃ r, X[k]? = some r := ⟨_, List.getElem?_eq_getElem (by rw [hX.1]; exact hk)⟩
      rw [hr]; simp [row, hr]
    rw [List.getElem?_map, e1, e2]
    simp only [Option.map_some, Option.some.injEq]
    refine ext_ent (W := n) (by rw [List.length_drop, (h1.tbl.2 k hk).1]; omega) (hX.2 k hk).1 ?_
    intro c _
    rw [ent_drop, key c k hk]
  · rw [List.getElem?_eq_none (by simp [h1.tbl.1]; omega), List.getElem?_eq_none (by rw [hX.1]; omega)]
theorem agree_not1 {n c : Nat} {T0 T1 T2 : List (List Nat)} (h1 : Reach n (n + n) n T0 T1) (h2 : Fwd n (n + n) c T0 T2) (hc : c < n) (hz : ∀ r, c ≤ r → r < n → ent (row T2 r) c = 0) : False := by
  obtain ⟨x, x1, x2, x3⟩ := h2.fail hc hz
  have := (h1.done x x1 n).1 x3 c hc
  rw [ent_none (by rw [(h1.tbl.2 c hc).1]; omega)] at this
  exact x2 this
theorem agree_not2 {n i : Nat} {T0 T1 T2 : List (List Nat)} (h1 : Reach n (n + n) i T0 T1) (hi : i < n) (hz : ∀ r, i ≤ r → r < n → ent (row T1 r) i = 0) (h2 : Fwd n (n + n) n T0 T2) : False := by
  obtain ⟨x, x1, x2, x3⟩ := h1.fail hi hz
  exact x2 (h2.kernel x x1 x3 i hi)
end Gf
