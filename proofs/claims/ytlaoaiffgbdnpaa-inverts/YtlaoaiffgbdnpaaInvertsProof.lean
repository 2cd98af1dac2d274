import Derived.Test.YtlaoaiffgbdnpaaRows
import Derived.Test.YtlaoaiffgbdnpaaInvertsWalk
import Derived.Test.YtlaoaiffgbdnpaaInw1
import Derived.WalkKit
import Derived.ProofKit
import Derived.OpenShut
import Derived.ShutString
import Derived.ChangeOld
import Derived.Below
import Derived.SizedLaws
import Derived.Deep.Matrix
namespace Go.Proofs.Ytlaoaiffgbdnpaa.inverts
open Go.ChangeShapes Go.WideShapes Go.ChangeAt Go.RowKit
open Go.ChangeMaps (open_string shut_string)
open Go.Deep
set_option linter.unusedVariables false

theorem own : ownKnob Try.prog.godebug = none := by kernel_rfl
theorem laidOut : laidOutB Try.prog = true := by kernel_rfl
theorem bytes5 : Try.prog.bytesOf 5 = 1 := by kernel_rfl
theorem bytes27 : Try.prog.bytesOf 27 = 24 := by kernel_rfl
theorem cells5 : Try.prog.cellsOf 5 = 1 := by kernel_rfl
theorem cells27 : Try.prog.cellsOf 27 = 1 := by kernel_rfl

theorem weightsAll_mem {H : Type} {P : Program} {e : TypeId} : ∀ {ds : List (DataW H)} {d : DataW H}, d ∈ ds → ∀ n ∈ d.weights P e, n ∈ DataW.weightsAll P e ds
  | d0 :: ds, d, hd, n, hn => by
    simp only [DataW.weightsAll, List.mem_append]
    rcases List.mem_cons.1 hd with rfl | h
    · exact .inl hn
    · exact .inr (weightsAll_mem h n hn)
theorem sized_row {H : Type} {P : Program} {ts : List TypeId} {ds : List (DataW H)} (h : (DataW.weightsEach P ts ds).all (· ≤ reachBytes) = true) {j : Nat} {t e q : TypeId} {elems spare es sp : List (DataW H)} (ht : ts[j]? = some t) (hd : ds[j]? = some (.slice elems spare)) (hu : P.underlying t = some (.slice e))
    (he : P.underlying e = some (.slice q)) (hm : .slice es sp ∈ elems) : (es.length + sp.length) * P.bytesOf q ≤ reachBytes := by
  have := List.all_eq_true.1 h _ (DataW.weights_mem_each ht hd ((es.length + sp.length) * P.bytesOf q) (by
    simp only [DataW.weights, hu, List.mem_cons, List.mem_append]
    exact .inr (.inl (weightsAll_mem hm _ (by simp [DataW.weights, he])))))
  simpa using this

def IsRows (w : World) (a : Option Addr) (len : Nat) : Prop :=
  len = 0 ∨ ∃ (g off : Nat) (vs : List Value) (M : List (List Nat)), a = some ⟨g, off, none⟩ ∧ 1 ≤ len ∧ len * 24 ≤ 140737488351232 ∧ View w g off len vs M ∧ (∀ x ∈ M, ∀ y ∈ x, y < 256) ∧ ∀ x ∈ M, x.length ≤ 140737488351232

theorem isRows {W : World} {x : Addr} {len cap : Nat} {A : Nat → Option Addr} {L C : Nat → Nat} {Z : Nat → List Int} (hl : len ≤ cap) (h24 : len * 24 ≤ 140737488351232) (hs : ∀ r, r < len → L r ≤ 140737488351232)
    (hr : ∀ r, r < cap → W.cell? (x.add r) = some (.slice (A r) (L r) (C r)) ∧ L r ≤ C r ∧ C r ≤ maxLen ∧ (Z r).length = C r ∧ (∀ n ∈ Z r, (Lit.int .u8 n).wf = true) ∧ (A r = none → C r = 0) ∧
        ∀ a', A r = some a' → 0 ≤ a'.block ∧ ∀ c, c < C r → W.cell? (a'.add c) = some (.int .u8 ((Z r).getD c 0))) : IsRows W (some x) len := by
  rcases Nat.eq_zero_or_pos len with h0 | h0
  · exact .inl h0
  right
  have hspot : x.spot = none := by simpa [Addr.add] using World.cell?_spot (hr 0 (by omega)).1
  obtain ⟨b, off, spot⟩ := x
  simp only at hspot
  subst hspot
  refine ⟨b, off, (List.range len).map (fun r => .slice (A r) (L r) (C r)), (List.range len).map (fun r => ((Z r).take (L r)).map Int.toNat), rfl, h0, h24, ⟨by simp, by simp, ?_, ?_⟩, ?_, ?_⟩
  · intro k r hk
    have hlt : k < len := by simpa using (List.getElem?_eq_some_iff.1 hk).1
    rw [List.getElem?_map, List.getElem?_range hlt] at hk
    simp only [Option.map_some, Option.some.injEq] at hk
    subst hk
    have := (hr k (by omega)).1
    have ha : (⟨b, off, none⟩ : Addr).add k = ⟨b, off + k, none⟩ := by simp [Addr.add]
    rw [ha] at this
    exact this
  · intro k r y hk hy
    have hlt : k < len := by simpa using (List.getElem?_eq_some_iff.1 hk).1
    rw [List.getElem?_map, List.getElem?_range hlt] at hk hy
    · simp only [Option.map_some, Option.some.injEq] at hk hy
      subst hk
      obtain ⟨h1, h2, h3, h4, h5, h6, h7⟩ := hr k (by omega)
      have hyl : y.length = L k := by rw [← hy]; simp; omega
      refine ⟨A k, C k, by rw [hyl], ?_, by omega, by have := hs k hlt; omega⟩
      intro i u hu
      have hi : i < L k := by have := (List.getElem?_eq_some_iff.1 hu).1; omega
      subst hy
      simp only [List.getElem?_map, Option.map_eq_some_iff] at hu
      obtain ⟨z, hzi, rfl⟩ := hu
      rw [List.getElem?_take, if_pos hi] at hzi
      cases hA : A k with
      | none => have := h6 hA; omega
      | some a' =>
        have hc := (h7 a' hA).2 i (by omega)
        have hsp : a'.spot = none := by simpa [Addr.add] using World.cell?_spot ((h7 a' hA).2 0 (by omega))
        obtain ⟨b', off', spot'⟩ := a'
        simp only at hsp
        subst hsp
        refine ⟨b', off', rfl, ?_⟩
        have hb := bounds_u8 (h5 z (List.mem_of_getElem? hzi))
        have e : (Z k).getD i 0 = z := by simp [List.getD, hzi]
        rw [e] at hc
        have ha : (⟨b', off', none⟩ : Addr).add i = ⟨b', off' + i, none⟩ := by simp [Addr.add]
        rw [ha] at hc
        rw [hc]
        have : ((z.toNat : Nat) : Int) = z := by omega
        rw [this]
  · intro y hy u hu
    simp only [List.mem_map, List.mem_range] at hy
    obtain ⟨k, hk, rfl⟩ := hy
    simp only [List.mem_map] at hu
    obtain ⟨z, hz, rfl⟩ := hu
    have := bounds_u8 ((hr k (by omega)).2.2.2.2.1 z (List.mem_of_mem_take hz))
    omega
  · intro y hy
    simp only [List.mem_map, List.mem_range] at hy
    obtain ⟨k, hk, rfl⟩ := hy
    have := hs k hk
    simp
    omega

theorem walk (a0 : Option Addr) (len0 cap0 : Nat) (w : World) (w0 : IsRows w a0 len0) :
    Calls Try.prog 7 #[.slice a0 len0 cap0] w fun e w' => e = .returned (.bool true) ∧ Below w.heap.size w w' := by
  rcases w0 with rfl | ⟨g, off, vs, M, rfl, h1, h2, h3, h4, h5⟩
  · exact inverts_none a0 cap0 w
  · exact inverts_pos g off len0 cap0 vs M w h1 h2 h3 h4 h5

set_option maxRecDepth 100000 in
theorem lifted (os : Os) (started : os.Started) (H : Type) (enc : TypeId × Value → H) :
    ReturnsInHanded {} Try.checked os 7 .any (Rows.invertsSpec.pre6 enc Try.prog Try.f7 Rows.invertsRow.domain false) (Rows.invertsSpec.post enc Try.prog Try.f7 false true false false) := by
  refine returnsInHanded_of_change_sized (C := Try.checked) own started (by kernel_rfl) Try.func7
    (ChangeSpec.witness6 (enc := enc) (C := Try.checked) false ⟨#[], #[.slice none 0 0], []⟩ 8 (by kernel_rfl) (by kernel_rfl) (by kernel_rfl) (by kernel_rfl)) ?_
  intro W base args ds gs before hval0 hW hcnd hsz0 _
  have hsz : (DataW.weightsEach Try.prog (Try.f7.params.toList ++ Rows.invertsSpec.plain.varTypes Try.prog) (ds ++ gs)).all (· ≤ reachBytes) = true := hsz0
  clear hsz0
  have hval : ∀ (j : Nat) t v, Try.f7.params[j]? = some t → args[j]? = some v → Value.okWide Try.prog W .any base t v := hval0
  have hW' := hW
  obtain ⟨p, q, hA0, hV, rfl, hfz, hnd⟩ := hW
  have hA : DataW.TrodAll enc Try.prog W 0 (fun _ => true) true Try.f7.params.toList args.toList ds p := hA0
  rw [Try.params7] at hA hval hsz
  obtain ⟨v0, vs0, d0, ds0, p0, q0, hargs, rfl, rfl, h0, r0⟩ := trodAll_cons hA
  obtain ⟨rfl, rfl, rfl⟩ := trodAll_nil r0
  obtain rfl : args = #[v0] := by cases args; simp_all
  obtain ⟨rfl, rfl⟩ := trodVars_none hV
  obtain ⟨a0, len0, cap0, rfl⟩ := okWide_slice Try.underlying38 (hval 0 38 v0 rfl rfl)
  have k0 := h0
  have lt0 : ∀ x ∈ p0, x.block < W.heap.size := by obtain ⟨m, hm⟩ := k0; exact DataW.trod_lt m _ _ _ hm
  have w0 : IsRows W a0 len0 := by
    obtain ⟨fuel, hf⟩ := h0
    rcases open_int_rows Try.underlying38 Try.underlying27 Try.underlying5 cells27 cells5 hf with ⟨hcs, _⟩ | ⟨x, l, c, A, L, C, Z, hcs, _, hl, hm, hx, hrow⟩
    · simp [Value.cells] at hcs
      obtain ⟨rfl, rfl, rfl⟩ := hcs
      exact .inl rfl
    · simp [Value.cells] at hcs
      obtain ⟨rfl, rfl, rfl⟩ := hcs
      simp only [Prod.mk.injEq] at hx
      have hr := sized_slice hsz (j := 0) (t := 38) (e := 27) rfl (by rw [hx.1]; rfl) Try.underlying38
      rw [bytes27] at hr
      simp only [List.length_map, List.length_range, reachBytes] at hr
      refine isRows hl (by omega) ?_ hrow
      intro r hrl
      obtain ⟨h1, h2, h3, h4, h5, h6, h7⟩ := hrow r (by omega)
      cases hA : A r with
      | none => have := h6 hA; omega
      | some a' =>
        have hm' : (intRow (H := H) .u8 (A r) (L r) (Z r)) ∈ (List.range len0).map (fun r => intRow (H := H) .u8 (A r) (L r) (Z r)) := List.mem_map.2 ⟨r, List.mem_range.2 hrl, rfl⟩
        rw [show intRow (H := H) .u8 (A r) (L r) (Z r) = .slice (lits .u8 ((Z r).take (L r))) (lits .u8 ((Z r).drop (L r))) by rw [hA]; rfl] at hm'
        have := sized_row hsz (j := 0) (t := 38) (e := 27) (q := 5) rfl (by rw [hx.1]; rfl) Try.underlying38 Try.underlying27 hm'
        rw [bytes5] at this
        simp only [lits, List.length_map, List.length_take, List.length_drop, reachBytes] at this
        omega
  clear hA0 hval0
  refine (walk a0 len0 cap0 W w0).mono fun e W' ⟨he, bel⟩ => ?_
  subst he
  exact ⟨_, rfl, _, _, _, [], _, [], hW', trodAll_mk1 (shut_bool Try.underlying4 _), (trodAll_cons_mk (Below.trod laidOut (by kernel_rfl) (of_decide_eq_true (by kernel_rfl)) k0 bel lt0) trodAll_mk0), rfl, bel.frame _, fun h => by cases h⟩

theorem over : Rows.invertsRow.holds Try.pinned (OpenSpec.ofChange Rows.invertsSpec) :=
  OpenClaim.holds_of_wide 7 Try.f7 rfl rfl rfl rfl rfl rfl rfl ⟨rfl, rfl, rfl, rfl, rfl⟩ rfl rfl rfl rfl rfl (by kernel_rfl) Try.func7 (by kernel_rfl)
    (of_decide_eq_true (by kernel_rfl)) (by unfold Func.isWrapper; first | (rw [if_pos (by decide +kernel)]; kernel_rfl) | (rw [if_neg (by decide +kernel)]; exact ⟨rfl, rfl⟩))
    (fun os started H enc _ => lifted os started H enc)

theorem proved : Rows.InvertsSaid := over
end Go.Proofs.Ytlaoaiffgbdnpaa.inverts
namespace Go.Proofs.Ytlaoaiffgbdnpaa
theorem inverts_holds : Rows.InvertsSaid := inverts.proved
end Go.Proofs.Ytlaoaiffgbdnpaa
