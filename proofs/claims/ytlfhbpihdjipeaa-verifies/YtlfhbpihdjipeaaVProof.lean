import Derived.Test.YtlfhbpihdjipeaaRows
import Derived.Test.YtlfhbpihdjipeaaV11
import Derived.WalkKit
import Derived.ProofKit
import Derived.OpenShut
import Derived.ShutString
import Derived.ChangeOld
import Derived.Below
import Derived.SizedLaws
import Derived.Deep.Strs
namespace Go.Proofs.Ytlfhbpihdjipeaa.verifies
open Go.ChangeShapes Go.WideShapes Go.ChangeAt Go.RowKit
open Go.Deep

theorem own : ownKnob Try.prog.godebug = none := by kernel_rfl
theorem laidOut : laidOutB Try.prog = true := by kernel_rfl
theorem bytes9 : Try.prog.bytesOf 9 = 16 := by kernel_rfl
theorem cells9 : Try.prog.cellsOf 9 = 1 := by kernel_rfl

theorem weightsAll_mem {H : Type} {P : Program} {e : TypeId} : ∀ {ds : List (DataW H)} {d : DataW H}, d ∈ ds → ∀ n ∈ d.weights P e, n ∈ DataW.weightsAll P e ds
  | d0 :: ds, d, hd, n, hn => by
    simp only [DataW.weightsAll, List.mem_append]
    rcases List.mem_cons.1 hd with rfl | h
    · exact .inl hn
    · exact .inr (weightsAll_mem h n hn)
theorem sized_text {H : Type} {P : Program} {ts : List TypeId} {ds : List (DataW H)} (h : (DataW.weightsEach P ts ds).all (· ≤ reachBytes) = true) {j : Nat} {t e : TypeId} {elems spare : List (DataW H)} {bytes : List UInt8} (ht : ts[j]? = some t) (hd : ds[j]? = some (.slice elems spare)) (hu : P.underlying t = some (.slice e))
    (hm : .lit (.string bytes) ∈ elems) : bytes.length ≤ reachBytes := by
  have := List.all_eq_true.1 h _ (DataW.weights_mem_each ht hd bytes.length (by
    simp only [DataW.weights, hu, List.mem_cons, List.mem_append]
    exact .inr (.inl (weightsAll_mem hm _ (by simp [DataW.weights])))))
  simpa using this

def IsTexts (w : World) (a : Option Addr) (len : Nat) : Prop := ∃ fs : List ByteArray, fs.length = len ∧ len ≤ 8796093022207 ∧ Texts w a fs ∧ ∀ f ∈ fs, f.size ≤ 140737488355328

theorem walk (a0 : Option Addr) (len0 cap0 : Nat) (w : World) (w0 : IsTexts w a0 len0) :
    Calls Try.prog 3 #[.slice a0 len0 cap0] w fun e w' => e = .returned (.bool true) ∧ Below w.heap.size w w' := by
  obtain ⟨fs, hl, hn, ht, hs⟩ := w0
  rcases Nat.eq_zero_or_pos len0 with rfl | h0
  · exact verifies_zero verify_ok a0 cap0 w
  · by_cases h32 : len0 ≤ 32
    · obtain ⟨ss, h1, h2⟩ := sees_all fs hs
      exact verifies_pos verify_ok a0 len0 cap0 fs ss w h0 h32 hl ht ⟨h1, h2⟩
    · exact verifies_large verify_ok a0 len0 cap0 fs w (by omega) hn hl ht

set_option maxRecDepth 100000 in
theorem lifted (os : Os) (started : os.Started) (H : Type) (enc : TypeId × Value → H) :
    ReturnsInHanded {} Try.checked os 3 .any (Rows.verifiesSpec.pre6 enc Try.prog Try.f3 Rows.verifiesRow.domain false) (Rows.verifiesSpec.post enc Try.prog Try.f3 false true false false) := by
  refine returnsInHanded_of_change_sized (C := Try.checked) own started (by kernel_rfl) Try.func3
    (ChangeSpec.witness6 (enc := enc) (C := Try.checked) false ⟨#[], #[.slice none 0 0], []⟩ 8 (by kernel_rfl) (by kernel_rfl) (by kernel_rfl) (by kernel_rfl)) ?_
  intro W base args ds gs before hval0 hW hcnd hsz0 _
  have hsz : (DataW.weightsEach Try.prog (Try.f3.params.toList ++ Rows.verifiesSpec.plain.varTypes Try.prog) (ds ++ gs)).all (· ≤ reachBytes) = true := hsz0
  clear hsz0
  have hval : ∀ (j : Nat) t v, Try.f3.params[j]? = some t → args[j]? = some v → Value.okWide Try.prog W .any base t v := hval0
  have hW' := hW
  obtain ⟨p, q, hA0, hV, rfl, hfz, hnd⟩ := hW
  have hA : DataW.TrodAll enc Try.prog W 0 (fun _ => true) true Try.f3.params.toList args.toList ds p := hA0
  rw [Try.params3] at hA hval hsz
  obtain ⟨v0, vs0, d0, ds0, p0, q0, hargs, rfl, rfl, h0, r0⟩ := trodAll_cons hA
  obtain ⟨rfl, rfl, rfl⟩ := trodAll_nil r0
  obtain rfl : args = #[v0] := by cases args; simp_all
  obtain ⟨rfl, rfl⟩ := trodVars_none hV
  obtain ⟨a0, len0, cap0, rfl⟩ := okWide_slice Try.underlying22 (hval 0 22 v0 rfl rfl)
  have k0 := h0
  have lt0 : ∀ x ∈ p0, x.block < W.heap.size := by obtain ⟨m, hm⟩ := k0; exact DataW.trod_lt m _ _ _ hm
  have w0 : IsTexts W a0 len0 := by
    obtain ⟨fuel, hf⟩ := h0
    rcases open_strs Try.underlying22 Try.underlying9 cells9 hf with ⟨hcs, _⟩ | ⟨x, l, c, m, Sx, hcs, _, hl, hm, hmm, hx, hrow⟩
    · simp [Value.cells] at hcs
      obtain ⟨rfl, rfl, rfl⟩ := hcs
      exact ⟨[], rfl, by omega, fun i f h => by simp at h, fun f h => by simp at h⟩
    · simp [Value.cells] at hcs
      obtain ⟨rfl, rfl, rfl⟩ := hcs
      simp only [Prod.mk.injEq] at hx
      have hr := sized_slice hsz (j := 0) (t := 22) (e := 9) rfl (by rw [hx.1]; rfl) Try.underlying22
      rw [bytes9] at hr
      simp only [List.length_map, List.length_range, reachBytes] at hr
      have hlm : len0 ≤ m := by rw [hmm]; split <;> omega
      refine ⟨(List.range len0).map Sx, by simp, by omega, ?_, ?_⟩
      · intro i f hf
        have hi : i < len0 := by simpa using (List.getElem?_eq_some_iff.1 hf).1
        rw [List.getElem?_map, List.getElem?_range hi] at hf
        simp only [Option.map_some, Option.some.injEq] at hf
        subst hf
        have hc := (hrow i (by omega)).1
        have hspot : x.spot = none := by simpa [Addr.add] using World.cell?_spot (hrow 0 (by omega)).1
        obtain ⟨b, off, spot⟩ := x
        simp only at hspot
        subst hspot
        refine ⟨b, off, rfl, ?_⟩
        have ha : (⟨b, off, none⟩ : Addr).add i = ⟨b, off + i, none⟩ := by simp [Addr.add]
        rw [ha] at hc
        exact hc
      · intro f hf
        obtain ⟨i, hi, rfl⟩ := List.mem_map.1 hf
        have hi' : i < len0 := List.mem_range.1 hi
        have hm' : (.lit (.string (Sx i).data.toList) : DataW H) ∈ (List.range len0).map (fun i => (.lit (.string (Sx i).data.toList) : DataW H)) := List.mem_map.2 ⟨i, hi, rfl⟩
        have := sized_text hsz (j := 0) (t := 22) (e := 9) rfl (by rw [hx.1]; rfl) Try.underlying22 hm'
        have e : (Sx i).data.toList.length = (Sx i).size := by rw [Array.length_toList]; rfl
        rw [e] at this
        have hlt := reachBytes_lt
        omega
  clear hA0 hval0
  refine (walk a0 len0 cap0 W w0).mono fun e W' ⟨he, bel⟩ => ?_
  subst he
  exact ⟨_, rfl, _, _, _, [], _, [], hW', trodAll_mk1 (shut_bool Try.underlying4 _), (trodAll_cons_mk (Below.trod laidOut (by kernel_rfl) (of_decide_eq_true (by kernel_rfl)) k0 bel lt0) trodAll_mk0), rfl, bel.frame _, fun h => by cases h⟩

theorem proved : Rows.VerifiesSaid :=
  OpenClaim.holds_of_wide 3 Try.f3 rfl rfl rfl rfl rfl rfl rfl ⟨rfl, rfl, rfl, rfl, rfl⟩ rfl rfl rfl rfl rfl (by kernel_rfl) Try.func3 (by kernel_rfl)
    (of_decide_eq_true (by kernel_rfl)) (by unfold Func.isWrapper; first | (rw [if_pos (by decide +kernel)]; kernel_rfl) | (rw [if_neg (by decide +kernel)]; exact ⟨rfl, rfl⟩))
    (fun os started H enc _ => lifted os started H enc)
end Go.Proofs.Ytlfhbpihdjipeaa.verifies
namespace Go.Proofs.Ytlfhbpihdjipeaa
theorem verifies_holds : Rows.VerifiesSaid := verifies.proved
end Go.Proofs.Ytlfhbpihdjipeaa
