import Derived.Test.YtfnnakignemifaaHeadsWalk
import Derived.ProofKit
import Derived.OpenShut
import Derived.ShutString
import Derived.ChangeOld
import Derived.ChangeSame
import Derived.Deep.Strs
namespace Go.Proofs.Ytfnnakignemifaa.heads
open Go.ChangeShapes Go.WideShapes Go.ChangeAt Go.RowKit Go.Deep

theorem own : ownKnob Try.prog.godebug = none := by kernel_rfl
theorem cells3 : Try.prog.cellsOf 3 = 1 := by kernel_rfl
theorem cells26 : Try.prog.cellsOf 26 = 3 := by kernel_rfl
theorem cells28 : Try.prog.cellsOf 28 = 5 := by kernel_rfl

abbrev hdrD (H : Type) (K N B I L : Int) : DataW H := .agg [.agg [.lit (.int .i64 K), .lit (.int .i64 N), .lit (.int .i64 B)], .lit (.int .i64 I), .lit (.int .i64 L)]
set_option maxHeartbeats 800000 in
theorem open_hdr {H : Type} {enc : TypeId × Value → H} {W : World} {v0 : Value} {d0 : DataW H} {p0 : List MemPlace} {base : Nat}
    (hv : Value.okWide Try.prog W .any base 28 v0) (h0 : DataW.Trod enc Try.prog W 0 (fun _ => true) true 28 v0 d0 p0) :
    ∃ K N B I L : Int, v0 = hdr K N B I L ∧ d0 = hdrD H K N B I L ∧ p0 = [] ∧ ∀ (W' : World) (sp : Nat → Bool), DataW.Trod enc Try.prog W' 0 sp true 28 (hdr K N B I L) (hdrD H K N B I L) [] := by
  obtain ⟨cs, rfl, hsz⟩ := okWide_struct Try.underlying28 hv
  rw [cells28] at hsz
  obtain ⟨l⟩ := cs
  match l, hsz with
  | [z0, z1, z2, z3, z4], _ =>
  obtain ⟨fuel, hf⟩ := h0
  obtain ⟨y0, y1, y2, m, hx, _, hy0, hy1, hy2⟩ := trod_struct3 Try.underlying28 hf
  obtain ⟨u0, u1, u2, m', hx', _, hu0, hu1, hu2⟩ := trod_struct3 Try.underlying26 hy0
  obtain ⟨K, e0, rfl, wK⟩ := DataW.trod_int Try.underlying3 hu0
  obtain ⟨N, e1, rfl, wN⟩ := DataW.trod_int Try.underlying3 hu1
  obtain ⟨B, e2, rfl, wB⟩ := DataW.trod_int Try.underlying3 hu2
  obtain ⟨I, e3, rfl, wI⟩ := DataW.trod_int Try.underlying3 hy1
  obtain ⟨L, e4, rfl, wL⟩ := DataW.trod_int Try.underlying3 hy2
  simp [Value.cells, cells3, cells26] at e0 e1 e2 e3 e4
  subst e0 e1 e2 e3 e4
  simp only [] at hx'
  subst hx'
  simp only [Prod.mk.injEq] at hx
  obtain ⟨rfl, rfl⟩ := hx
  refine ⟨K, N, B, I, L, rfl, rfl, rfl, ?_⟩
  exact fun W' sp => ⟨3, by
    have i1 : ∀ (n : Nat) (x : Int), (Lit.int .i64 x).wf = true → DataW.trod enc Try.prog W' 0 sp true (n + 1) 3 [.int .i64 x] = some (.lit (.int .i64 x), []) := fun n x hx => trod_int_mk n Try.underlying3 hx
    have t0 := trod_struct3_mk (enc := enc) (w := W') (base := 0) (spare := sp) (held := true) (n := 1) (cs := [.int .i64 K, .int .i64 N, .int .i64 B]) Try.underlying26 (by simp [cells26]) (by simpa [cells3] using i1 0 K wK) (by simpa [cells3] using i1 0 N wN) (by simpa [cells3] using i1 0 B wB)
    have := trod_struct3_mk (enc := enc) (w := W') (base := 0) (spare := sp) (held := true) (n := 2) (cs := [.int .i64 K, .int .i64 N, .int .i64 B, .int .i64 I, .int .i64 L]) Try.underlying28 (by simp [cells28]) (by simpa [cells26] using t0) (by simpa [cells3] using i1 1 I wI) (by simpa [cells3] using i1 1 L wL)
    simpa [Value.cells] using this⟩

set_option maxRecDepth 100000 in
theorem lifted (os : Os) (started : os.Started) (H : Type) (enc : TypeId × Value → H) :
    ReturnsInHanded {} Try.checked os 4 .any (Rows.headsSpec.pre6 enc Try.prog Try.f4 Rows.headsRow.domain false) (Rows.headsSpec.post enc Try.prog Try.f4 false true false false) := by
  refine returnsInHanded_of_change (C := Try.checked) own started (by kernel_rfl) Try.func4
    (ChangeSpec.witness6 (enc := enc) (C := Try.checked) false ⟨#[], #[hdr 0 0 0 0 0], []⟩ 8 (by kernel_rfl) (by kernel_rfl) (by kernel_rfl) (by kernel_rfl)) ?_
  intro W base args ds gs before hval0 hW hcnd _
  have hval : ∀ (j : Nat) t v, Try.f4.params[j]? = some t → args[j]? = some v → Value.okWide Try.prog W .any base t v := hval0
  have hW' := hW
  obtain ⟨p, q, hA0, hV, rfl, hfz, hnd⟩ := hW
  have hA : DataW.TrodAll enc Try.prog W 0 (fun _ => true) true Try.f4.params.toList args.toList ds p := hA0
  rw [Try.params4] at hA hval
  obtain ⟨v0, vs0, d0, ds0, p0, q0, hargs, rfl, rfl, h0, r0⟩ := trodAll_cons hA
  obtain ⟨rfl, rfl, rfl⟩ := trodAll_nil r0
  obtain rfl : args = #[v0] := by cases args; simp_all
  obtain ⟨rfl, rfl⟩ := trodVars_none hV
  obtain ⟨K, N, B, I, L, rfl, rfl, rfl, structReads⟩ := open_hdr (hval 0 28 v0 rfl rfl) h0
  clear hA0 hval0
  simp only [List.append_nil] at hW'
  refine (heads_walk K N B I L W).mono fun e W' ⟨he, hg⟩ => ?_
  subst he
  exact ⟨_, rfl, _, _, _, [], _, [], hW', trodAll_mk1 (shut_bool Try.underlying4 _), trodAll_cons_mk (structReads _ _) trodAll_mk0, rfl, hg.frame _, fun h => by cases h⟩

theorem proved : Rows.HeadsSaid :=
  OpenClaim.holds_of_wide 4 Try.f4 rfl rfl rfl rfl rfl rfl rfl ⟨rfl, rfl, rfl, rfl, rfl⟩ rfl rfl rfl rfl rfl (by kernel_rfl) Try.func4 (by kernel_rfl)
    (of_decide_eq_true (by kernel_rfl)) (by unfold Func.isWrapper; first | (rw [if_pos (by decide +kernel)]; kernel_rfl) | (rw [if_neg (by decide +kernel)]; exact ⟨rfl, rfl⟩))
    (fun os started H enc _ => lifted os started H enc)
end Go.Proofs.Ytfnnakignemifaa.heads
namespace Go.Proofs.Ytfnnakignemifaa
theorem heads_holds : Rows.HeadsSaid := heads.proved
end Go.Proofs.Ytfnnakignemifaa
