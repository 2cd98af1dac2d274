import Derived.Test.YtlfhbpihdjipeaaL2
import Derived.Defers
import Derived.Recover
namespace Go.Proofs.Ytlfhbpihdjipeaa
open Go.RowKit

theorem catch_short (older : List PanicEntry) (w : World) :
    CallsD Try.prog 35 #[] (.panicking (short :: older)) w fun e u' w' =>
      e = .returned (.tuple #[]) ∧ u' = .panicking ({ v := .iface 68 (.agg #[]), recovered := true } :: older) ∧ w' = w.alloc (.cells #[] 68) := by
  have hn1 : ∀ w : World, (binOp .neq 20 (.iface 68 (.agg #[])) .nilIface).run Try.prog w = .ok (.bool true) w := fun _ => by kernel_rfl
  have hn2 : ∀ w : World, (binOp .neq 20 .nilIface .nilIface).run Try.prog w = .ok (.bool false) w := fun _ => by kernel_rfl
  have hta : ∀ w : World, (Instr.typeAssert (.iface 68 (.agg #[])) 20 68 true).run Try.prog w = .ok (.tuple #[.agg #[], .bool true]) w := fun _ => by kernel_rfl
  refine callsD_of_wpS Try.func35 rfl fun c₀ cs hu => ?_
  apply wpS_seq
  apply wpS_region
  simp [wpOpsS, go_sem, recoverD, hu, Try.ntmps35, Exit.thenS]
  refine wpS_of_wp ?_
  go_wp2
  simp [bodyPostS, results, Try.results35]
theorem catch_idle (w : World) :
    CallsD Try.prog 35 #[] .returning w fun e u' w' => e = .returned (.tuple #[]) ∧ u' = .returning ∧ w' = w := by
  have hn1 : ∀ w : World, (binOp .neq 20 (.iface 68 (.agg #[])) .nilIface).run Try.prog w = .ok (.bool true) w := fun _ => by kernel_rfl
  have hn2 : ∀ w : World, (binOp .neq 20 .nilIface .nilIface).run Try.prog w = .ok (.bool false) w := fun _ => by kernel_rfl
  refine callsD_of_wpS Try.func35 rfl fun c₀ cs hu => ?_
  apply wpS_seq
  apply wpS_region
  simp [wpOpsS, go_sem, recoverD, hu, Try.ntmps35, Exit.thenS]
  refine wpS_of_wp ?_
  go_wp2
  cases c₀
  simp_all [bodyPostS, results, Try.results35]

theorem untilEnd_any (F : Nat) (cap : Array Value) (w : World) (R : World → Prop) (hcf : ∀ w, (callFunc F cap).run Try.prog w = .ok (.enter F cap) w) (hR : ∀ w', R w' → R (w'.alloc (.cells #[] 68)))
    (H : Calls Try.prog F cap w fun e w' => (e = .returned (.tuple #[]) ∨ e = .panicked [short]) ∧ R w') :
    Calls Try.prog 24 #[.func (.func F) #[] cap] w fun e w' => e = .returned (.tuple #[]) ∧ R w' := by
  go_enter_defers Try.func24, Try.ntmps24
  go_wp2_with fail
  refine H.mono ?_
  rintro e w1 ⟨he, hr⟩
  rcases he with rfl | rfl
  · go_wp2_with fail
    refine leaves_cons (f := 35) (args := #[]) (by simp) (by simp [go_sem]) ?_
    refine (catch_idle _).mono ?_
    rintro e u' w'' ⟨rfl, rfl, rfl⟩
    simp [Leaves, settle, results, Try.results24, go_sem]
    exact hr
  · go_wp2_with fail
    refine leaves_cons (f := 35) (args := #[]) (by simp) (by simp [go_sem]) ?_
    refine (catch_short [] _).mono ?_
    rintro e u' w'' ⟨rfl, rfl, rfl⟩
    simp [Leaves, settle, results, Try.results24, go_sem]
    exact hR _ hr
theorem cf31 (cap : Array Value) (w : World) : (callFunc 25 cap).run Try.prog w = .ok (.enter 25 cap) w := by
  simp [go_sem]
theorem cf34 (cap : Array Value) (w : World) : (callFunc 29 cap).run Try.prog w = .ok (.enter 29 cap) w := by
  simp [go_sem]
end Go.Proofs.Ytlfhbpihdjipeaa
