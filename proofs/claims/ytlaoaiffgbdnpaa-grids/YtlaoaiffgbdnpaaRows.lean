/-
  No cell of these rows narrows 'for every input' (looked for: loops, veiled, ifaces, maps, wideKeys, modest, calm, conditions, laid).
  DERIVED. THE GIVEN ROWS OF THIS SEAT. 6 by the template 'for every input the law returns true; each argument reads behind the call as it read before'; 0 by the template 'total and deterministic' (their statements: YtlaoaiffgbdnpaaTotals.lean).
  GIVEN WITH THE SEED: the statements are not yours to turn. If you find one false, say at which input.
  Laid BY PROGRAM, IN A SANDBOX (cutbox-rows.mjs): the forced cells as the released guide's own fill.sh prints them over the translation 49f1dc37b7ee9751… (all of the seat's roots in one cut). By AI agents, Wed Nov 11 2026. No macro, syntax, notation, axiom, sorry.
-/
import Derived.Test.YtlaoaiffgbdnpaaChecked
import GoSem.Claim
import GoSem.ClaimJoined
import GoSem.ClaimMapViews
import Derived.JoinedTies
import Derived.KernelRfl
namespace Go.Proofs.Ytlaoaiffgbdnpaa
/- THE CELL 'sum', in the pinned program and in every row, IS THE sha256 OF THE DUMP (.gsa) THAT YtlaoaiffgbdnpaaProg.lean LOADS. Nothing in Lean hashes anything: it is a label: what it is worth is what the hold of that sum in a sandbox is worth. -/
noncomputable def Try.pinned : Pinned := { name := "ytlaoaiffgbdnpaa", sum := "49f1dc37b7ee9751e2c7903c28831292c990b2a6f8ba596faa5183bd864d0299", checked := Try.checked }
namespace Rows
def none {H : Type} : Left H := { results := [], args := [] }

/-- 'mosaiclaw.Muls': WHATEVER THE INPUT: true; the input reads as it did. -/
def mulsSpec : ChangeSpec := { name := "muls", fn := fun _ => fun
  | [d1, d2] => { results := [.lit (.bool true)], args := [d1, d2] }
  | _ => none }
def mulsRow : OpenClaim := { program := "ytlaoaiffgbdnpaa", sum := "49f1dc37b7ee9751e2c7903c28831292c990b2a6f8ba596faa5183bd864d0299", func := "mosaic/mosaiclaw.Muls", spec := "muls", apart := false }
def MulsSaid : Prop := mulsRow.holds Try.pinned (OpenSpec.ofChange mulsSpec)

/-- ITS FALSE NEIGHBOUR: 'it returns false'. Refute it at one input. -/
def mulsWrong : ChangeSpec := { name := "muls", fn := fun _ => fun
  | [d1, d2] => { results := [.lit (.bool false)], args := [d1, d2] }
  | _ => none }
def MulsWrongFalsely : Prop := mulsRow.holds Try.pinned (OpenSpec.ofChange mulsWrong)

/-- 'mosaiclaw.Adds': WHATEVER THE INPUT: true; the input reads as it did. -/
def addsSpec : ChangeSpec := { name := "adds", fn := fun _ => fun
  | [d1, d2, d3] => { results := [.lit (.bool true)], args := [d1, d2, d3] }
  | _ => none }
def addsRow : OpenClaim := { program := "ytlaoaiffgbdnpaa", sum := "49f1dc37b7ee9751e2c7903c28831292c990b2a6f8ba596faa5183bd864d0299", func := "mosaic/mosaiclaw.Adds", spec := "adds", apart := false }
def AddsSaid : Prop := addsRow.holds Try.pinned (OpenSpec.ofChange addsSpec)

/-- ITS FALSE NEIGHBOUR: 'it returns false'. Refute it at one input. -/
def addsWrong : ChangeSpec := { name := "adds", fn := fun _ => fun
  | [d1, d2, d3] => { results := [.lit (.bool false)], args := [d1, d2, d3] }
  | _ => none }
def AddsWrongFalsely : Prop := addsRow.holds Try.pinned (OpenSpec.ofChange addsWrong)

/-- 'mosaiclaw.Field': WHATEVER THE INPUT: true; the input reads as it did. -/
def fieldSpec : ChangeSpec := { name := "field", fn := fun _ => fun
  | [d1, d2, d3] => { results := [.lit (.bool true)], args := [d1, d2, d3] }
  | _ => none }
def fieldRow : OpenClaim := { program := "ytlaoaiffgbdnpaa", sum := "49f1dc37b7ee9751e2c7903c28831292c990b2a6f8ba596faa5183bd864d0299", func := "mosaic/mosaiclaw.Field", spec := "field", apart := false }
def FieldSaid : Prop := fieldRow.holds Try.pinned (OpenSpec.ofChange fieldSpec)

/-- ITS FALSE NEIGHBOUR: 'it returns false'. Refute it at one input. -/
def fieldWrong : ChangeSpec := { name := "field", fn := fun _ => fun
  | [d1, d2, d3] => { results := [.lit (.bool false)], args := [d1, d2, d3] }
  | _ => none }
def FieldWrongFalsely : Prop := fieldRow.holds Try.pinned (OpenSpec.ofChange fieldWrong)

/-- 'mosaiclaw.Grids': WHATEVER THE INPUT: true; the input reads as it did. -/
def gridsSpec : ChangeSpec := { name := "grids", fn := fun _ => fun
  | [d1, d2] => { results := [.lit (.bool true)], args := [d1, d2] }
  | _ => none }
def gridsRow : OpenClaim := { program := "ytlaoaiffgbdnpaa", sum := "49f1dc37b7ee9751e2c7903c28831292c990b2a6f8ba596faa5183bd864d0299", func := "mosaic/mosaiclaw.Grids", spec := "grids", apart := false }
def GridsSaid : Prop := gridsRow.holds Try.pinned (OpenSpec.ofChange gridsSpec)

/-- ITS FALSE NEIGHBOUR: 'it returns false'. Refute it at one input. -/
def gridsWrong : ChangeSpec := { name := "grids", fn := fun _ => fun
  | [d1, d2] => { results := [.lit (.bool false)], args := [d1, d2] }
  | _ => none }
def GridsWrongFalsely : Prop := gridsRow.holds Try.pinned (OpenSpec.ofChange gridsWrong)

/-- 'mosaiclaw.Inverts': WHATEVER THE INPUT: true; the input reads as it did. -/
def invertsSpec : ChangeSpec := { name := "inverts", fn := fun _ => fun
  | [d] => { results := [.lit (.bool true)], args := [d] }
  | _ => none }
def invertsRow : OpenClaim := { program := "ytlaoaiffgbdnpaa", sum := "49f1dc37b7ee9751e2c7903c28831292c990b2a6f8ba596faa5183bd864d0299", func := "mosaic/mosaiclaw.Inverts", spec := "inverts", apart := false }
def InvertsSaid : Prop := invertsRow.holds Try.pinned (OpenSpec.ofChange invertsSpec)

/-- ITS FALSE NEIGHBOUR: 'it returns false'. Refute it at one input. -/
def invertsWrong : ChangeSpec := { name := "inverts", fn := fun _ => fun
  | [d] => { results := [.lit (.bool false)], args := [d] }
  | _ => none }
def InvertsWrongFalsely : Prop := invertsRow.holds Try.pinned (OpenSpec.ofChange invertsWrong)

/-- 'mosaiclaw.Rows': WHATEVER THE INPUT: true; the input reads as it did. -/
def rowsSpec : ChangeSpec := { name := "rows", fn := fun _ => fun
  | [d1, d2, d3] => { results := [.lit (.bool true)], args := [d1, d2, d3] }
  | _ => none }
def rowsRow : OpenClaim := { program := "ytlaoaiffgbdnpaa", sum := "49f1dc37b7ee9751e2c7903c28831292c990b2a6f8ba596faa5183bd864d0299", func := "mosaic/mosaiclaw.Rows", spec := "rows", apart := false }
def RowsSaid : Prop := rowsRow.holds Try.pinned (OpenSpec.ofChange rowsSpec)

/-- ITS FALSE NEIGHBOUR: 'it returns false'. Refute it at one input. -/
def rowsWrong : ChangeSpec := { name := "rows", fn := fun _ => fun
  | [d1, d2, d3] => { results := [.lit (.bool false)], args := [d1, d2, d3] }
  | _ => none }
def RowsWrongFalsely : Prop := rowsRow.holds Try.pinned (OpenSpec.ofChange rowsWrong)

/- THE SECOND FORM. 'bulk': how many values and letters a reading holds, each counted each time it is reached (what is shared counts as often as it is met; a slice's spare places count too). A statement '..UptoSaid' is the law's where the arguments, and the package variables that the reading takes, are together of bulk at most 1048576: NARROWER than '..Said'. Prove '..Said' where nothing that the law and all that it calls make is longer than what came in: it says more and counts as full. Else prove '..UptoSaid'. A law counts once. -/
mutual
def uptoBulk {H : Type} : DataW H → Nat
  | .lit (.string bytes) => bytes.length + 1
  | .lit _ => 1
  | .nil => 1
  | .ptr d => uptoBulk d + 1
  | .slice elems spare => uptoBulkAll elems + uptoBulkAll spare + 1
  | .agg parts => uptoBulkAll parts + 1
  | .iface _ d => uptoBulk d + 1
  | .map entries => uptoBulkEntries entries + 1
  | .held _ => 1
def uptoBulkAll {H : Type} : List (DataW H) → Nat
  | [] => 0
  | d :: r => uptoBulk d + uptoBulkAll r
def uptoBulkEntries {H : Type} : List (Lit × DataW H) → Nat
  | [] => 0
  | x :: r => uptoBulkEntry x + uptoBulkEntries r
def uptoBulkEntry {H : Type} : Lit × DataW H → Nat
  | (.string bytes, d) => bytes.length + uptoBulk d + 1
  | (_, d) => uptoBulk d + 1
 end
def uptoSmall : (H : Type) → List (DataW H) → Bool := fun _ ds => decide (uptoBulkAll ds ≤ 1048576)
def OpenSpec.upto (s : _root_.Go.ChangeSpec) : _root_.Go.OpenSpec := { _root_.Go.OpenSpec.ofChange s with cond := some uptoSmall }

/-- 'mosaiclaw.Muls', WHERE WHAT IT READS IS OF BULK AT MOST 1048576: true; the input reads as it did. -/
def mulsUptoRow : OpenClaim := { program := "ytlaoaiffgbdnpaa", sum := "49f1dc37b7ee9751e2c7903c28831292c990b2a6f8ba596faa5183bd864d0299", func := "mosaic/mosaiclaw.Muls", spec := "muls", apart := false, narrowed := true }
def MulsUptoSaid : Prop := mulsUptoRow.holds Try.pinned (OpenSpec.upto mulsSpec)

/-- 'mosaiclaw.Adds', WHERE WHAT IT READS IS OF BULK AT MOST 1048576: true; the input reads as it did. -/
def addsUptoRow : OpenClaim := { program := "ytlaoaiffgbdnpaa", sum := "49f1dc37b7ee9751e2c7903c28831292c990b2a6f8ba596faa5183bd864d0299", func := "mosaic/mosaiclaw.Adds", spec := "adds", apart := false, narrowed := true }
def AddsUptoSaid : Prop := addsUptoRow.holds Try.pinned (OpenSpec.upto addsSpec)

/-- 'mosaiclaw.Field', WHERE WHAT IT READS IS OF BULK AT MOST 1048576: true; the input reads as it did. -/
def fieldUptoRow : OpenClaim := { program := "ytlaoaiffgbdnpaa", sum := "49f1dc37b7ee9751e2c7903c28831292c990b2a6f8ba596faa5183bd864d0299", func := "mosaic/mosaiclaw.Field", spec := "field", apart := false, narrowed := true }
def FieldUptoSaid : Prop := fieldUptoRow.holds Try.pinned (OpenSpec.upto fieldSpec)

/-- 'mosaiclaw.Grids', WHERE WHAT IT READS IS OF BULK AT MOST 1048576: true; the input reads as it did. -/
def gridsUptoRow : OpenClaim := { program := "ytlaoaiffgbdnpaa", sum := "49f1dc37b7ee9751e2c7903c28831292c990b2a6f8ba596faa5183bd864d0299", func := "mosaic/mosaiclaw.Grids", spec := "grids", apart := false, narrowed := true }
def GridsUptoSaid : Prop := gridsUptoRow.holds Try.pinned (OpenSpec.upto gridsSpec)

/-- 'mosaiclaw.Inverts', WHERE WHAT IT READS IS OF BULK AT MOST 1048576: true; the input reads as it did. -/
def invertsUptoRow : OpenClaim := { program := "ytlaoaiffgbdnpaa", sum := "49f1dc37b7ee9751e2c7903c28831292c990b2a6f8ba596faa5183bd864d0299", func := "mosaic/mosaiclaw.Inverts", spec := "inverts", apart := false, narrowed := true }
def InvertsUptoSaid : Prop := invertsUptoRow.holds Try.pinned (OpenSpec.upto invertsSpec)

/-- 'mosaiclaw.Rows', WHERE WHAT IT READS IS OF BULK AT MOST 1048576: true; the input reads as it did. -/
def rowsUptoRow : OpenClaim := { program := "ytlaoaiffgbdnpaa", sum := "49f1dc37b7ee9751e2c7903c28831292c990b2a6f8ba596faa5183bd864d0299", func := "mosaic/mosaiclaw.Rows", spec := "rows", apart := false, narrowed := true }
def RowsUptoSaid : Prop := rowsUptoRow.holds Try.pinned (OpenSpec.upto rowsSpec)

end Rows
end Go.Proofs.Ytlaoaiffgbdnpaa
