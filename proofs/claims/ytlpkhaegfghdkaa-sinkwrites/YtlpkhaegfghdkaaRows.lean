/-
  No cell of these rows narrows 'for every input' (looked for: loops, veiled, ifaces, maps, wideKeys, modest, calm, conditions, laid).
  DERIVED. THE GIVEN ROWS OF THIS SEAT. 3 by the template 'for every input the law returns true; each argument reads behind the call as it read before'; 0 by the template 'total and deterministic' (their statements: YtlpkhaegfghdkaaTotals.lean).
  GIVEN WITH THE SEED: the statements are not yours to turn. If you find one false, say at which input.
  Laid BY PROGRAM, IN A SANDBOX (cutbox-rows.mjs): the forced cells as the released guide's own fill.sh prints them over the translation 01bd6c45772a9697… (all of the seat's roots in one cut). By AI agents, Wed Nov 11 2026. No macro, syntax, notation, axiom, sorry.
-/
import Derived.Test.YtlpkhaegfghdkaaChecked
import GoSem.Claim
import GoSem.ClaimJoined
import GoSem.ClaimMapViews
import Derived.JoinedTies
import Derived.KernelRfl
namespace Go.Proofs.Ytlpkhaegfghdkaa
/- THE CELL 'sum', in the pinned program and in every row, IS THE sha256 OF THE DUMP (.gsa) THAT YtlpkhaegfghdkaaProg.lean LOADS. Nothing in Lean hashes anything: it is a label: what it is worth is what the hold of that sum in a sandbox is worth. -/
noncomputable def Try.pinned : Pinned := { name := "ytlpkhaegfghdkaa", sum := "01bd6c45772a969746fc7eab4d31e31f5eab70df2239c5456ecc8cb304de2641", checked := Try.checked }
namespace Rows
def none {H : Type} : Left H := { results := [], args := [] }

/-- 'oakumlaw14.SinkTakes': WHATEVER THE INPUT: true; the input reads as it did. -/
def sinkTakesSpec : ChangeSpec := { name := "sinkTakes", fn := fun _ => fun
  | [d1, d2] => { results := [.lit (.bool true)], args := [d1, d2] }
  | _ => none }
def sinkTakesRow : OpenClaim := { program := "ytlpkhaegfghdkaa", sum := "01bd6c45772a969746fc7eab4d31e31f5eab70df2239c5456ecc8cb304de2641", func := "oakum/oakumlaw14.SinkTakes", spec := "sinkTakes", apart := false }
def SinkTakesSaid : Prop := sinkTakesRow.holds Try.pinned (OpenSpec.ofChange sinkTakesSpec)

/-- ITS FALSE NEIGHBOUR: 'it returns false'. Refute it at one input. -/
def sinkTakesWrong : ChangeSpec := { name := "sinkTakes", fn := fun _ => fun
  | [d1, d2] => { results := [.lit (.bool false)], args := [d1, d2] }
  | _ => none }
def SinkTakesWrongFalsely : Prop := sinkTakesRow.holds Try.pinned (OpenSpec.ofChange sinkTakesWrong)

/-- 'oakumlaw14.SinkWrites': WHATEVER THE INPUT: true; the input reads as it did. -/
def sinkWritesSpec : ChangeSpec := { name := "sinkWrites", fn := fun _ => fun
  | [d1, d2, d3] => { results := [.lit (.bool true)], args := [d1, d2, d3] }
  | _ => none }
def sinkWritesRow : OpenClaim := { program := "ytlpkhaegfghdkaa", sum := "01bd6c45772a969746fc7eab4d31e31f5eab70df2239c5456ecc8cb304de2641", func := "oakum/oakumlaw14.SinkWrites", spec := "sinkWrites", apart := false }
def SinkWritesSaid : Prop := sinkWritesRow.holds Try.pinned (OpenSpec.ofChange sinkWritesSpec)

/-- ITS FALSE NEIGHBOUR: 'it returns false'. Refute it at one input. -/
def sinkWritesWrong : ChangeSpec := { name := "sinkWrites", fn := fun _ => fun
  | [d1, d2, d3] => { results := [.lit (.bool false)], args := [d1, d2, d3] }
  | _ => none }
def SinkWritesWrongFalsely : Prop := sinkWritesRow.holds Try.pinned (OpenSpec.ofChange sinkWritesWrong)

/-- 'oakumlaw14.SinkNil': WHATEVER THE INPUT: true; the input reads as it did. -/
def sinkNilSpec : ChangeSpec := { name := "sinkNil", fn := fun _ => fun
  | [d] => { results := [.lit (.bool true)], args := [d] }
  | _ => none }
def sinkNilRow : OpenClaim := { program := "ytlpkhaegfghdkaa", sum := "01bd6c45772a969746fc7eab4d31e31f5eab70df2239c5456ecc8cb304de2641", func := "oakum/oakumlaw14.SinkNil", spec := "sinkNil", apart := false }
def SinkNilSaid : Prop := sinkNilRow.holds Try.pinned (OpenSpec.ofChange sinkNilSpec)

/-- ITS FALSE NEIGHBOUR: 'it returns false'. Refute it at one input. -/
def sinkNilWrong : ChangeSpec := { name := "sinkNil", fn := fun _ => fun
  | [d] => { results := [.lit (.bool false)], args := [d] }
  | _ => none }
def SinkNilWrongFalsely : Prop := sinkNilRow.holds Try.pinned (OpenSpec.ofChange sinkNilWrong)

/- THE SECOND FORM. 'bulk': how many values and letters a reading holds, each counted each time it is reached (what is shared counts as often as it is met; a slice's spare places count too). A statement '..UptoSaid' is the law's where the arguments, and the package variables that the reading takes, are together of bulk at most 1048576: NARROWER than '..Said'. Prove '..Said' where nothing that the law and all that it calls make is longer than what came in: it says more and counts as full. Else prove '..UptoSaid'. A law counts once. -/
mutual
def uptoBulk {H : Type} : DataW H → Nat
  | .lit (.string bytes) => bytes.length + 1
  | .lit _ => 1
  | .nil => 1
  | .ptr d => uptoBulk d + 1
  | .slice elems spare => uptoBulkAll elems + uptoBulkAll spare + 1
  | .agg parts => uptoBulkAll parts + 1
  | .iface _ d => uptoBulk d + 1
  | .map entries => uptoBulkEntries entries + 1
  | .held _ => 1
def uptoBulkAll {H : Type} : List (DataW H) → Nat
  | [] => 0
  | d :: r => uptoBulk d + uptoBulkAll r
def uptoBulkEntries {H : Type} : List (Lit × DataW H) → Nat
  | [] => 0
  | x :: r => uptoBulkEntry x + uptoBulkEntries r
def uptoBulkEntry {H : Type} : Lit × DataW H → Nat
  | (.string bytes, d) => bytes.length + uptoBulk d + 1
  | (_, d) => uptoBulk d + 1
 end
def uptoSmall : (H : Type) → List (DataW H) → Bool := fun _ ds => decide (uptoBulkAll ds ≤ 1048576)
def OpenSpec.upto (s : _root_.Go.ChangeSpec) : _root_.Go.OpenSpec := { _root_.Go.OpenSpec.ofChange s with cond := some uptoSmall }

/-- 'oakumlaw14.SinkTakes', WHERE WHAT IT READS IS OF BULK AT MOST 1048576: true; the input reads as it did. -/
def sinkTakesUptoRow : OpenClaim := { program := "ytlpkhaegfghdkaa", sum := "01bd6c45772a969746fc7eab4d31e31f5eab70df2239c5456ecc8cb304de2641", func := "oakum/oakumlaw14.SinkTakes", spec := "sinkTakes", apart := false, narrowed := true }
def SinkTakesUptoSaid : Prop := sinkTakesUptoRow.holds Try.pinned (OpenSpec.upto sinkTakesSpec)

/-- 'oakumlaw14.SinkWrites', WHERE WHAT IT READS IS OF BULK AT MOST 1048576: true; the input reads as it did. -/
def sinkWritesUptoRow : OpenClaim := { program := "ytlpkhaegfghdkaa", sum := "01bd6c45772a969746fc7eab4d31e31f5eab70df2239c5456ecc8cb304de2641", func := "oakum/oakumlaw14.SinkWrites", spec := "sinkWrites", apart := false, narrowed := true }
def SinkWritesUptoSaid : Prop := sinkWritesUptoRow.holds Try.pinned (OpenSpec.upto sinkWritesSpec)

/-- 'oakumlaw14.SinkNil', WHERE WHAT IT READS IS OF BULK AT MOST 1048576: true; the input reads as it did. -/
def sinkNilUptoRow : OpenClaim := { program := "ytlpkhaegfghdkaa", sum := "01bd6c45772a969746fc7eab4d31e31f5eab70df2239c5456ecc8cb304de2641", func := "oakum/oakumlaw14.SinkNil", spec := "sinkNil", apart := false, narrowed := true }
def SinkNilUptoSaid : Prop := sinkNilUptoRow.holds Try.pinned (OpenSpec.upto sinkNilSpec)

end Rows
end Go.Proofs.Ytlpkhaegfghdkaa
