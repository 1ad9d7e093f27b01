/-
  WHETHER HEADS ARE THE SAME: item.sameHead, the document's SameHead. No condition.
-/
import Derived.Test.YtbkgbnjiibhmhaaEqs
import Derived.Test.YtbkgbnjiibhmhaaHdc
namespace Go.Proofs.Ytbkgbnjiibhmhaa
open Go.ChangeShapes Go.WideShapes Go.ChangeAt Go.RowKit Go.Lib
set_option linter.unusedVariables false
set_option linter.unusedSimpArgs false
set_option maxRecDepth 20000

/-- are two heads the same, their lists aside? -/
def eqH (h1 h2 : Hd) : Bool := (h1.kind == h2.kind) && (h1.name.toList == h2.name.toList) && (h1.link.toList == h2.link.toList) && (h1.mode == h2.mode) && (h1.uid == h2.uid) && (h1.gid == h2.gid) && (h1.size == h2.size) && decide (h1.sec = h2.sec ∧ h1.nano = h2.nano) && (h1.user.toList == h2.user.toList) && (h1.group.toList == h2.group.toList) && (h1.major == h2.major) && (h1.minor == h2.minor)

theorem time_eq (w : World) (p q r s : Int) : (binOp .eql 23 (.agg #[.int .i64 p, .int .i64 q]) (.agg #[.int .i64 r, .int .i64 s])).run Try.prog w = .ok (.bool (decide (p = r ∧ q = s))) w := by
  have hf : Try.prog.underlying 23 = some (.struct (Try.prog.fieldsOf 23)) := by kernel_rfl
  have hs : Try.prog.stoodInHeld 23 = false := by kernel_rfl
  rw [run_eql_struct, run_equalIn_agg w 9999 23 _ _ hf hs]
  simp [go_sem, Program.fieldsOf, Try.underlying23, Try.underlying2, Op.eqFields]
  by_cases h1 : p = r <;> by_cases h2 : q = s <;> simp [h1, h2]

theorem eqH_refl (h : Hd) : eqH h h = true := by
  unfold eqH; simp

end Go.Proofs.Ytbkgbnjiibhmhaa
