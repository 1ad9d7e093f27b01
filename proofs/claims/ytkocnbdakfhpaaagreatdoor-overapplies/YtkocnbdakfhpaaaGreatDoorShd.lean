/-
  THE DOCUMENT's SameHead AT HEADS THAT ARE THE SAME. No condition.
-/
import Derived.Test.YtkocnbdakfhpaaaGreatDoorHdp
namespace Go.Proofs.YtkocnbdakfhpaaaGreatDoor
open Go.ChangeShapes Go.WideShapes Go.ChangeAt Go.RowKit Go.Lib
set_option linter.unusedVariables false
set_option linter.unusedSimpArgs false
set_option maxRecDepth 20000

theorem time_eql (w : World) (p q : Int) : (binOp .eql 44 (.agg #[.int .i64 p, .int .i64 q]) (.agg #[.int .i64 p, .int .i64 q])).run Tryz.prog w = .ok (.bool true) w := by
  have hf : Tryz.prog.underlying 44 = some (.struct (Tryz.prog.fieldsOf 44)) := by kernel_rfl
  have hs : Tryz.prog.stoodInHeld 44 = false := by kernel_rfl
  rw [run_eql_struct, run_equalIn_agg w 9999 44 _ _ hf hs]
  simp [go_sem, Program.fieldsOf, Tryz.underlying44, Tryz.underlying2, Op.eqFields]

set_option maxHeartbeats 8000000 in
theorem samehead_ok {w : World} {a1 a2 : Option Addr} {n1 c1 n2 c2 : Nat} {ext : PL} (h : Hd) (h1 : Pys w a1 n1 c1 ext) (h2 : Pys w a2 n2 c2 ext) :
    Calls Tryz.prog 28 #[.agg (h.cs (.slice a1 n1 c1)), .agg (h.cs (.slice a2 n2 c2))] w fun e w' => e = .returned (.bool true) ∧ Below w.heap.size w w' := by
  have hb0 := (Below.refl w.heap.size w).alloc (Nat.le_refl _) (.cells #[.int .i64 h.kind, .string h.name, .string h.link, .int .i64 h.mode, .int .i64 h.uid, .int .i64 h.gid, .int .i64 h.size, .int .i64 h.sec, .int .i64 h.nano, .string h.user, .string h.group, .int .i64 h.major, .int .i64 h.minor, .slice a1 n1 c1] 46)
  have hb1 := hb0.alloc hb0.size (.cells #[.int .i64 h.kind, .string h.name, .string h.link, .int .i64 h.mode, .int .i64 h.uid, .int .i64 h.gid, .int .i64 h.size, .int .i64 h.sec, .int .i64 h.nano, .string h.user, .string h.group, .int .i64 h.major, .int .i64 h.minor, .slice a2 n2 c2] 46)
  have hsm := same_ok (h1.below hb1) (h2.below hb1)
  rw [decide_eq_true (rfl : ext = ext)] at hsm
  have ht := fun w : World => time_eql w h.sec h.nano
  unfold Hd.cs
  clear h1 h2
  go_enter Tryz.func28, Tryz.ntmps28
  go_wp2_with (go_at_call 21; refine hsm.mono ?_; rintro e w1 ⟨rfl, hw1⟩)
  all_goals go_ret
  all_goals exact ⟨rfl, hb1.trans (hw1.mono hb1.size)⟩

end Go.Proofs.YtkocnbdakfhpaaaGreatDoor
