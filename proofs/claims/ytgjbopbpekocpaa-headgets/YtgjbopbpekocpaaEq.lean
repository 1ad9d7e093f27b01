/-
  TWO HEADERS' THINGS THAT ARE THE SAME ARE EQUAL, as the document compares them. No condition.
-/
import Derived.Test.YtgjbopbpekocpaaRg
namespace Go.Proofs.Ytgjbopbpekocpaa
open Go.ChangeShapes Go.WideShapes Go.ChangeAt Go.RowKit
set_option linter.unusedVariables false
set_option maxRecDepth 20000

theorem eq29 (a b c e f : ByteArray) (w : World) : (Op.equalIn 9999 29 (.agg #[.string a, .string b, .string c, .string e, .string f]) (.agg #[.string a, .string b, .string c, .string e, .string f])).run Try.prog w = .ok true w := by
  have u3 := Try.underlying9
  have a3 := Try.isAgg9
  have z3 := Try.sizeOf9
  rw [show (9999 : Nat) = 9998 + 1 from rfl, Op.equalIn]
  simp only [Sem.run_bind, run_underlying Try.underlying29, Result.andThen_ok]
  simp only [z3, Result.andThen_ok, Std.Legacy.Range.forIn_eq_forIn_range', Std.Legacy.Range.size, List.range', List.forIn_cons, List.forIn_nil]
  go_simp

theorem eq30 (a b c d e f g : Int) (w : World) : (Op.equalIn 9999 30 (.agg #[.int .i64 a, .int .i64 b, .int .i64 c, .int .i64 d, .int .i64 e, .int .i64 f, .int .i64 g]) (.agg #[.int .i64 a, .int .i64 b, .int .i64 c, .int .i64 d, .int .i64 e, .int .i64 f, .int .i64 g])).run Try.prog w = .ok true w := by
  have u3 := Try.underlying2
  have a3 := Try.isAgg2
  have z3 := Try.sizeOf2
  rw [show (9999 : Nat) = 9998 + 1 from rfl, Op.equalIn]
  simp only [Sem.run_bind, run_underlying Try.underlying30, Result.andThen_ok]
  simp only [z3, Result.andThen_ok, Std.Legacy.Range.forIn_eq_forIn_range', Std.Legacy.Range.size, List.range', List.forIn_cons, List.forIn_nil]
  go_simp

theorem eq32 (w : World) (m x a b c d e f g : Int) (s2 s3 s4 s5 s6 : ByteArray) : (binOp .eql 32 (.agg #[.int .i64 m, .int .u8 x, .string s2, .string s3, .string s4, .string s5, .string s6, .int .i64 a, .int .i64 b, .int .i64 c, .int .i64 d, .int .i64 e, .int .i64 f, .int .i64 g]) (.agg #[.int .i64 m, .int .u8 x, .string s2, .string s3, .string s4, .string s5, .string s6, .int .i64 a, .int .i64 b, .int .i64 c, .int .i64 d, .int .i64 e, .int .i64 f, .int .i64 g])).run Try.prog w = .ok (.bool true) w := by
  simp [go_sem, eq29, eq30]
end Go.Proofs.Ytgjbopbpekocpaa
