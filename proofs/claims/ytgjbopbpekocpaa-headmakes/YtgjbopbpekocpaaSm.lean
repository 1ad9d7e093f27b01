/-
  SMALL CALLS: the document's tables, full names, Of, Which. Conditions: that lengths can be added.
-/
import Derived.Test.YtgjbopbpekocpaaMk
namespace Go.Proofs.Ytgjbopbpekocpaa
open Go.ChangeShapes Go.WideShapes Go.ChangeAt Go.RowKit
set_option linter.unusedVariables false
set_option maxRecDepth 20000

def textsV : Value := .agg #[.int .i64 0, .int .i64 100, .int .i64 157, .int .i64 100, .int .i64 265, .int .i64 32, .int .i64 297, .int .i64 32, .int .i64 345, .int .i64 155]
def numbersV : Value := .agg #[.int .i64 100, .int .i64 8, .int .i64 108, .int .i64 8, .int .i64 116, .int .i64 8, .int .i64 124, .int .i64 12, .int .i64 136, .int .i64 12, .int .i64 329, .int .i64 8, .int .i64 337, .int .i64 8]

theorem texts_ok (w : World) : Calls Try.prog 32 #[] w fun e w' => e = .returned textsV ∧ Below w.heap.size w w' := by
  go_enter Try.func32, Try.ntmps32
  go_wp2
  refine bodyPost_ret (v := textsV) ?_ rfl ⟨rfl, (Below.refl w.heap.size w).alloc (Nat.le_refl _) _⟩
  simp [results, Try.results32, go_sem, textsV]

theorem numbers_ok (w : World) : Calls Try.prog 37 #[] w fun e w' => e = .returned numbersV ∧ Below w.heap.size w w' := by
  go_enter Try.func37, Try.ntmps37
  go_wp2
  refine bodyPost_ret (v := numbersV) ?_ rfl ⟨rfl, (Below.refl w.heap.size w).alloc (Nat.le_refl _) _⟩
  simp [results, Try.results37, go_sem, numbersV]

/-- a full name -/
def fullS (n pf : ByteArray) : ByteArray := if pf.toList.isEmpty then n else pf ++ ⟨#[47]⟩ ++ n

theorem full_ok (w : World) (mk fl : Value) (n lk pf us gp : ByteArray) (a b c d e f g : Value) (hs : n.size + pf.size ≤ 1000000) :
    Calls Try.prog 11 #[.agg #[mk, fl, .string n, .string lk, .string pf, .string us, .string gp, a, b, c, d, e, f, g]] w fun e' w' => e' = .returned (.string (fullS n pf)) ∧ Below w.heap.size w w' := by
  have hb := (Below.refl w.heap.size w).alloc (Nat.le_refl _) (.cells #[mk, fl, .string n, .string lk, .string pf, .string us, .string gp, a, b, c, d, e, f, g] 25)
  unfold fullS
  cases h : pf.toList.isEmpty
  all_goals
    go_enter Try.func11, Try.ntmps11
    go_wp2
    all_goals go_ret
    all_goals exact ⟨rfl, hb⟩

theorem rfull_ok (w : World) (mk fl : Value) (n lk pf us gp : ByteArray) (a b c d e f g : Value) (hs : n.size + pf.size ≤ 1000000) :
    Calls Try.prog 12 #[.agg #[mk, fl, .string n, .string lk, .string us, .string gp, .string pf, a, b, c, d, e, f, g]] w fun e' w' => e' = .returned (.string (fullS n pf)) ∧ Below w.heap.size w w' := by
  have hb := (Below.refl w.heap.size w).alloc (Nat.le_refl _) (.cells #[mk, fl, .string n, .string lk, .string us, .string gp, .string pf, a, b, c, d, e, f, g] 32)
  unfold fullS
  cases h : pf.toList.isEmpty
  all_goals
    go_enter Try.func12, Try.ntmps12
    go_wp2
    all_goals go_ret
    all_goals exact ⟨rfl, hb⟩

set_option maxHeartbeats 4000000 in
theorem Of_ok (w : World) (mk fl n lk pf us gp a b c d e f g : Value) (h0 : ∃ i, mk = .int .i64 i) (h1 : ∃ i, fl = .int .u8 i) (h2 : ∃ s, n = .string s) (h3 : ∃ s, lk = .string s) (h4 : ∃ s, pf = .string s) (h5 : ∃ s, us = .string s) (h6 : ∃ s, gp = .string s)
    (h7 : ∃ i, a = .int .i64 i) (h8 : ∃ i, b = .int .i64 i) (h9 : ∃ i, c = .int .i64 i) (h10 : ∃ i, d = .int .i64 i) (h11 : ∃ i, e = .int .i64 i) (h12 : ∃ i, f = .int .i64 i) (h13 : ∃ i, g = .int .i64 i) :
    Calls Try.prog 10 #[.agg #[mk, fl, n, lk, pf, us, gp, a, b, c, d, e, f, g]] w fun e' w' => e' = .returned (.agg #[mk, fl, n, lk, us, gp, pf, a, b, c, d, e, f, g]) ∧ Below w.heap.size w w' := by
  obtain ⟨mk, rfl⟩ := h0
  obtain ⟨fl, rfl⟩ := h1
  obtain ⟨n, rfl⟩ := h2
  obtain ⟨lk, rfl⟩ := h3
  obtain ⟨pf, rfl⟩ := h4
  obtain ⟨us, rfl⟩ := h5
  obtain ⟨gp, rfl⟩ := h6
  obtain ⟨a, rfl⟩ := h7
  obtain ⟨b, rfl⟩ := h8
  obtain ⟨c, rfl⟩ := h9
  obtain ⟨d, rfl⟩ := h10
  obtain ⟨e, rfl⟩ := h11
  obtain ⟨f, rfl⟩ := h12
  obtain ⟨g, rfl⟩ := h13
  have hb := ((Below.refl w.heap.size w).alloc (Nat.le_refl _) (.cells #[.int .i64 mk, .int .u8 fl, .string n, .string lk, .string pf, .string us, .string gp, .int .i64 a, .int .i64 b, .int .i64 c, .int .i64 d, .int .i64 e, .int .i64 f, .int .i64 g] 25)).alloc (by simp) (.cells #[.int .i64 mk, .int .u8 fl, .string n, .string lk, .string us, .string gp, .string pf, .int .i64 a, .int .i64 b, .int .i64 c, .int .i64 d, .int .i64 e, .int .i64 f, .int .i64 g] 32)
  go_enter Try.func10, Try.ntmps10
  go_wp2
  refine bodyPost_ret (v := .agg #[.int .i64 mk, .int .u8 fl, .string n, .string lk, .string us, .string gp, .string pf, .int .i64 a, .int .i64 b, .int .i64 c, .int .i64 d, .int .i64 e, .int .i64 f, .int .i64 g]) ?_ rfl ⟨rfl, hb⟩
  simp [results, Try.results10, go_sem]

/-- which of the seven numbers a field is -/
def whichN (f : Int) : Int := if f = 4 then 0 else if f = 5 then 1 else if f = 6 then 2 else if f = 7 then 3 else if f = 8 then 4 else if f = 11 then 5 else if f = 12 then 6 else -1

set_option maxHeartbeats 4000000 in
theorem which_ok (w : World) (f : Int) : Calls Try.prog 16 #[.int .i64 f] w fun e w' => e = .returned (.int .i64 (whichN f)) ∧ Below w.heap.size w w' := by
  have hb := (Below.refl w.heap.size w).alloc (Nat.le_refl _) (.cells #[.int .i64 4, .int .i64 5, .int .i64 6, .int .i64 7, .int .i64 8, .int .i64 11, .int .i64 12] 3)
  by_cases h0 : f = 4
  · subst h0
    go_enter Try.func16, Try.ntmps16
    go_wp2
    go_rounds 8
    all_goals go_ret
    all_goals exact ⟨rfl, hb⟩
  by_cases h1 : f = 5
  · subst h1
    go_enter Try.func16, Try.ntmps16
    go_wp2
    go_rounds 8
    all_goals go_ret
    all_goals exact ⟨rfl, hb⟩
  by_cases h2 : f = 6
  · subst h2
    go_enter Try.func16, Try.ntmps16
    go_wp2
    go_rounds 8
    all_goals go_ret
    all_goals exact ⟨rfl, hb⟩
  by_cases h3 : f = 7
  · subst h3
    go_enter Try.func16, Try.ntmps16
    go_wp2
    go_rounds 8
    all_goals go_ret
    all_goals exact ⟨rfl, hb⟩
  by_cases h4 : f = 8
  · subst h4
    go_enter Try.func16, Try.ntmps16
    go_wp2
    go_rounds 8
    all_goals go_ret
    all_goals exact ⟨rfl, hb⟩
  by_cases h5 : f = 11
  · subst h5
    go_enter Try.func16, Try.ntmps16
    go_wp2
    go_rounds 8
    all_goals go_ret
    all_goals exact ⟨rfl, hb⟩
  by_cases h6 : f = 12
  · subst h6
    go_enter Try.func16, Try.ntmps16
    go_wp2
    go_rounds 8
    all_goals go_ret
    all_goals exact ⟨rfl, hb⟩
  have E : whichN f = -1 := by unfold whichN; rw [if_neg h0, if_neg h1, if_neg h2, if_neg h3, if_neg h4, if_neg h5, if_neg h6]
  have b0 : ((4 : Int) == f) = false := by simp; omega
  have b1 : ((5 : Int) == f) = false := by simp; omega
  have b2 : ((6 : Int) == f) = false := by simp; omega
  have b3 : ((7 : Int) == f) = false := by simp; omega
  have b4 : ((8 : Int) == f) = false := by simp; omega
  have b5 : ((11 : Int) == f) = false := by simp; omega
  have b6 : ((12 : Int) == f) = false := by simp; omega
  rw [E]
  clear E h0 h1 h2 h3 h4 h5 h6
  go_enter Try.func16, Try.ntmps16
  go_wp2
  go_rounds 8
  all_goals go_ret
  all_goals exact ⟨rfl, hb⟩

end Go.Proofs.Ytgjbopbpekocpaa
