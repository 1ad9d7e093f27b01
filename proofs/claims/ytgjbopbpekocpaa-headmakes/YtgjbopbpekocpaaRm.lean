/-
  THE DOCUMENT's Make OF A HEADER. Conditions: that the numbers are 64 bits wide, a flag is a byte, and the texts have at most 3000 bytes each.
-/
import Derived.Test.YtgjbopbpekocpaaPm
import Derived.Test.YtgjbopbpekocpaaRg
import Derived.Test.YtgjbopbpekocpaaRefPut
import Derived.Test.YtgjbopbpekocpaaFlr
import Derived.Deep.RegionHeld3
namespace Go.Proofs.Ytgjbopbpekocpaa
open Go.ChangeShapes Go.WideShapes Go.ChangeAt Go.RowKit
set_option linter.unusedVariables false
set_option maxRecDepth 20000

/-- the document's text in a field, as bytes that can be read -/
theorem rtput_any (s : ByteArray) (hs : s.size ≤ 1000000) (n : Nat) (w : World) :
    Calls Try.prog 42 #[.string s, .int .i64 n] w fun e w' => ∃ a m c, e = .returned (.tuple #[.slice a m c, .int .i64 (tputC s n)]) ∧ Bys w' a m c (txtL s n) ∧ Below w.heap.size w w' := by
  by_cases hc : tputC s n = 0
  · refine (rput_good s hs n w hc).mono ?_
    rintro e w' ⟨v, rfl, hown, hb⟩
    obtain ⟨a, c, rfl, hby⟩ := hown.bys (fillL_length _ _) (fillL_range _ _ (nums_range s))
    refine ⟨a, n, c, ret_vc hc.symm, ?_, hb⟩
    unfold txtL
    rw [if_pos hc]
    exact hby
  · refine (rput_bad s hs n w hc).mono ?_
    rintro e w' ⟨rfl, hb⟩
    refine ⟨none, 0, 0, rfl, ?_, hb⟩
    unfold txtL
    rw [if_neg hc]
    exact Bys.mk0 (by omega)

theorem rnput_any (w : World) (n k : Int) (wd : Bool) (hn : -9223372036854775808 ≤ n) (hn2 : n ≤ 9223372036854775807) :
    Calls Try.prog 43 #[.int .i64 n, .int .i64 k, .bool wd] w fun e w' => ∃ a m c, e = .returned (.tuple #[.slice a m c, .int .i64 (putC n k wd)]) ∧ Bys w' a m c (putL n k wd) ∧ Below w.heap.size w w' := by
  refine (refPut_any w n k wd hn hn2).mono ?_
  rintro e w' ⟨v, rfl, hown, hb⟩
  obtain ⟨a, c, rfl, hby⟩ := own_bys hown rfl (putL_range n k wd)
  exact ⟨a, _, c, rfl, hby, hb⟩

theorem putC_is (n : Int) (k : Nat) (wd : Bool) (h2 : 2 ≤ k) (h32 : k ≤ 32) : putC n k wd = 0 ∨ putC n k wd = 5 := by
  unfold putC
  rw [if_neg (by omega)]
  split
  · exact .inl rfl
  · split
    · exact .inl rfl
    · exact .inr rfl

/-- what a header has, in the document's order -/
def RawV.rarr (R : RawV) : Array Value := #[.int .i64 R.m, .int .u8 R.x, .string (R.T 2), .string (R.T 3), .string (R.T 5), .string (R.T 6), .string (R.T 4), .int .i64 (R.N 7), .int .i64 (R.N 8), .int .i64 (R.N 9), .int .i64 (R.N 10), .int .i64 (R.N 11), .int .i64 (R.N 12), .int .i64 (R.N 13)]

def ordA : Array Value := #[.int .i64 100, .int .i64 0, .int .i64 1, .int .i64 2, .int .i64 3, .int .i64 4, .int .i64 101, .int .i64 102, .int .i64 103, .int .i64 5, .int .i64 6, .int .i64 104]

set_option maxHeartbeats 1000000 in
theorem rmake_arg (w : World) (R : RawV) (wide dev : Bool) (h : ¬ (0 ≤ R.m ∧ R.m ≤ 2)) : Calls Try.prog 19 #[.agg R.rarr, .bool wide, .bool dev] w fun e w' => e = .returned (.tuple #[.slice none 0 0, .int .i64 2]) ∧ Below w.heap.size w w' := by
  have hb := (Below.refl w.heap.size w).alloc (Nat.le_refl _) (.cells R.rarr 32)
  unfold RawV.rarr at *
  by_cases h0 : R.m < 0
  · clear h
    generalize R.m = m at *
    go_enter Try.func19, Try.ntmps19
    go_wp2
    all_goals go_ret2
    all_goals exact ⟨rfl, hb⟩
  · have h2 : 2 < R.m := by omega
    clear h
    generalize R.m = m at *
    go_enter Try.func19, Try.ntmps19
    go_wp2
    all_goals go_ret2
    all_goals exact ⟨rfl, hb⟩

set_option maxHeartbeats 1000000 in
theorem rmake_flag (w : World) (R : RawV) (hR : R.ok) (wide dev : Bool) (h : 0 ≤ R.m ∧ R.m ≤ 2) (hf : flagB R.x = false) : Calls Try.prog 19 #[.agg R.rarr, .bool wide, .bool dev] w fun e w' => e = .returned (.tuple #[.slice none 0 0, .int .i64 9]) ∧ Below w.heap.size w w' := by
  have hb := (Below.refl w.heap.size w).alloc (Nat.le_refl _) (.cells R.rarr 32)
  have hfl := fun w => known_ok w R.x hR.1 hR.2.1
  rw [hf] at hfl
  have h0 : ¬ R.m < 0 := by omega
  have h2 : ¬ 2 < R.m := by omega
  clear h hf hR
  unfold RawV.rarr at *
  generalize R.m = m at *
  go_enter Try.func19, Try.ntmps19
  go_wp2_with (go_at_call 31; refine (hfl _).mono ?_; rintro e w' ⟨hw, rfl⟩; obtain rfl := hw.symm)
  all_goals go_ret2
  all_goals exact ⟨rfl, hb⟩

/-- the header, or nothing, off what the document lays -/
def resD (p : Int × List Int) : List Int := if p.1 = 0 then sealL p.2 else []
/-- the bytes behind the first mark -/
def oneB (R : RawV) : List Int := if R.m = 1 then rawB R zeros else zeros.set 156 R.x
theorem oneB_is (R : RawV) : (oneB R).length = 512 := by
  unfold oneB
  split
  · exact rawB_length R zeros zeros_length (by omega)
  · rw [List.length_set]; exact zeros_length

end Go.Proofs.Ytgjbopbpekocpaa
