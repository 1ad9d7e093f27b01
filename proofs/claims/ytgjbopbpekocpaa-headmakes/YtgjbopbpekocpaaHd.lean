/-
  THE ROWS OF A HEADER's TABLE: which there are, and what each one's calls answer. Conditions: that what is read can be read.
-/
import Derived.Test.YtgjbopbpekocpaaFlr
import Derived.BigRegion
import Derived.Deep.RegionWith
namespace Go.Proofs.Ytgjbopbpekocpaa
open Go.ChangeShapes Go.WideShapes Go.ChangeAt Go.RowKit
set_option linter.unusedVariables false
set_option maxRecDepth 20000

/-- a row of the table, as a value -/
def rowV (st wd inn id : Int) (tx nm : Option Addr) : Value := .agg #[.int .i64 st, .int .i64 wd, .int .i64 inn, .int .i64 id, .pointer tx, .pointer nm]

def isInB (inn mark : Int) (dev : Bool) : Bool :=
  if inn = 1 then mark != 0 else if inn = 2 then mark != 0 && dev else if inn = 3 then mark == 1 else true

set_option maxHeartbeats 4000000 in
theorem isIn_ok (w : World) (st wd inn id : Int) (tx nm : Option Addr) (mark : Int) (dev : Bool) :
    Calls Try.prog 26 #[rowV st wd inn id tx nm, .int .i64 mark, .bool dev] w fun e w' => e = .returned (.bool (isInB inn mark dev)) ∧ Below w.heap.size w w' := by
  have hb := (Below.refl w.heap.size w).alloc (Nat.le_refl _) (.cells #[.int .i64 st, .int .i64 wd, .int .i64 inn, .int .i64 id, .pointer tx, .pointer nm] 65)
  unfold rowV
  go_enter Try.func26, Try.ntmps26
  go_wp2
  all_goals go_ret
  all_goals (refine ⟨ret_bool ?_, hb⟩; unfold isInB; simp_all)

theorem of_ok (w : World) (st wd : Nat) (inn id : Int) (tx nm : Option Addr) {b off len cap : Nat} (h : st + wd ≤ len) (h' : len ≤ cap) (hm : cap ≤ 9223372036854775807) (hlt : st < cap) :
    Calls Try.prog 28 #[rowV st wd inn id tx nm, .slice (some ⟨b, off, none⟩) len cap] w fun e w' => e = .returned (.slice (some ⟨b, off + st, none⟩) wd (cap - st)) ∧ Below w.heap.size w w' := by
  have hb := (Below.refl w.heap.size w).alloc (Nat.le_refl _) (.cells #[.int .i64 (st : Int), .int .i64 (wd : Int), .int .i64 inn, .int .i64 id, .pointer tx, .pointer nm] 65)
  unfold rowV
  go_enter Try.func28, Try.ntmps28
  go_wp2
  all_goals go_ret
  all_goals exact ⟨by simp, hb⟩

/-- may a row of this number tell this number? -/
def mayB (id n : Int) : Bool := decide (0 ≤ n) || id == 8

theorem mayTell_ok (w : World) (st wd inn id : Int) (tx nm : Option Addr) (n : Int) :
    Calls Try.prog 36 #[rowV st wd inn id tx nm, .int .i64 n] w fun e w' => e = .returned (.bool (mayB id n)) ∧ Below w.heap.size w w' := by
  have hb := (Below.refl w.heap.size w).alloc (Nat.le_refl _) (.cells #[.int .i64 st, .int .i64 wd, .int .i64 inn, .int .i64 id, .pointer tx, .pointer nm] 65)
  unfold rowV
  by_cases h : 0 ≤ n
  · go_enter Try.func36, Try.ntmps36
    go_wp2
    all_goals go_ret
    all_goals exact ⟨ret_bool (by simp [mayB, h]), hb⟩
  · have hd : decide (0 ≤ n) = false := by simpa using h
    have E : mayB id n = (id == 8) := by unfold mayB; rw [hd]; rfl
    rw [E]
    clear E
    go_enter Try.func36, Try.ntmps36
    go_wp2
    all_goals go_ret
    all_goals exact ⟨rfl, hb⟩

/-- a text in a field: the code, the bytes -/
def txtL (s : ByteArray) (wd : Int) : List Int := if tputC s wd = 0 then fillL (nums s) wd.toNat else []

theorem tput_any (s : ByteArray) (hs : s.size ≤ 140737488355328) (n : Nat) (w : World) :
    Calls Try.prog 52 #[.string s, .int .i64 n] w fun e w' => ∃ a m c, e = .returned (.tuple #[.slice a m c, .int .u8 (tputC s n)]) ∧ Bys w' a m c (txtL s n) ∧ Below w.heap.size w w' := by
  by_cases h : tputC s n = 0
  · refine (tput_good s hs n w h).mono ?_
    rintro e w' ⟨v, rfl, hown, ⟨g, c, rfl⟩, hb⟩
    obtain ⟨a, c', e, hby⟩ := own_bys hown (fillL_length _ _) (fillL_range _ _ (nums_range s))
    simp only [Value.slice.injEq, true_and] at e
    obtain ⟨rfl, rfl⟩ := e
    refine ⟨_, _, _, by rw [h], ?_, hb⟩
    unfold txtL
    rw [if_pos h]
    exact hby
  · refine (tput_bad s hs n w h).mono ?_
    rintro e w' ⟨rfl, rfl⟩
    refine ⟨_, _, _, rfl, ?_, Below.refl _ _⟩
    unfold txtL
    rw [if_neg h]
    exact Bys.mk0 (by omega)

theorem nput_any (n : Int) (k : Nat) (wd : Bool) (hn : -9223372036854775808 ≤ n) (hn2 : n ≤ 9223372036854775807) (w : World) :
    Calls Try.prog 53 #[.int .i64 n, .int .i64 k, .bool wd] w fun e w' => ∃ a m c, e = .returned (.tuple #[.slice a m c, .int .u8 (putC n k wd)]) ∧ Bys w' a m c (putL n k wd) ∧ Below w.heap.size w w' := by
  refine (put_any w n k wd hn hn2).mono ?_
  rintro e w' ⟨v, rfl, hown, hb⟩
  obtain ⟨a, c, rfl, hby⟩ := put_bys hown
  exact ⟨_, _, _, rfl, hby, hb⟩

set_option maxHeartbeats 4000000 in
theorem bytes_text (w : World) (st : Int) (wd : Nat) (inn id : Int) (g fld : Nat) (s : ByteArray) (hs : s.size ≤ 140737488355328) (hc : w.cell? ⟨g, fld, none⟩ = some (.string s)) (wide : Bool) :
    Calls Try.prog 40 #[rowV st wd inn id (some ⟨g, fld, none⟩) none, .bool wide] w fun e w' => ∃ a m c, e = .returned (.tuple #[.slice a m c, .int .u8 (tputC s wd)]) ∧ Bys w' a m c (txtL s wd) ∧ Below w.heap.size w w' := by
  have hb := (Below.refl w.heap.size w).alloc (Nat.le_refl _) (.cells #[.int .i64 st, .int .i64 wd, .int .i64 inn, .int .i64 id, .pointer (some ⟨g, fld, none⟩), .pointer none] 65)
  have hc' := cell_later hb hc
  have hput := fun w => tput_any s hs wd w
  generalize txtL s wd = L at *
  generalize tputC s wd = C at *
  unfold rowV
  go_enter Try.func40, Try.ntmps40
  go_wp2
  go_region_with (go_at_call 52; refine (hput _).mono ?_; rintro e w2 ⟨a, m, c, rfl, hby, hb2⟩)
  all_goals
    go_wp2
    go_ret2
    exact ⟨a, m, c, rfl, hby, hb.drew.trans (hb2.mono hb.drew.size)⟩

/-- a number in a field: the code, the bytes -/
def numC (id n : Int) (wd : Int) (wide : Bool) : Int := if mayB id n then putC n wd wide else 5
def numL (id n : Int) (wd : Int) (wide : Bool) : List Int := if mayB id n then putL n wd wide else []

set_option maxHeartbeats 4000000 in
theorem bytes_num (w : World) (st : Int) (wd : Nat) (inn id : Int) (g fld : Nat) (n : Int) (hn : -9223372036854775808 ≤ n) (hn2 : n ≤ 9223372036854775807) (hc : w.cell? ⟨g, fld, none⟩ = some (.int .i64 n)) (wide : Bool) :
    Calls Try.prog 40 #[rowV st wd inn id none (some ⟨g, fld, none⟩), .bool wide] w fun e w' => ∃ a m c, e = .returned (.tuple #[.slice a m c, .int .u8 (numC id n wd wide)]) ∧ Bys w' a m c (numL id n wd wide) ∧ Below w.heap.size w w' := by
  have hb := (Below.refl w.heap.size w).alloc (Nat.le_refl _) (.cells #[.int .i64 st, .int .i64 wd, .int .i64 inn, .int .i64 id, .pointer none, .pointer (some ⟨g, fld, none⟩)] 65)
  have hc' := cell_later hb hc
  have hput := fun w => nput_any n wd wide hn hn2 w
  have hmay := fun w => mayTell_ok w st wd inn id none (some ⟨g, fld, none⟩) n
  unfold numC numL
  generalize putL n wd wide = L at *
  generalize putC n wd wide = C at *
  unfold rowV at *
  cases hm : mayB id n
  · rw [hm] at hmay
    go_enter Try.func40, Try.ntmps40
    go_wp2
    go_region_with (go_at_call 36; refine (hmay _).mono ?_; rintro e w2 ⟨rfl, hb2⟩)
    all_goals
      go_wp2
      go_ret2
      exact ⟨_, _, _, rfl, Bys.mk0 (by omega), hb.drew.trans (hb2.mono hb.drew.size)⟩
  · rw [hm] at hmay
    go_enter Try.func40, Try.ntmps40
    go_wp2
    go_region_with (go_at_call 36; refine (hmay _).mono ?_; rintro e w2 ⟨rfl, hb2⟩)
    all_goals
      have hc2 := cell_later hb2 hc'
      have k0 : w2.cell? ⟨w.heap.size, 0, none⟩ = some (.int .i64 st) := (hb2.cell (p := ⟨w.heap.size, 0, none⟩) (by simp)).trans (by simp)
      have k1 : w2.cell? ⟨w.heap.size, 1, none⟩ = some (.int .i64 wd) := (hb2.cell (p := ⟨w.heap.size, 1, none⟩) (by simp)).trans (by simp)
      have k5 : w2.cell? ⟨w.heap.size, 5, none⟩ = some (.pointer (some ⟨g, fld, none⟩)) := (hb2.cell (p := ⟨w.heap.size, 5, none⟩) (by simp)).trans (by simp)
      have hb' := hb.drew.trans (hb2.mono hb.drew.size)
      clear hb hb2 hc hc' hmay
      go_wp2
      go_region_with (go_at_call 53; refine (hput _).mono ?_; rintro e w3 ⟨a, m, c, rfl, hby, hb3⟩)
      all_goals
        go_wp2
        go_ret2
        exact ⟨a, m, c, rfl, hby, hb'.drew.trans (hb3.mono hb'.drew.size)⟩
end Go.Proofs.Ytgjbopbpekocpaa
