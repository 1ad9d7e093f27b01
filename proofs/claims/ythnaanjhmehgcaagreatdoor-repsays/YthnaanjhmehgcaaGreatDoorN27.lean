/-
  WHICH DIALECT CAN TELL WHAT: fields of heads, full names, records, as functions of lists. Nothing of the program. No condition.; AND WHAT FOLLOWS OF IT. Conditions: those that each part names.
-/
import Derived.Test.YthnaanjhmehgcaaGreatDoorN17
import Derived.Test.YthnaanjhmehgcaaGreatDoorN20
import Derived.Test.YthnaanjhmehgcaaGreatDoorN26
import Derived.Test.YthnaanjhmehgcaaGreatDoorN08
import Derived.Test.YthnaanjhmehgcaaGreatDoorN13
import Derived.Deep.RegionWith
import Derived.BigQuiet
/-
  WHICH DIALECT CAN TELL WHAT: fields of heads, full names, records, as functions of lists. Nothing of the program. No condition.
-/
namespace Go.Proofs.YthnaanjhmehgcaaGreatDoor
open Go.ChangeShapes Go.WideShapes Go.ChangeAt Go.RowKit Go.Lib
set_option linter.unusedVariables false
set_option linter.unusedSimpArgs false
set_option maxRecDepth 20000

/-- what a row of the table has for a dialect -/
def colI (d a b c e : Int) : Int := if d = 1 then a else if d = 2 then b else if d = 3 then c else e
/-- is a text right? -/
def utfB (s : ByteArray) : Bool := decide (firstL s.data.toList < 0)
/-- can a text be told that may have so many bytes, or in a record? -/
def textT (d : Int) (s : ByteArray) (most : Int) : Bool := decide ((s.size : Int) ≤ most) || (decide (d = 3) && utfB s)
/-- the kinds of the oldest dialect -/
def oldK (k : Int) : Bool := k == 1 || k == 2 || k == 3 || k == 6
/-- can a full name be told, but in a record? -/
def holdF (d k : Int) (f : ByteArray) : Bool := if d = 1 then decide (f.size ≤ 100) && (k != 6 || endsS f) else if d = 4 then decide (f.size ≤ 65536) else spO f
/-- the full name by which a name is told -/
def fullO (d : Int) (h : Hd) : Option ByteArray := match (fulls h.kind h.name).find? (holdF d h.kind) with
  | some f => some f
  | none => if d = 3 ∧ utfB h.name = true then (fulls h.kind h.name).head? else none
def fullS (d : Int) (h : Hd) : ByteArray := (fullO d h).getD ⟨#[]⟩
def fullB (d : Int) (h : Hd) : Bool := (fullO d h).isSome

def timT (d s n : Int) : Bool := decide (d = 3) || (decide (n = 0) && (decide (d = 4) || (decide (0 ≤ s) && decide (s ≤ 68719476735))))
/-- can a field be told, but the records? 'n': how many pairs there are -/
def canN (d : Int) (h : Hd) (n : Nat) (f : Int) : Bool :=
  if f = 1 then decide (d ≠ 1) || oldK h.kind
  else if f = 2 then fullB d h
  else if f = 3 then textT d h.link (colI d 100 100 100 9223372036854775807)
  else if f = 4 then decide (h.mode ≤ colI d 16777215 16777215 16777215 72057594037927935)
  else if f = 5 then decide (h.uid ≤ colI d 16777215 16777215 9223372036854775807 72057594037927935)
  else if f = 6 then decide (h.gid ≤ colI d 16777215 16777215 9223372036854775807 72057594037927935)
  else if f = 7 then decide (h.size ≤ colI d 68719476735 68719476735 9223372036854775807 9223372036854775807)
  else if f = 8 then timT d h.sec h.nano
  else if f = 9 then textT d h.user (colI d 0 32 32 32)
  else if f = 10 then textT d h.group (colI d 0 32 32 32)
  else if f = 11 then decide (h.major ≤ colI d 16777215 16777215 16777215 72057594037927935)
  else if f = 12 then decide (h.minor ≤ colI d 16777215 16777215 16777215 72057594037927935)
  else decide (d = 3) || decide (n = 0)

/-- the document's own: in a dialect's header alone -/
def plainN (d : Int) (h : Hd) (n : Nat) (f : Int) : Bool :=
  if f = 1 then decide (d ≠ 1) || oldK h.kind
  else if f = 2 then fullB d h
  else if f = 3 then decide (h.link.size ≤ 100) || decide (d = 4)
  else if f = 4 then decide (h.mode ≤ if d = 4 then 72057594037927935 else 16777215)
  else if f = 5 then decide (h.uid ≤ if d = 4 then 72057594037927935 else 16777215)
  else if f = 6 then decide (h.gid ≤ if d = 4 then 72057594037927935 else 16777215)
  else if f = 7 then decide (h.size ≤ if d = 4 then 9223372036854775807 else 68719476735)
  else if f = 8 then decide (h.nano = 0) && (decide (d = 4) || (decide (0 ≤ h.sec) && decide (h.sec ≤ if d = 4 then 9223372036854775807 else 68719476735)))
  else if f = 9 then decide (h.user.size = 0) || (decide (d ≠ 1) && decide (h.user.size ≤ 32))
  else if f = 10 then decide (h.group.size = 0) || (decide (d ≠ 1) && decide (h.group.size ≤ 32))
  else if f = 11 then decide (h.major ≤ if d = 4 then 72057594037927935 else 16777215)
  else if f = 12 then decide (h.minor ≤ if d = 4 then 72057594037927935 else 16777215)
  else decide (n = 0)
/-- the document's own: in a dialect -/
def rcanN (d : Int) (h : Hd) (n : Nat) (f : Int) : Bool :=
  if d ≠ 3 then plainN d h n f
  else if f = 5 ∨ f = 6 ∨ f = 7 ∨ f = 8 ∨ f = 13 then true
  else if f = 2 then plainN 2 h n 2 || utfB h.name
  else if f = 3 then plainN 2 h n 3 || utfB h.link
  else if f = 9 then plainN 2 h n 9 || utfB h.user
  else if f = 10 then plainN 2 h n 10 || utfB h.group
  else plainN 2 h n f

/-- numbers and lengths that a machine has -/
def Bnd (h : Hd) : Prop := (-9223372036854775808 ≤ h.uid ∧ h.uid ≤ 9223372036854775807) ∧ (-9223372036854775808 ≤ h.gid ∧ h.gid ≤ 9223372036854775807) ∧ (-9223372036854775808 ≤ h.size ∧ h.size ≤ 9223372036854775807) ∧ (-9223372036854775808 ≤ h.sec ∧ h.sec ≤ 9223372036854775807) ∧
  h.name.size ≤ 9000000000000000 ∧ h.link.size ≤ 9000000000000000 ∧ h.user.size ≤ 9000000000000000 ∧ h.group.size ≤ 9000000000000000

theorem fulls_ne (k : Int) (s : ByteArray) : ∃ f t, fulls k s = f :: t := by
  unfold fulls
  repeat' split
  all_goals exact ⟨_, _, rfl⟩

theorem full3 (h : Hd) : fullB 3 h = (fullB 2 h || utfB h.name) := by
  unfold fullB fullO
  have e : (fulls h.kind h.name).find? (holdF 3 h.kind) = (fulls h.kind h.name).find? (holdF 2 h.kind) := rfl
  rw [e]
  cases (fulls h.kind h.name).find? (holdF 2 h.kind) with
  | some f => simp
  | none =>
    obtain ⟨f, t, hf⟩ := fulls_ne h.kind h.name
    rw [hf]
    cases utfB h.name <;> simp

theorem cast_le (a b : Nat) : decide ((a : Int) ≤ (b : Int)) = decide (a ≤ b) := by rw [Bool.eq_iff_iff]; simp
theorem zero_or (a : Nat) (x : Bool) : (decide (a = 0) || (true && decide (a ≤ 32)) || x) = (decide (a ≤ 32) || x) := by
  congr 1; rw [Bool.eq_iff_iff]; simp; omega
theorem rcan_is (d : Int) (h : Hd) (n : Nat) (f : Int) (hf : 1 ≤ f ∧ f ≤ 13) (h1 : 1 ≤ d) (h4 : d ≤ 4) (hB : Bnd h) : rcanN d h n f = canN d h n f := by
  obtain ⟨⟨_, u2⟩, ⟨_, g2⟩, ⟨_, z2⟩, ⟨_, s2⟩, n1, n2, n3, n4⟩ := hB
  have e3 := full3 h
  have hd : d = 1 ∨ d = 2 ∨ d = 3 ∨ d = 4 := by omega
  have q100 : ∀ s : ByteArray, decide ((s.size : Int) ≤ 100) = decide (s.size ≤ 100) := fun s => cast_le s.size 100
  have q32 : ∀ s : ByteArray, decide ((s.size : Int) ≤ 32) = decide (s.size ≤ 32) := fun s => cast_le s.size 32
  have q0 : ∀ s : ByteArray, decide ((s.size : Int) ≤ 0) = decide (s.size = 0) := fun s => by rw [Bool.eq_iff_iff]; simp
  have qz := fun (s : ByteArray) => zero_or s.size
  have qf := fun (s : ByteArray) => zero_or s.size false
  simp only [Bool.or_false] at qf
  have hl : (h.link.size : Int) ≤ 9223372036854775807 := by omega
  unfold rcanN canN plainN textT timT colI
  by_cases f1 : f = 1
  · subst f1
    rcases hd with rfl | rfl | rfl | rfl
    all_goals first | rfl | (simp [e3]; done) | (simp; omega) | (simp only [Int.reduceEq, Int.reduceLT, ite_true, ite_false, if_true, if_false, decide_true, decide_false, Bool.or_false, Bool.false_and, Bool.true_and, Bool.or_true, Bool.false_or, ne_eq, not_true_eq_false, not_false_eq_true, or_false, or_true, or_self, q100, q32, q0, qz, qf, hl]; done) | (simp only [Int.reduceEq, Int.reduceLT, ite_true, ite_false, if_true, if_false, decide_true, decide_false, Bool.or_false, Bool.false_and, Bool.or_true, Bool.false_or, ne_eq, not_true_eq_false, not_false_eq_true, or_false, or_true, or_self, q100, q32, q0, qz, qf, hl]; done) | (simp only [Int.reduceEq, Int.reduceLT, ite_true, ite_false, if_true, if_false, decide_true, decide_false, Bool.or_false, Bool.false_and, Bool.or_true, Bool.false_or, ne_eq, not_true_eq_false, not_false_eq_true, or_false, or_true, or_self, q100, q32, q0, qz, qf, hl]; simp; done)
  by_cases f2 : f = 2
  · subst f2
    rcases hd with rfl | rfl | rfl | rfl
    all_goals first | rfl | (simp [e3]; done) | (simp; omega) | (simp only [Int.reduceEq, Int.reduceLT, ite_true, ite_false, if_true, if_false, decide_true, decide_false, Bool.or_false, Bool.false_and, Bool.true_and, Bool.or_true, Bool.false_or, ne_eq, not_true_eq_false, not_false_eq_true, or_false, or_true, or_self, q100, q32, q0, qz, qf, hl]; done) | (simp only [Int.reduceEq, Int.reduceLT, ite_true, ite_false, if_true, if_false, decide_true, decide_false, Bool.or_false, Bool.false_and, Bool.or_true, Bool.false_or, ne_eq, not_true_eq_false, not_false_eq_true, or_false, or_true, or_self, q100, q32, q0, qz, qf, hl]; done) | (simp only [Int.reduceEq, Int.reduceLT, ite_true, ite_false, if_true, if_false, decide_true, decide_false, Bool.or_false, Bool.false_and, Bool.or_true, Bool.false_or, ne_eq, not_true_eq_false, not_false_eq_true, or_false, or_true, or_self, q100, q32, q0, qz, qf, hl]; simp; done)
  by_cases f3 : f = 3
  · subst f3
    rcases hd with rfl | rfl | rfl | rfl
    all_goals first | rfl | (simp [e3]; done) | (simp; omega) | (simp only [Int.reduceEq, Int.reduceLT, ite_true, ite_false, if_true, if_false, decide_true, decide_false, Bool.or_false, Bool.false_and, Bool.true_and, Bool.or_true, Bool.false_or, ne_eq, not_true_eq_false, not_false_eq_true, or_false, or_true, or_self, q100, q32, q0, qz, qf, hl]; done) | (simp only [Int.reduceEq, Int.reduceLT, ite_true, ite_false, if_true, if_false, decide_true, decide_false, Bool.or_false, Bool.false_and, Bool.or_true, Bool.false_or, ne_eq, not_true_eq_false, not_false_eq_true, or_false, or_true, or_self, q100, q32, q0, qz, qf, hl]; done) | (simp only [Int.reduceEq, Int.reduceLT, ite_true, ite_false, if_true, if_false, decide_true, decide_false, Bool.or_false, Bool.false_and, Bool.or_true, Bool.false_or, ne_eq, not_true_eq_false, not_false_eq_true, or_false, or_true, or_self, q100, q32, q0, qz, qf, hl]; simp; done)
  by_cases f4 : f = 4
  · subst f4
    rcases hd with rfl | rfl | rfl | rfl
    all_goals first | rfl | (simp [e3]; done) | (simp; omega) | (simp only [Int.reduceEq, Int.reduceLT, ite_true, ite_false, if_true, if_false, decide_true, decide_false, Bool.or_false, Bool.false_and, Bool.true_and, Bool.or_true, Bool.false_or, ne_eq, not_true_eq_false, not_false_eq_true, or_false, or_true, or_self, q100, q32, q0, qz, qf, hl]; done) | (simp only [Int.reduceEq, Int.reduceLT, ite_true, ite_false, if_true, if_false, decide_true, decide_false, Bool.or_false, Bool.false_and, Bool.or_true, Bool.false_or, ne_eq, not_true_eq_false, not_false_eq_true, or_false, or_true, or_self, q100, q32, q0, qz, qf, hl]; done) | (simp only [Int.reduceEq, Int.reduceLT, ite_true, ite_false, if_true, if_false, decide_true, decide_false, Bool.or_false, Bool.false_and, Bool.or_true, Bool.false_or, ne_eq, not_true_eq_false, not_false_eq_true, or_false, or_true, or_self, q100, q32, q0, qz, qf, hl]; simp; done)
  by_cases f5 : f = 5
  · subst f5
    rcases hd with rfl | rfl | rfl | rfl
    all_goals first | rfl | (simp [e3]; done) | (simp; omega) | (simp only [Int.reduceEq, Int.reduceLT, ite_true, ite_false, if_true, if_false, decide_true, decide_false, Bool.or_false, Bool.false_and, Bool.true_and, Bool.or_true, Bool.false_or, ne_eq, not_true_eq_false, not_false_eq_true, or_false, or_true, or_self, q100, q32, q0, qz, qf, hl]; done) | (simp only [Int.reduceEq, Int.reduceLT, ite_true, ite_false, if_true, if_false, decide_true, decide_false, Bool.or_false, Bool.false_and, Bool.or_true, Bool.false_or, ne_eq, not_true_eq_false, not_false_eq_true, or_false, or_true, or_self, q100, q32, q0, qz, qf, hl]; done) | (simp only [Int.reduceEq, Int.reduceLT, ite_true, ite_false, if_true, if_false, decide_true, decide_false, Bool.or_false, Bool.false_and, Bool.or_true, Bool.false_or, ne_eq, not_true_eq_false, not_false_eq_true, or_false, or_true, or_self, q100, q32, q0, qz, qf, hl]; simp; done)
  by_cases f6 : f = 6
  · subst f6
    rcases hd with rfl | rfl | rfl | rfl
    all_goals first | rfl | (simp [e3]; done) | (simp; omega) | (simp only [Int.reduceEq, Int.reduceLT, ite_true, ite_false, if_true, if_false, decide_true, decide_false, Bool.or_false, Bool.false_and, Bool.true_and, Bool.or_true, Bool.false_or, ne_eq, not_true_eq_false, not_false_eq_true, or_false, or_true, or_self, q100, q32, q0, qz, qf, hl]; done) | (simp only [Int.reduceEq, Int.reduceLT, ite_true, ite_false, if_true, if_false, decide_true, decide_false, Bool.or_false, Bool.false_and, Bool.or_true, Bool.false_or, ne_eq, not_true_eq_false, not_false_eq_true, or_false, or_true, or_self, q100, q32, q0, qz, qf, hl]; done) | (simp only [Int.reduceEq, Int.reduceLT, ite_true, ite_false, if_true, if_false, decide_true, decide_false, Bool.or_false, Bool.false_and, Bool.or_true, Bool.false_or, ne_eq, not_true_eq_false, not_false_eq_true, or_false, or_true, or_self, q100, q32, q0, qz, qf, hl]; simp; done)
  by_cases f7 : f = 7
  · subst f7
    rcases hd with rfl | rfl | rfl | rfl
    all_goals first | rfl | (simp [e3]; done) | (simp; omega) | (simp only [Int.reduceEq, Int.reduceLT, ite_true, ite_false, if_true, if_false, decide_true, decide_false, Bool.or_false, Bool.false_and, Bool.true_and, Bool.or_true, Bool.false_or, ne_eq, not_true_eq_false, not_false_eq_true, or_false, or_true, or_self, q100, q32, q0, qz, qf, hl]; done) | (simp only [Int.reduceEq, Int.reduceLT, ite_true, ite_false, if_true, if_false, decide_true, decide_false, Bool.or_false, Bool.false_and, Bool.or_true, Bool.false_or, ne_eq, not_true_eq_false, not_false_eq_true, or_false, or_true, or_self, q100, q32, q0, qz, qf, hl]; done) | (simp only [Int.reduceEq, Int.reduceLT, ite_true, ite_false, if_true, if_false, decide_true, decide_false, Bool.or_false, Bool.false_and, Bool.or_true, Bool.false_or, ne_eq, not_true_eq_false, not_false_eq_true, or_false, or_true, or_self, q100, q32, q0, qz, qf, hl]; simp; done)
  by_cases f8 : f = 8
  · subst f8
    rcases hd with rfl | rfl | rfl | rfl
    all_goals first | rfl | (simp [e3]; done) | (simp; omega) | (simp only [Int.reduceEq, Int.reduceLT, ite_true, ite_false, if_true, if_false, decide_true, decide_false, Bool.or_false, Bool.false_and, Bool.true_and, Bool.or_true, Bool.false_or, ne_eq, not_true_eq_false, not_false_eq_true, or_false, or_true, or_self, q100, q32, q0, qz, qf, hl]; done) | (simp only [Int.reduceEq, Int.reduceLT, ite_true, ite_false, if_true, if_false, decide_true, decide_false, Bool.or_false, Bool.false_and, Bool.or_true, Bool.false_or, ne_eq, not_true_eq_false, not_false_eq_true, or_false, or_true, or_self, q100, q32, q0, qz, qf, hl]; done) | (simp only [Int.reduceEq, Int.reduceLT, ite_true, ite_false, if_true, if_false, decide_true, decide_false, Bool.or_false, Bool.false_and, Bool.or_true, Bool.false_or, ne_eq, not_true_eq_false, not_false_eq_true, or_false, or_true, or_self, q100, q32, q0, qz, qf, hl]; simp; done)
  by_cases f9 : f = 9
  · subst f9
    rcases hd with rfl | rfl | rfl | rfl
    all_goals first | rfl | (simp [e3]; done) | (simp; omega) | (simp only [Int.reduceEq, Int.reduceLT, ite_true, ite_false, if_true, if_false, decide_true, decide_false, Bool.or_false, Bool.false_and, Bool.true_and, Bool.or_true, Bool.false_or, ne_eq, not_true_eq_false, not_false_eq_true, or_false, or_true, or_self, q100, q32, q0, qz, qf, hl]; done) | (simp only [Int.reduceEq, Int.reduceLT, ite_true, ite_false, if_true, if_false, decide_true, decide_false, Bool.or_false, Bool.false_and, Bool.or_true, Bool.false_or, ne_eq, not_true_eq_false, not_false_eq_true, or_false, or_true, or_self, q100, q32, q0, qz, qf, hl]; done) | (simp only [Int.reduceEq, Int.reduceLT, ite_true, ite_false, if_true, if_false, decide_true, decide_false, Bool.or_false, Bool.false_and, Bool.or_true, Bool.false_or, ne_eq, not_true_eq_false, not_false_eq_true, or_false, or_true, or_self, q100, q32, q0, qz, qf, hl]; simp; done)
  by_cases f10 : f = 10
  · subst f10
    rcases hd with rfl | rfl | rfl | rfl
    all_goals first | rfl | (simp [e3]; done) | (simp; omega) | (simp only [Int.reduceEq, Int.reduceLT, ite_true, ite_false, if_true, if_false, decide_true, decide_false, Bool.or_false, Bool.false_and, Bool.true_and, Bool.or_true, Bool.false_or, ne_eq, not_true_eq_false, not_false_eq_true, or_false, or_true, or_self, q100, q32, q0, qz, qf, hl]; done) | (simp only [Int.reduceEq, Int.reduceLT, ite_true, ite_false, if_true, if_false, decide_true, decide_false, Bool.or_false, Bool.false_and, Bool.or_true, Bool.false_or, ne_eq, not_true_eq_false, not_false_eq_true, or_false, or_true, or_self, q100, q32, q0, qz, qf, hl]; done) | (simp only [Int.reduceEq, Int.reduceLT, ite_true, ite_false, if_true, if_false, decide_true, decide_false, Bool.or_false, Bool.false_and, Bool.or_true, Bool.false_or, ne_eq, not_true_eq_false, not_false_eq_true, or_false, or_true, or_self, q100, q32, q0, qz, qf, hl]; simp; done)
  by_cases f11 : f = 11
  · subst f11
    rcases hd with rfl | rfl | rfl | rfl
    all_goals first | rfl | (simp [e3]; done) | (simp; omega) | (simp only [Int.reduceEq, Int.reduceLT, ite_true, ite_false, if_true, if_false, decide_true, decide_false, Bool.or_false, Bool.false_and, Bool.true_and, Bool.or_true, Bool.false_or, ne_eq, not_true_eq_false, not_false_eq_true, or_false, or_true, or_self, q100, q32, q0, qz, qf, hl]; done) | (simp only [Int.reduceEq, Int.reduceLT, ite_true, ite_false, if_true, if_false, decide_true, decide_false, Bool.or_false, Bool.false_and, Bool.or_true, Bool.false_or, ne_eq, not_true_eq_false, not_false_eq_true, or_false, or_true, or_self, q100, q32, q0, qz, qf, hl]; done) | (simp only [Int.reduceEq, Int.reduceLT, ite_true, ite_false, if_true, if_false, decide_true, decide_false, Bool.or_false, Bool.false_and, Bool.or_true, Bool.false_or, ne_eq, not_true_eq_false, not_false_eq_true, or_false, or_true, or_self, q100, q32, q0, qz, qf, hl]; simp; done)
  by_cases f12 : f = 12
  · subst f12
    rcases hd with rfl | rfl | rfl | rfl
    all_goals first | rfl | (simp [e3]; done) | (simp; omega) | (simp only [Int.reduceEq, Int.reduceLT, ite_true, ite_false, if_true, if_false, decide_true, decide_false, Bool.or_false, Bool.false_and, Bool.true_and, Bool.or_true, Bool.false_or, ne_eq, not_true_eq_false, not_false_eq_true, or_false, or_true, or_self, q100, q32, q0, qz, qf, hl]; done) | (simp only [Int.reduceEq, Int.reduceLT, ite_true, ite_false, if_true, if_false, decide_true, decide_false, Bool.or_false, Bool.false_and, Bool.or_true, Bool.false_or, ne_eq, not_true_eq_false, not_false_eq_true, or_false, or_true, or_self, q100, q32, q0, qz, qf, hl]; done) | (simp only [Int.reduceEq, Int.reduceLT, ite_true, ite_false, if_true, if_false, decide_true, decide_false, Bool.or_false, Bool.false_and, Bool.or_true, Bool.false_or, ne_eq, not_true_eq_false, not_false_eq_true, or_false, or_true, or_self, q100, q32, q0, qz, qf, hl]; simp; done)
  by_cases f13 : f = 13
  · subst f13
    rcases hd with rfl | rfl | rfl | rfl
    all_goals first | rfl | (simp [e3]; done) | (simp; omega) | (simp only [Int.reduceEq, Int.reduceLT, ite_true, ite_false, if_true, if_false, decide_true, decide_false, Bool.or_false, Bool.false_and, Bool.true_and, Bool.or_true, Bool.false_or, ne_eq, not_true_eq_false, not_false_eq_true, or_false, or_true, or_self, q100, q32, q0, qz, qf, hl]; done) | (simp only [Int.reduceEq, Int.reduceLT, ite_true, ite_false, if_true, if_false, decide_true, decide_false, Bool.or_false, Bool.false_and, Bool.or_true, Bool.false_or, ne_eq, not_true_eq_false, not_false_eq_true, or_false, or_true, or_self, q100, q32, q0, qz, qf, hl]; done) | (simp only [Int.reduceEq, Int.reduceLT, ite_true, ite_false, if_true, if_false, decide_true, decide_false, Bool.or_false, Bool.false_and, Bool.or_true, Bool.false_or, ne_eq, not_true_eq_false, not_false_eq_true, or_false, or_true, or_self, q100, q32, q0, qz, qf, hl]; simp; done)
  omega

/-! ### records -/

/-- the key, and the value, of a field that stands in a record -/
def keyF (f : Int) : ByteArray := if f = 2 then ⟨#[112, 97, 116, 104]⟩ else if f = 3 then ⟨#[108, 105, 110, 107, 112, 97, 116, 104]⟩ else if f = 5 then ⟨#[117, 105, 100]⟩ else if f = 6 then ⟨#[103, 105, 100]⟩
  else if f = 7 then ⟨#[115, 105, 122, 101]⟩ else if f = 8 then ⟨#[109, 116, 105, 109, 101]⟩ else if f = 9 then ⟨#[117, 110, 97, 109, 101]⟩ else ⟨#[103, 110, 97, 109, 101]⟩
def numT (n : Int) : ByteArray := txt (signOf n ++ decDigits n.natAbs)
def valF (h : Hd) (f : Int) : ByteArray := if f = 2 then (fulls h.kind h.name).headD ⟨#[]⟩ else if f = 3 then h.link else if f = 5 then numT h.uid else if f = 6 then numT h.gid
  else if f = 7 then numT h.size else if f = 8 then txt (printOf h.sec h.nano) else if f = 9 then h.user else h.group
def pairF (h : Hd) (f : Int) : ByteArray × ByteArray := (keyF f, valF h f)
def recsOf (h : Hd) (n : Nat) (fs : List Int) : PL := (fs.filter fun f => !canN 2 h n f).map (pairF h)
def fldsA : List Int := [2, 3, 5, 6, 7, 8, 9, 10]
def fldsB : List Int := [6, 10, 3, 8, 2, 7, 5, 9]
/-- can the texts be told in Pax? -/
def txtsB (h : Hd) (n : Nat) : Bool := canN 3 h n 2 && canN 3 h n 3 && canN 3 h n 9 && canN 3 h n 10
/-- a head's records -/
def recA (h : Hd) (l : PL) : PL := layL [] (recsOf h l.length fldsA ++ l)
def recO (h : Hd) (l : PL) : PL := if txtsB h l.length = true then recA h l else []
/-- can a field be told? -/
def canA (d : Int) (h : Hd) (l : PL) (f : Int) : Bool := if f = 14 then decide (d ≠ 3) || decide (lenS (recO h l) ≤ 65536) else canN d h l.length f
/-- the first field that can't be told, of so many from one on -/
def firstF (p : Int → Bool) : Nat → Int → Int
  | 0, _ => 0
  | n + 1, f => if p f = true then firstF p n (f + 1) else f
def firstA (d : Int) (h : Hd) (l : PL) : Int := firstF (canA d h l) 14 1

/-- no key twice -/
def Dst (l : PL) : Prop := l.Pairwise fun p q => p.1 ≠ q.1
theorem Dst.perm {l m : PL} (h : Dst l) (hp : l.Perm m) : Dst m := hp.pairwise h fun h e => h e.symm
theorem Srt.dst {l : PL} (h : Srt l) : Dst l := List.Pairwise.imp (fun h => kc_ne h) h
theorem last_mem : ∀ (l : PL) (k v : ByteArray), lastK l k = some v → (k, v) ∈ l
  | [], k, v, h => by cases h
  | p :: t, k, v, h => by
    rw [lastK] at h
    cases ht : lastK t k with
    | some u => rw [ht] at h; cases h; exact List.mem_cons_of_mem _ (last_mem t k v ht)
    | none =>
      rw [ht] at h
      simp only at h
      split at h
      · rename_i e; cases h; rw [← e]; exact List.mem_cons_self ..
      · cases h
theorem dst_last : ∀ (l : PL) (k v : ByteArray), Dst l → (k, v) ∈ l → lastK l k = some v
  | [], k, v, _, h => by cases h
  | p :: t, k, v, hd, h => by
    obtain ⟨h1, h2⟩ := List.pairwise_cons.1 hd
    rw [lastK]
    rcases List.mem_cons.1 h with e | e
    · subst e
      cases ht : lastK t k with
      | some u => exact absurd rfl (h1 (k, u) (last_mem t k u ht))
      | none => simp
    · rw [dst_last t k v h2 e]
theorem perm_last {l m : PL} (hd : Dst l) (hp : l.Perm m) (k : ByteArray) : lastK l k = lastK m k := by
  cases h : lastK l k with
  | some v => exact (dst_last m k v (hd.perm hp) (hp.mem_iff.1 (last_mem l k v h))).symm
  | none =>
    cases h2 : lastK m k with
    | none => rfl
    | some v => rw [dst_last l k v hd (hp.mem_iff.2 (last_mem m k v h2))] at h; cases h
theorem perm_lay {l m : PL} (hd : Dst l) (hp : l.Perm m) : layL [] l = layL [] m :=
  srt_ext _ _ (layL_srt _ _ Srt.nil) (layL_srt _ _ Srt.nil) fun k => by rw [get_layL _ _ _ Srt.nil, get_layL _ _ _ Srt.nil, perm_last hd hp]
theorem sorted_lay {l m : PL} (hd : Dst l) (hf : Ful l) (hp : l.Perm m) (hs : Srt m) : m = layL [] l := by
  rw [perm_lay hd hp, lay_self m hs fun q hq => hf q (hp.mem_iff.2 hq)]

theorem flds_perm : fldsA.Perm fldsB := by decide
theorem keyF_dst : fldsA.Pairwise fun f g => keyF f ≠ keyF g := by decide +kernel
theorem keyF_known : ∀ f ∈ fldsA, kindK (bs (keyF f)) ≠ 0 := by decide +kernel
theorem anyK_mem : ∀ (l : PL), anyK l = false → ∀ p ∈ l, kindK (bs p.1) = 0
  | [], _, p, h => by cases h
  | q :: t, h, p, hp => by
    rw [anyK, Bool.or_eq_false_iff] at h
    rcases List.mem_cons.1 hp with rfl | e
    · simpa using h.1
    · exact anyK_mem t h.2 p e

theorem recs_dst (h : Hd) (n : Nat) {l : PL} (hs : Srt l) (hk : anyK l = false) : Dst (recsOf h n fldsA ++ l) := by
  refine List.pairwise_append.2 ⟨?_, hs.dst, ?_⟩
  · unfold recsOf
    rw [List.pairwise_map]
    exact List.Pairwise.sublist List.filter_sublist keyF_dst
  · intro p hp q hq e
    obtain ⟨f, hf, rfl⟩ := List.mem_map.1 hp
    have h1 := keyF_known f (List.mem_filter.1 hf).1
    have h2 := anyK_mem l hk q hq
    rw [← e] at h2
    exact h1 h2
theorem recs_perm (h : Hd) (n : Nat) (l : PL) : (recsOf h n fldsA ++ l).Perm (recsOf h n fldsB ++ l) :=
  ((flds_perm.filter _).map _).append_right l

end Go.Proofs.YthnaanjhmehgcaaGreatDoor

/-
  WHICH FIELDS A DIALECT CAN TELL (rep's own functions). Conditions: how long the texts may be.
-/
namespace Go.Proofs.YthnaanjhmehgcaaGreatDoor
open Go.ChangeShapes Go.WideShapes Go.ChangeAt Go.RowKit Go.Lib
set_option linter.unusedVariables false
set_option linter.unusedSimpArgs false
set_option maxRecDepth 20000

/-- the greatest number of so many octal digits -/
def mostI (n : Int) : Int := if n = 8 then 16777215 else if n = 12 then 68719476735 else 0

theorem most_ok (n : Int) (hn : n = 8 ∨ n = 12) (w : World) : Calls Tryz.prog 64 #[.int .i64 n] w fun e w' => w' = w ∧ e = .returned (.int .i64 (mostI n)) := by
  rcases hn with rfl | rfl
  · go_enter Tryz.func64, Tryz.ntmps64
    go_wp2
    all_goals go_ret
    all_goals exact ⟨rfl, ret_int (by decide +kernel)⟩
  · go_enter Tryz.func64, Tryz.ntmps64
    go_wp2
    all_goals go_ret
    all_goals exact ⟨rfl, ret_int (by decide +kernel)⟩

theorem dialect_ok (d : Int) (w : World) : Calls Tryz.prog 12 #[.int .i64 d] w fun e w' => w' = w ∧ e = .returned (.bool (decide (1 ≤ d ∧ d ≤ 4))) := by
  by_cases h1 : 1 ≤ d
  · by_cases h4 : d ≤ 4
    · rw [decide_eq_true ⟨h1, h4⟩]
      go_enter Tryz.func12, Tryz.ntmps12
      go_wp2
      go_ret
      exact ⟨rfl, rfl⟩
    · rw [decide_eq_false (fun h => h4 h.2)]
      go_enter Tryz.func12, Tryz.ntmps12
      go_wp2
      go_ret
      exact ⟨rfl, rfl⟩
  · rw [decide_eq_false (fun h => h1 h.1)]
    go_enter Tryz.func12, Tryz.ntmps12
    go_wp2
    go_ret
    exact ⟨rfl, rfl⟩
theorem isfield_ok (d : Int) (w : World) : Calls Tryz.prog 28 #[.int .i64 d] w fun e w' => w' = w ∧ e = .returned (.bool (decide (1 ≤ d ∧ d ≤ 14))) := by
  by_cases h1 : 1 ≤ d
  · by_cases h4 : d ≤ 14
    · rw [decide_eq_true ⟨h1, h4⟩]
      go_enter Tryz.func28, Tryz.ntmps28
      go_wp2
      go_ret
      exact ⟨rfl, rfl⟩
    · rw [decide_eq_false (fun h => h4 h.2)]
      go_enter Tryz.func28, Tryz.ntmps28
      go_wp2
      go_ret
      exact ⟨rfl, rfl⟩
  · rw [decide_eq_false (fun h => h1 h.1)]
    go_enter Tryz.func28, Tryz.ntmps28
    go_wp2
    go_ret
    exact ⟨rfl, rfl⟩

theorem oldk_ok (k : Int) (w : World) : Calls Tryz.prog 65 #[.int .i64 k] w fun e w' => w' = w ∧ e = .returned (.bool (oldK k)) := by
  by_cases h1 : k = 1
  · subst h1
    go_enter Tryz.func65, Tryz.ntmps65
    go_wp2
    all_goals go_ret
    all_goals exact ⟨rfl, ret_bool (by decide)⟩
  by_cases h2 : k = 2
  · subst h2
    go_enter Tryz.func65, Tryz.ntmps65
    go_wp2
    all_goals go_ret
    all_goals exact ⟨rfl, ret_bool (by decide)⟩
  by_cases h3 : k = 3
  · subst h3
    go_enter Tryz.func65, Tryz.ntmps65
    go_wp2
    all_goals go_ret
    all_goals exact ⟨rfl, ret_bool (by decide)⟩
  by_cases h6 : k = 6
  · subst h6
    go_enter Tryz.func65, Tryz.ntmps65
    go_wp2
    all_goals go_ret
    all_goals exact ⟨rfl, ret_bool (by decide)⟩
  have e1 : (k == 1) = false := by simpa using h1
  have e2 : (k == 2) = false := by simpa using h2
  have e3 : (k == 3) = false := by simpa using h3
  have e6 : (k == 6) = false := by simpa using h6
  have E := hid (show oldK k = false by unfold oldK; rw [e1, e2, e3, e6]; rfl)
  clear h1 h2 h3 h6
  go_enter Tryz.func65, Tryz.ntmps65
  go_wp2
  all_goals go_ret
  all_goals exact ⟨rfl, ret_bool (by rw [E.out])⟩

theorem coli_ok (d a b c e : Int) (w : World) : Calls Tryz.prog 67 #[.int .i64 d, .int .i64 a, .int .i64 b, .int .i64 c, .int .i64 e] w fun r w' => w' = w ∧ r = .returned (.int .i64 (colI d a b c e)) := by
  by_cases h1 : d = 1
  · subst h1
    go_enter Tryz.func67, Tryz.ntmps67
    go_wp2
    all_goals go_ret
    all_goals exact ⟨rfl, ret_int (by simp [colI])⟩
  by_cases h2 : d = 2
  · subst h2
    go_enter Tryz.func67, Tryz.ntmps67
    go_wp2
    all_goals go_ret
    all_goals exact ⟨rfl, ret_int (by simp [colI])⟩
  by_cases h3 : d = 3
  · subst h3
    go_enter Tryz.func67, Tryz.ntmps67
    go_wp2
    all_goals go_ret
    all_goals exact ⟨rfl, ret_int (by simp [colI])⟩
  have e1 : (d == 1) = false := by simpa using h1
  have e2 : (d == 2) = false := by simpa using h2
  have e3 : (d == 3) = false := by simpa using h3
  have E := hid (show colI d a b c e = e by unfold colI; rw [if_neg h1, if_neg h2, if_neg h3])
  clear h1 h2 h3
  go_enter Tryz.func67, Tryz.ntmps67
  go_wp2
  all_goals go_ret
  all_goals exact ⟨rfl, ret_int (by rw [E.out])⟩

theorem colj_ok (d a b c e : Int) (w : World) : Calls Tryz.prog 68 #[.int .i64 d, .int .i64 a, .int .i64 b, .int .i64 c, .int .i64 e] w fun r w' => w' = w ∧ r = .returned (.int .i64 (colI d a b c e)) := by
  by_cases h1 : d = 1
  · subst h1
    go_enter Tryz.func68, Tryz.ntmps68
    go_wp2
    all_goals go_ret
    all_goals exact ⟨rfl, ret_int (by simp [colI])⟩
  by_cases h2 : d = 2
  · subst h2
    go_enter Tryz.func68, Tryz.ntmps68
    go_wp2
    all_goals go_ret
    all_goals exact ⟨rfl, ret_int (by simp [colI])⟩
  by_cases h3 : d = 3
  · subst h3
    go_enter Tryz.func68, Tryz.ntmps68
    go_wp2
    all_goals go_ret
    all_goals exact ⟨rfl, ret_int (by simp [colI])⟩
  have e1 : (d == 1) = false := by simpa using h1
  have e2 : (d == 2) = false := by simpa using h2
  have e3 : (d == 3) = false := by simpa using h3
  have E := hid (show colI d a b c e = e by unfold colI; rw [if_neg h1, if_neg h2, if_neg h3])
  clear h1 h2 h3
  go_enter Tryz.func68, Tryz.ntmps68
  go_wp2
  all_goals go_ret
  all_goals exact ⟨rfl, ret_int (by rw [E.out])⟩

theorem textt_ok (d : Int) (s : ByteArray) (m : Int) (hs : s.size ≤ 9000000000000000) (w : World) : Calls Tryz.prog 66 #[.int .i64 d, .string s, .int .i64 m] w fun e w' => e = .returned (.bool (textT d s m)) ∧ Below w.heap.size w w' := by
  have hu : Calls Tryz.prog 80 #[.string s] w fun e w' => e = .returned (.bool (utfB s)) ∧ Below w.heap.size w w' := right_walk s (by omega) w
  unfold textT
  generalize utfB s = u at *
  by_cases h1 : (s.size : Int) ≤ m
  · rw [decide_eq_true h1]
    go_enter Tryz.func66, Tryz.ntmps66
    go_wp2
    go_ret
    exact ⟨rfl, Below.refl _ _⟩
  · rw [decide_eq_false h1]
    by_cases h3 : d = 3
    · subst h3
      go_enter Tryz.func66, Tryz.ntmps66
      go_wp2_with (go_at_call 80; refine hu.mono ?_; rintro e w1 ⟨rfl, hb1⟩)
      go_ret
      exact ⟨ret_bool (by simp), hb1⟩
    · rw [decide_eq_false h3]
      have e3 : (d == 3) = false := by simpa using h3
      go_enter Tryz.func66, Tryz.ntmps66
      go_wp2
      go_ret
      exact ⟨rfl, Below.refl _ _⟩

theorem holds11_ok (d k : Int) (f : ByteArray) (hf : f.size ≤ 9000000000000000000) (w : World) : Calls Tryz.prog 79 #[.int .i64 d, .int .i64 k, .string f] w fun e w' => e = .returned (.bool (holdF d k f)) ∧ Below w.heap.size w w' := by
  have hc := suf_ok f hf
  have hp := split_ok f hf w
  obtain ⟨q, hq⟩ : ∃ q, q = holdF d k f := ⟨_, rfl⟩
  rw [← hq]
  replace hq := hid hq
  unfold holdF at hq
  generalize spA f = a at *
  generalize spN f = b at *
  generalize spO f = o at *
  generalize endsS f = t at *
  by_cases h1 : d = 1
  · subst h1
    by_cases h2 : f.size ≤ 100
    · have h2I : (f.size : Int) ≤ 100 := by omega
      by_cases h6 : k = 6
      · subst h6
        have E := hid (show q = t by rw [hq.out]; simp [h2])
        clear hq hp
        go_enter Tryz.func79, Tryz.ntmps79
        go_wp2_with (go_at_call 58; refine (hc _).mono ?_; rintro e w' ⟨hw, rfl⟩; obtain rfl := hw.symm)
        go_ret
        exact ⟨ret_bool E.out.symm, Below.refl _ _⟩
      · have e6 : (k != 6) = true := by simpa using h6
        have E := hid (show q = true by rw [hq.out]; simp [h2, h6])
        clear hq hp hc h6
        go_enter Tryz.func79, Tryz.ntmps79
        go_wp2
        go_ret
        exact ⟨ret_bool E.out.symm, Below.refl _ _⟩
    · have h2I : ¬ (f.size : Int) ≤ 100 := by omega
      have E := hid (show q = false by rw [hq.out]; simp [h2])
      clear hq hp hc
      go_enter Tryz.func79, Tryz.ntmps79
      go_wp2
      go_ret
      exact ⟨ret_bool E.out.symm, Below.refl _ _⟩
  · have e1 : (d == 1) = false := by simpa using h1
    by_cases h4 : d = 4
    · subst h4
      have E := hid (show q = decide ((f.size : Int) ≤ 65536) by rw [hq.out]; simp; omega)
      clear hq hp hc
      go_enter Tryz.func79, Tryz.ntmps79
      go_wp2
      go_ret
      exact ⟨ret_bool (by rw [E.out]), Below.refl _ _⟩
    · have e4 : (d == 4) = false := by simpa using h4
      have E := hid (show q = o by rw [hq.out]; simp [h1, h4])
      clear hq hc h1 h4
      go_enter Tryz.func79, Tryz.ntmps79
      go_wp2_with (go_at_call 111; refine hp.mono ?_; rintro e w1 ⟨rfl, hb1⟩)
      go_ret
      exact ⟨ret_bool E.out.symm, hb1⟩

theorem sts_at {w : World} {g : Nat} {l : List ByteArray} (h : Sts w g l) (k : Nat) (hk : k < l.length) : ∃ f, f ∈ l ∧ Hid (l.drop k = f :: l.drop (k + 1)) ∧ w.cell? ⟨g, k, none⟩ = some (.string f) := by
  refine ⟨l[k], List.getElem_mem hk, hid (List.drop_eq_getElem_cons hk), ?_⟩
  unfold Sts at h
  simp [World.cell?, h, hk]
theorem fulls_sz (k : Int) (s : ByteArray) : (∀ f ∈ fulls k s, f.size ≤ s.size + 1) ∧ 0 < (fulls k s).length ∧ (fulls k s).length ≤ 2 := ⟨fulls_size k s, fulls_len k s⟩
theorem ret_sb2 {s t : ByteArray} {a b : Bool} (h : s = t) (h' : a = b) : Ending.returned (.tuple #[.string s, .bool a]) = .returned (.tuple #[.string t, .bool b]) := by rw [h, h']

set_option maxHeartbeats 8000000 in
theorem full_ok (d : Int) (h : Hd) (x : Value) (hs : h.name.size ≤ 9000000000000000) (w : World) : Calls Tryz.prog 35 #[.int .i64 d, .agg (h.cs x)] w fun e w' => e = .returned (.tuple #[.string (fullS d h), .bool (fullB d h)]) ∧ Below w.heap.size w w' := by
  have hb0 := below_alloc w (.cells (h.cs x) 26)
  have hB0 : Blk (w.alloc (.cells (h.cs x) 26)) w.heap.size (h.cs x) 26 := heap_alloc_new _ _
  have hfu := fulls_ok h x hs (w.alloc (.cells (h.cs x) 26))
  obtain ⟨hsz, hl0, hl2⟩ := fulls_sz h.kind h.name
  have hu : ∀ w, Calls Tryz.prog 80 #[.string h.name] w fun e w' => e = .returned (.bool (utfB h.name)) ∧ Below w.heap.size w w' := fun w => right_walk h.name (by omega) w
  obtain ⟨S, hS⟩ : ∃ S, S = fullS d h := ⟨_, rfl⟩
  obtain ⟨O, hO⟩ : ∃ O, O = fullB d h := ⟨_, rfl⟩
  rw [← hS, ← hO]
  unfold fullS at hS
  unfold fullB at hO
  have hFO : fullO d h = match (fulls h.kind h.name).find? (holdF d h.kind) with
    | some f => some f
    | none => if d = 3 ∧ utfB h.name = true then (fulls h.kind h.name).head? else none := rfl
  generalize utfB h.name = u at *
  generalize fulls h.kind h.name = L at *
  generalize fullO d h = FO at *
  replace hS := hid hS
  replace hO := hid hO
  replace hFO := hid hFO
  replace hl2 := hid hl2
  unfold Hd.cs at hfu hb0 hB0 ⊢
  go_enter Tryz.func35, Tryz.ntmps35
  go_wp2_with (go_at_call 78; refine hfu.mono ?_; rintro e w1 ⟨g, n, rfl, hn, hst, hb1⟩; replace hn := hid hn; have hB1 := hB0.below hb1; have hac := hb0.trans (hb1.mono hb0.size))
  clear hB0 hfu hb1
  have hn2 : n ≤ 2 := by rw [hn.out]; exact hl2.out
  have hn0 : 0 < n := by rw [hn.out]; exact hl0
  go_loopw [13] (fun y wr => ∃ i : Nat, y = .int .i64 i ∧ i ≤ n ∧ Below w1.heap.size w1 wr ∧ Hid (L.find? (holdF d h.kind) = (L.drop i).find? (holdF d h.kind))) (fun y _ => n - (RowKit.intOf y).toNat)
  case atStart => exact ⟨0, rfl, by omega, Below.refl _ _, hid rfl⟩
  case round =>
    obtain ⟨i, rfl, hi, hb, hf⟩ := hrel
    have hBr := hB1.below hb
    have k0 : wr.cell? ⟨w.heap.size, 0, none⟩ = some (.int .i64 h.kind) := hBr.cell 0
    have k1 : wr.cell? ⟨w.heap.size, 1, none⟩ = some (.string h.name) := hBr.cell 1
    have hacr := hac.trans (hb.mono hac.size)
    by_cases hlt : i < n
    · obtain ⟨f, hm, hd, cf⟩ := sts_at (hst.below hb) i (by rw [← hn.out]; exact hlt)
      have hfs := hsz f hm
      have hho := holds11_ok d h.kind f (by omega)
      have hiI : (i : Int) < (n : Int) := by omega
      cases hh : holdF d h.kind f
      · have E := hid (show L.find? (holdF d h.kind) = (L.drop (i + 1)).find? (holdF d h.kind) by rw [hf.out, hd.out, List.find?_cons, hh])
        rw [hh] at hho
        clear hf hd hm hS hO hFO hu hfs hsz
        go_wp2_with (go_at_call 79; refine (hho _).mono ?_; rintro e w2 ⟨rfl, hb2⟩)
        go_roundw
        case rel => exact ⟨i + 1, by go_num, by omega, hb.trans (hb2.mono hb.size), E⟩
        case measure => simp [RowKit.intOf]; omega
      · have E : Hid (FO = some f) := hid (by rw [hFO.out, hf.out, hd.out, List.find?_cons, hh])
        rw [hh] at hho
        clear hf hd hm hFO hu hfs hsz
        go_wp2_with (go_at_call 79; refine (hho _).mono ?_; rintro e w2 ⟨rfl, hb2⟩)
        all_goals go_ret2
        all_goals exact ⟨ret_sb2 (by rw [hS.out, E.out]; rfl) (by rw [hO.out, E.out]; rfl), hacr.trans (hb2.mono hacr.size)⟩
    · obtain rfl : i = n := by omega
      have hf0 := hid (show L.find? (holdF d h.kind) = none by rw [hf.out, List.drop_eq_nil_iff.2 (by rw [← hn.out]; exact Nat.le_refl _)]; rfl)
      obtain ⟨f0, hm0, hd0, cf0⟩ := sts_at (hst.below hb) 0 (by rw [← hn.out]; exact hn0)
      have hL0 := hid (show L.head? = some f0 by have := hd0.out; rw [List.drop_zero] at this; rw [this]; rfl)
      clear hd0 hm0 hf
      have hnI : ¬ (i : Int) < (i : Int) := by omega
      have hiI : (0 : Int) < (i : Int) := by omega
      by_cases h3 : d = 3
      · subst h3
        cases hub : u
        · rw [hub] at hu
          have E : Hid (FO = none) := hid (by rw [hFO.out, hf0.out]; simp [hub])
          clear hFO hf0 hL0 hub
          go_wp2_with (go_at_call 80; refine (hu _).mono ?_; rintro e w2 ⟨rfl, hb2⟩)
          all_goals go_ret2
          all_goals exact ⟨ret_sb2 (by rw [hS.out, E.out]; rfl) (by rw [hO.out, E.out]; rfl), hacr.trans (hb2.mono hacr.size)⟩
        · rw [hub] at hu
          have E : Hid (FO = some f0) := hid (by rw [hFO.out, hf0.out]; simp [hub, hL0.out])
          clear hFO hf0 hL0 hub
          go_wp2_with (go_at_call 80; refine (hu _).mono ?_; rintro e w2 ⟨rfl, hb2⟩; have cf2 := cell_later hb2 cf0)
          all_goals go_ret2
          all_goals exact ⟨ret_sb2 (by rw [hS.out, E.out]; rfl) (by rw [hO.out, E.out]; rfl), hacr.trans (hb2.mono hacr.size)⟩
      · have e3 : (d == 3) = false := by simpa using h3
        have E : Hid (FO = none) := hid (by rw [hFO.out, hf0.out]; simp [h3])
        clear hFO hf0 hL0 h3
        go_wp2
        all_goals go_ret2
        all_goals exact ⟨ret_sb2 (by rw [hS.out, E.out]; rfl) (by rw [hO.out, E.out]; rfl), hacr⟩

end Go.Proofs.YthnaanjhmehgcaaGreatDoor

/-
  rep.can, FIELD BY FIELD. Conditions: how long the texts may be.
-/
namespace Go.Proofs.YthnaanjhmehgcaaGreatDoor
open Go.ChangeShapes Go.WideShapes Go.ChangeAt Go.RowKit Go.Lib
set_option linter.unusedVariables false
set_option linter.unusedSimpArgs false
set_option maxRecDepth 20000

theorem most_8 : mostI 8 = 16777215 := by decide
theorem most_12 : mostI 12 = 68719476735 := by decide

set_option maxHeartbeats 8000000 in
theorem can_1 (d : Int) (h : Hd) (a : Option Addr) (n c : Nat) (w : World) : Calls Tryz.prog 29 #[.int .i64 d, .agg (h.cs (.slice a n c)), .int .i64 1] w fun e w' => e = .returned (.bool (decide (d ≠ 1) || oldK h.kind)) ∧ Below w.heap.size w w' := by
  have hb0 := below_alloc w (.cells (h.cs (.slice a n c)) 26)
  have ho := oldk_ok h.kind
  generalize oldK h.kind = q at *
  unfold Hd.cs at hb0 ⊢
  by_cases h1 : d = 1
  · subst h1
    go_enter Tryz.func29, Tryz.ntmps29
    go_wp2_with (first
      | (go_at_call 64; refine (most_ok _ (by decide) _).mono ?_; rintro e w' ⟨hw, rfl⟩; obtain rfl := hw.symm)
      | (go_at_call 65; refine (ho _).mono ?_; rintro e w' ⟨hw, rfl⟩; obtain rfl := hw.symm))
    go_ret
    exact ⟨ret_bool (by simp), hb0⟩
  · have e1 : (d != 1) = true := by simpa using h1
    rw [decide_eq_true h1]
    clear h1
    go_enter Tryz.func29, Tryz.ntmps29
    go_wp2_with (first
      | (go_at_call 64; refine (most_ok _ (by decide) _).mono ?_; rintro e w' ⟨hw, rfl⟩; obtain rfl := hw.symm))
    go_ret
    exact ⟨rfl, hb0⟩

set_option maxHeartbeats 8000000 in
theorem can_2 (d : Int) (h : Hd) (a : Option Addr) (n c : Nat) (hs : h.name.size ≤ 9000000000000000) (w : World) : Calls Tryz.prog 29 #[.int .i64 d, .agg (h.cs (.slice a n c)), .int .i64 2] w fun e w' => e = .returned (.bool (fullB d h)) ∧ Below w.heap.size w w' := by
  have hb0 := below_alloc w (.cells (h.cs (.slice a n c)) 26)
  have hf := fun w => full_ok d h (.slice a n c) hs w
  generalize fullB d h = q at *
  generalize fullS d h = s at *
  unfold Hd.cs at hb0 hf ⊢
  go_enter Tryz.func29, Tryz.ntmps29
  go_wp2_with (first
    | (go_at_call 64; refine (most_ok _ (by decide) _).mono ?_; rintro e w' ⟨hw, rfl⟩; obtain rfl := hw.symm)
    | (go_at_call 35; refine (hf _).mono ?_; rintro e w1 ⟨rfl, hb1⟩))
  go_ret
  exact ⟨rfl, hb0.trans (hb1.mono hb0.size)⟩

set_option maxHeartbeats 8000000 in
theorem can_3 (d : Int) (h : Hd) (a : Option Addr) (n c : Nat) (hs : h.link.size ≤ 9000000000000000) (w : World) : Calls Tryz.prog 29 #[.int .i64 d, .agg (h.cs (.slice a n c)), .int .i64 3] w fun e w' => e = .returned (.bool (textT d h.link (colI d 100 100 100 9223372036854775807))) ∧ Below w.heap.size w w' := by
  have hb0 := below_alloc w (.cells (h.cs (.slice a n c)) 26)
  have hB : Blk (w.alloc (.cells (h.cs (.slice a n c)) 26)) w.heap.size (h.cs (.slice a n c)) 26 := heap_alloc_new _ _
  have hc := fun w => coli_ok d 100 100 100 9223372036854775807 w
  have ht := fun w => textt_ok d h.link (colI d 100 100 100 9223372036854775807) hs w
  generalize textT d h.link (colI d 100 100 100 9223372036854775807) = q at *
  generalize colI d 100 100 100 9223372036854775807 = m at *
  unfold Hd.cs at hb0 hB ⊢
  go_enter Tryz.func29, Tryz.ntmps29
  go_upto_region 9 with (first
    | (go_at_call 64; refine (most_ok _ (by decide) _).mono ?_; rintro e w' ⟨hw, rfl⟩; obtain rfl := hw.symm))
  generalize (w.alloc (.cells #[.int .i64 h.kind, .string h.name, .string h.link, .int .i64 h.mode, .int .i64 h.uid, .int .i64 h.gid, .int .i64 h.size, .int .i64 h.sec, .int .i64 h.nano, .string h.user, .string h.group, .int .i64 h.major, .int .i64 h.minor, .slice a n c] 26)) = W at *
  have j : ∀ p : After W, p.out.cell? ⟨w.heap.size, 2, none⟩ = some (.string h.link) := fun p => (hB.below p.bel).cell 2
  have hne : Nonempty (After W) := ⟨⟨_, Below.refl _ _⟩⟩
  clear hB
  refine wp_region_after (by kernel_rfl) (by kernel_rfl) ?_
  repeat (go_big_quiet_step ((first
    | (go_at_call 67; exact after_same _ (hc _))
    | (go_at_call 66; exact after_below _ (ht _)))))
  refine wpQuiet_nil ?_
  intro wq hw'
  obtain ⟨⟨z, hwq⟩, hx⟩ := hw'
  simp only at hx
  subst hx
  go_wp2
  go_ret
  exact ⟨rfl, hb0.trans (hwq.mono hb0.size)⟩

set_option maxHeartbeats 8000000 in
theorem can_9 (d : Int) (h : Hd) (a : Option Addr) (n c : Nat) (hs : h.user.size ≤ 9000000000000000) (w : World) : Calls Tryz.prog 29 #[.int .i64 d, .agg (h.cs (.slice a n c)), .int .i64 9] w fun e w' => e = .returned (.bool (textT d h.user (colI d 0 32 32 32))) ∧ Below w.heap.size w w' := by
  have hb0 := below_alloc w (.cells (h.cs (.slice a n c)) 26)
  have hB : Blk (w.alloc (.cells (h.cs (.slice a n c)) 26)) w.heap.size (h.cs (.slice a n c)) 26 := heap_alloc_new _ _
  have hc := fun w => coli_ok d 0 32 32 32 w
  have ht := fun w => textt_ok d h.user (colI d 0 32 32 32) hs w
  generalize textT d h.user (colI d 0 32 32 32) = q at *
  generalize colI d 0 32 32 32 = m at *
  unfold Hd.cs at hb0 hB ⊢
  go_enter Tryz.func29, Tryz.ntmps29
  go_upto_region 21 with (first
    | (go_at_call 64; refine (most_ok _ (by decide) _).mono ?_; rintro e w' ⟨hw, rfl⟩; obtain rfl := hw.symm))
  generalize (w.alloc (.cells #[.int .i64 h.kind, .string h.name, .string h.link, .int .i64 h.mode, .int .i64 h.uid, .int .i64 h.gid, .int .i64 h.size, .int .i64 h.sec, .int .i64 h.nano, .string h.user, .string h.group, .int .i64 h.major, .int .i64 h.minor, .slice a n c] 26)) = W at *
  have j : ∀ p : After W, p.out.cell? ⟨w.heap.size, 9, none⟩ = some (.string h.user) := fun p => (hB.below p.bel).cell 9
  have hne : Nonempty (After W) := ⟨⟨_, Below.refl _ _⟩⟩
  clear hB
  refine wp_region_after (by kernel_rfl) (by kernel_rfl) ?_
  repeat (go_big_quiet_step ((first
    | (go_at_call 67; exact after_same _ (hc _))
    | (go_at_call 66; exact after_below _ (ht _)))))
  refine wpQuiet_nil ?_
  intro wq hw'
  obtain ⟨⟨z, hwq⟩, hx⟩ := hw'
  simp only at hx
  subst hx
  go_wp2
  go_ret
  exact ⟨rfl, hb0.trans (hwq.mono hb0.size)⟩

set_option maxHeartbeats 8000000 in
theorem can_10 (d : Int) (h : Hd) (a : Option Addr) (n c : Nat) (hs : h.group.size ≤ 9000000000000000) (w : World) : Calls Tryz.prog 29 #[.int .i64 d, .agg (h.cs (.slice a n c)), .int .i64 10] w fun e w' => e = .returned (.bool (textT d h.group (colI d 0 32 32 32))) ∧ Below w.heap.size w w' := by
  have hb0 := below_alloc w (.cells (h.cs (.slice a n c)) 26)
  have hB : Blk (w.alloc (.cells (h.cs (.slice a n c)) 26)) w.heap.size (h.cs (.slice a n c)) 26 := heap_alloc_new _ _
  have hc := fun w => coli_ok d 0 32 32 32 w
  have ht := fun w => textt_ok d h.group (colI d 0 32 32 32) hs w
  generalize textT d h.group (colI d 0 32 32 32) = q at *
  generalize colI d 0 32 32 32 = m at *
  unfold Hd.cs at hb0 hB ⊢
  go_enter Tryz.func29, Tryz.ntmps29
  go_upto_region 23 with (first
    | (go_at_call 64; refine (most_ok _ (by decide) _).mono ?_; rintro e w' ⟨hw, rfl⟩; obtain rfl := hw.symm))
  generalize (w.alloc (.cells #[.int .i64 h.kind, .string h.name, .string h.link, .int .i64 h.mode, .int .i64 h.uid, .int .i64 h.gid, .int .i64 h.size, .int .i64 h.sec, .int .i64 h.nano, .string h.user, .string h.group, .int .i64 h.major, .int .i64 h.minor, .slice a n c] 26)) = W at *
  have j : ∀ p : After W, p.out.cell? ⟨w.heap.size, 10, none⟩ = some (.string h.group) := fun p => (hB.below p.bel).cell 10
  have hne : Nonempty (After W) := ⟨⟨_, Below.refl _ _⟩⟩
  clear hB
  refine wp_region_after (by kernel_rfl) (by kernel_rfl) ?_
  repeat (go_big_quiet_step ((first
    | (go_at_call 67; exact after_same _ (hc _))
    | (go_at_call 66; exact after_below _ (ht _)))))
  refine wpQuiet_nil ?_
  intro wq hw'
  obtain ⟨⟨z, hwq⟩, hx⟩ := hw'
  simp only at hx
  subst hx
  go_wp2
  go_ret
  exact ⟨rfl, hb0.trans (hwq.mono hb0.size)⟩

set_option maxHeartbeats 8000000 in
theorem can_4 (d : Int) (h : Hd) (a : Option Addr) (n c : Nat) (w : World) : Calls Tryz.prog 29 #[.int .i64 d, .agg (h.cs (.slice a n c)), .int .i64 4] w fun e w' => e = .returned (.bool (decide (h.mode ≤ colI d 16777215 16777215 16777215 72057594037927935))) ∧ Below w.heap.size w w' := by
  have hb0 := below_alloc w (.cells (h.cs (.slice a n c)) 26)
  have hc := fun w => colj_ok d (mostI 8) (mostI 8) (mostI 8) 72057594037927935 w
  have E : colI d (mostI 8) (mostI 8) (mostI 8) 72057594037927935 = colI d 16777215 16777215 16777215 72057594037927935 := by rw [most_8]
  generalize colI d (mostI 8) (mostI 8) (mostI 8) 72057594037927935 = m at *
  rw [← E]
  clear E
  unfold Hd.cs at hb0 ⊢
  go_enter Tryz.func29, Tryz.ntmps29
  go_upto_region 11 with (first
    | (go_at_call 64; refine (most_ok _ (by decide) _).mono ?_; rintro e w' ⟨hw, rfl⟩; obtain rfl := hw.symm))
  go_quiet ((go_at_call 68; exact Calls.quiet_of_same ((hc _).mono fun e w' h => ⟨h.2, h.1⟩)))
  all_goals go_wp2
  all_goals go_ret
  all_goals exact ⟨ret_bool (by simp), below_draws hb0 _⟩

set_option maxHeartbeats 8000000 in
theorem can_5 (d : Int) (h : Hd) (a : Option Addr) (n c : Nat) (w : World) : Calls Tryz.prog 29 #[.int .i64 d, .agg (h.cs (.slice a n c)), .int .i64 5] w fun e w' => e = .returned (.bool (decide (h.uid ≤ colI d 16777215 16777215 9223372036854775807 72057594037927935))) ∧ Below w.heap.size w w' := by
  have hb0 := below_alloc w (.cells (h.cs (.slice a n c)) 26)
  have hc := fun w => colj_ok d (mostI 8) (mostI 8) (9223372036854775807) 72057594037927935 w
  have E : colI d (mostI 8) (mostI 8) (9223372036854775807) 72057594037927935 = colI d 16777215 16777215 9223372036854775807 72057594037927935 := by rw [most_8]
  generalize colI d (mostI 8) (mostI 8) (9223372036854775807) 72057594037927935 = m at *
  rw [← E]
  clear E
  unfold Hd.cs at hb0 ⊢
  go_enter Tryz.func29, Tryz.ntmps29
  go_upto_region 13 with (first
    | (go_at_call 64; refine (most_ok _ (by decide) _).mono ?_; rintro e w' ⟨hw, rfl⟩; obtain rfl := hw.symm))
  go_quiet ((go_at_call 68; exact Calls.quiet_of_same ((hc _).mono fun e w' h => ⟨h.2, h.1⟩)))
  all_goals go_wp2
  all_goals go_ret
  all_goals exact ⟨ret_bool (by simp), below_draws hb0 _⟩

set_option maxHeartbeats 8000000 in
theorem can_6 (d : Int) (h : Hd) (a : Option Addr) (n c : Nat) (w : World) : Calls Tryz.prog 29 #[.int .i64 d, .agg (h.cs (.slice a n c)), .int .i64 6] w fun e w' => e = .returned (.bool (decide (h.gid ≤ colI d 16777215 16777215 9223372036854775807 72057594037927935))) ∧ Below w.heap.size w w' := by
  have hb0 := below_alloc w (.cells (h.cs (.slice a n c)) 26)
  have hc := fun w => colj_ok d (mostI 8) (mostI 8) (9223372036854775807) 72057594037927935 w
  have E : colI d (mostI 8) (mostI 8) (9223372036854775807) 72057594037927935 = colI d 16777215 16777215 9223372036854775807 72057594037927935 := by rw [most_8]
  generalize colI d (mostI 8) (mostI 8) (9223372036854775807) 72057594037927935 = m at *
  rw [← E]
  clear E
  unfold Hd.cs at hb0 ⊢
  go_enter Tryz.func29, Tryz.ntmps29
  go_upto_region 15 with (first
    | (go_at_call 64; refine (most_ok _ (by decide) _).mono ?_; rintro e w' ⟨hw, rfl⟩; obtain rfl := hw.symm))
  go_quiet ((go_at_call 68; exact Calls.quiet_of_same ((hc _).mono fun e w' h => ⟨h.2, h.1⟩)))
  all_goals go_wp2
  all_goals go_ret
  all_goals exact ⟨ret_bool (by simp), below_draws hb0 _⟩

set_option maxHeartbeats 8000000 in
theorem can_7 (d : Int) (h : Hd) (a : Option Addr) (n c : Nat) (w : World) : Calls Tryz.prog 29 #[.int .i64 d, .agg (h.cs (.slice a n c)), .int .i64 7] w fun e w' => e = .returned (.bool (decide (h.size ≤ colI d 68719476735 68719476735 9223372036854775807 9223372036854775807))) ∧ Below w.heap.size w w' := by
  have hb0 := below_alloc w (.cells (h.cs (.slice a n c)) 26)
  have hc := fun w => colj_ok d (mostI 12) (mostI 12) (9223372036854775807) 9223372036854775807 w
  have E : colI d (mostI 12) (mostI 12) (9223372036854775807) 9223372036854775807 = colI d 68719476735 68719476735 9223372036854775807 9223372036854775807 := by rw [most_12]
  generalize colI d (mostI 12) (mostI 12) (9223372036854775807) 9223372036854775807 = m at *
  rw [← E]
  clear E
  unfold Hd.cs at hb0 ⊢
  go_enter Tryz.func29, Tryz.ntmps29
  go_upto_region 17 with (first
    | (go_at_call 64; refine (most_ok _ (by decide) _).mono ?_; rintro e w' ⟨hw, rfl⟩; obtain rfl := hw.symm))
  go_quiet ((go_at_call 68; exact Calls.quiet_of_same ((hc _).mono fun e w' h => ⟨h.2, h.1⟩)))
  all_goals go_wp2
  all_goals go_ret
  all_goals exact ⟨ret_bool (by simp), below_draws hb0 _⟩

set_option maxHeartbeats 8000000 in
theorem can_11 (d : Int) (h : Hd) (a : Option Addr) (n c : Nat) (w : World) : Calls Tryz.prog 29 #[.int .i64 d, .agg (h.cs (.slice a n c)), .int .i64 11] w fun e w' => e = .returned (.bool (decide (h.major ≤ colI d 16777215 16777215 16777215 72057594037927935))) ∧ Below w.heap.size w w' := by
  have hb0 := below_alloc w (.cells (h.cs (.slice a n c)) 26)
  have hc := fun w => colj_ok d (mostI 8) (mostI 8) (mostI 8) 72057594037927935 w
  have E : colI d (mostI 8) (mostI 8) (mostI 8) 72057594037927935 = colI d 16777215 16777215 16777215 72057594037927935 := by rw [most_8]
  generalize colI d (mostI 8) (mostI 8) (mostI 8) 72057594037927935 = m at *
  rw [← E]
  clear E
  unfold Hd.cs at hb0 ⊢
  go_enter Tryz.func29, Tryz.ntmps29
  go_upto_region 25 with (first
    | (go_at_call 64; refine (most_ok _ (by decide) _).mono ?_; rintro e w' ⟨hw, rfl⟩; obtain rfl := hw.symm))
  go_quiet ((go_at_call 68; exact Calls.quiet_of_same ((hc _).mono fun e w' h => ⟨h.2, h.1⟩)))
  all_goals go_wp2
  all_goals go_ret
  all_goals exact ⟨ret_bool (by simp), below_draws hb0 _⟩

set_option maxHeartbeats 8000000 in
theorem can_12 (d : Int) (h : Hd) (a : Option Addr) (n c : Nat) (w : World) : Calls Tryz.prog 29 #[.int .i64 d, .agg (h.cs (.slice a n c)), .int .i64 12] w fun e w' => e = .returned (.bool (decide (h.minor ≤ colI d 16777215 16777215 16777215 72057594037927935))) ∧ Below w.heap.size w w' := by
  have hb0 := below_alloc w (.cells (h.cs (.slice a n c)) 26)
  have hc := fun w => colj_ok d (mostI 8) (mostI 8) (mostI 8) 72057594037927935 w
  have E : colI d (mostI 8) (mostI 8) (mostI 8) 72057594037927935 = colI d 16777215 16777215 16777215 72057594037927935 := by rw [most_8]
  generalize colI d (mostI 8) (mostI 8) (mostI 8) 72057594037927935 = m at *
  rw [← E]
  clear E
  unfold Hd.cs at hb0 ⊢
  go_enter Tryz.func29, Tryz.ntmps29
  go_upto_region 27 with (first
    | (go_at_call 64; refine (most_ok _ (by decide) _).mono ?_; rintro e w' ⟨hw, rfl⟩; obtain rfl := hw.symm))
  go_quiet ((go_at_call 68; exact Calls.quiet_of_same ((hc _).mono fun e w' h => ⟨h.2, h.1⟩)))
  all_goals go_wp2
  all_goals go_ret
  all_goals exact ⟨ret_bool (by simp), below_draws hb0 _⟩

set_option maxHeartbeats 8000000 in
theorem can_8 (d : Int) (h : Hd) (a : Option Addr) (n c : Nat) (w : World) : Calls Tryz.prog 29 #[.int .i64 d, .agg (h.cs (.slice a n c)), .int .i64 8] w fun e w' => e = .returned (.bool (timT d h.sec h.nano)) ∧ Below w.heap.size w w' := by
  have hb0 := below_alloc w (.cells (h.cs (.slice a n c)) 26)
  obtain ⟨q, hq⟩ : ∃ q, q = timT d h.sec h.nano := ⟨_, rfl⟩
  rw [← hq]
  replace hq := hid hq
  unfold timT at hq
  unfold Hd.cs at hb0 ⊢
  by_cases h3 : d = 3
  · subst h3
    have E := hid (show q = true by rw [hq.out]; simp)
    clear hq
    go_enter Tryz.func29, Tryz.ntmps29
    go_wp2_with (first
      | (go_at_call 64; refine (most_ok _ (by decide) _).mono ?_; rintro e w' ⟨hw, rfl⟩; obtain rfl := hw.symm))
    go_ret
    exact ⟨ret_bool E.out.symm, hb0⟩
  have e3 : (d == 3) = false := by simpa using h3
  by_cases hn : h.nano = 0
  · have en : (h.nano == 0) = true := by simpa using hn
    by_cases h4 : d = 4
    · subst h4
      have E := hid (show q = true by rw [hq.out]; simp [hn])
      clear hq hn
      go_enter Tryz.func29, Tryz.ntmps29
      go_wp2_with (first
        | (go_at_call 64; refine (most_ok _ (by decide) _).mono ?_; rintro e w' ⟨hw, rfl⟩; obtain rfl := hw.symm))
      go_ret
      exact ⟨ret_bool E.out.symm, hb0⟩
    have e4 : (d == 4) = false := by simpa using h4
    by_cases hs : 0 ≤ h.sec
    · have E := hid (show q = decide (h.sec ≤ mostI 12) by rw [hq.out, most_12]; simp [hn, h3, h4, hs])
      clear hq hn h3 h4
      go_enter Tryz.func29, Tryz.ntmps29
      go_wp2_with (first
        | (go_at_call 64; refine (most_ok _ (by decide) _).mono ?_; rintro e w' ⟨hw, rfl⟩; obtain rfl := hw.symm))
      go_ret
      exact ⟨ret_bool E.out.symm, hb0⟩
    · have E := hid (show q = false by rw [hq.out]; simp [hn, h3, h4, hs])
      clear hq hn h3 h4
      go_enter Tryz.func29, Tryz.ntmps29
      go_wp2_with (first
        | (go_at_call 64; refine (most_ok _ (by decide) _).mono ?_; rintro e w' ⟨hw, rfl⟩; obtain rfl := hw.symm))
      go_ret
      exact ⟨ret_bool E.out.symm, hb0⟩
  · have en : (h.nano == 0) = false := by simpa using hn
    have E := hid (show q = false by rw [hq.out]; simp [hn, h3])
    clear hq hn h3
    go_enter Tryz.func29, Tryz.ntmps29
    go_wp2_with (first
      | (go_at_call 64; refine (most_ok _ (by decide) _).mono ?_; rintro e w' ⟨hw, rfl⟩; obtain rfl := hw.symm))
    go_ret
    exact ⟨ret_bool E.out.symm, hb0⟩

set_option maxHeartbeats 8000000 in
theorem can_13 (d : Int) (h : Hd) (a : Option Addr) (n c : Nat) (w : World) : Calls Tryz.prog 29 #[.int .i64 d, .agg (h.cs (.slice a n c)), .int .i64 13] w fun e w' => e = .returned (.bool (decide (d = 3) || decide (n = 0))) ∧ Below w.heap.size w w' := by
  have hb0 := below_alloc w (.cells (h.cs (.slice a n c)) 26)
  unfold Hd.cs at hb0 ⊢
  by_cases h3 : d = 3
  · subst h3
    go_enter Tryz.func29, Tryz.ntmps29
    go_wp2_with (first
      | (go_at_call 64; refine (most_ok _ (by decide) _).mono ?_; rintro e w' ⟨hw, rfl⟩; obtain rfl := hw.symm))
    go_ret
    exact ⟨ret_bool (by simp), hb0⟩
  · have e3 : (d == 3) = false := by simpa using h3
    have E := hid (show (decide (d = 3) || decide (n = 0)) = ((n : Int) == 0) by rw [Bool.eq_iff_iff]; simp [h3])
    generalize (decide (d = 3) || decide (n = 0)) = q at *
    clear h3
    go_enter Tryz.func29, Tryz.ntmps29
    go_wp2_with (first
      | (go_at_call 64; refine (most_ok _ (by decide) _).mono ?_; rintro e w' ⟨hw, rfl⟩; obtain rfl := hw.symm))
    go_ret
    exact ⟨ret_bool (by rw [E.out]), hb0⟩

/-- all of these -/
theorem can_ok (d : Int) (h : Hd) (a : Option Addr) (n c : Nat) (f : Int) (hf : 1 ≤ f ∧ f ≤ 13) (h1 : h.name.size ≤ 9000000000000000) (h2 : h.link.size ≤ 9000000000000000) (h3 : h.user.size ≤ 9000000000000000) (h4 : h.group.size ≤ 9000000000000000) (w : World) :
    Calls Tryz.prog 29 #[.int .i64 d, .agg (h.cs (.slice a n c)), .int .i64 f] w fun e w' => e = .returned (.bool (canN d h n f)) ∧ Below w.heap.size w w' := by
  have hv : f = 1 ∨ f = 2 ∨ f = 3 ∨ f = 4 ∨ f = 5 ∨ f = 6 ∨ f = 7 ∨ f = 8 ∨ f = 9 ∨ f = 10 ∨ f = 11 ∨ f = 12 ∨ f = 13 := by omega
  rcases hv with rfl | rfl | rfl | rfl | rfl | rfl | rfl | rfl | rfl | rfl | rfl | rfl | rfl
  · exact can_1 d h a n c w
  · exact can_2 d h a n c h1 w
  · exact can_3 d h a n c h2 w
  · exact can_4 d h a n c w
  · exact can_5 d h a n c w
  · exact can_6 d h a n c w
  · exact can_7 d h a n c w
  · exact can_8 d h a n c w
  · exact can_9 d h a n c h3 w
  · exact can_10 d h a n c h4 w
  · exact can_11 d h a n c w
  · exact can_12 d h a n c w
  · exact can_13 d h a n c w

end Go.Proofs.YthnaanjhmehgcaaGreatDoor
