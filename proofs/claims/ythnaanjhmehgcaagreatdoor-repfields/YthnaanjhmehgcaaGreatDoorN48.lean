/-
  THE WALK OF RepFields. Conditions: how long the texts may be; what the listed variables hold.
-/
import Derived.Test.YthnaanjhmehgcaaGreatDoorN47
namespace Go.Proofs.YthnaanjhmehgcaaGreatDoor
open Go.ChangeShapes Go.WideShapes Go.ChangeAt Go.RowKit Go.Lib
set_option linter.unusedVariables false
set_option linter.unusedSimpArgs false
set_option maxRecDepth 20000

/-- what the walk of the statement is handed -/
structure FH (w : World) (d f : Int) (h : Hd) (a : Option Addr) (n c : Nat) (W : Int) (cb : Bool) (cc fv fc : Int) (rb : Bool) (rf : Int) : Prop where
  al : ∀ wr, Below w.heap.size w wr → Calls Tryz.prog 7 #[] wr fun e w' => e = .returned (.bool true) ∧ Below wr.heap.size wr w'
  mn : ∀ wr, Below w.heap.size w wr → Calls Tryz.prog 8 #[.agg (h.cs (.slice a n c))] wr fun e w' => e = .returned (.bool false) ∧ Below wr.heap.size wr w'
  cn : ∀ wr, Below w.heap.size w wr → Calls Tryz.prog 9 #[.int .i64 d, .agg (h.cs (.slice a n c)), .int .i64 f] wr fun e w' => e = .returned (.tuple #[.bool cb, .int .u8 cc]) ∧ Below wr.heap.size wr w'
  ft : ∀ wr, Below w.heap.size w wr → Calls Tryz.prog 10 #[.int .i64 d, .agg (h.cs (.slice a n c))] wr fun e w' => e = .returned (.tuple #[.int .i64 fv, .int .u8 fc]) ∧ Below wr.heap.size wr w'
  rw : ∀ wr, Below w.heap.size w wr → Calls Tryz.prog 11 #[.agg (h.cs (.slice a n c))] wr fun e w' => e = .returned (.int .i64 W) ∧ Below wr.heap.size wr w'
  rc : cc = 0 → ∀ wr, Below w.heap.size w wr → Calls Tryz.prog 13 #[.int .i64 d, .agg (h.cs (.slice a n c)), .int .i64 f] wr fun e w' => e = .returned (.bool rb) ∧ Below wr.heap.size wr w'
  rt : fc = 0 → ∀ wr, Below w.heap.size w wr → Calls Tryz.prog 14 #[.int .i64 d, .agg (h.cs (.slice a n c))] wr fun e w' => e = .returned (.int .i64 rf) ∧ Below wr.heap.size wr w'

set_option maxHeartbeats 8000000 in
theorem fw_yy0 {w : World} {d f : Int} {h : Hd} {a : Option Addr} {n c : Nat} {W : Int} {cb rb : Bool} {fv rf : Int} (x : FH w d f h a n c W cb 0 fv 0 cb fv) (hd : 1 ≤ d ∧ d ≤ 4) (hf : ¬ f < 1) (hf2 : ¬ 14 < f) (hw : W = 0) :
    Calls Tryz.prog 3 #[.int .i64 d, .agg (h.cs (.slice a n c)), .int .i64 f] w fun e w' => e = .returned (.bool true) ∧ Below w.heap.size w w' := by
  have hac := below_alloc w (.cells (h.cs (.slice a n c)) 26)
  have hB : Blk (w.alloc (.cells (h.cs (.slice a n c)) 26)) w.heap.size (h.cs (.slice a n c)) 26 := heap_alloc_new _ _
  have hinf : (Tryz.prog.info? 26).map (·.size) = some (h.cs (.slice a n c)).size := by kernel_rfl
  obtain ⟨al, mn, cn, ft, rw, rc, rt⟩ := x
  replace rc := rc rfl
  replace rt := rt rfl
  have hd1 := hd.1
  have hd4 := hd.2
  have hdd : decide (1 ≤ d ∧ d ≤ 4) = true := decide_eq_true hd
  have hdi := dialect_ok d
  rewrite [hdd] at hdi
  clear hdd
  subst hw
  have e1 : (cb == cb) = true := by simp
  have e2 : (fv == fv) = true := by simp
  unfold Hd.cs at hac hB hinf mn cn ft rw rc rt ⊢
  go_enter Tryz.func3, Tryz.ntmps3
  go_wp2_with (first
    | (go_at_call 7; refine (al _ hac).mono ?_; rintro e w1 ⟨rfl, hb1⟩; replace hB := hB.below hb1; replace hac := hac.trans (hb1.mono hac.size); clear hb1)
    | (go_at_call 8; refine (mn _ hac).mono ?_; rintro e w1 ⟨rfl, hb1⟩; replace hB := hB.below hb1; replace hac := hac.trans (hb1.mono hac.size); clear hb1)
    | (go_at_call 9; refine (cn _ hac).mono ?_; rintro e w1 ⟨rfl, hb1⟩; replace hB := hB.below hb1; replace hac := hac.trans (hb1.mono hac.size); clear hb1)
    | (go_at_call 10; refine (ft _ hac).mono ?_; rintro e w1 ⟨rfl, hb1⟩; replace hB := hB.below hb1; replace hac := hac.trans (hb1.mono hac.size); clear hb1)
    | (go_at_call 11; refine (rw _ hac).mono ?_; rintro e w1 ⟨rfl, hb1⟩; replace hB := hB.below hb1; replace hac := hac.trans (hb1.mono hac.size); clear hb1)
    | (go_at_call 13; refine (rc _ hac).mono ?_; rintro e w1 ⟨rfl, hb1⟩; replace hB := hB.below hb1; replace hac := hac.trans (hb1.mono hac.size); clear hb1)
    | (go_at_call 14; refine (rt _ hac).mono ?_; rintro e w1 ⟨rfl, hb1⟩; replace hB := hB.below hb1; replace hac := hac.trans (hb1.mono hac.size); clear hb1)
    | (go_at_call 12; refine (hdi _).mono ?_; rintro e w' ⟨hw, rfl⟩; obtain rfl := hw.symm)
    | (refine wpList_load_row (P := Tryz.prog) rfl 26 (.tmp 4) rfl w.heap.size rfl 26 _ (0, 0) _ hB Tryz.underlying26 rfl hinf ?_))
  all_goals go_ret
  all_goals exact ⟨rfl, hac⟩

set_option maxHeartbeats 8000000 in
theorem fw_yyx {w : World} {d f : Int} {h : Hd} {a : Option Addr} {n c : Nat} {W : Int} {cb rb : Bool} {fv rf : Int} (x : FH w d f h a n c W false 15 0 15 rb rf) (hd : 1 ≤ d ∧ d ≤ 4) (hf : ¬ f < 1) (hf2 : ¬ 14 < f) (hw : W ≠ 0) :
    Calls Tryz.prog 3 #[.int .i64 d, .agg (h.cs (.slice a n c)), .int .i64 f] w fun e w' => e = .returned (.bool true) ∧ Below w.heap.size w w' := by
  have hac := below_alloc w (.cells (h.cs (.slice a n c)) 26)
  have hB : Blk (w.alloc (.cells (h.cs (.slice a n c)) 26)) w.heap.size (h.cs (.slice a n c)) 26 := heap_alloc_new _ _
  have hinf : (Tryz.prog.info? 26).map (·.size) = some (h.cs (.slice a n c)).size := by kernel_rfl
  obtain ⟨al, mn, cn, ft, rw, rc, rt⟩ := x
  clear rc
  clear rt
  have hd1 := hd.1
  have hd4 := hd.2
  have hdd : decide (1 ≤ d ∧ d ≤ 4) = true := decide_eq_true hd
  have hdi := dialect_ok d
  rewrite [hdd] at hdi
  clear hdd
  have hw0 : (W == 0) = false := by simpa using hw
  clear hw
  have e1 : (cb == cb) = true := by simp
  have e2 : (fv == fv) = true := by simp
  unfold Hd.cs at hac hB hinf mn cn ft rw ⊢
  go_enter Tryz.func3, Tryz.ntmps3
  go_wp2_with (first
    | (go_at_call 7; refine (al _ hac).mono ?_; rintro e w1 ⟨rfl, hb1⟩; replace hB := hB.below hb1; replace hac := hac.trans (hb1.mono hac.size); clear hb1)
    | (go_at_call 8; refine (mn _ hac).mono ?_; rintro e w1 ⟨rfl, hb1⟩; replace hB := hB.below hb1; replace hac := hac.trans (hb1.mono hac.size); clear hb1)
    | (go_at_call 9; refine (cn _ hac).mono ?_; rintro e w1 ⟨rfl, hb1⟩; replace hB := hB.below hb1; replace hac := hac.trans (hb1.mono hac.size); clear hb1)
    | (go_at_call 10; refine (ft _ hac).mono ?_; rintro e w1 ⟨rfl, hb1⟩; replace hB := hB.below hb1; replace hac := hac.trans (hb1.mono hac.size); clear hb1)
    | (go_at_call 11; refine (rw _ hac).mono ?_; rintro e w1 ⟨rfl, hb1⟩; replace hB := hB.below hb1; replace hac := hac.trans (hb1.mono hac.size); clear hb1)
    | (refine wpList_load_row (P := Tryz.prog) rfl 26 (.tmp 4) rfl w.heap.size rfl 26 _ (0, 0) _ hB Tryz.underlying26 rfl hinf ?_)
    | (refine wpList_load_row (P := Tryz.prog) rfl 26 (.tmp 4) rfl w.heap.size rfl 26 _ (0, 0) _ hB Tryz.underlying26 rfl hinf ?_)
    | (go_at_call 12; refine (hdi _).mono ?_; rintro e w' ⟨hw, rfl⟩; obtain rfl := hw.symm)
    | (refine wpList_load_row (P := Tryz.prog) rfl 26 (.tmp 4) rfl w.heap.size rfl 26 _ (0, 0) _ hB Tryz.underlying26 rfl hinf ?_))
  all_goals go_ret
  all_goals exact ⟨rfl, hac⟩

set_option maxHeartbeats 8000000 in
theorem fw_yl0 {w : World} {d f : Int} {h : Hd} {a : Option Addr} {n c : Nat} {W : Int} {cb rb : Bool} {fv rf : Int} (x : FH w d f h a n c W false 2 fv 0 rb fv) (hd : 1 ≤ d ∧ d ≤ 4) (hf : f < 1) (hw : W = 0) :
    Calls Tryz.prog 3 #[.int .i64 d, .agg (h.cs (.slice a n c)), .int .i64 f] w fun e w' => e = .returned (.bool true) ∧ Below w.heap.size w w' := by
  have hac := below_alloc w (.cells (h.cs (.slice a n c)) 26)
  have hB : Blk (w.alloc (.cells (h.cs (.slice a n c)) 26)) w.heap.size (h.cs (.slice a n c)) 26 := heap_alloc_new _ _
  have hinf : (Tryz.prog.info? 26).map (·.size) = some (h.cs (.slice a n c)).size := by kernel_rfl
  obtain ⟨al, mn, cn, ft, rw, rc, rt⟩ := x
  clear rc
  replace rt := rt rfl
  have hd1 := hd.1
  have hd4 := hd.2
  have hdd : decide (1 ≤ d ∧ d ≤ 4) = true := decide_eq_true hd
  have hdi := dialect_ok d
  rewrite [hdd] at hdi
  clear hdd
  subst hw
  have e1 : (cb == cb) = true := by simp
  have e2 : (fv == fv) = true := by simp
  unfold Hd.cs at hac hB hinf mn cn ft rw rt ⊢
  go_enter Tryz.func3, Tryz.ntmps3
  go_wp2_with (first
    | (go_at_call 7; refine (al _ hac).mono ?_; rintro e w1 ⟨rfl, hb1⟩; replace hB := hB.below hb1; replace hac := hac.trans (hb1.mono hac.size); clear hb1)
    | (go_at_call 8; refine (mn _ hac).mono ?_; rintro e w1 ⟨rfl, hb1⟩; replace hB := hB.below hb1; replace hac := hac.trans (hb1.mono hac.size); clear hb1)
    | (go_at_call 9; refine (cn _ hac).mono ?_; rintro e w1 ⟨rfl, hb1⟩; replace hB := hB.below hb1; replace hac := hac.trans (hb1.mono hac.size); clear hb1)
    | (go_at_call 10; refine (ft _ hac).mono ?_; rintro e w1 ⟨rfl, hb1⟩; replace hB := hB.below hb1; replace hac := hac.trans (hb1.mono hac.size); clear hb1)
    | (go_at_call 11; refine (rw _ hac).mono ?_; rintro e w1 ⟨rfl, hb1⟩; replace hB := hB.below hb1; replace hac := hac.trans (hb1.mono hac.size); clear hb1)
    | (refine wpList_load_row (P := Tryz.prog) rfl 26 (.tmp 4) rfl w.heap.size rfl 26 _ (0, 0) _ hB Tryz.underlying26 rfl hinf ?_)
    | (go_at_call 14; refine (rt _ hac).mono ?_; rintro e w1 ⟨rfl, hb1⟩; replace hB := hB.below hb1; replace hac := hac.trans (hb1.mono hac.size); clear hb1)
    | (go_at_call 12; refine (hdi _).mono ?_; rintro e w' ⟨hw, rfl⟩; obtain rfl := hw.symm)
    | (refine wpList_load_row (P := Tryz.prog) rfl 26 (.tmp 4) rfl w.heap.size rfl 26 _ (0, 0) _ hB Tryz.underlying26 rfl hinf ?_))
  all_goals go_ret
  all_goals exact ⟨rfl, hac⟩

set_option maxHeartbeats 8000000 in
theorem fw_ylx {w : World} {d f : Int} {h : Hd} {a : Option Addr} {n c : Nat} {W : Int} {cb rb : Bool} {fv rf : Int} (x : FH w d f h a n c W false 2 0 15 rb rf) (hd : 1 ≤ d ∧ d ≤ 4) (hf : f < 1) (hw : W ≠ 0) :
    Calls Tryz.prog 3 #[.int .i64 d, .agg (h.cs (.slice a n c)), .int .i64 f] w fun e w' => e = .returned (.bool true) ∧ Below w.heap.size w w' := by
  have hac := below_alloc w (.cells (h.cs (.slice a n c)) 26)
  have hB : Blk (w.alloc (.cells (h.cs (.slice a n c)) 26)) w.heap.size (h.cs (.slice a n c)) 26 := heap_alloc_new _ _
  have hinf : (Tryz.prog.info? 26).map (·.size) = some (h.cs (.slice a n c)).size := by kernel_rfl
  obtain ⟨al, mn, cn, ft, rw, rc, rt⟩ := x
  clear rc
  clear rt
  have hd1 := hd.1
  have hd4 := hd.2
  have hdd : decide (1 ≤ d ∧ d ≤ 4) = true := decide_eq_true hd
  have hdi := dialect_ok d
  rewrite [hdd] at hdi
  clear hdd
  have hw0 : (W == 0) = false := by simpa using hw
  clear hw
  have e1 : (cb == cb) = true := by simp
  have e2 : (fv == fv) = true := by simp
  unfold Hd.cs at hac hB hinf mn cn ft rw ⊢
  go_enter Tryz.func3, Tryz.ntmps3
  go_wp2_with (first
    | (go_at_call 7; refine (al _ hac).mono ?_; rintro e w1 ⟨rfl, hb1⟩; replace hB := hB.below hb1; replace hac := hac.trans (hb1.mono hac.size); clear hb1)
    | (go_at_call 8; refine (mn _ hac).mono ?_; rintro e w1 ⟨rfl, hb1⟩; replace hB := hB.below hb1; replace hac := hac.trans (hb1.mono hac.size); clear hb1)
    | (go_at_call 9; refine (cn _ hac).mono ?_; rintro e w1 ⟨rfl, hb1⟩; replace hB := hB.below hb1; replace hac := hac.trans (hb1.mono hac.size); clear hb1)
    | (go_at_call 10; refine (ft _ hac).mono ?_; rintro e w1 ⟨rfl, hb1⟩; replace hB := hB.below hb1; replace hac := hac.trans (hb1.mono hac.size); clear hb1)
    | (go_at_call 11; refine (rw _ hac).mono ?_; rintro e w1 ⟨rfl, hb1⟩; replace hB := hB.below hb1; replace hac := hac.trans (hb1.mono hac.size); clear hb1)
    | (refine wpList_load_row (P := Tryz.prog) rfl 26 (.tmp 4) rfl w.heap.size rfl 26 _ (0, 0) _ hB Tryz.underlying26 rfl hinf ?_)
    | (refine wpList_load_row (P := Tryz.prog) rfl 26 (.tmp 4) rfl w.heap.size rfl 26 _ (0, 0) _ hB Tryz.underlying26 rfl hinf ?_)
    | (go_at_call 12; refine (hdi _).mono ?_; rintro e w' ⟨hw, rfl⟩; obtain rfl := hw.symm)
    | (refine wpList_load_row (P := Tryz.prog) rfl 26 (.tmp 4) rfl w.heap.size rfl 26 _ (0, 0) _ hB Tryz.underlying26 rfl hinf ?_))
  all_goals go_ret
  all_goals exact ⟨rfl, hac⟩

set_option maxHeartbeats 8000000 in
theorem fw_yg0 {w : World} {d f : Int} {h : Hd} {a : Option Addr} {n c : Nat} {W : Int} {cb rb : Bool} {fv rf : Int} (x : FH w d f h a n c W false 2 fv 0 rb fv) (hd : 1 ≤ d ∧ d ≤ 4) (hf : ¬ f < 1) (hf2 : 14 < f) (hw : W = 0) :
    Calls Tryz.prog 3 #[.int .i64 d, .agg (h.cs (.slice a n c)), .int .i64 f] w fun e w' => e = .returned (.bool true) ∧ Below w.heap.size w w' := by
  have hac := below_alloc w (.cells (h.cs (.slice a n c)) 26)
  have hB : Blk (w.alloc (.cells (h.cs (.slice a n c)) 26)) w.heap.size (h.cs (.slice a n c)) 26 := heap_alloc_new _ _
  have hinf : (Tryz.prog.info? 26).map (·.size) = some (h.cs (.slice a n c)).size := by kernel_rfl
  obtain ⟨al, mn, cn, ft, rw, rc, rt⟩ := x
  clear rc
  replace rt := rt rfl
  have hd1 := hd.1
  have hd4 := hd.2
  have hdd : decide (1 ≤ d ∧ d ≤ 4) = true := decide_eq_true hd
  have hdi := dialect_ok d
  rewrite [hdd] at hdi
  clear hdd
  subst hw
  have e1 : (cb == cb) = true := by simp
  have e2 : (fv == fv) = true := by simp
  unfold Hd.cs at hac hB hinf mn cn ft rw rt ⊢
  go_enter Tryz.func3, Tryz.ntmps3
  go_wp2_with (first
    | (go_at_call 7; refine (al _ hac).mono ?_; rintro e w1 ⟨rfl, hb1⟩; replace hB := hB.below hb1; replace hac := hac.trans (hb1.mono hac.size); clear hb1)
    | (go_at_call 8; refine (mn _ hac).mono ?_; rintro e w1 ⟨rfl, hb1⟩; replace hB := hB.below hb1; replace hac := hac.trans (hb1.mono hac.size); clear hb1)
    | (go_at_call 9; refine (cn _ hac).mono ?_; rintro e w1 ⟨rfl, hb1⟩; replace hB := hB.below hb1; replace hac := hac.trans (hb1.mono hac.size); clear hb1)
    | (go_at_call 10; refine (ft _ hac).mono ?_; rintro e w1 ⟨rfl, hb1⟩; replace hB := hB.below hb1; replace hac := hac.trans (hb1.mono hac.size); clear hb1)
    | (go_at_call 11; refine (rw _ hac).mono ?_; rintro e w1 ⟨rfl, hb1⟩; replace hB := hB.below hb1; replace hac := hac.trans (hb1.mono hac.size); clear hb1)
    | (refine wpList_load_row (P := Tryz.prog) rfl 26 (.tmp 4) rfl w.heap.size rfl 26 _ (0, 0) _ hB Tryz.underlying26 rfl hinf ?_)
    | (go_at_call 14; refine (rt _ hac).mono ?_; rintro e w1 ⟨rfl, hb1⟩; replace hB := hB.below hb1; replace hac := hac.trans (hb1.mono hac.size); clear hb1)
    | (go_at_call 12; refine (hdi _).mono ?_; rintro e w' ⟨hw, rfl⟩; obtain rfl := hw.symm)
    | (refine wpList_load_row (P := Tryz.prog) rfl 26 (.tmp 4) rfl w.heap.size rfl 26 _ (0, 0) _ hB Tryz.underlying26 rfl hinf ?_))
  all_goals go_ret
  all_goals exact ⟨rfl, hac⟩

set_option maxHeartbeats 8000000 in
theorem fw_ygx {w : World} {d f : Int} {h : Hd} {a : Option Addr} {n c : Nat} {W : Int} {cb rb : Bool} {fv rf : Int} (x : FH w d f h a n c W false 2 0 15 rb rf) (hd : 1 ≤ d ∧ d ≤ 4) (hf : ¬ f < 1) (hf2 : 14 < f) (hw : W ≠ 0) :
    Calls Tryz.prog 3 #[.int .i64 d, .agg (h.cs (.slice a n c)), .int .i64 f] w fun e w' => e = .returned (.bool true) ∧ Below w.heap.size w w' := by
  have hac := below_alloc w (.cells (h.cs (.slice a n c)) 26)
  have hB : Blk (w.alloc (.cells (h.cs (.slice a n c)) 26)) w.heap.size (h.cs (.slice a n c)) 26 := heap_alloc_new _ _
  have hinf : (Tryz.prog.info? 26).map (·.size) = some (h.cs (.slice a n c)).size := by kernel_rfl
  obtain ⟨al, mn, cn, ft, rw, rc, rt⟩ := x
  clear rc
  clear rt
  have hd1 := hd.1
  have hd4 := hd.2
  have hdd : decide (1 ≤ d ∧ d ≤ 4) = true := decide_eq_true hd
  have hdi := dialect_ok d
  rewrite [hdd] at hdi
  clear hdd
  have hw0 : (W == 0) = false := by simpa using hw
  clear hw
  have e1 : (cb == cb) = true := by simp
  have e2 : (fv == fv) = true := by simp
  unfold Hd.cs at hac hB hinf mn cn ft rw ⊢
  go_enter Tryz.func3, Tryz.ntmps3
  go_wp2_with (first
    | (go_at_call 7; refine (al _ hac).mono ?_; rintro e w1 ⟨rfl, hb1⟩; replace hB := hB.below hb1; replace hac := hac.trans (hb1.mono hac.size); clear hb1)
    | (go_at_call 8; refine (mn _ hac).mono ?_; rintro e w1 ⟨rfl, hb1⟩; replace hB := hB.below hb1; replace hac := hac.trans (hb1.mono hac.size); clear hb1)
    | (go_at_call 9; refine (cn _ hac).mono ?_; rintro e w1 ⟨rfl, hb1⟩; replace hB := hB.below hb1; replace hac := hac.trans (hb1.mono hac.size); clear hb1)
    | (go_at_call 10; refine (ft _ hac).mono ?_; rintro e w1 ⟨rfl, hb1⟩; replace hB := hB.below hb1; replace hac := hac.trans (hb1.mono hac.size); clear hb1)
    | (go_at_call 11; refine (rw _ hac).mono ?_; rintro e w1 ⟨rfl, hb1⟩; replace hB := hB.below hb1; replace hac := hac.trans (hb1.mono hac.size); clear hb1)
    | (refine wpList_load_row (P := Tryz.prog) rfl 26 (.tmp 4) rfl w.heap.size rfl 26 _ (0, 0) _ hB Tryz.underlying26 rfl hinf ?_)
    | (refine wpList_load_row (P := Tryz.prog) rfl 26 (.tmp 4) rfl w.heap.size rfl 26 _ (0, 0) _ hB Tryz.underlying26 rfl hinf ?_)
    | (go_at_call 12; refine (hdi _).mono ?_; rintro e w' ⟨hw, rfl⟩; obtain rfl := hw.symm)
    | (refine wpList_load_row (P := Tryz.prog) rfl 26 (.tmp 4) rfl w.heap.size rfl 26 _ (0, 0) _ hB Tryz.underlying26 rfl hinf ?_))
  all_goals go_ret
  all_goals exact ⟨rfl, hac⟩

set_option maxHeartbeats 8000000 in
theorem fw_ly0 {w : World} {d f : Int} {h : Hd} {a : Option Addr} {n c : Nat} {W : Int} {cb rb : Bool} {fv rf : Int} (x : FH w d f h a n c W false 2 0 2 rb rf) (hd : ¬ 1 ≤ d) (hf : ¬ f < 1) (hf2 : ¬ 14 < f) (hw : W = 0) :
    Calls Tryz.prog 3 #[.int .i64 d, .agg (h.cs (.slice a n c)), .int .i64 f] w fun e w' => e = .returned (.bool true) ∧ Below w.heap.size w w' := by
  have hac := below_alloc w (.cells (h.cs (.slice a n c)) 26)
  have hB : Blk (w.alloc (.cells (h.cs (.slice a n c)) 26)) w.heap.size (h.cs (.slice a n c)) 26 := heap_alloc_new _ _
  have hinf : (Tryz.prog.info? 26).map (·.size) = some (h.cs (.slice a n c)).size := by kernel_rfl
  obtain ⟨al, mn, cn, ft, rw, rc, rt⟩ := x
  clear rc
  clear rt
  have hdd : decide (1 ≤ d ∧ d ≤ 4) = false := decide_eq_false (fun h => hd h.1)
  have hdi := dialect_ok d
  rewrite [hdd] at hdi
  clear hdd
  subst hw
  have e1 : (cb == cb) = true := by simp
  have e2 : (fv == fv) = true := by simp
  unfold Hd.cs at hac hB hinf mn cn ft rw ⊢
  go_enter Tryz.func3, Tryz.ntmps3
  go_wp2_with (first
    | (go_at_call 7; refine (al _ hac).mono ?_; rintro e w1 ⟨rfl, hb1⟩; replace hB := hB.below hb1; replace hac := hac.trans (hb1.mono hac.size); clear hb1)
    | (go_at_call 8; refine (mn _ hac).mono ?_; rintro e w1 ⟨rfl, hb1⟩; replace hB := hB.below hb1; replace hac := hac.trans (hb1.mono hac.size); clear hb1)
    | (go_at_call 9; refine (cn _ hac).mono ?_; rintro e w1 ⟨rfl, hb1⟩; replace hB := hB.below hb1; replace hac := hac.trans (hb1.mono hac.size); clear hb1)
    | (go_at_call 10; refine (ft _ hac).mono ?_; rintro e w1 ⟨rfl, hb1⟩; replace hB := hB.below hb1; replace hac := hac.trans (hb1.mono hac.size); clear hb1)
    | (go_at_call 11; refine (rw _ hac).mono ?_; rintro e w1 ⟨rfl, hb1⟩; replace hB := hB.below hb1; replace hac := hac.trans (hb1.mono hac.size); clear hb1)
    | (refine wpList_load_row (P := Tryz.prog) rfl 26 (.tmp 4) rfl w.heap.size rfl 26 _ (0, 0) _ hB Tryz.underlying26 rfl hinf ?_)
    | (refine wpList_load_row (P := Tryz.prog) rfl 26 (.tmp 4) rfl w.heap.size rfl 26 _ (0, 0) _ hB Tryz.underlying26 rfl hinf ?_)
    | (go_at_call 12; refine (hdi _).mono ?_; rintro e w' ⟨hw, rfl⟩; obtain rfl := hw.symm)
    | (refine wpList_load_row (P := Tryz.prog) rfl 26 (.tmp 4) rfl w.heap.size rfl 26 _ (0, 0) _ hB Tryz.underlying26 rfl hinf ?_))
  all_goals go_ret
  all_goals exact ⟨rfl, hac⟩

set_option maxHeartbeats 8000000 in
theorem fw_lyx {w : World} {d f : Int} {h : Hd} {a : Option Addr} {n c : Nat} {W : Int} {cb rb : Bool} {fv rf : Int} (x : FH w d f h a n c W false 2 0 2 rb rf) (hd : ¬ 1 ≤ d) (hf : ¬ f < 1) (hf2 : ¬ 14 < f) (hw : W ≠ 0) :
    Calls Tryz.prog 3 #[.int .i64 d, .agg (h.cs (.slice a n c)), .int .i64 f] w fun e w' => e = .returned (.bool true) ∧ Below w.heap.size w w' := by
  have hac := below_alloc w (.cells (h.cs (.slice a n c)) 26)
  have hB : Blk (w.alloc (.cells (h.cs (.slice a n c)) 26)) w.heap.size (h.cs (.slice a n c)) 26 := heap_alloc_new _ _
  have hinf : (Tryz.prog.info? 26).map (·.size) = some (h.cs (.slice a n c)).size := by kernel_rfl
  obtain ⟨al, mn, cn, ft, rw, rc, rt⟩ := x
  clear rc
  clear rt
  have hdd : decide (1 ≤ d ∧ d ≤ 4) = false := decide_eq_false (fun h => hd h.1)
  have hdi := dialect_ok d
  rewrite [hdd] at hdi
  clear hdd
  have hw0 : (W == 0) = false := by simpa using hw
  clear hw
  have e1 : (cb == cb) = true := by simp
  have e2 : (fv == fv) = true := by simp
  unfold Hd.cs at hac hB hinf mn cn ft rw ⊢
  go_enter Tryz.func3, Tryz.ntmps3
  go_wp2_with (first
    | (go_at_call 7; refine (al _ hac).mono ?_; rintro e w1 ⟨rfl, hb1⟩; replace hB := hB.below hb1; replace hac := hac.trans (hb1.mono hac.size); clear hb1)
    | (go_at_call 8; refine (mn _ hac).mono ?_; rintro e w1 ⟨rfl, hb1⟩; replace hB := hB.below hb1; replace hac := hac.trans (hb1.mono hac.size); clear hb1)
    | (go_at_call 9; refine (cn _ hac).mono ?_; rintro e w1 ⟨rfl, hb1⟩; replace hB := hB.below hb1; replace hac := hac.trans (hb1.mono hac.size); clear hb1)
    | (go_at_call 10; refine (ft _ hac).mono ?_; rintro e w1 ⟨rfl, hb1⟩; replace hB := hB.below hb1; replace hac := hac.trans (hb1.mono hac.size); clear hb1)
    | (go_at_call 11; refine (rw _ hac).mono ?_; rintro e w1 ⟨rfl, hb1⟩; replace hB := hB.below hb1; replace hac := hac.trans (hb1.mono hac.size); clear hb1)
    | (refine wpList_load_row (P := Tryz.prog) rfl 26 (.tmp 4) rfl w.heap.size rfl 26 _ (0, 0) _ hB Tryz.underlying26 rfl hinf ?_)
    | (refine wpList_load_row (P := Tryz.prog) rfl 26 (.tmp 4) rfl w.heap.size rfl 26 _ (0, 0) _ hB Tryz.underlying26 rfl hinf ?_)
    | (go_at_call 12; refine (hdi _).mono ?_; rintro e w' ⟨hw, rfl⟩; obtain rfl := hw.symm)
    | (refine wpList_load_row (P := Tryz.prog) rfl 26 (.tmp 4) rfl w.heap.size rfl 26 _ (0, 0) _ hB Tryz.underlying26 rfl hinf ?_))
  all_goals go_ret
  all_goals exact ⟨rfl, hac⟩

set_option maxHeartbeats 8000000 in
theorem fw_ll0 {w : World} {d f : Int} {h : Hd} {a : Option Addr} {n c : Nat} {W : Int} {cb rb : Bool} {fv rf : Int} (x : FH w d f h a n c W false 2 0 2 rb rf) (hd : ¬ 1 ≤ d) (hf : f < 1) (hw : W = 0) :
    Calls Tryz.prog 3 #[.int .i64 d, .agg (h.cs (.slice a n c)), .int .i64 f] w fun e w' => e = .returned (.bool true) ∧ Below w.heap.size w w' := by
  have hac := below_alloc w (.cells (h.cs (.slice a n c)) 26)
  have hB : Blk (w.alloc (.cells (h.cs (.slice a n c)) 26)) w.heap.size (h.cs (.slice a n c)) 26 := heap_alloc_new _ _
  have hinf : (Tryz.prog.info? 26).map (·.size) = some (h.cs (.slice a n c)).size := by kernel_rfl
  obtain ⟨al, mn, cn, ft, rw, rc, rt⟩ := x
  clear rc
  clear rt
  have hdd : decide (1 ≤ d ∧ d ≤ 4) = false := decide_eq_false (fun h => hd h.1)
  have hdi := dialect_ok d
  rewrite [hdd] at hdi
  clear hdd
  subst hw
  have e1 : (cb == cb) = true := by simp
  have e2 : (fv == fv) = true := by simp
  unfold Hd.cs at hac hB hinf mn cn ft rw ⊢
  go_enter Tryz.func3, Tryz.ntmps3
  go_wp2_with (first
    | (go_at_call 7; refine (al _ hac).mono ?_; rintro e w1 ⟨rfl, hb1⟩; replace hB := hB.below hb1; replace hac := hac.trans (hb1.mono hac.size); clear hb1)
    | (go_at_call 8; refine (mn _ hac).mono ?_; rintro e w1 ⟨rfl, hb1⟩; replace hB := hB.below hb1; replace hac := hac.trans (hb1.mono hac.size); clear hb1)
    | (go_at_call 9; refine (cn _ hac).mono ?_; rintro e w1 ⟨rfl, hb1⟩; replace hB := hB.below hb1; replace hac := hac.trans (hb1.mono hac.size); clear hb1)
    | (go_at_call 10; refine (ft _ hac).mono ?_; rintro e w1 ⟨rfl, hb1⟩; replace hB := hB.below hb1; replace hac := hac.trans (hb1.mono hac.size); clear hb1)
    | (go_at_call 11; refine (rw _ hac).mono ?_; rintro e w1 ⟨rfl, hb1⟩; replace hB := hB.below hb1; replace hac := hac.trans (hb1.mono hac.size); clear hb1)
    | (refine wpList_load_row (P := Tryz.prog) rfl 26 (.tmp 4) rfl w.heap.size rfl 26 _ (0, 0) _ hB Tryz.underlying26 rfl hinf ?_)
    | (refine wpList_load_row (P := Tryz.prog) rfl 26 (.tmp 4) rfl w.heap.size rfl 26 _ (0, 0) _ hB Tryz.underlying26 rfl hinf ?_)
    | (go_at_call 12; refine (hdi _).mono ?_; rintro e w' ⟨hw, rfl⟩; obtain rfl := hw.symm)
    | (refine wpList_load_row (P := Tryz.prog) rfl 26 (.tmp 4) rfl w.heap.size rfl 26 _ (0, 0) _ hB Tryz.underlying26 rfl hinf ?_))
  all_goals go_ret
  all_goals exact ⟨rfl, hac⟩

set_option maxHeartbeats 8000000 in
theorem fw_llx {w : World} {d f : Int} {h : Hd} {a : Option Addr} {n c : Nat} {W : Int} {cb rb : Bool} {fv rf : Int} (x : FH w d f h a n c W false 2 0 2 rb rf) (hd : ¬ 1 ≤ d) (hf : f < 1) (hw : W ≠ 0) :
    Calls Tryz.prog 3 #[.int .i64 d, .agg (h.cs (.slice a n c)), .int .i64 f] w fun e w' => e = .returned (.bool true) ∧ Below w.heap.size w w' := by
  have hac := below_alloc w (.cells (h.cs (.slice a n c)) 26)
  have hB : Blk (w.alloc (.cells (h.cs (.slice a n c)) 26)) w.heap.size (h.cs (.slice a n c)) 26 := heap_alloc_new _ _
  have hinf : (Tryz.prog.info? 26).map (·.size) = some (h.cs (.slice a n c)).size := by kernel_rfl
  obtain ⟨al, mn, cn, ft, rw, rc, rt⟩ := x
  clear rc
  clear rt
  have hdd : decide (1 ≤ d ∧ d ≤ 4) = false := decide_eq_false (fun h => hd h.1)
  have hdi := dialect_ok d
  rewrite [hdd] at hdi
  clear hdd
  have hw0 : (W == 0) = false := by simpa using hw
  clear hw
  have e1 : (cb == cb) = true := by simp
  have e2 : (fv == fv) = true := by simp
  unfold Hd.cs at hac hB hinf mn cn ft rw ⊢
  go_enter Tryz.func3, Tryz.ntmps3
  go_wp2_with (first
    | (go_at_call 7; refine (al _ hac).mono ?_; rintro e w1 ⟨rfl, hb1⟩; replace hB := hB.below hb1; replace hac := hac.trans (hb1.mono hac.size); clear hb1)
    | (go_at_call 8; refine (mn _ hac).mono ?_; rintro e w1 ⟨rfl, hb1⟩; replace hB := hB.below hb1; replace hac := hac.trans (hb1.mono hac.size); clear hb1)
    | (go_at_call 9; refine (cn _ hac).mono ?_; rintro e w1 ⟨rfl, hb1⟩; replace hB := hB.below hb1; replace hac := hac.trans (hb1.mono hac.size); clear hb1)
    | (go_at_call 10; refine (ft _ hac).mono ?_; rintro e w1 ⟨rfl, hb1⟩; replace hB := hB.below hb1; replace hac := hac.trans (hb1.mono hac.size); clear hb1)
    | (go_at_call 11; refine (rw _ hac).mono ?_; rintro e w1 ⟨rfl, hb1⟩; replace hB := hB.below hb1; replace hac := hac.trans (hb1.mono hac.size); clear hb1)
    | (refine wpList_load_row (P := Tryz.prog) rfl 26 (.tmp 4) rfl w.heap.size rfl 26 _ (0, 0) _ hB Tryz.underlying26 rfl hinf ?_)
    | (refine wpList_load_row (P := Tryz.prog) rfl 26 (.tmp 4) rfl w.heap.size rfl 26 _ (0, 0) _ hB Tryz.underlying26 rfl hinf ?_)
    | (go_at_call 12; refine (hdi _).mono ?_; rintro e w' ⟨hw, rfl⟩; obtain rfl := hw.symm)
    | (refine wpList_load_row (P := Tryz.prog) rfl 26 (.tmp 4) rfl w.heap.size rfl 26 _ (0, 0) _ hB Tryz.underlying26 rfl hinf ?_))
  all_goals go_ret
  all_goals exact ⟨rfl, hac⟩

set_option maxHeartbeats 8000000 in
theorem fw_lg0 {w : World} {d f : Int} {h : Hd} {a : Option Addr} {n c : Nat} {W : Int} {cb rb : Bool} {fv rf : Int} (x : FH w d f h a n c W false 2 0 2 rb rf) (hd : ¬ 1 ≤ d) (hf : ¬ f < 1) (hf2 : 14 < f) (hw : W = 0) :
    Calls Tryz.prog 3 #[.int .i64 d, .agg (h.cs (.slice a n c)), .int .i64 f] w fun e w' => e = .returned (.bool true) ∧ Below w.heap.size w w' := by
  have hac := below_alloc w (.cells (h.cs (.slice a n c)) 26)
  have hB : Blk (w.alloc (.cells (h.cs (.slice a n c)) 26)) w.heap.size (h.cs (.slice a n c)) 26 := heap_alloc_new _ _
  have hinf : (Tryz.prog.info? 26).map (·.size) = some (h.cs (.slice a n c)).size := by kernel_rfl
  obtain ⟨al, mn, cn, ft, rw, rc, rt⟩ := x
  clear rc
  clear rt
  have hdd : decide (1 ≤ d ∧ d ≤ 4) = false := decide_eq_false (fun h => hd h.1)
  have hdi := dialect_ok d
  rewrite [hdd] at hdi
  clear hdd
  subst hw
  have e1 : (cb == cb) = true := by simp
  have e2 : (fv == fv) = true := by simp
  unfold Hd.cs at hac hB hinf mn cn ft rw ⊢
  go_enter Tryz.func3, Tryz.ntmps3
  go_wp2_with (first
    | (go_at_call 7; refine (al _ hac).mono ?_; rintro e w1 ⟨rfl, hb1⟩; replace hB := hB.below hb1; replace hac := hac.trans (hb1.mono hac.size); clear hb1)
    | (go_at_call 8; refine (mn _ hac).mono ?_; rintro e w1 ⟨rfl, hb1⟩; replace hB := hB.below hb1; replace hac := hac.trans (hb1.mono hac.size); clear hb1)
    | (go_at_call 9; refine (cn _ hac).mono ?_; rintro e w1 ⟨rfl, hb1⟩; replace hB := hB.below hb1; replace hac := hac.trans (hb1.mono hac.size); clear hb1)
    | (go_at_call 10; refine (ft _ hac).mono ?_; rintro e w1 ⟨rfl, hb1⟩; replace hB := hB.below hb1; replace hac := hac.trans (hb1.mono hac.size); clear hb1)
    | (go_at_call 11; refine (rw _ hac).mono ?_; rintro e w1 ⟨rfl, hb1⟩; replace hB := hB.below hb1; replace hac := hac.trans (hb1.mono hac.size); clear hb1)
    | (refine wpList_load_row (P := Tryz.prog) rfl 26 (.tmp 4) rfl w.heap.size rfl 26 _ (0, 0) _ hB Tryz.underlying26 rfl hinf ?_)
    | (refine wpList_load_row (P := Tryz.prog) rfl 26 (.tmp 4) rfl w.heap.size rfl 26 _ (0, 0) _ hB Tryz.underlying26 rfl hinf ?_)
    | (go_at_call 12; refine (hdi _).mono ?_; rintro e w' ⟨hw, rfl⟩; obtain rfl := hw.symm)
    | (refine wpList_load_row (P := Tryz.prog) rfl 26 (.tmp 4) rfl w.heap.size rfl 26 _ (0, 0) _ hB Tryz.underlying26 rfl hinf ?_))
  all_goals go_ret
  all_goals exact ⟨rfl, hac⟩

set_option maxHeartbeats 8000000 in
theorem fw_lgx {w : World} {d f : Int} {h : Hd} {a : Option Addr} {n c : Nat} {W : Int} {cb rb : Bool} {fv rf : Int} (x : FH w d f h a n c W false 2 0 2 rb rf) (hd : ¬ 1 ≤ d) (hf : ¬ f < 1) (hf2 : 14 < f) (hw : W ≠ 0) :
    Calls Tryz.prog 3 #[.int .i64 d, .agg (h.cs (.slice a n c)), .int .i64 f] w fun e w' => e = .returned (.bool true) ∧ Below w.heap.size w w' := by
  have hac := below_alloc w (.cells (h.cs (.slice a n c)) 26)
  have hB : Blk (w.alloc (.cells (h.cs (.slice a n c)) 26)) w.heap.size (h.cs (.slice a n c)) 26 := heap_alloc_new _ _
  have hinf : (Tryz.prog.info? 26).map (·.size) = some (h.cs (.slice a n c)).size := by kernel_rfl
  obtain ⟨al, mn, cn, ft, rw, rc, rt⟩ := x
  clear rc
  clear rt
  have hdd : decide (1 ≤ d ∧ d ≤ 4) = false := decide_eq_false (fun h => hd h.1)
  have hdi := dialect_ok d
  rewrite [hdd] at hdi
  clear hdd
  have hw0 : (W == 0) = false := by simpa using hw
  clear hw
  have e1 : (cb == cb) = true := by simp
  have e2 : (fv == fv) = true := by simp
  unfold Hd.cs at hac hB hinf mn cn ft rw ⊢
  go_enter Tryz.func3, Tryz.ntmps3
  go_wp2_with (first
    | (go_at_call 7; refine (al _ hac).mono ?_; rintro e w1 ⟨rfl, hb1⟩; replace hB := hB.below hb1; replace hac := hac.trans (hb1.mono hac.size); clear hb1)
    | (go_at_call 8; refine (mn _ hac).mono ?_; rintro e w1 ⟨rfl, hb1⟩; replace hB := hB.below hb1; replace hac := hac.trans (hb1.mono hac.size); clear hb1)
    | (go_at_call 9; refine (cn _ hac).mono ?_; rintro e w1 ⟨rfl, hb1⟩; replace hB := hB.below hb1; replace hac := hac.trans (hb1.mono hac.size); clear hb1)
    | (go_at_call 10; refine (ft _ hac).mono ?_; rintro e w1 ⟨rfl, hb1⟩; replace hB := hB.below hb1; replace hac := hac.trans (hb1.mono hac.size); clear hb1)
    | (go_at_call 11; refine (rw _ hac).mono ?_; rintro e w1 ⟨rfl, hb1⟩; replace hB := hB.below hb1; replace hac := hac.trans (hb1.mono hac.size); clear hb1)
    | (refine wpList_load_row (P := Tryz.prog) rfl 26 (.tmp 4) rfl w.heap.size rfl 26 _ (0, 0) _ hB Tryz.underlying26 rfl hinf ?_)
    | (refine wpList_load_row (P := Tryz.prog) rfl 26 (.tmp 4) rfl w.heap.size rfl 26 _ (0, 0) _ hB Tryz.underlying26 rfl hinf ?_)
    | (go_at_call 12; refine (hdi _).mono ?_; rintro e w' ⟨hw, rfl⟩; obtain rfl := hw.symm)
    | (refine wpList_load_row (P := Tryz.prog) rfl 26 (.tmp 4) rfl w.heap.size rfl 26 _ (0, 0) _ hB Tryz.underlying26 rfl hinf ?_))
  all_goals go_ret
  all_goals exact ⟨rfl, hac⟩

set_option maxHeartbeats 8000000 in
theorem fw_gy0 {w : World} {d f : Int} {h : Hd} {a : Option Addr} {n c : Nat} {W : Int} {cb rb : Bool} {fv rf : Int} (x : FH w d f h a n c W false 2 0 2 rb rf) (hd : 1 ≤ d) (hd4 : ¬ d ≤ 4) (hf : ¬ f < 1) (hf2 : ¬ 14 < f) (hw : W = 0) :
    Calls Tryz.prog 3 #[.int .i64 d, .agg (h.cs (.slice a n c)), .int .i64 f] w fun e w' => e = .returned (.bool true) ∧ Below w.heap.size w w' := by
  have hac := below_alloc w (.cells (h.cs (.slice a n c)) 26)
  have hB : Blk (w.alloc (.cells (h.cs (.slice a n c)) 26)) w.heap.size (h.cs (.slice a n c)) 26 := heap_alloc_new _ _
  have hinf : (Tryz.prog.info? 26).map (·.size) = some (h.cs (.slice a n c)).size := by kernel_rfl
  obtain ⟨al, mn, cn, ft, rw, rc, rt⟩ := x
  clear rc
  clear rt
  have hdd : decide (1 ≤ d ∧ d ≤ 4) = false := decide_eq_false (fun h => hd4 h.2)
  have hd5 : decide (d ≤ 4) = false := decide_eq_false hd4
  have hd6 : (false != decide (d ≤ 4)) = false := by rw [hd5]; rfl
  have hdi := dialect_ok d
  rewrite [hdd] at hdi
  clear hdd
  subst hw
  have e1 : (cb == cb) = true := by simp
  have e2 : (fv == fv) = true := by simp
  unfold Hd.cs at hac hB hinf mn cn ft rw ⊢
  go_enter Tryz.func3, Tryz.ntmps3
  go_wp2_with (first
    | (go_at_call 7; refine (al _ hac).mono ?_; rintro e w1 ⟨rfl, hb1⟩; replace hB := hB.below hb1; replace hac := hac.trans (hb1.mono hac.size); clear hb1)
    | (go_at_call 8; refine (mn _ hac).mono ?_; rintro e w1 ⟨rfl, hb1⟩; replace hB := hB.below hb1; replace hac := hac.trans (hb1.mono hac.size); clear hb1)
    | (go_at_call 9; refine (cn _ hac).mono ?_; rintro e w1 ⟨rfl, hb1⟩; replace hB := hB.below hb1; replace hac := hac.trans (hb1.mono hac.size); clear hb1)
    | (go_at_call 10; refine (ft _ hac).mono ?_; rintro e w1 ⟨rfl, hb1⟩; replace hB := hB.below hb1; replace hac := hac.trans (hb1.mono hac.size); clear hb1)
    | (go_at_call 11; refine (rw _ hac).mono ?_; rintro e w1 ⟨rfl, hb1⟩; replace hB := hB.below hb1; replace hac := hac.trans (hb1.mono hac.size); clear hb1)
    | (refine wpList_load_row (P := Tryz.prog) rfl 26 (.tmp 4) rfl w.heap.size rfl 26 _ (0, 0) _ hB Tryz.underlying26 rfl hinf ?_)
    | (refine wpList_load_row (P := Tryz.prog) rfl 26 (.tmp 4) rfl w.heap.size rfl 26 _ (0, 0) _ hB Tryz.underlying26 rfl hinf ?_)
    | (go_at_call 12; refine (hdi _).mono ?_; rintro e w' ⟨hw, rfl⟩; obtain rfl := hw.symm)
    | (refine wpList_load_row (P := Tryz.prog) rfl 26 (.tmp 4) rfl w.heap.size rfl 26 _ (0, 0) _ hB Tryz.underlying26 rfl hinf ?_))
  all_goals go_ret
  all_goals exact ⟨rfl, hac⟩

set_option maxHeartbeats 8000000 in
theorem fw_gyx {w : World} {d f : Int} {h : Hd} {a : Option Addr} {n c : Nat} {W : Int} {cb rb : Bool} {fv rf : Int} (x : FH w d f h a n c W false 2 0 2 rb rf) (hd : 1 ≤ d) (hd4 : ¬ d ≤ 4) (hf : ¬ f < 1) (hf2 : ¬ 14 < f) (hw : W ≠ 0) :
    Calls Tryz.prog 3 #[.int .i64 d, .agg (h.cs (.slice a n c)), .int .i64 f] w fun e w' => e = .returned (.bool true) ∧ Below w.heap.size w w' := by
  have hac := below_alloc w (.cells (h.cs (.slice a n c)) 26)
  have hB : Blk (w.alloc (.cells (h.cs (.slice a n c)) 26)) w.heap.size (h.cs (.slice a n c)) 26 := heap_alloc_new _ _
  have hinf : (Tryz.prog.info? 26).map (·.size) = some (h.cs (.slice a n c)).size := by kernel_rfl
  obtain ⟨al, mn, cn, ft, rw, rc, rt⟩ := x
  clear rc
  clear rt
  have hdd : decide (1 ≤ d ∧ d ≤ 4) = false := decide_eq_false (fun h => hd4 h.2)
  have hd5 : decide (d ≤ 4) = false := decide_eq_false hd4
  have hd6 : (false != decide (d ≤ 4)) = false := by rw [hd5]; rfl
  have hdi := dialect_ok d
  rewrite [hdd] at hdi
  clear hdd
  have hw0 : (W == 0) = false := by simpa using hw
  clear hw
  have e1 : (cb == cb) = true := by simp
  have e2 : (fv == fv) = true := by simp
  unfold Hd.cs at hac hB hinf mn cn ft rw ⊢
  go_enter Tryz.func3, Tryz.ntmps3
  go_wp2_with (first
    | (go_at_call 7; refine (al _ hac).mono ?_; rintro e w1 ⟨rfl, hb1⟩; replace hB := hB.below hb1; replace hac := hac.trans (hb1.mono hac.size); clear hb1)
    | (go_at_call 8; refine (mn _ hac).mono ?_; rintro e w1 ⟨rfl, hb1⟩; replace hB := hB.below hb1; replace hac := hac.trans (hb1.mono hac.size); clear hb1)
    | (go_at_call 9; refine (cn _ hac).mono ?_; rintro e w1 ⟨rfl, hb1⟩; replace hB := hB.below hb1; replace hac := hac.trans (hb1.mono hac.size); clear hb1)
    | (go_at_call 10; refine (ft _ hac).mono ?_; rintro e w1 ⟨rfl, hb1⟩; replace hB := hB.below hb1; replace hac := hac.trans (hb1.mono hac.size); clear hb1)
    | (go_at_call 11; refine (rw _ hac).mono ?_; rintro e w1 ⟨rfl, hb1⟩; replace hB := hB.below hb1; replace hac := hac.trans (hb1.mono hac.size); clear hb1)
    | (refine wpList_load_row (P := Tryz.prog) rfl 26 (.tmp 4) rfl w.heap.size rfl 26 _ (0, 0) _ hB Tryz.underlying26 rfl hinf ?_)
    | (refine wpList_load_row (P := Tryz.prog) rfl 26 (.tmp 4) rfl w.heap.size rfl 26 _ (0, 0) _ hB Tryz.underlying26 rfl hinf ?_)
    | (go_at_call 12; refine (hdi _).mono ?_; rintro e w' ⟨hw, rfl⟩; obtain rfl := hw.symm)
    | (refine wpList_load_row (P := Tryz.prog) rfl 26 (.tmp 4) rfl w.heap.size rfl 26 _ (0, 0) _ hB Tryz.underlying26 rfl hinf ?_))
  all_goals go_ret
  all_goals exact ⟨rfl, hac⟩

set_option maxHeartbeats 8000000 in
theorem fw_gl0 {w : World} {d f : Int} {h : Hd} {a : Option Addr} {n c : Nat} {W : Int} {cb rb : Bool} {fv rf : Int} (x : FH w d f h a n c W false 2 0 2 rb rf) (hd : 1 ≤ d) (hd4 : ¬ d ≤ 4) (hf : f < 1) (hw : W = 0) :
    Calls Tryz.prog 3 #[.int .i64 d, .agg (h.cs (.slice a n c)), .int .i64 f] w fun e w' => e = .returned (.bool true) ∧ Below w.heap.size w w' := by
  have hac := below_alloc w (.cells (h.cs (.slice a n c)) 26)
  have hB : Blk (w.alloc (.cells (h.cs (.slice a n c)) 26)) w.heap.size (h.cs (.slice a n c)) 26 := heap_alloc_new _ _
  have hinf : (Tryz.prog.info? 26).map (·.size) = some (h.cs (.slice a n c)).size := by kernel_rfl
  obtain ⟨al, mn, cn, ft, rw, rc, rt⟩ := x
  clear rc
  clear rt
  have hdd : decide (1 ≤ d ∧ d ≤ 4) = false := decide_eq_false (fun h => hd4 h.2)
  have hd5 : decide (d ≤ 4) = false := decide_eq_false hd4
  have hd6 : (false != decide (d ≤ 4)) = false := by rw [hd5]; rfl
  have hdi := dialect_ok d
  rewrite [hdd] at hdi
  clear hdd
  subst hw
  have e1 : (cb == cb) = true := by simp
  have e2 : (fv == fv) = true := by simp
  unfold Hd.cs at hac hB hinf mn cn ft rw ⊢
  go_enter Tryz.func3, Tryz.ntmps3
  go_wp2_with (first
    | (go_at_call 7; refine (al _ hac).mono ?_; rintro e w1 ⟨rfl, hb1⟩; replace hB := hB.below hb1; replace hac := hac.trans (hb1.mono hac.size); clear hb1)
    | (go_at_call 8; refine (mn _ hac).mono ?_; rintro e w1 ⟨rfl, hb1⟩; replace hB := hB.below hb1; replace hac := hac.trans (hb1.mono hac.size); clear hb1)
    | (go_at_call 9; refine (cn _ hac).mono ?_; rintro e w1 ⟨rfl, hb1⟩; replace hB := hB.below hb1; replace hac := hac.trans (hb1.mono hac.size); clear hb1)
    | (go_at_call 10; refine (ft _ hac).mono ?_; rintro e w1 ⟨rfl, hb1⟩; replace hB := hB.below hb1; replace hac := hac.trans (hb1.mono hac.size); clear hb1)
    | (go_at_call 11; refine (rw _ hac).mono ?_; rintro e w1 ⟨rfl, hb1⟩; replace hB := hB.below hb1; replace hac := hac.trans (hb1.mono hac.size); clear hb1)
    | (refine wpList_load_row (P := Tryz.prog) rfl 26 (.tmp 4) rfl w.heap.size rfl 26 _ (0, 0) _ hB Tryz.underlying26 rfl hinf ?_)
    | (refine wpList_load_row (P := Tryz.prog) rfl 26 (.tmp 4) rfl w.heap.size rfl 26 _ (0, 0) _ hB Tryz.underlying26 rfl hinf ?_)
    | (go_at_call 12; refine (hdi _).mono ?_; rintro e w' ⟨hw, rfl⟩; obtain rfl := hw.symm)
    | (refine wpList_load_row (P := Tryz.prog) rfl 26 (.tmp 4) rfl w.heap.size rfl 26 _ (0, 0) _ hB Tryz.underlying26 rfl hinf ?_))
  all_goals go_ret
  all_goals exact ⟨rfl, hac⟩

set_option maxHeartbeats 8000000 in
theorem fw_glx {w : World} {d f : Int} {h : Hd} {a : Option Addr} {n c : Nat} {W : Int} {cb rb : Bool} {fv rf : Int} (x : FH w d f h a n c W false 2 0 2 rb rf) (hd : 1 ≤ d) (hd4 : ¬ d ≤ 4) (hf : f < 1) (hw : W ≠ 0) :
    Calls Tryz.prog 3 #[.int .i64 d, .agg (h.cs (.slice a n c)), .int .i64 f] w fun e w' => e = .returned (.bool true) ∧ Below w.heap.size w w' := by
  have hac := below_alloc w (.cells (h.cs (.slice a n c)) 26)
  have hB : Blk (w.alloc (.cells (h.cs (.slice a n c)) 26)) w.heap.size (h.cs (.slice a n c)) 26 := heap_alloc_new _ _
  have hinf : (Tryz.prog.info? 26).map (·.size) = some (h.cs (.slice a n c)).size := by kernel_rfl
  obtain ⟨al, mn, cn, ft, rw, rc, rt⟩ := x
  clear rc
  clear rt
  have hdd : decide (1 ≤ d ∧ d ≤ 4) = false := decide_eq_false (fun h => hd4 h.2)
  have hd5 : decide (d ≤ 4) = false := decide_eq_false hd4
  have hd6 : (false != decide (d ≤ 4)) = false := by rw [hd5]; rfl
  have hdi := dialect_ok d
  rewrite [hdd] at hdi
  clear hdd
  have hw0 : (W == 0) = false := by simpa using hw
  clear hw
  have e1 : (cb == cb) = true := by simp
  have e2 : (fv == fv) = true := by simp
  unfold Hd.cs at hac hB hinf mn cn ft rw ⊢
  go_enter Tryz.func3, Tryz.ntmps3
  go_wp2_with (first
    | (go_at_call 7; refine (al _ hac).mono ?_; rintro e w1 ⟨rfl, hb1⟩; replace hB := hB.below hb1; replace hac := hac.trans (hb1.mono hac.size); clear hb1)
    | (go_at_call 8; refine (mn _ hac).mono ?_; rintro e w1 ⟨rfl, hb1⟩; replace hB := hB.below hb1; replace hac := hac.trans (hb1.mono hac.size); clear hb1)
    | (go_at_call 9; refine (cn _ hac).mono ?_; rintro e w1 ⟨rfl, hb1⟩; replace hB := hB.below hb1; replace hac := hac.trans (hb1.mono hac.size); clear hb1)
    | (go_at_call 10; refine (ft _ hac).mono ?_; rintro e w1 ⟨rfl, hb1⟩; replace hB := hB.below hb1; replace hac := hac.trans (hb1.mono hac.size); clear hb1)
    | (go_at_call 11; refine (rw _ hac).mono ?_; rintro e w1 ⟨rfl, hb1⟩; replace hB := hB.below hb1; replace hac := hac.trans (hb1.mono hac.size); clear hb1)
    | (refine wpList_load_row (P := Tryz.prog) rfl 26 (.tmp 4) rfl w.heap.size rfl 26 _ (0, 0) _ hB Tryz.underlying26 rfl hinf ?_)
    | (refine wpList_load_row (P := Tryz.prog) rfl 26 (.tmp 4) rfl w.heap.size rfl 26 _ (0, 0) _ hB Tryz.underlying26 rfl hinf ?_)
    | (go_at_call 12; refine (hdi _).mono ?_; rintro e w' ⟨hw, rfl⟩; obtain rfl := hw.symm)
    | (refine wpList_load_row (P := Tryz.prog) rfl 26 (.tmp 4) rfl w.heap.size rfl 26 _ (0, 0) _ hB Tryz.underlying26 rfl hinf ?_))
  all_goals go_ret
  all_goals exact ⟨rfl, hac⟩

set_option maxHeartbeats 8000000 in
theorem fw_gg0 {w : World} {d f : Int} {h : Hd} {a : Option Addr} {n c : Nat} {W : Int} {cb rb : Bool} {fv rf : Int} (x : FH w d f h a n c W false 2 0 2 rb rf) (hd : 1 ≤ d) (hd4 : ¬ d ≤ 4) (hf : ¬ f < 1) (hf2 : 14 < f) (hw : W = 0) :
    Calls Tryz.prog 3 #[.int .i64 d, .agg (h.cs (.slice a n c)), .int .i64 f] w fun e w' => e = .returned (.bool true) ∧ Below w.heap.size w w' := by
  have hac := below_alloc w (.cells (h.cs (.slice a n c)) 26)
  have hB : Blk (w.alloc (.cells (h.cs (.slice a n c)) 26)) w.heap.size (h.cs (.slice a n c)) 26 := heap_alloc_new _ _
  have hinf : (Tryz.prog.info? 26).map (·.size) = some (h.cs (.slice a n c)).size := by kernel_rfl
  obtain ⟨al, mn, cn, ft, rw, rc, rt⟩ := x
  clear rc
  clear rt
  have hdd : decide (1 ≤ d ∧ d ≤ 4) = false := decide_eq_false (fun h => hd4 h.2)
  have hd5 : decide (d ≤ 4) = false := decide_eq_false hd4
  have hd6 : (false != decide (d ≤ 4)) = false := by rw [hd5]; rfl
  have hdi := dialect_ok d
  rewrite [hdd] at hdi
  clear hdd
  subst hw
  have e1 : (cb == cb) = true := by simp
  have e2 : (fv == fv) = true := by simp
  unfold Hd.cs at hac hB hinf mn cn ft rw ⊢
  go_enter Tryz.func3, Tryz.ntmps3
  go_wp2_with (first
    | (go_at_call 7; refine (al _ hac).mono ?_; rintro e w1 ⟨rfl, hb1⟩; replace hB := hB.below hb1; replace hac := hac.trans (hb1.mono hac.size); clear hb1)
    | (go_at_call 8; refine (mn _ hac).mono ?_; rintro e w1 ⟨rfl, hb1⟩; replace hB := hB.below hb1; replace hac := hac.trans (hb1.mono hac.size); clear hb1)
    | (go_at_call 9; refine (cn _ hac).mono ?_; rintro e w1 ⟨rfl, hb1⟩; replace hB := hB.below hb1; replace hac := hac.trans (hb1.mono hac.size); clear hb1)
    | (go_at_call 10; refine (ft _ hac).mono ?_; rintro e w1 ⟨rfl, hb1⟩; replace hB := hB.below hb1; replace hac := hac.trans (hb1.mono hac.size); clear hb1)
    | (go_at_call 11; refine (rw _ hac).mono ?_; rintro e w1 ⟨rfl, hb1⟩; replace hB := hB.below hb1; replace hac := hac.trans (hb1.mono hac.size); clear hb1)
    | (refine wpList_load_row (P := Tryz.prog) rfl 26 (.tmp 4) rfl w.heap.size rfl 26 _ (0, 0) _ hB Tryz.underlying26 rfl hinf ?_)
    | (refine wpList_load_row (P := Tryz.prog) rfl 26 (.tmp 4) rfl w.heap.size rfl 26 _ (0, 0) _ hB Tryz.underlying26 rfl hinf ?_)
    | (go_at_call 12; refine (hdi _).mono ?_; rintro e w' ⟨hw, rfl⟩; obtain rfl := hw.symm)
    | (refine wpList_load_row (P := Tryz.prog) rfl 26 (.tmp 4) rfl w.heap.size rfl 26 _ (0, 0) _ hB Tryz.underlying26 rfl hinf ?_))
  all_goals go_ret
  all_goals exact ⟨rfl, hac⟩

set_option maxHeartbeats 8000000 in
theorem fw_ggx {w : World} {d f : Int} {h : Hd} {a : Option Addr} {n c : Nat} {W : Int} {cb rb : Bool} {fv rf : Int} (x : FH w d f h a n c W false 2 0 2 rb rf) (hd : 1 ≤ d) (hd4 : ¬ d ≤ 4) (hf : ¬ f < 1) (hf2 : 14 < f) (hw : W ≠ 0) :
    Calls Tryz.prog 3 #[.int .i64 d, .agg (h.cs (.slice a n c)), .int .i64 f] w fun e w' => e = .returned (.bool true) ∧ Below w.heap.size w w' := by
  have hac := below_alloc w (.cells (h.cs (.slice a n c)) 26)
  have hB : Blk (w.alloc (.cells (h.cs (.slice a n c)) 26)) w.heap.size (h.cs (.slice a n c)) 26 := heap_alloc_new _ _
  have hinf : (Tryz.prog.info? 26).map (·.size) = some (h.cs (.slice a n c)).size := by kernel_rfl
  obtain ⟨al, mn, cn, ft, rw, rc, rt⟩ := x
  clear rc
  clear rt
  have hdd : decide (1 ≤ d ∧ d ≤ 4) = false := decide_eq_false (fun h => hd4 h.2)
  have hd5 : decide (d ≤ 4) = false := decide_eq_false hd4
  have hd6 : (false != decide (d ≤ 4)) = false := by rw [hd5]; rfl
  have hdi := dialect_ok d
  rewrite [hdd] at hdi
  clear hdd
  have hw0 : (W == 0) = false := by simpa using hw
  clear hw
  have e1 : (cb == cb) = true := by simp
  have e2 : (fv == fv) = true := by simp
  unfold Hd.cs at hac hB hinf mn cn ft rw ⊢
  go_enter Tryz.func3, Tryz.ntmps3
  go_wp2_with (first
    | (go_at_call 7; refine (al _ hac).mono ?_; rintro e w1 ⟨rfl, hb1⟩; replace hB := hB.below hb1; replace hac := hac.trans (hb1.mono hac.size); clear hb1)
    | (go_at_call 8; refine (mn _ hac).mono ?_; rintro e w1 ⟨rfl, hb1⟩; replace hB := hB.below hb1; replace hac := hac.trans (hb1.mono hac.size); clear hb1)
    | (go_at_call 9; refine (cn _ hac).mono ?_; rintro e w1 ⟨rfl, hb1⟩; replace hB := hB.below hb1; replace hac := hac.trans (hb1.mono hac.size); clear hb1)
    | (go_at_call 10; refine (ft _ hac).mono ?_; rintro e w1 ⟨rfl, hb1⟩; replace hB := hB.below hb1; replace hac := hac.trans (hb1.mono hac.size); clear hb1)
    | (go_at_call 11; refine (rw _ hac).mono ?_; rintro e w1 ⟨rfl, hb1⟩; replace hB := hB.below hb1; replace hac := hac.trans (hb1.mono hac.size); clear hb1)
    | (refine wpList_load_row (P := Tryz.prog) rfl 26 (.tmp 4) rfl w.heap.size rfl 26 _ (0, 0) _ hB Tryz.underlying26 rfl hinf ?_)
    | (refine wpList_load_row (P := Tryz.prog) rfl 26 (.tmp 4) rfl w.heap.size rfl 26 _ (0, 0) _ hB Tryz.underlying26 rfl hinf ?_)
    | (go_at_call 12; refine (hdi _).mono ?_; rintro e w' ⟨hw, rfl⟩; obtain rfl := hw.symm)
    | (refine wpList_load_row (P := Tryz.prog) rfl 26 (.tmp 4) rfl w.heap.size rfl 26 _ (0, 0) _ hB Tryz.underlying26 rfl hinf ?_))
  all_goals go_ret
  all_goals exact ⟨rfl, hac⟩

set_option maxHeartbeats 8000000 in
theorem fw_many {w : World} {d f : Int} {h : Hd} {a : Option Addr} {n c : Nat} (al : ∀ wr, Below w.heap.size w wr → Calls Tryz.prog 7 #[] wr fun e w' => e = .returned (.bool true) ∧ Below wr.heap.size wr w')
    (mn : ∀ wr, Below w.heap.size w wr → Calls Tryz.prog 8 #[.agg (h.cs (.slice a n c))] wr fun e w' => e = .returned (.bool true) ∧ Below wr.heap.size wr w') :
    Calls Tryz.prog 3 #[.int .i64 d, .agg (h.cs (.slice a n c)), .int .i64 f] w fun e w' => e = .returned (.bool true) ∧ Below w.heap.size w w' := by
  have hac := below_alloc w (.cells (h.cs (.slice a n c)) 26)
  have hB : Blk (w.alloc (.cells (h.cs (.slice a n c)) 26)) w.heap.size (h.cs (.slice a n c)) 26 := heap_alloc_new _ _
  have hinf : (Tryz.prog.info? 26).map (·.size) = some (h.cs (.slice a n c)).size := by kernel_rfl
  unfold Hd.cs at hac hB hinf mn ⊢
  go_enter Tryz.func3, Tryz.ntmps3
  go_wp2_with (first
    | (go_at_call 7; refine (al _ hac).mono ?_; rintro e w1 ⟨rfl, hb1⟩; replace hB := hB.below hb1; replace hac := hac.trans (hb1.mono hac.size); clear hb1)
    | (go_at_call 8; refine (mn _ hac).mono ?_; rintro e w1 ⟨rfl, hb1⟩; replace hB := hB.below hb1; replace hac := hac.trans (hb1.mono hac.size); clear hb1)
    | (refine wpList_load_row (P := Tryz.prog) rfl 26 (.tmp 4) rfl w.heap.size rfl 26 _ (0, 0) _ hB Tryz.underlying26 rfl hinf ?_))
  all_goals go_ret
  all_goals exact ⟨rfl, hac⟩

/-- whatever is handed in -/
theorem fields_walk {w : World} {a : Option Addr} {n c : Nat} {l : PL} (h : Hd) (hp : Pys w a n c l) (hnl : a = none → n = 0 ∧ c = 0) (hz : ∀ p ∈ l, p.1.size ≤ 140737488351232 ∧ p.2.size ≤ 140737488351232)
    (h1 : h.name.size ≤ 140737488351232) (h2 : h.link.size ≤ 140737488351232) (h3 : h.user.size ≤ 140737488351232) (h4 : h.group.size ≤ 140737488351232) (hI : I64 h) (d f : Int) (hL : Laid w) :
    Calls Tryz.prog 3 #[.int .i64 d, .agg (h.cs (.slice a n c)), .int .i64 f] w fun e w' => e = .returned (.bool true) ∧ Below w.heap.size w w' := by
  have al := fun (wr : World) (hb : Below w.heap.size w wr) => alive_ok wr (hL.below hb)
  have mn := fun (wr : World) (hb : Below w.heap.size w wr) => many_all h (hp.below hb) hz h1 h2 h3 h4
  by_cases hm : 300000 < sumH h + totN l ∨ 40 < n
  · rw [decide_eq_true hm] at mn
    exact fw_many al mn
  · rw [decide_eq_false hm] at mn
    have hS : Sml l := fun p hp' => by have := mem_tot l p hp'; omega
    have hn40 : n ≤ 40 := by omega
    have hsum : h.name.size + h.link.size + h.user.size + h.group.size ≤ 300000 := by unfold sumH at hm; omega
    have hw0 := fun (wr : World) (hb : Below w.heap.size w wr) => wrg_is h (hp.below hb) hS (by omega) (hL.below hb)
    have rw := fun (wr : World) (hb : Below w.heap.size w wr) => rwrong_ok h (hp.below hb) hS (by omega) hnl (by omega) (by omega) (by omega) (by omega)
    have hri := fun (e : wrongH h l = 0) (wr : World) (hb : Below w.heap.size w wr) => rh_of (hp.below hb) hnl hn40 hS hI e (hL.below hb)
    have z0 : ∀ (b : Bool) (g : Int), (2 : Int) = 0 → False := fun _ _ e => by omega
    by_cases hd : 1 ≤ d ∧ d ≤ 4
    · by_cases hW : wrongH h l = 0
      · have hf0 := fun (wr : World) (hb : Below w.heap.size w wr) => first_yes d h hd (hW ▸ hw0 wr hb) (hri hW wr hb).r
        have hr0 := fun (wr : World) (hb : Below w.heap.size w wr) => rfirst_yes d hd (hri hW wr hb)
        by_cases f1 : f < 1
        · exact fw_yl0 ⟨al, mn, fun wr hb => can_bad d f h (fun hh => by omega), hf0, rw, fun e => by omega, fun _ => hr0⟩ hd f1 hW (rb := false) (cb := false) (rf := 0)
        by_cases f2 : 14 < f
        · exact fw_yg0 ⟨al, mn, fun wr hb => can_bad d f h (fun hh => by omega), hf0, rw, fun e => by omega, fun _ => hr0⟩ hd f1 f2 hW (rb := false) (cb := false) (rf := 0)
        · exact fw_yy0 ⟨al, mn, fun wr hb => can_yes d f h hd (by omega) (hW ▸ hw0 wr hb) (hri hW wr hb).r, hf0, rw, fun _ wr hb => rcanA_ok d hd f (by omega) (hri hW wr hb), fun _ => hr0⟩ hd f1 f2 hW (rb := false) (rf := 0)
      · have hf0 := fun (wr : World) (hb : Below w.heap.size w wr) => first_wrong d h hd (hw0 wr hb) hW
        by_cases f1 : f < 1
        · exact fw_ylx ⟨al, mn, fun wr hb => can_bad d f h (fun hh => by omega), hf0, rw, fun e => by omega, fun e => by omega⟩ hd f1 hW (rb := false) (cb := false) (fv := 0) (rf := 0)
        by_cases f2 : 14 < f
        · exact fw_ygx ⟨al, mn, fun wr hb => can_bad d f h (fun hh => by omega), hf0, rw, fun e => by omega, fun e => by omega⟩ hd f1 f2 hW (rb := false) (cb := false) (fv := 0) (rf := 0)
        · exact fw_yyx ⟨al, mn, fun wr hb => can_wrong d f h hd (by omega) (hw0 wr hb) hW, hf0, rw, fun e => by omega, fun e => by omega⟩ hd f1 f2 hW (rb := false) (cb := false) (fv := 0) (rf := 0)
    · have hf0 := fun (wr : World) (hb : Below w.heap.size w wr) => first_bad (w := wr) (a := a) (n := n) (c := c) d h hd
      have hc0 := fun (wr : World) (hb : Below w.heap.size w wr) => can_bad (w := wr) (a := a) (n := n) (c := c) d f h (fun hh => hd hh.1)
      by_cases d1 : 1 ≤ d
      · have d4 : ¬ d ≤ 4 := fun hh => hd ⟨d1, hh⟩
        by_cases hW : wrongH h l = 0
        · by_cases f1 : f < 1
          · exact fw_gl0 ⟨al, mn, hc0, hf0, rw, fun e => by omega, fun e => by omega⟩ d1 d4 f1 hW (rb := false) (cb := false) (fv := 0) (rf := 0)
          by_cases f2 : 14 < f
          · exact fw_gg0 ⟨al, mn, hc0, hf0, rw, fun e => by omega, fun e => by omega⟩ d1 d4 f1 f2 hW (rb := false) (cb := false) (fv := 0) (rf := 0)
          · exact fw_gy0 ⟨al, mn, hc0, hf0, rw, fun e => by omega, fun e => by omega⟩ d1 d4 f1 f2 hW (rb := false) (cb := false) (fv := 0) (rf := 0)
        · by_cases f1 : f < 1
          · exact fw_glx ⟨al, mn, hc0, hf0, rw, fun e => by omega, fun e => by omega⟩ d1 d4 f1 hW (rb := false) (cb := false) (fv := 0) (rf := 0)
          by_cases f2 : 14 < f
          · exact fw_ggx ⟨al, mn, hc0, hf0, rw, fun e => by omega, fun e => by omega⟩ d1 d4 f1 f2 hW (rb := false) (cb := false) (fv := 0) (rf := 0)
          · exact fw_gyx ⟨al, mn, hc0, hf0, rw, fun e => by omega, fun e => by omega⟩ d1 d4 f1 f2 hW (rb := false) (cb := false) (fv := 0) (rf := 0)
      · by_cases hW : wrongH h l = 0
        · by_cases f1 : f < 1
          · exact fw_ll0 ⟨al, mn, hc0, hf0, rw, fun e => by omega, fun e => by omega⟩ d1 f1 hW (rb := false) (cb := false) (fv := 0) (rf := 0)
          by_cases f2 : 14 < f
          · exact fw_lg0 ⟨al, mn, hc0, hf0, rw, fun e => by omega, fun e => by omega⟩ d1 f1 f2 hW (rb := false) (cb := false) (fv := 0) (rf := 0)
          · exact fw_ly0 ⟨al, mn, hc0, hf0, rw, fun e => by omega, fun e => by omega⟩ d1 f1 f2 hW (rb := false) (cb := false) (fv := 0) (rf := 0)
        · by_cases f1 : f < 1
          · exact fw_llx ⟨al, mn, hc0, hf0, rw, fun e => by omega, fun e => by omega⟩ d1 f1 hW (rb := false) (cb := false) (fv := 0) (rf := 0)
          by_cases f2 : 14 < f
          · exact fw_lgx ⟨al, mn, hc0, hf0, rw, fun e => by omega, fun e => by omega⟩ d1 f1 f2 hW (rb := false) (cb := false) (fv := 0) (rf := 0)
          · exact fw_lyx ⟨al, mn, hc0, hf0, rw, fun e => by omega, fun e => by omega⟩ d1 f1 f2 hW (rb := false) (cb := false) (fv := 0) (rf := 0)

end Go.Proofs.YthnaanjhmehgcaaGreatDoor
