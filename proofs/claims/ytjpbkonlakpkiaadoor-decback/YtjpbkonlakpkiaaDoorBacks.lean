/-
  The statement on what is printed and read again: its walk.
  Conditions: the package variables that the library reads hold what the program's text lays.
-/
import Derived.Test.YtjpbkonlakpkiaaDoorAgain
import Derived.Test.YtjpbkonlakpkiaaDoorLive
namespace Go.Proofs.YtjpbkonlakpkiaaDoor
open Go.ChangeShapes Go.WideShapes Go.ChangeAt Go.RowKit Go.Lib Go.Sort

/-- The world in which the statement's time lies in a block of its own. -/
def one (w : World) (a b : Int) : World := w.alloc (Obj.cells #[.int .i64 a, .int .i64 b] 27)
theorem one_cells {w w1 : World} {a b : Int} (hb : Below (one w a b).heap.size (one w a b) w1) :
    w.heap.size < w1.heap.size ∧ w1.cell? ⟨w.heap.size, 0, none⟩ = some (.int .i64 a) ∧ w1.cell? ⟨w.heap.size, 1, none⟩ = some (.int .i64 b) ∧ Below w.heap.size w w1 := boxed hb
theorem acc_alloc {w w1 : World} {a b : Int} (hb : Below (one w a b).heap.size (one w a b) w1) (o : Obj) : Below (one w a b).heap.size (one w a b) (w1.alloc o) := hb.alloc hb.size o

set_option maxHeartbeats 16000000 in
set_option maxRecDepth 20000 in
theorem back_prl (n a b : Int) (s : ByteArray) (w : World) (hL : Laid w) (X : ByteArray) (hn : 0 ≤ n) (htx : ∀ w, Laid w → Calls Tryd.prog 13 #[.int .i64 n] w fun e w' => e = .returned (.string X) ∧ Below w.heap.size w w') (hnu : ∀ w, Laid w → Calls Tryd.prog 7 #[.string X] w fun e w' => e = .returned (.tuple #[.int .i64 n, .int .u8 0]) ∧ Below w.heap.size w w') (Y : ByteArray) (hpr : ∀ w, Laid w → Calls Tryd.prog 12 #[.agg #[.int .i64 a, .int .i64 b]] w fun e w' => e = .returned (.tuple #[.string Y, .int .u8 0]) ∧ Below w.heap.size w w') (ht1 : ∀ w, Laid w → Calls Tryd.prog 8 #[.string Y] w fun e w' => e = .returned (.tuple #[.agg #[.int .i64 a, .int .i64 b], .int .u8 0]) ∧ Below w.heap.size w w') (hs : (1000 : Int) < s.size) :
    Calls Tryd.prog 5 #[.int .i64 n, .agg #[.int .i64 a, .int .i64 b], .string s] w fun e w' => e = .returned (.bool true) ∧ Below w.heap.size w w' := by
  have hLL : Laid (one w a b) := hL.below (below_alloc _ _)
  have hal := alive_ok (one w a b) hLL
  go_enter Tryd.func5, Tryd.ntmps5
  go_wp2_with (first
    | (go_at_call 6; refine hal.mono ?_; rintro e w1 ⟨rfl, hacc⟩; obtain ⟨l1, a1, b1, hB1⟩ := one_cells hacc; clear hal)
    | (go_at_call 13; refine (htx _ (hLL.below hacc)).mono ?_; rintro e w2 ⟨rfl, hb2⟩; replace hacc := hacc.trans (hb2.mono hacc.size); clear hb2 htx)
    | (go_at_call 7; refine (hnu _ (hLL.below hacc)).mono ?_; rintro e w3 ⟨rfl, hb3⟩; replace hacc := hacc.trans (hb3.mono hacc.size); obtain ⟨l3, a3, b3, hB3⟩ := one_cells hacc; clear hb3 hnu)
    | (go_at_call 12; refine (hpr _ (hLL.below hacc)).mono ?_; rintro e w4 ⟨rfl, hb4⟩; replace hacc := hacc.trans (hb4.mono hacc.size); clear hb4 hpr)
    | (go_at_call 8; refine (ht1 _ (hLL.below hacc)).mono ?_; rintro e w5 ⟨rfl, hb5⟩; replace hacc := hacc.trans (hb5.mono hacc.size); obtain ⟨l5, a5, b5, hB5⟩ := one_cells hacc; clear hb5 ht1; replace hacc := acc_alloc hacc (Obj.cells #[.int .i64 a, .int .i64 b] 27)))
  go_ret
  exact ⟨rfl, (one_cells hacc).2.2.2⟩

set_option maxHeartbeats 16000000 in
set_option maxRecDepth 20000 in
theorem back_prn (n a b : Int) (s : ByteArray) (w : World) (hL : Laid w) (X : ByteArray) (hn : 0 ≤ n) (htx : ∀ w, Laid w → Calls Tryd.prog 13 #[.int .i64 n] w fun e w' => e = .returned (.string X) ∧ Below w.heap.size w w') (hnu : ∀ w, Laid w → Calls Tryd.prog 7 #[.string X] w fun e w' => e = .returned (.tuple #[.int .i64 n, .int .u8 0]) ∧ Below w.heap.size w w') (Y : ByteArray) (hpr : ∀ w, Laid w → Calls Tryd.prog 12 #[.agg #[.int .i64 a, .int .i64 b]] w fun e w' => e = .returned (.tuple #[.string Y, .int .u8 0]) ∧ Below w.heap.size w w') (ht1 : ∀ w, Laid w → Calls Tryd.prog 8 #[.string Y] w fun e w' => e = .returned (.tuple #[.agg #[.int .i64 a, .int .i64 b], .int .u8 0]) ∧ Below w.heap.size w w') (hs : ¬ (1000 : Int) < s.size) (ht2 : ∀ w, Laid w → Calls Tryd.prog 8 #[.string s] w fun e w' => e = .returned (.tuple #[.agg #[.int .i64 0, .int .i64 0], .int .u8 15]) ∧ Below w.heap.size w w') :
    Calls Tryd.prog 5 #[.int .i64 n, .agg #[.int .i64 a, .int .i64 b], .string s] w fun e w' => e = .returned (.bool true) ∧ Below w.heap.size w w' := by
  have hLL : Laid (one w a b) := hL.below (below_alloc _ _)
  have hal := alive_ok (one w a b) hLL
  go_enter Tryd.func5, Tryd.ntmps5
  go_wp2_with (first
    | (go_at_call 6; refine hal.mono ?_; rintro e w1 ⟨rfl, hacc⟩; obtain ⟨l1, a1, b1, hB1⟩ := one_cells hacc; clear hal)
    | (go_at_call 13; refine (htx _ (hLL.below hacc)).mono ?_; rintro e w2 ⟨rfl, hb2⟩; replace hacc := hacc.trans (hb2.mono hacc.size); clear hb2 htx)
    | (go_at_call 7; refine (hnu _ (hLL.below hacc)).mono ?_; rintro e w3 ⟨rfl, hb3⟩; replace hacc := hacc.trans (hb3.mono hacc.size); obtain ⟨l3, a3, b3, hB3⟩ := one_cells hacc; clear hb3 hnu)
    | (go_at_call 12; refine (hpr _ (hLL.below hacc)).mono ?_; rintro e w4 ⟨rfl, hb4⟩; replace hacc := hacc.trans (hb4.mono hacc.size); clear hb4 hpr)
    | (go_at_call 8; refine (ht1 _ (hLL.below hacc)).mono ?_; rintro e w5 ⟨rfl, hb5⟩; replace hacc := hacc.trans (hb5.mono hacc.size); obtain ⟨l5, a5, b5, hB5⟩ := one_cells hacc; clear hb5 ht1; replace hacc := acc_alloc hacc (Obj.cells #[.int .i64 a, .int .i64 b] 27))
    | (go_at_call 8; refine (ht2 _ (hLL.below hacc)).mono ?_; rintro e w6 ⟨rfl, hb6⟩; replace hacc := acc_alloc (hacc.trans (hb6.mono hacc.size)) (Obj.cells #[.int .i64 0, .int .i64 0] 27); clear hb6 ht2))
  go_ret
  exact ⟨rfl, (one_cells hacc).2.2.2⟩

set_option maxHeartbeats 16000000 in
set_option maxRecDepth 20000 in
theorem back_prs (n a b : Int) (s : ByteArray) (w : World) (hL : Laid w) (X : ByteArray) (hn : 0 ≤ n) (htx : ∀ w, Laid w → Calls Tryd.prog 13 #[.int .i64 n] w fun e w' => e = .returned (.string X) ∧ Below w.heap.size w w') (hnu : ∀ w, Laid w → Calls Tryd.prog 7 #[.string X] w fun e w' => e = .returned (.tuple #[.int .i64 n, .int .u8 0]) ∧ Below w.heap.size w w') (Y : ByteArray) (hpr : ∀ w, Laid w → Calls Tryd.prog 12 #[.agg #[.int .i64 a, .int .i64 b]] w fun e w' => e = .returned (.tuple #[.string Y, .int .u8 0]) ∧ Below w.heap.size w w') (ht1 : ∀ w, Laid w → Calls Tryd.prog 8 #[.string Y] w fun e w' => e = .returned (.tuple #[.agg #[.int .i64 a, .int .i64 b], .int .u8 0]) ∧ Below w.heap.size w w') (hs : ¬ (1000 : Int) < s.size) (c d : Int) (Z : ByteArray) (hZ : (Z.size : Int) ≤ s.size) (ht2 : ∀ w, Laid w → Calls Tryd.prog 8 #[.string s] w fun e w' => e = .returned (.tuple #[.agg #[.int .i64 c, .int .i64 d], .int .u8 0]) ∧ Below w.heap.size w w') (hp2 : ∀ w, Laid w → Calls Tryd.prog 12 #[.agg #[.int .i64 c, .int .i64 d]] w fun e w' => e = .returned (.tuple #[.string Z, .int .u8 0]) ∧ Below w.heap.size w w') :
    Calls Tryd.prog 5 #[.int .i64 n, .agg #[.int .i64 a, .int .i64 b], .string s] w fun e w' => e = .returned (.bool true) ∧ Below w.heap.size w w' := by
  have hLL : Laid (one w a b) := hL.below (below_alloc _ _)
  have hal := alive_ok (one w a b) hLL
  go_enter Tryd.func5, Tryd.ntmps5
  go_wp2_with (first
    | (go_at_call 6; refine hal.mono ?_; rintro e w1 ⟨rfl, hacc⟩; obtain ⟨l1, a1, b1, hB1⟩ := one_cells hacc; clear hal)
    | (go_at_call 13; refine (htx _ (hLL.below hacc)).mono ?_; rintro e w2 ⟨rfl, hb2⟩; replace hacc := hacc.trans (hb2.mono hacc.size); clear hb2 htx)
    | (go_at_call 7; refine (hnu _ (hLL.below hacc)).mono ?_; rintro e w3 ⟨rfl, hb3⟩; replace hacc := hacc.trans (hb3.mono hacc.size); obtain ⟨l3, a3, b3, hB3⟩ := one_cells hacc; clear hb3 hnu)
    | (go_at_call 12; refine (hpr _ (hLL.below hacc)).mono ?_; rintro e w4 ⟨rfl, hb4⟩; replace hacc := hacc.trans (hb4.mono hacc.size); clear hb4 hpr)
    | (go_at_call 8; refine (ht1 _ (hLL.below hacc)).mono ?_; rintro e w5 ⟨rfl, hb5⟩; replace hacc := hacc.trans (hb5.mono hacc.size); obtain ⟨l5, a5, b5, hB5⟩ := one_cells hacc; clear hb5 ht1; replace hacc := acc_alloc hacc (Obj.cells #[.int .i64 a, .int .i64 b] 27))
    | (go_at_call 8; refine (ht2 _ (hLL.below hacc)).mono ?_; rintro e w6 ⟨rfl, hb6⟩; replace hacc := acc_alloc (hacc.trans (hb6.mono hacc.size)) (Obj.cells #[.int .i64 c, .int .i64 d] 27); clear hb6 ht2)
    | (go_at_call 12; refine (hp2 _ (hLL.below hacc)).mono ?_; rintro e w7 ⟨rfl, hb7⟩; replace hacc := hacc.trans (hb7.mono hacc.size); clear hb7 hp2))
  go_ret
  exact ⟨rfl, (one_cells hacc).2.2.2⟩

set_option maxHeartbeats 16000000 in
set_option maxRecDepth 20000 in
theorem back_pwl (n a b : Int) (s : ByteArray) (w : World) (hL : Laid w) (X : ByteArray) (hn : 0 ≤ n) (htx : ∀ w, Laid w → Calls Tryd.prog 13 #[.int .i64 n] w fun e w' => e = .returned (.string X) ∧ Below w.heap.size w w') (hnu : ∀ w, Laid w → Calls Tryd.prog 7 #[.string X] w fun e w' => e = .returned (.tuple #[.int .i64 n, .int .u8 0]) ∧ Below w.heap.size w w') (hpr : ∀ w, Calls Tryd.prog 12 #[.agg #[.int .i64 a, .int .i64 b]] w fun e w' => e = .returned (.tuple #[.string (txt []), .int .u8 15]) ∧ Below w.heap.size w w') (hs : (1000 : Int) < s.size) :
    Calls Tryd.prog 5 #[.int .i64 n, .agg #[.int .i64 a, .int .i64 b], .string s] w fun e w' => e = .returned (.bool true) ∧ Below w.heap.size w w' := by
  have hLL : Laid (one w a b) := hL.below (below_alloc _ _)
  have hal := alive_ok (one w a b) hLL
  go_enter Tryd.func5, Tryd.ntmps5
  go_wp2_with (first
    | (go_at_call 6; refine hal.mono ?_; rintro e w1 ⟨rfl, hacc⟩; obtain ⟨l1, a1, b1, hB1⟩ := one_cells hacc; clear hal)
    | (go_at_call 13; refine (htx _ (hLL.below hacc)).mono ?_; rintro e w2 ⟨rfl, hb2⟩; replace hacc := hacc.trans (hb2.mono hacc.size); clear hb2 htx)
    | (go_at_call 7; refine (hnu _ (hLL.below hacc)).mono ?_; rintro e w3 ⟨rfl, hb3⟩; replace hacc := hacc.trans (hb3.mono hacc.size); obtain ⟨l3, a3, b3, hB3⟩ := one_cells hacc; clear hb3 hnu)
    | (go_at_call 12; refine (hpr _).mono ?_; rintro e w4 ⟨rfl, hb4⟩; replace hacc := hacc.trans (hb4.mono hacc.size); clear hb4 hpr))
  go_ret
  exact ⟨rfl, (one_cells hacc).2.2.2⟩

set_option maxHeartbeats 16000000 in
set_option maxRecDepth 20000 in
theorem back_pwn (n a b : Int) (s : ByteArray) (w : World) (hL : Laid w) (X : ByteArray) (hn : 0 ≤ n) (htx : ∀ w, Laid w → Calls Tryd.prog 13 #[.int .i64 n] w fun e w' => e = .returned (.string X) ∧ Below w.heap.size w w') (hnu : ∀ w, Laid w → Calls Tryd.prog 7 #[.string X] w fun e w' => e = .returned (.tuple #[.int .i64 n, .int .u8 0]) ∧ Below w.heap.size w w') (hpr : ∀ w, Calls Tryd.prog 12 #[.agg #[.int .i64 a, .int .i64 b]] w fun e w' => e = .returned (.tuple #[.string (txt []), .int .u8 15]) ∧ Below w.heap.size w w') (hs : ¬ (1000 : Int) < s.size) (ht2 : ∀ w, Laid w → Calls Tryd.prog 8 #[.string s] w fun e w' => e = .returned (.tuple #[.agg #[.int .i64 0, .int .i64 0], .int .u8 15]) ∧ Below w.heap.size w w') :
    Calls Tryd.prog 5 #[.int .i64 n, .agg #[.int .i64 a, .int .i64 b], .string s] w fun e w' => e = .returned (.bool true) ∧ Below w.heap.size w w' := by
  have hLL : Laid (one w a b) := hL.below (below_alloc _ _)
  have hal := alive_ok (one w a b) hLL
  go_enter Tryd.func5, Tryd.ntmps5
  go_wp2_with (first
    | (go_at_call 6; refine hal.mono ?_; rintro e w1 ⟨rfl, hacc⟩; obtain ⟨l1, a1, b1, hB1⟩ := one_cells hacc; clear hal)
    | (go_at_call 13; refine (htx _ (hLL.below hacc)).mono ?_; rintro e w2 ⟨rfl, hb2⟩; replace hacc := hacc.trans (hb2.mono hacc.size); clear hb2 htx)
    | (go_at_call 7; refine (hnu _ (hLL.below hacc)).mono ?_; rintro e w3 ⟨rfl, hb3⟩; replace hacc := hacc.trans (hb3.mono hacc.size); obtain ⟨l3, a3, b3, hB3⟩ := one_cells hacc; clear hb3 hnu)
    | (go_at_call 12; refine (hpr _).mono ?_; rintro e w4 ⟨rfl, hb4⟩; replace hacc := hacc.trans (hb4.mono hacc.size); clear hb4 hpr)
    | (go_at_call 8; refine (ht2 _ (hLL.below hacc)).mono ?_; rintro e w6 ⟨rfl, hb6⟩; replace hacc := acc_alloc (hacc.trans (hb6.mono hacc.size)) (Obj.cells #[.int .i64 0, .int .i64 0] 27); clear hb6 ht2))
  go_ret
  exact ⟨rfl, (one_cells hacc).2.2.2⟩

set_option maxHeartbeats 16000000 in
set_option maxRecDepth 20000 in
theorem back_pws (n a b : Int) (s : ByteArray) (w : World) (hL : Laid w) (X : ByteArray) (hn : 0 ≤ n) (htx : ∀ w, Laid w → Calls Tryd.prog 13 #[.int .i64 n] w fun e w' => e = .returned (.string X) ∧ Below w.heap.size w w') (hnu : ∀ w, Laid w → Calls Tryd.prog 7 #[.string X] w fun e w' => e = .returned (.tuple #[.int .i64 n, .int .u8 0]) ∧ Below w.heap.size w w') (hpr : ∀ w, Calls Tryd.prog 12 #[.agg #[.int .i64 a, .int .i64 b]] w fun e w' => e = .returned (.tuple #[.string (txt []), .int .u8 15]) ∧ Below w.heap.size w w') (hs : ¬ (1000 : Int) < s.size) (c d : Int) (Z : ByteArray) (hZ : (Z.size : Int) ≤ s.size) (ht2 : ∀ w, Laid w → Calls Tryd.prog 8 #[.string s] w fun e w' => e = .returned (.tuple #[.agg #[.int .i64 c, .int .i64 d], .int .u8 0]) ∧ Below w.heap.size w w') (hp2 : ∀ w, Laid w → Calls Tryd.prog 12 #[.agg #[.int .i64 c, .int .i64 d]] w fun e w' => e = .returned (.tuple #[.string Z, .int .u8 0]) ∧ Below w.heap.size w w') :
    Calls Tryd.prog 5 #[.int .i64 n, .agg #[.int .i64 a, .int .i64 b], .string s] w fun e w' => e = .returned (.bool true) ∧ Below w.heap.size w w' := by
  have hLL : Laid (one w a b) := hL.below (below_alloc _ _)
  have hal := alive_ok (one w a b) hLL
  go_enter Tryd.func5, Tryd.ntmps5
  go_wp2_with (first
    | (go_at_call 6; refine hal.mono ?_; rintro e w1 ⟨rfl, hacc⟩; obtain ⟨l1, a1, b1, hB1⟩ := one_cells hacc; clear hal)
    | (go_at_call 13; refine (htx _ (hLL.below hacc)).mono ?_; rintro e w2 ⟨rfl, hb2⟩; replace hacc := hacc.trans (hb2.mono hacc.size); clear hb2 htx)
    | (go_at_call 7; refine (hnu _ (hLL.below hacc)).mono ?_; rintro e w3 ⟨rfl, hb3⟩; replace hacc := hacc.trans (hb3.mono hacc.size); obtain ⟨l3, a3, b3, hB3⟩ := one_cells hacc; clear hb3 hnu)
    | (go_at_call 12; refine (hpr _).mono ?_; rintro e w4 ⟨rfl, hb4⟩; replace hacc := hacc.trans (hb4.mono hacc.size); clear hb4 hpr)
    | (go_at_call 8; refine (ht2 _ (hLL.below hacc)).mono ?_; rintro e w6 ⟨rfl, hb6⟩; replace hacc := acc_alloc (hacc.trans (hb6.mono hacc.size)) (Obj.cells #[.int .i64 c, .int .i64 d] 27); clear hb6 ht2)
    | (go_at_call 12; refine (hp2 _ (hLL.below hacc)).mono ?_; rintro e w7 ⟨rfl, hb7⟩; replace hacc := hacc.trans (hb7.mono hacc.size); clear hb7 hp2))
  go_ret
  exact ⟨rfl, (one_cells hacc).2.2.2⟩

set_option maxHeartbeats 16000000 in
set_option maxRecDepth 20000 in
theorem back_mrl (n a b : Int) (s : ByteArray) (w : World) (hL : Laid w) (hn : ¬ 0 ≤ n) (Y : ByteArray) (hpr : ∀ w, Laid w → Calls Tryd.prog 12 #[.agg #[.int .i64 a, .int .i64 b]] w fun e w' => e = .returned (.tuple #[.string Y, .int .u8 0]) ∧ Below w.heap.size w w') (ht1 : ∀ w, Laid w → Calls Tryd.prog 8 #[.string Y] w fun e w' => e = .returned (.tuple #[.agg #[.int .i64 a, .int .i64 b], .int .u8 0]) ∧ Below w.heap.size w w') (hs : (1000 : Int) < s.size) :
    Calls Tryd.prog 5 #[.int .i64 n, .agg #[.int .i64 a, .int .i64 b], .string s] w fun e w' => e = .returned (.bool true) ∧ Below w.heap.size w w' := by
  have hLL : Laid (one w a b) := hL.below (below_alloc _ _)
  have hal := alive_ok (one w a b) hLL
  go_enter Tryd.func5, Tryd.ntmps5
  go_wp2_with (first
    | (go_at_call 6; refine hal.mono ?_; rintro e w1 ⟨rfl, hacc⟩; obtain ⟨l1, a1, b1, hB1⟩ := one_cells hacc; clear hal)
    | (go_at_call 12; refine (hpr _ (hLL.below hacc)).mono ?_; rintro e w4 ⟨rfl, hb4⟩; replace hacc := hacc.trans (hb4.mono hacc.size); clear hb4 hpr)
    | (go_at_call 8; refine (ht1 _ (hLL.below hacc)).mono ?_; rintro e w5 ⟨rfl, hb5⟩; replace hacc := hacc.trans (hb5.mono hacc.size); obtain ⟨l5, a5, b5, hB5⟩ := one_cells hacc; clear hb5 ht1; replace hacc := acc_alloc hacc (Obj.cells #[.int .i64 a, .int .i64 b] 27)))
  go_ret
  exact ⟨rfl, (one_cells hacc).2.2.2⟩

set_option maxHeartbeats 16000000 in
set_option maxRecDepth 20000 in
theorem back_mrn (n a b : Int) (s : ByteArray) (w : World) (hL : Laid w) (hn : ¬ 0 ≤ n) (Y : ByteArray) (hpr : ∀ w, Laid w → Calls Tryd.prog 12 #[.agg #[.int .i64 a, .int .i64 b]] w fun e w' => e = .returned (.tuple #[.string Y, .int .u8 0]) ∧ Below w.heap.size w w') (ht1 : ∀ w, Laid w → Calls Tryd.prog 8 #[.string Y] w fun e w' => e = .returned (.tuple #[.agg #[.int .i64 a, .int .i64 b], .int .u8 0]) ∧ Below w.heap.size w w') (hs : ¬ (1000 : Int) < s.size) (ht2 : ∀ w, Laid w → Calls Tryd.prog 8 #[.string s] w fun e w' => e = .returned (.tuple #[.agg #[.int .i64 0, .int .i64 0], .int .u8 15]) ∧ Below w.heap.size w w') :
    Calls Tryd.prog 5 #[.int .i64 n, .agg #[.int .i64 a, .int .i64 b], .string s] w fun e w' => e = .returned (.bool true) ∧ Below w.heap.size w w' := by
  have hLL : Laid (one w a b) := hL.below (below_alloc _ _)
  have hal := alive_ok (one w a b) hLL
  go_enter Tryd.func5, Tryd.ntmps5
  go_wp2_with (first
    | (go_at_call 6; refine hal.mono ?_; rintro e w1 ⟨rfl, hacc⟩; obtain ⟨l1, a1, b1, hB1⟩ := one_cells hacc; clear hal)
    | (go_at_call 12; refine (hpr _ (hLL.below hacc)).mono ?_; rintro e w4 ⟨rfl, hb4⟩; replace hacc := hacc.trans (hb4.mono hacc.size); clear hb4 hpr)
    | (go_at_call 8; refine (ht1 _ (hLL.below hacc)).mono ?_; rintro e w5 ⟨rfl, hb5⟩; replace hacc := hacc.trans (hb5.mono hacc.size); obtain ⟨l5, a5, b5, hB5⟩ := one_cells hacc; clear hb5 ht1; replace hacc := acc_alloc hacc (Obj.cells #[.int .i64 a, .int .i64 b] 27))
    | (go_at_call 8; refine (ht2 _ (hLL.below hacc)).mono ?_; rintro e w6 ⟨rfl, hb6⟩; replace hacc := acc_alloc (hacc.trans (hb6.mono hacc.size)) (Obj.cells #[.int .i64 0, .int .i64 0] 27); clear hb6 ht2))
  go_ret
  exact ⟨rfl, (one_cells hacc).2.2.2⟩

set_option maxHeartbeats 16000000 in
set_option maxRecDepth 20000 in
theorem back_mrs (n a b : Int) (s : ByteArray) (w : World) (hL : Laid w) (hn : ¬ 0 ≤ n) (Y : ByteArray) (hpr : ∀ w, Laid w → Calls Tryd.prog 12 #[.agg #[.int .i64 a, .int .i64 b]] w fun e w' => e = .returned (.tuple #[.string Y, .int .u8 0]) ∧ Below w.heap.size w w') (ht1 : ∀ w, Laid w → Calls Tryd.prog 8 #[.string Y] w fun e w' => e = .returned (.tuple #[.agg #[.int .i64 a, .int .i64 b], .int .u8 0]) ∧ Below w.heap.size w w') (hs : ¬ (1000 : Int) < s.size) (c d : Int) (Z : ByteArray) (hZ : (Z.size : Int) ≤ s.size) (ht2 : ∀ w, Laid w → Calls Tryd.prog 8 #[.string s] w fun e w' => e = .returned (.tuple #[.agg #[.int .i64 c, .int .i64 d], .int .u8 0]) ∧ Below w.heap.size w w') (hp2 : ∀ w, Laid w → Calls Tryd.prog 12 #[.agg #[.int .i64 c, .int .i64 d]] w fun e w' => e = .returned (.tuple #[.string Z, .int .u8 0]) ∧ Below w.heap.size w w') :
    Calls Tryd.prog 5 #[.int .i64 n, .agg #[.int .i64 a, .int .i64 b], .string s] w fun e w' => e = .returned (.bool true) ∧ Below w.heap.size w w' := by
  have hLL : Laid (one w a b) := hL.below (below_alloc _ _)
  have hal := alive_ok (one w a b) hLL
  go_enter Tryd.func5, Tryd.ntmps5
  go_wp2_with (first
    | (go_at_call 6; refine hal.mono ?_; rintro e w1 ⟨rfl, hacc⟩; obtain ⟨l1, a1, b1, hB1⟩ := one_cells hacc; clear hal)
    | (go_at_call 12; refine (hpr _ (hLL.below hacc)).mono ?_; rintro e w4 ⟨rfl, hb4⟩; replace hacc := hacc.trans (hb4.mono hacc.size); clear hb4 hpr)
    | (go_at_call 8; refine (ht1 _ (hLL.below hacc)).mono ?_; rintro e w5 ⟨rfl, hb5⟩; replace hacc := hacc.trans (hb5.mono hacc.size); obtain ⟨l5, a5, b5, hB5⟩ := one_cells hacc; clear hb5 ht1; replace hacc := acc_alloc hacc (Obj.cells #[.int .i64 a, .int .i64 b] 27))
    | (go_at_call 8; refine (ht2 _ (hLL.below hacc)).mono ?_; rintro e w6 ⟨rfl, hb6⟩; replace hacc := acc_alloc (hacc.trans (hb6.mono hacc.size)) (Obj.cells #[.int .i64 c, .int .i64 d] 27); clear hb6 ht2)
    | (go_at_call 12; refine (hp2 _ (hLL.below hacc)).mono ?_; rintro e w7 ⟨rfl, hb7⟩; replace hacc := hacc.trans (hb7.mono hacc.size); clear hb7 hp2))
  go_ret
  exact ⟨rfl, (one_cells hacc).2.2.2⟩

set_option maxHeartbeats 16000000 in
set_option maxRecDepth 20000 in
theorem back_mwl (n a b : Int) (s : ByteArray) (w : World) (hL : Laid w) (hn : ¬ 0 ≤ n) (hpr : ∀ w, Calls Tryd.prog 12 #[.agg #[.int .i64 a, .int .i64 b]] w fun e w' => e = .returned (.tuple #[.string (txt []), .int .u8 15]) ∧ Below w.heap.size w w') (hs : (1000 : Int) < s.size) :
    Calls Tryd.prog 5 #[.int .i64 n, .agg #[.int .i64 a, .int .i64 b], .string s] w fun e w' => e = .returned (.bool true) ∧ Below w.heap.size w w' := by
  have hLL : Laid (one w a b) := hL.below (below_alloc _ _)
  have hal := alive_ok (one w a b) hLL
  go_enter Tryd.func5, Tryd.ntmps5
  go_wp2_with (first
    | (go_at_call 6; refine hal.mono ?_; rintro e w1 ⟨rfl, hacc⟩; obtain ⟨l1, a1, b1, hB1⟩ := one_cells hacc; clear hal)
    | (go_at_call 12; refine (hpr _).mono ?_; rintro e w4 ⟨rfl, hb4⟩; replace hacc := hacc.trans (hb4.mono hacc.size); clear hb4 hpr))
  go_ret
  exact ⟨rfl, (one_cells hacc).2.2.2⟩

set_option maxHeartbeats 16000000 in
set_option maxRecDepth 20000 in
theorem back_mwn (n a b : Int) (s : ByteArray) (w : World) (hL : Laid w) (hn : ¬ 0 ≤ n) (hpr : ∀ w, Calls Tryd.prog 12 #[.agg #[.int .i64 a, .int .i64 b]] w fun e w' => e = .returned (.tuple #[.string (txt []), .int .u8 15]) ∧ Below w.heap.size w w') (hs : ¬ (1000 : Int) < s.size) (ht2 : ∀ w, Laid w → Calls Tryd.prog 8 #[.string s] w fun e w' => e = .returned (.tuple #[.agg #[.int .i64 0, .int .i64 0], .int .u8 15]) ∧ Below w.heap.size w w') :
    Calls Tryd.prog 5 #[.int .i64 n, .agg #[.int .i64 a, .int .i64 b], .string s] w fun e w' => e = .returned (.bool true) ∧ Below w.heap.size w w' := by
  have hLL : Laid (one w a b) := hL.below (below_alloc _ _)
  have hal := alive_ok (one w a b) hLL
  go_enter Tryd.func5, Tryd.ntmps5
  go_wp2_with (first
    | (go_at_call 6; refine hal.mono ?_; rintro e w1 ⟨rfl, hacc⟩; obtain ⟨l1, a1, b1, hB1⟩ := one_cells hacc; clear hal)
    | (go_at_call 12; refine (hpr _).mono ?_; rintro e w4 ⟨rfl, hb4⟩; replace hacc := hacc.trans (hb4.mono hacc.size); clear hb4 hpr)
    | (go_at_call 8; refine (ht2 _ (hLL.below hacc)).mono ?_; rintro e w6 ⟨rfl, hb6⟩; replace hacc := acc_alloc (hacc.trans (hb6.mono hacc.size)) (Obj.cells #[.int .i64 0, .int .i64 0] 27); clear hb6 ht2))
  go_ret
  exact ⟨rfl, (one_cells hacc).2.2.2⟩

set_option maxHeartbeats 16000000 in
set_option maxRecDepth 20000 in
theorem back_mws (n a b : Int) (s : ByteArray) (w : World) (hL : Laid w) (hn : ¬ 0 ≤ n) (hpr : ∀ w, Calls Tryd.prog 12 #[.agg #[.int .i64 a, .int .i64 b]] w fun e w' => e = .returned (.tuple #[.string (txt []), .int .u8 15]) ∧ Below w.heap.size w w') (hs : ¬ (1000 : Int) < s.size) (c d : Int) (Z : ByteArray) (hZ : (Z.size : Int) ≤ s.size) (ht2 : ∀ w, Laid w → Calls Tryd.prog 8 #[.string s] w fun e w' => e = .returned (.tuple #[.agg #[.int .i64 c, .int .i64 d], .int .u8 0]) ∧ Below w.heap.size w w') (hp2 : ∀ w, Laid w → Calls Tryd.prog 12 #[.agg #[.int .i64 c, .int .i64 d]] w fun e w' => e = .returned (.tuple #[.string Z, .int .u8 0]) ∧ Below w.heap.size w w') :
    Calls Tryd.prog 5 #[.int .i64 n, .agg #[.int .i64 a, .int .i64 b], .string s] w fun e w' => e = .returned (.bool true) ∧ Below w.heap.size w w' := by
  have hLL : Laid (one w a b) := hL.below (below_alloc _ _)
  have hal := alive_ok (one w a b) hLL
  go_enter Tryd.func5, Tryd.ntmps5
  go_wp2_with (first
    | (go_at_call 6; refine hal.mono ?_; rintro e w1 ⟨rfl, hacc⟩; obtain ⟨l1, a1, b1, hB1⟩ := one_cells hacc; clear hal)
    | (go_at_call 12; refine (hpr _).mono ?_; rintro e w4 ⟨rfl, hb4⟩; replace hacc := hacc.trans (hb4.mono hacc.size); clear hb4 hpr)
    | (go_at_call 8; refine (ht2 _ (hLL.below hacc)).mono ?_; rintro e w6 ⟨rfl, hb6⟩; replace hacc := acc_alloc (hacc.trans (hb6.mono hacc.size)) (Obj.cells #[.int .i64 c, .int .i64 d] 27); clear hb6 ht2)
    | (go_at_call 12; refine (hp2 _ (hLL.below hacc)).mono ?_; rintro e w7 ⟨rfl, hb7⟩; replace hacc := hacc.trans (hb7.mono hacc.size); clear hb7 hp2))
  go_ret
  exact ⟨rfl, (one_cells hacc).2.2.2⟩

theorem dec_text (u : Nat) : signOf (u : Int) ++ decDigits (u : Int).natAbs = decDigits u := by unfold signOf; rw [if_neg (by omega)]; simp

/-- The statement's walk. -/
theorem back_walk (n a b : Int) (s : ByteArray) (hn0 : -9223372036854775808 ≤ n) (hn1 : n ≤ 9223372036854775807) (ha0 : -9223372036854775808 ≤ a) (ha1 : a ≤ 9223372036854775807) (w : World) (hL : Laid w) :
    Calls Tryd.prog 5 #[.int .i64 n, .agg #[.int .i64 a, .int .i64 b], .string s] w fun e w' => e = .returned (.bool true) ∧ Below w.heap.size w w' := by
  have hnum : ∀ u : Nat, u ≤ 9223372036854775807 → ∀ w, Laid w → Calls Tryd.prog 7 #[.string (txt (decDigits u))] w fun e w' => e = .returned (.tuple #[.int .i64 (u : Int), .int .u8 0]) ∧ Below w.heap.size w w' := by
    intro u hu w hL
    have hs := dec_size u (by omega)
    have hb : nat63 (bs (txt (decDigits u))) = some u := by rw [bs_txt]; exact number_back hu
    exact number_ok (txt (decDigits u)) (by omega) w hL u 0 (by rw [hb]; simp only [if_pos hu]) (by rw [hb]; simp only [if_pos hu])
  have hright : (0 ≤ b ∧ b < 1000000000) → ∀ w, Laid w → Calls Tryd.prog 8 #[.string (txt (printOf a b))] w fun e w' => e = .returned (.tuple #[.agg #[.int .i64 a, .int .i64 b], .int .u8 0]) ∧ Below w.heap.size w w' := by
    intro h w hL
    have hsz : (txt (printOf a b)).size ≤ 281474976710656 := by
      unfold printOf
      rw [← txt_app, ← txt_app, ByteArray.size_append, ByteArray.size_append]
      have h1 := sign_size a
      have h2 := dec_size (wholeOf a b) (by unfold wholeOf; split <;> omega)
      have h3 := tail_size (partOf a b) (by unfold partOf; split <;> omega)
      omega
    exact time_ok (txt (printOf a b)) hsz w hL a b 0 (Or.inl ⟨by rw [bs_txt]; exact time_back ha0 ha1 h.1 h.2, rfl⟩)
  have htail : s.size ≤ 1000 → (timeOf (bs s) = none ∧ ∀ w, Laid w → Calls Tryd.prog 8 #[.string s] w fun e w' => e = .returned (.tuple #[.agg #[.int .i64 0, .int .i64 0], .int .u8 15]) ∧ Below w.heap.size w w') ∨
      ∃ (c d : Int) (Z : ByteArray), (Z.size : Int) ≤ s.size ∧ (∀ w, Laid w → Calls Tryd.prog 8 #[.string s] w fun e w' => e = .returned (.tuple #[.agg #[.int .i64 c, .int .i64 d], .int .u8 0]) ∧ Below w.heap.size w w') ∧ (∀ w, Laid w → Calls Tryd.prog 12 #[.agg #[.int .i64 c, .int .i64 d]] w fun e w' => e = .returned (.tuple #[.string Z, .int .u8 0]) ∧ Below w.heap.size w w') := by
    intro hs
    cases ht : timeOf (bs s) with
    | none => exact Or.inl ⟨rfl, fun w hL => time_ok s (by omega) w hL 0 0 15 (Or.inr ⟨ht, rfl, rfl, rfl⟩)⟩
    | some q =>
      obtain ⟨c, d⟩ := q
      obtain ⟨hl, hc0, hc1, hd0, hd1⟩ := time_short ht
      refine Or.inr ⟨c, d, txt (printOf c d), ?_, fun w hL => time_ok s (by omega) w hL c d 0 (Or.inl ⟨ht, rfl⟩), fun w hL => print_yes c d hc0 hc1 ⟨hd0, hd1⟩ w hL⟩
      rw [txt_size, ← bs_len]
      omega
  by_cases hp : 0 ≤ n
  · obtain ⟨u, rfl⟩ : ∃ u : Nat, n = u := ⟨n.toNat, by omega⟩
    have htx : ∀ w, Laid w → Calls Tryd.prog 13 #[.int .i64 (u : Int)] w fun e w' => e = .returned (.string (txt (decDigits u))) ∧ Below w.heap.size w w' := fun w hL => by
      have := text_ok u hn0 hn1 w hL
      rw [dec_text] at this
      exact this
    by_cases hr : 0 ≤ b ∧ b < 1000000000
    · by_cases hs : s.size ≤ 1000
      · rcases htail hs with ⟨_, h2⟩ | ⟨c, d, Z, hZ, h2, h3⟩
        · exact back_prn u a b s w hL _ hp htx (hnum u (by omega)) _ (fun w hL => print_yes a b ha0 ha1 hr w hL) (hright hr) (by omega) h2
        · exact back_prs u a b s w hL _ hp htx (hnum u (by omega)) _ (fun w hL => print_yes a b ha0 ha1 hr w hL) (hright hr) (by omega) c d Z hZ h2 h3
      · exact back_prl u a b s w hL _ hp htx (hnum u (by omega)) _ (fun w hL => print_yes a b ha0 ha1 hr w hL) (hright hr) (by omega)
    · by_cases hs : s.size ≤ 1000
      · rcases htail hs with ⟨_, h2⟩ | ⟨c, d, Z, hZ, h2, h3⟩
        · exact back_pwn u a b s w hL _ hp htx (hnum u (by omega)) (fun w => print_no a b hr w) (by omega) h2
        · exact back_pws u a b s w hL _ hp htx (hnum u (by omega)) (fun w => print_no a b hr w) (by omega) c d Z hZ h2 h3
      · exact back_pwl u a b s w hL _ hp htx (hnum u (by omega)) (fun w => print_no a b hr w) (by omega)
  · by_cases hr : 0 ≤ b ∧ b < 1000000000
    · by_cases hs : s.size ≤ 1000
      · rcases htail hs with ⟨_, h2⟩ | ⟨c, d, Z, hZ, h2, h3⟩
        · exact back_mrn n a b s w hL hp _ (fun w hL => print_yes a b ha0 ha1 hr w hL) (hright hr) (by omega) h2
        · exact back_mrs n a b s w hL hp _ (fun w hL => print_yes a b ha0 ha1 hr w hL) (hright hr) (by omega) c d Z hZ h2 h3
      · exact back_mrl n a b s w hL hp _ (fun w hL => print_yes a b ha0 ha1 hr w hL) (hright hr) (by omega)
    · by_cases hs : s.size ≤ 1000
      · rcases htail hs with ⟨_, h2⟩ | ⟨c, d, Z, hZ, h2, h3⟩
        · exact back_mwn n a b s w hL hp (fun w => print_no a b hr w) (by omega) h2
        · exact back_mws n a b s w hL hp (fun w => print_no a b hr w) (by omega) c d Z hZ h2 h3
      · exact back_mwl n a b s w hL hp (fun w => print_no a b hr w) (by omega)
end Go.Proofs.YtjpbkonlakpkiaaDoor

