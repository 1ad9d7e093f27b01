/-
  HEADS, AND WHAT PAIRS SAY OF THEM. Nothing of the program. No condition.; AND WHAT FOLLOWS OF IT. Conditions: those that each part names.
-/
import Derived.Test.YthnaanjhmehgcaaGreatDoorN47
import Derived.Test.YthnaanjhmehgcaaGreatDoorN42
import Derived.Test.YthnaanjhmehgcaaGreatDoorN17
import Derived.Test.YthnaanjhmehgcaaGreatDoorN21
import Derived.Test.YthnaanjhmehgcaaGreatDoorN37
/-
  HEADS, AND WHAT PAIRS SAY OF THEM. Nothing of the program. No condition.
-/
namespace Go.Proofs.YthnaanjhmehgcaaGreatDoor
open Go.ChangeShapes Go.WideShapes Go.ChangeAt Go.RowKit Go.Lib
set_option linter.unusedVariables false
set_option linter.unusedSimpArgs false
set_option maxRecDepth 20000

def numL (l : List UInt8) : Int := match nat63 l with | some u => if u ≤ 9223372036854775807 then (u : Int) else 0 | none => 0
def timA (l : List UInt8) : Int := ((timeOf l).getD (0, 0)).1
def timB (l : List UInt8) : Int := ((timeOf l).getD (0, 0)).2

/-- what a pair says of a head -/
def sayH (k v : ByteArray) (h : Hd) : Hd :=
  if whichK (bs k) = 0 then { h with name := v } else if whichK (bs k) = 1 then { h with link := v } else if whichK (bs k) = 2 then { h with user := v } else if whichK (bs k) = 3 then { h with group := v }
  else if whichK (bs k) = 4 then { h with uid := numL (bs v) } else if whichK (bs k) = 5 then { h with gid := numL (bs v) } else if whichK (bs k) = 6 then { h with size := numL (bs v) }
  else if whichK (bs k) = 7 then { h with sec := timA (bs v), nano := timB (bs v) } else h
def sayE (k v : ByteArray) (e : PL) : PL := if whichK (bs k) = -1 then e ++ [(k, v)] else e
/-- what pairs say of a head -/
def appH : PL → Hd → Hd
  | [], h => h
  | p :: t, h => appH t (sayH p.1 p.2 h)
def appE : PL → PL → PL
  | [], e => e
  | p :: t, e => appE t (sayE p.1 p.2 e)
theorem sayE_len (k v : ByteArray) (e : PL) : (sayE k v e).length ≤ e.length + 1 := by
  unfold sayE; split
  · simp
  · omega

/-- a head in memory, behind a call that said something of it -/
def Sd (w w' : World) (B g : Nat) (h : Hd) (ext : PL) : Prop :=
  (∃ x', Blk w' g (h.cs x') 26 ∧ w'.ownsRow B 50 2 x' ext.length (pcs2 ext)) ∧ (∀ C, C ≤ g → Below C w w') ∧ ∀ j, j ≠ g → j < B → w'.heap[j]? = w.heap[j]?

theorem Sd.store {w w1 : World} {B g : Nat} {h h' : Hd} {x : Value} {ext : PL} (hb : Below w.heap.size w w1) (hH : Blk w g (h.cs x) 26) (hg : g < B) (hB : B ≤ w.heap.size) (hx : w.ownsRow B 50 2 x ext.length (pcs2 ext)) (i : Nat) (u : Value) (he : (h.cs x).setIfInBounds i u = h'.cs x) :
    Sd w (w1.setCell ⟨g, i, none⟩ u) B g h' ext := by
  have hH1 := (hH.below hb).set (i := i) u
  rw [he] at hH1
  refine ⟨⟨x, hH1, ownsRow_setCell_below (own_below hb hx) hg u⟩, ?_, ?_⟩
  · intro C hC
    exact (hb.mono (by omega)).setCell hC _
  · intro j hj hjB
    rw [Below.heap_setCell w1 ⟨g, i, none⟩ u j hj, hb.block j (by omega)]

theorem Sd.store2 {w w1 : World} {B g : Nat} {h : Hd} {x : Value} {ext : PL} (hb : Below w.heap.size w w1) (hH : Blk w g (h.cs x) 26) (hg : g < B) (hB : B ≤ w.heap.size) (hx : w.ownsRow B 50 2 x ext.length (pcs2 ext)) (p q : Int) :
    Sd w ((w1.setCell ⟨g, 7, none⟩ (.int .i64 p)).setCell ⟨g, 8, none⟩ (.int .i64 q)) B g { h with sec := p, nano := q } ext := by
  have hH1 : Blk (w1.setCell ⟨g, 7, none⟩ (.int .i64 p)) g (({ h with sec := p } : Hd).cs x) 26 := (hH.below hb).set (i := 7) (.int .i64 p)
  have hH2 : Blk ((w1.setCell ⟨g, 7, none⟩ (.int .i64 p)).setCell ⟨g, 8, none⟩ (.int .i64 q)) g (({ h with sec := p, nano := q } : Hd).cs x) 26 := hH1.set (i := 8) (.int .i64 q)
  refine ⟨⟨x, hH2, ownsRow_setCell_below (ownsRow_setCell_below (own_below hb hx) hg _) hg _⟩, ?_, ?_⟩
  · intro C hC
    exact ((hb.mono (by omega)).setCell (p := ⟨g, 7, none⟩) hC _).setCell (p := ⟨g, 8, none⟩) hC _
  · intro j hj hjB
    rw [Below.heap_setCell _ ⟨g, 8, none⟩ _ j hj, Below.heap_setCell w1 ⟨g, 7, none⟩ _ j hj, hb.block j (by omega)]

theorem Sd.alloc {w w' : World} {B g : Nat} {h : Hd} {ext : PL} (hs : Sd w w' B g h ext) (hB : B ≤ w'.heap.size) (hg : g < B) (o : Obj) : Sd w (w'.alloc o) B g h ext := by
  obtain ⟨⟨x, h1, h2⟩, h3, h4⟩ := hs
  refine ⟨⟨x, h1.below ((Below.refl _ _).alloc (Nat.le_refl _) _), h2.alloc _⟩, fun C hC => (h3 C hC).alloc (by omega) _, fun j hj hjB => ?_⟩
  rw [Below.heap_alloc _ _ j (by omega)]
  exact h4 j hj hjB

/-- a pair more in its list: W is the world at the append, v' and w' what it leaves -/
theorem Sd.more {w W w' : World} {B g : Nat} {h : Hd} {x : Value} {ext : PL} {k v : ByteArray} (hb : Below w.heap.size w W) (hH : Blk w g (h.cs x) 26) (hg : g < B) (hB : B ≤ w.heap.size) (hx : w.ownsRow B 50 2 x ext.length (pcs2 ext))
    {v' : Value} (hown : w'.ownsRow B 50 2 v' (ext.length + 1) (pcs2 ext ++ [.string k, .string v])) (hgr : W.grownBy w' x.ownBlock) :
    Blk w' g (h.cs x) 26 ∧ (∃ g' cap, v' = .slice (some ⟨g', 0, none⟩) (ext.length + 1) cap) ∧ Sd w (w'.setCell ⟨g, 13, none⟩ v') B g h (ext ++ [(k, v)]) := by
  have hHW := hH.below hb
  have hne : ∀ j, j < B → some j ≠ x.ownBlock := fun j hj e => by have := (hx.lt j e.symm).1; omega
  have hB' : Blk w' g (h.cs x) 26 := by unfold Blk; rw [hgr.block g hHW.lt (hne g hg)]; exact hHW
  refine ⟨hB', ?_, ⟨v', hB'.set (i := 13) v', ?_⟩, ?_, ?_⟩
  · rcases hown.2 with ⟨_, h0⟩ | ⟨g', cap, _, hv, _⟩
    · omega
    · exact ⟨g', cap, hv⟩
  · rw [List.length_append, pcs2_app]
    exact ownsRow_setCell_below hown hg v'
  · intro C hC
    exact ((hb.mono (by omega)).grown hgr (by have := hb.size; omega) (fun j hj => by have := (hx.lt j hj).1; omega)).setCell (p := ⟨g, 13, none⟩) hC _
  · intro j hj hjB
    rw [Below.heap_setCell w' ⟨g, 13, none⟩ _ j hj, hgr.block j (by have := hb.size; omega) (hne j hjB), hb.block j (by omega)]

theorem tim_or (l : List UInt8) : ∃ c : Int, timeOf l = some (timA l, timB l) ∧ c = 0 ∨ timeOf l = none ∧ timA l = 0 ∧ timB l = 0 ∧ c = 15 := by
  unfold timA timB
  cases timeOf l with
  | none => exact ⟨15, .inr ⟨rfl, rfl, rfl, rfl⟩⟩
  | some q => exact ⟨0, .inl ⟨rfl, rfl⟩⟩

end Go.Proofs.YthnaanjhmehgcaaGreatDoor

/-
  THE DOCUMENT's SameHead AT HEADS THAT ARE THE SAME. No condition.
-/
namespace Go.Proofs.YthnaanjhmehgcaaGreatDoor
open Go.ChangeShapes Go.WideShapes Go.ChangeAt Go.RowKit Go.Lib
set_option linter.unusedVariables false
set_option linter.unusedSimpArgs false
set_option maxRecDepth 20000

theorem time_eql (w : World) (p q : Int) : (binOp .eql 23 (.agg #[.int .i64 p, .int .i64 q]) (.agg #[.int .i64 p, .int .i64 q])).run Tryz.prog w = .ok (.bool true) w := by
  have hf : Tryz.prog.underlying 23 = some (.struct (Tryz.prog.fieldsOf 23)) := by kernel_rfl
  have hs : Tryz.prog.stoodInHeld 23 = false := by kernel_rfl
  rw [run_eql_struct, run_equalIn_agg w 9999 23 _ _ hf hs]
  simp [go_sem, Program.fieldsOf, Tryz.underlying23, Tryz.underlying2, Op.eqFields]

set_option maxHeartbeats 8000000 in
theorem samehead_ok {w : World} {a1 a2 : Option Addr} {n1 c1 n2 c2 : Nat} {ext : PL} (h : Hd) (h1 : Pys w a1 n1 c1 ext) (h2 : Pys w a2 n2 c2 ext) :
    Calls Tryz.prog 62 #[.agg (h.cs (.slice a1 n1 c1)), .agg (h.cs (.slice a2 n2 c2))] w fun e w' => e = .returned (.bool true) ∧ Below w.heap.size w w' := by
  have hb0 := (Below.refl w.heap.size w).alloc (Nat.le_refl _) (.cells #[.int .i64 h.kind, .string h.name, .string h.link, .int .i64 h.mode, .int .i64 h.uid, .int .i64 h.gid, .int .i64 h.size, .int .i64 h.sec, .int .i64 h.nano, .string h.user, .string h.group, .int .i64 h.major, .int .i64 h.minor, .slice a1 n1 c1] 26)
  have hb1 := hb0.alloc hb0.size (.cells #[.int .i64 h.kind, .string h.name, .string h.link, .int .i64 h.mode, .int .i64 h.uid, .int .i64 h.gid, .int .i64 h.size, .int .i64 h.sec, .int .i64 h.nano, .string h.user, .string h.group, .int .i64 h.major, .int .i64 h.minor, .slice a2 n2 c2] 26)
  have hsm := same_ok (h1.below hb1) (h2.below hb1)
  rw [decide_eq_true (rfl : ext = ext)] at hsm
  have ht := fun w : World => time_eql w h.sec h.nano
  unfold Hd.cs
  clear h1 h2
  go_enter Tryz.func62, Tryz.ntmps62
  go_wp2_with (go_at_call 19; refine hsm.mono ?_; rintro e w1 ⟨rfl, hw1⟩)
  all_goals go_ret
  all_goals exact ⟨rfl, hb1.trans (hw1.mono hb1.size)⟩

end Go.Proofs.YthnaanjhmehgcaaGreatDoor

/-
  over.say: WHAT A PAIR SAYS IS PUT INTO A HEAD. Conditions: how many bytes a text may have; what the listed variables hold.
-/
namespace Go.Proofs.YthnaanjhmehgcaaGreatDoor
open Go.ChangeShapes Go.WideShapes Go.ChangeAt Go.RowKit Go.Lib
set_option linter.unusedVariables false
set_option linter.unusedSimpArgs false
set_option maxRecDepth 20000

set_option maxHeartbeats 2000000 in
theorem say_0 (k v : ByteArray) (ki : bs k = [112, 97, 116, 104]) {w : World} {g B : Nat} {h : Hd} {x : Value} {ext : PL} (hH : Blk w g (h.cs x) 26) (hg : g < B) (hB : B ≤ w.heap.size) (hx : w.ownsRow B 50 2 x ext.length (pcs2 ext)) :
    Calls Tryz.prog 57 #[.pointer (some ⟨g, 0, none⟩), .agg #[.string k, .string v]] w fun e w' => e = .returned (.tuple #[]) ∧ Sd w w' B g (sayH k v h) (sayE k v ext) := by
  have hlt := hH.lt
  have hA : Blk (w.alloc (.cells #[.string k, .string v] 50)) g (h.cs x) 26 := hH.below ((Below.refl w.heap.size w).alloc (Nat.le_refl _) _)
  have y1 := hA.free 1
  have x1 : (w.alloc (.cells #[.string k, .string v] 50)).cell? ⟨g, 1, none⟩ = some (.string h.name) := hA.cell 1
  have e0 : (k.toList == [112, 97, 116, 104]) = true := by rw [str_is, ki]; decide
  have hS : Sd w ((w.setCell ⟨g, 1, none⟩ (.string v)).alloc (.cells #[.string k, .string v] 50)) B g (sayH k v h) (sayE k v ext) := by
    have hk : whichK (bs k) = 0 := by rw [ki]; decide
    rw [show sayE k v ext = ext by simp [sayE, hk]]
    rw [show sayH k v h = { h with name := v } by simp [sayH, hk]]
    exact (Sd.store (Below.refl _ w) hH hg hB hx 1 (.string v) rfl).alloc (by simp [World.setCell]; omega) hg _
  clear hH hA hx ki
  go_enter Tryz.func57, Tryz.ntmps57
  go_wp2
  exact bodyPost_end (v := .tuple #[]) (by simp [results, Tryz.results57]) rfl ⟨rfl, hS⟩

set_option maxHeartbeats 2000000 in
theorem say_1 (k v : ByteArray) (ki : bs k = [108, 105, 110, 107, 112, 97, 116, 104]) {w : World} {g B : Nat} {h : Hd} {x : Value} {ext : PL} (hH : Blk w g (h.cs x) 26) (hg : g < B) (hB : B ≤ w.heap.size) (hx : w.ownsRow B 50 2 x ext.length (pcs2 ext)) :
    Calls Tryz.prog 57 #[.pointer (some ⟨g, 0, none⟩), .agg #[.string k, .string v]] w fun e w' => e = .returned (.tuple #[]) ∧ Sd w w' B g (sayH k v h) (sayE k v ext) := by
  have hlt := hH.lt
  have hA : Blk (w.alloc (.cells #[.string k, .string v] 50)) g (h.cs x) 26 := hH.below ((Below.refl w.heap.size w).alloc (Nat.le_refl _) _)
  have y1 := hA.free 2
  have x1 : (w.alloc (.cells #[.string k, .string v] 50)).cell? ⟨g, 2, none⟩ = some (.string h.link) := hA.cell 2
  have e0 : (k.toList == [112, 97, 116, 104]) = false := by rw [str_is, ki]; decide
  have e1 : (k.toList == [108, 105, 110, 107, 112, 97, 116, 104]) = true := by rw [str_is, ki]; decide
  have hS : Sd w ((w.setCell ⟨g, 2, none⟩ (.string v)).alloc (.cells #[.string k, .string v] 50)) B g (sayH k v h) (sayE k v ext) := by
    have hk : whichK (bs k) = 1 := by rw [ki]; decide
    rw [show sayE k v ext = ext by simp [sayE, hk]]
    rw [show sayH k v h = { h with link := v } by simp [sayH, hk]]
    exact (Sd.store (Below.refl _ w) hH hg hB hx 2 (.string v) rfl).alloc (by simp [World.setCell]; omega) hg _
  clear hH hA hx ki
  go_enter Tryz.func57, Tryz.ntmps57
  go_wp2
  exact bodyPost_end (v := .tuple #[]) (by simp [results, Tryz.results57]) rfl ⟨rfl, hS⟩

set_option maxHeartbeats 2000000 in
theorem say_2 (k v : ByteArray) (ki : bs k = [117, 110, 97, 109, 101]) {w : World} {g B : Nat} {h : Hd} {x : Value} {ext : PL} (hH : Blk w g (h.cs x) 26) (hg : g < B) (hB : B ≤ w.heap.size) (hx : w.ownsRow B 50 2 x ext.length (pcs2 ext)) :
    Calls Tryz.prog 57 #[.pointer (some ⟨g, 0, none⟩), .agg #[.string k, .string v]] w fun e w' => e = .returned (.tuple #[]) ∧ Sd w w' B g (sayH k v h) (sayE k v ext) := by
  have hlt := hH.lt
  have hA : Blk (w.alloc (.cells #[.string k, .string v] 50)) g (h.cs x) 26 := hH.below ((Below.refl w.heap.size w).alloc (Nat.le_refl _) _)
  have y1 := hA.free 9
  have x1 : (w.alloc (.cells #[.string k, .string v] 50)).cell? ⟨g, 9, none⟩ = some (.string h.user) := hA.cell 9
  have e0 : (k.toList == [112, 97, 116, 104]) = false := by rw [str_is, ki]; decide
  have e1 : (k.toList == [108, 105, 110, 107, 112, 97, 116, 104]) = false := by rw [str_is, ki]; decide
  have e2 : (k.toList == [117, 110, 97, 109, 101]) = true := by rw [str_is, ki]; decide
  have hS : Sd w ((w.setCell ⟨g, 9, none⟩ (.string v)).alloc (.cells #[.string k, .string v] 50)) B g (sayH k v h) (sayE k v ext) := by
    have hk : whichK (bs k) = 2 := by rw [ki]; decide
    rw [show sayE k v ext = ext by simp [sayE, hk]]
    rw [show sayH k v h = { h with user := v } by simp [sayH, hk]]
    exact (Sd.store (Below.refl _ w) hH hg hB hx 9 (.string v) rfl).alloc (by simp [World.setCell]; omega) hg _
  clear hH hA hx ki
  go_enter Tryz.func57, Tryz.ntmps57
  go_wp2
  exact bodyPost_end (v := .tuple #[]) (by simp [results, Tryz.results57]) rfl ⟨rfl, hS⟩

set_option maxHeartbeats 2000000 in
theorem say_3 (k v : ByteArray) (ki : bs k = [103, 110, 97, 109, 101]) {w : World} {g B : Nat} {h : Hd} {x : Value} {ext : PL} (hH : Blk w g (h.cs x) 26) (hg : g < B) (hB : B ≤ w.heap.size) (hx : w.ownsRow B 50 2 x ext.length (pcs2 ext)) :
    Calls Tryz.prog 57 #[.pointer (some ⟨g, 0, none⟩), .agg #[.string k, .string v]] w fun e w' => e = .returned (.tuple #[]) ∧ Sd w w' B g (sayH k v h) (sayE k v ext) := by
  have hlt := hH.lt
  have hA : Blk (w.alloc (.cells #[.string k, .string v] 50)) g (h.cs x) 26 := hH.below ((Below.refl w.heap.size w).alloc (Nat.le_refl _) _)
  have y1 := hA.free 10
  have x1 : (w.alloc (.cells #[.string k, .string v] 50)).cell? ⟨g, 10, none⟩ = some (.string h.group) := hA.cell 10
  have e0 : (k.toList == [112, 97, 116, 104]) = false := by rw [str_is, ki]; decide
  have e1 : (k.toList == [108, 105, 110, 107, 112, 97, 116, 104]) = false := by rw [str_is, ki]; decide
  have e2 : (k.toList == [117, 110, 97, 109, 101]) = false := by rw [str_is, ki]; decide
  have e3 : (k.toList == [103, 110, 97, 109, 101]) = true := by rw [str_is, ki]; decide
  have hS : Sd w ((w.setCell ⟨g, 10, none⟩ (.string v)).alloc (.cells #[.string k, .string v] 50)) B g (sayH k v h) (sayE k v ext) := by
    have hk : whichK (bs k) = 3 := by rw [ki]; decide
    rw [show sayE k v ext = ext by simp [sayE, hk]]
    rw [show sayH k v h = { h with group := v } by simp [sayH, hk]]
    exact (Sd.store (Below.refl _ w) hH hg hB hx 10 (.string v) rfl).alloc (by simp [World.setCell]; omega) hg _
  clear hH hA hx ki
  go_enter Tryz.func57, Tryz.ntmps57
  go_wp2
  exact bodyPost_end (v := .tuple #[]) (by simp [results, Tryz.results57]) rfl ⟨rfl, hS⟩

set_option maxHeartbeats 2000000 in
theorem say_4 (k v : ByteArray) (hv : v.size ≤ 281474976710656) (ki : bs k = [117, 105, 100]) {w : World} (hL : Laid w) {g B : Nat} {h : Hd} {x : Value} {ext : PL} (hH : Blk w g (h.cs x) 26) (hg : g < B) (hB : B ≤ w.heap.size) (hx : w.ownsRow B 50 2 x ext.length (pcs2 ext)) :
    Calls Tryz.prog 57 #[.pointer (some ⟨g, 0, none⟩), .agg #[.string k, .string v]] w fun e w' => e = .returned (.tuple #[]) ∧ Sd w w' B g (sayH k v h) (sayE k v ext) := by
  have hlt := hH.lt
  have hfr := (Below.refl w.heap.size w).alloc (Nat.le_refl _) (.cells #[.string k, .string v] 50)
  have hA : Blk (w.alloc (.cells #[.string k, .string v] 50)) g (h.cs x) 26 := hH.below hfr
  have e0 : (k.toList == [112, 97, 116, 104]) = false := by rw [str_is, ki]; decide
  have e1 : (k.toList == [108, 105, 110, 107, 112, 97, 116, 104]) = false := by rw [str_is, ki]; decide
  have e2 : (k.toList == [117, 110, 97, 109, 101]) = false := by rw [str_is, ki]; decide
  have e3 : (k.toList == [103, 110, 97, 109, 101]) = false := by rw [str_is, ki]; decide
  have e4 : (k.toList == [117, 105, 100]) = true := by rw [str_is, ki]; decide
  obtain ⟨c0, hc0⟩ : ∃ c : Int, c = match nat63 (bs v) with | some u => if u ≤ 9223372036854775807 then 0 else 15 | none => 15 := ⟨_, rfl⟩
  have hnum := number_ok v hv _ (hL.below hfr) (numL (bs v)) c0 rfl hc0
  have hS : ∀ w1, Below (w.alloc (.cells #[.string k, .string v] 50)).heap.size (w.alloc (.cells #[.string k, .string v] 50)) w1 → Sd w (w1.setCell ⟨g, 4, none⟩ (.int .i64 (numL (bs v)))) B g (sayH k v h) (sayE k v ext) := fun w1 hb => by
    have hk : whichK (bs k) = 4 := by rw [ki]; decide
    rw [show sayE k v ext = ext by simp [sayE, hk]]
    rw [show sayH k v h = { h with uid := numL (bs v) } by simp [sayH, hk]]
    exact Sd.store (hfr.trans (hb.mono hfr.size)) hH hg hB hx 4 _ rfl
  clear hH hx ki hc0 hL
  go_enter Tryz.func57, Tryz.ntmps57
  go_wp2_with (go_at_call 95; refine hnum.mono ?_; rintro e w1 ⟨rfl, hb1⟩; have hA1 := hA.below hb1; have y1 := hA1.free 4; (have x1 : w1.cell? ⟨g, 4, none⟩ = some (.int .i64 h.uid) := hA1.cell 4); have hS1 := hS w1 hb1; clear hS)
  exact bodyPost_end (v := .tuple #[]) (by simp [results, Tryz.results57]) rfl ⟨rfl, hS1⟩

set_option maxHeartbeats 2000000 in
theorem say_5 (k v : ByteArray) (hv : v.size ≤ 281474976710656) (ki : bs k = [103, 105, 100]) {w : World} (hL : Laid w) {g B : Nat} {h : Hd} {x : Value} {ext : PL} (hH : Blk w g (h.cs x) 26) (hg : g < B) (hB : B ≤ w.heap.size) (hx : w.ownsRow B 50 2 x ext.length (pcs2 ext)) :
    Calls Tryz.prog 57 #[.pointer (some ⟨g, 0, none⟩), .agg #[.string k, .string v]] w fun e w' => e = .returned (.tuple #[]) ∧ Sd w w' B g (sayH k v h) (sayE k v ext) := by
  have hlt := hH.lt
  have hfr := (Below.refl w.heap.size w).alloc (Nat.le_refl _) (.cells #[.string k, .string v] 50)
  have hA : Blk (w.alloc (.cells #[.string k, .string v] 50)) g (h.cs x) 26 := hH.below hfr
  have e0 : (k.toList == [112, 97, 116, 104]) = false := by rw [str_is, ki]; decide
  have e1 : (k.toList == [108, 105, 110, 107, 112, 97, 116, 104]) = false := by rw [str_is, ki]; decide
  have e2 : (k.toList == [117, 110, 97, 109, 101]) = false := by rw [str_is, ki]; decide
  have e3 : (k.toList == [103, 110, 97, 109, 101]) = false := by rw [str_is, ki]; decide
  have e4 : (k.toList == [117, 105, 100]) = false := by rw [str_is, ki]; decide
  have e5 : (k.toList == [103, 105, 100]) = true := by rw [str_is, ki]; decide
  obtain ⟨c0, hc0⟩ : ∃ c : Int, c = match nat63 (bs v) with | some u => if u ≤ 9223372036854775807 then 0 else 15 | none => 15 := ⟨_, rfl⟩
  have hnum := number_ok v hv _ (hL.below hfr) (numL (bs v)) c0 rfl hc0
  have hS : ∀ w1, Below (w.alloc (.cells #[.string k, .string v] 50)).heap.size (w.alloc (.cells #[.string k, .string v] 50)) w1 → Sd w (w1.setCell ⟨g, 5, none⟩ (.int .i64 (numL (bs v)))) B g (sayH k v h) (sayE k v ext) := fun w1 hb => by
    have hk : whichK (bs k) = 5 := by rw [ki]; decide
    rw [show sayE k v ext = ext by simp [sayE, hk]]
    rw [show sayH k v h = { h with gid := numL (bs v) } by simp [sayH, hk]]
    exact Sd.store (hfr.trans (hb.mono hfr.size)) hH hg hB hx 5 _ rfl
  clear hH hx ki hc0 hL
  go_enter Tryz.func57, Tryz.ntmps57
  go_wp2_with (go_at_call 95; refine hnum.mono ?_; rintro e w1 ⟨rfl, hb1⟩; have hA1 := hA.below hb1; have y1 := hA1.free 5; (have x1 : w1.cell? ⟨g, 5, none⟩ = some (.int .i64 h.gid) := hA1.cell 5); have hS1 := hS w1 hb1; clear hS)
  exact bodyPost_end (v := .tuple #[]) (by simp [results, Tryz.results57]) rfl ⟨rfl, hS1⟩

set_option maxHeartbeats 2000000 in
theorem say_6 (k v : ByteArray) (hv : v.size ≤ 281474976710656) (ki : bs k = [115, 105, 122, 101]) {w : World} (hL : Laid w) {g B : Nat} {h : Hd} {x : Value} {ext : PL} (hH : Blk w g (h.cs x) 26) (hg : g < B) (hB : B ≤ w.heap.size) (hx : w.ownsRow B 50 2 x ext.length (pcs2 ext)) :
    Calls Tryz.prog 57 #[.pointer (some ⟨g, 0, none⟩), .agg #[.string k, .string v]] w fun e w' => e = .returned (.tuple #[]) ∧ Sd w w' B g (sayH k v h) (sayE k v ext) := by
  have hlt := hH.lt
  have hfr := (Below.refl w.heap.size w).alloc (Nat.le_refl _) (.cells #[.string k, .string v] 50)
  have hA : Blk (w.alloc (.cells #[.string k, .string v] 50)) g (h.cs x) 26 := hH.below hfr
  have e0 : (k.toList == [112, 97, 116, 104]) = false := by rw [str_is, ki]; decide
  have e1 : (k.toList == [108, 105, 110, 107, 112, 97, 116, 104]) = false := by rw [str_is, ki]; decide
  have e2 : (k.toList == [117, 110, 97, 109, 101]) = false := by rw [str_is, ki]; decide
  have e3 : (k.toList == [103, 110, 97, 109, 101]) = false := by rw [str_is, ki]; decide
  have e4 : (k.toList == [117, 105, 100]) = false := by rw [str_is, ki]; decide
  have e5 : (k.toList == [103, 105, 100]) = false := by rw [str_is, ki]; decide
  have e6 : (k.toList == [115, 105, 122, 101]) = true := by rw [str_is, ki]; decide
  obtain ⟨c0, hc0⟩ : ∃ c : Int, c = match nat63 (bs v) with | some u => if u ≤ 9223372036854775807 then 0 else 15 | none => 15 := ⟨_, rfl⟩
  have hnum := number_ok v hv _ (hL.below hfr) (numL (bs v)) c0 rfl hc0
  have hS : ∀ w1, Below (w.alloc (.cells #[.string k, .string v] 50)).heap.size (w.alloc (.cells #[.string k, .string v] 50)) w1 → Sd w (w1.setCell ⟨g, 6, none⟩ (.int .i64 (numL (bs v)))) B g (sayH k v h) (sayE k v ext) := fun w1 hb => by
    have hk : whichK (bs k) = 6 := by rw [ki]; decide
    rw [show sayE k v ext = ext by simp [sayE, hk]]
    rw [show sayH k v h = { h with size := numL (bs v) } by simp [sayH, hk]]
    exact Sd.store (hfr.trans (hb.mono hfr.size)) hH hg hB hx 6 _ rfl
  clear hH hx ki hc0 hL
  go_enter Tryz.func57, Tryz.ntmps57
  go_wp2_with (go_at_call 95; refine hnum.mono ?_; rintro e w1 ⟨rfl, hb1⟩; have hA1 := hA.below hb1; have y1 := hA1.free 6; (have x1 : w1.cell? ⟨g, 6, none⟩ = some (.int .i64 h.size) := hA1.cell 6); have hS1 := hS w1 hb1; clear hS)
  exact bodyPost_end (v := .tuple #[]) (by simp [results, Tryz.results57]) rfl ⟨rfl, hS1⟩

set_option maxHeartbeats 2000000 in
theorem say_7 (k v : ByteArray) (hv : v.size ≤ 281474976710656) (ki : bs k = [109, 116, 105, 109, 101]) {w : World} (hL : Laid w) {g B : Nat} {h : Hd} {x : Value} {ext : PL} (hH : Blk w g (h.cs x) 26) (hg : g < B) (hB : B ≤ w.heap.size) (hx : w.ownsRow B 50 2 x ext.length (pcs2 ext)) :
    Calls Tryz.prog 57 #[.pointer (some ⟨g, 0, none⟩), .agg #[.string k, .string v]] w fun e w' => e = .returned (.tuple #[]) ∧ Sd w w' B g (sayH k v h) (sayE k v ext) := by
  have hlt := hH.lt
  have hfr := (Below.refl w.heap.size w).alloc (Nat.le_refl _) (.cells #[.string k, .string v] 50)
  have hA : Blk (w.alloc (.cells #[.string k, .string v] 50)) g (h.cs x) 26 := hH.below hfr
  have e0 : (k.toList == [112, 97, 116, 104]) = false := by rw [str_is, ki]; decide
  have e1 : (k.toList == [108, 105, 110, 107, 112, 97, 116, 104]) = false := by rw [str_is, ki]; decide
  have e2 : (k.toList == [117, 110, 97, 109, 101]) = false := by rw [str_is, ki]; decide
  have e3 : (k.toList == [103, 110, 97, 109, 101]) = false := by rw [str_is, ki]; decide
  have e4 : (k.toList == [117, 105, 100]) = false := by rw [str_is, ki]; decide
  have e5 : (k.toList == [103, 105, 100]) = false := by rw [str_is, ki]; decide
  have e6 : (k.toList == [115, 105, 122, 101]) = false := by rw [str_is, ki]; decide
  have e7 : (k.toList == [109, 116, 105, 109, 101]) = true := by rw [str_is, ki]; decide
  obtain ⟨c0, hc0⟩ := tim_or (bs v)
  have hnum := time_ok v hv _ (hL.below hfr) (timA (bs v)) (timB (bs v)) c0 hc0
  have hS : ∀ w1, Below (w.alloc (.cells #[.string k, .string v] 50)).heap.size (w.alloc (.cells #[.string k, .string v] 50)) w1 → Sd w ((w1.setCell ⟨g, 7, none⟩ (.int .i64 (timA (bs v)))).setCell ⟨g, 8, none⟩ (.int .i64 (timB (bs v)))) B g (sayH k v h) (sayE k v ext) := fun w1 hb => by
    have hk : whichK (bs k) = 7 := by rw [ki]; decide
    rw [show sayE k v ext = ext by simp [sayE, hk]]
    rw [show sayH k v h = { h with sec := timA (bs v), nano := timB (bs v) } by simp [sayH, hk]]
    exact Sd.store2 (hfr.trans (hb.mono hfr.size)) hH hg hB hx _ _
  clear hH hx ki hc0 hL
  go_enter Tryz.func57, Tryz.ntmps57
  go_wp2_with (go_at_call 96; refine hnum.mono ?_; rintro e w1 ⟨rfl, hb1⟩; have hA1 := hA.below hb1; have y7 := hA1.free 7; have y8 := hA1.free 8; (have x7 : w1.cell? ⟨g, 7, none⟩ = some (.int .i64 h.sec) := hA1.cell 7); (have x8 : w1.cell? ⟨g, 8, none⟩ = some (.int .i64 h.nano) := hA1.cell 8); have hS1 := hS w1 hb1; clear hS)
  exact bodyPost_end (v := .tuple #[]) (by simp [results, Tryz.results57]) rfl ⟨rfl, hS1⟩

set_option maxHeartbeats 4000000 in
theorem say_x (k v : ByteArray) (ki : whichK (bs k) = -1) {w : World} {g B : Nat} {h : Hd} {x : Value} {ext : PL} (hle : ext.length ≤ 1000) (hH : Blk w g (h.cs x) 26) (hg : g < B) (hB : B ≤ w.heap.size) (hx : w.ownsRow B 50 2 x ext.length (pcs2 ext)) :
    Calls Tryz.prog 57 #[.pointer (some ⟨g, 0, none⟩), .agg #[.string k, .string v]] w fun e w' => e = .returned (.tuple #[]) ∧ Sd w w' B g (sayH k v h) (sayE k v ext) := by
  have hlt := hH.lt
  have hfr := (Below.refl w.heap.size w).alloc (Nat.le_refl _) (.cells #[.string k, .string v] 50)
  have hA : Blk (w.alloc (.cells #[.string k, .string v] 50)) g (h.cs x) 26 := hH.below hfr
  obtain ⟨i0, hi0, hz0, hz1, hz2⟩ := info_parts infoPair
  have hnw := pair_new (w.alloc (.cells #[.string k, .string v] 50)).drew k v
  rw [show ((w.alloc (.cells #[.string k, .string v] 50)).drew).heap.size = w.heap.size + 1 by simp] at hnw
  have hbW : Below w.heap.size w ((w.alloc (.cells #[.string k, .string v] 50)).drew.alloc (.cells #[.string k, .string v] 50)) := hfr.drew.alloc (by simp) _
  obtain ⟨v', w', hr, hown', hgr, -⟩ := run_append_own (P := Tryz.prog) ((w.alloc (.cells #[.string k, .string v] 50)).drew.alloc (.cells #[.string k, .string v] 50)) B 24 24 50 i0 (.agg #[.string ⟨#[]⟩, .string ⟨#[]⟩]) 2 32 Tryz.underlying24 hi0 hz0 hz1 hz2 rfl (by decide) x ext.length (pcs2 ext) (own_below hbW hx) ⟨w.heap.size + 1, 0, none⟩ 1 1 [.string k, .string v] rfl hnw (by intro z hz; simp at hz; rcases hz with rfl | rfl <;> rfl) (by unfold maxLen; omega) (by omega) (by have := hbW.size; omega)
  obtain ⟨hB', ⟨g', cap, rfl⟩, hS'⟩ := Sd.more hbW hH hg hB hx hown' hgr
  have x13 : (w.alloc (.cells #[.string k, .string v] 50)).cell? ⟨g, 13, none⟩ = some x := hA.cell 13
  have y13 := hB'.free 13
  have z13 : w'.cell? ⟨g, 13, none⟩ = some x := hB'.cell 13
  have hS : Sd w (w'.setCell ⟨g, 13, none⟩ (.slice (some ⟨g', 0, none⟩) (ext.length + 1) cap)) B g (sayH k v h) (sayE k v ext) := by
    rw [show sayE k v ext = ext ++ [(k, v)] by simp [sayE, ki], show sayH k v h = h by simp [sayH, ki]]
    exact hS'
  have e0 : (k.toList == [112, 97, 116, 104]) = false := by rw [str_is, decide_eq_false (fun e => by rw [e] at ki; exact absurd ki (by decide))]
  have e1 : (k.toList == [108, 105, 110, 107, 112, 97, 116, 104]) = false := by rw [str_is, decide_eq_false (fun e => by rw [e] at ki; exact absurd ki (by decide))]
  have e2 : (k.toList == [117, 110, 97, 109, 101]) = false := by rw [str_is, decide_eq_false (fun e => by rw [e] at ki; exact absurd ki (by decide))]
  have e3 : (k.toList == [103, 110, 97, 109, 101]) = false := by rw [str_is, decide_eq_false (fun e => by rw [e] at ki; exact absurd ki (by decide))]
  have e4 : (k.toList == [117, 105, 100]) = false := by rw [str_is, decide_eq_false (fun e => by rw [e] at ki; exact absurd ki (by decide))]
  have e5 : (k.toList == [103, 105, 100]) = false := by rw [str_is, decide_eq_false (fun e => by rw [e] at ki; exact absurd ki (by decide))]
  have e6 : (k.toList == [115, 105, 122, 101]) = false := by rw [str_is, decide_eq_false (fun e => by rw [e] at ki; exact absurd ki (by decide))]
  have e7 : (k.toList == [109, 116, 105, 109, 101]) = false := by rw [str_is, decide_eq_false (fun e => by rw [e] at ki; exact absurd ki (by decide))]
  clear hH hA hx ki hS' hown' hgr hB' hbW hfr hnw
  go_enter Tryz.func57, Tryz.ntmps57
  go_wp2_with fail
  go_region_law (refine step_append_run rfl (.tmp 10) (.tmp 12) 24 24 rfl _ _ (by simp [Act.eval, Act.put]) (by simp [Act.eval, Act.put]) hr ?_)
  all_goals go_wp2
  all_goals exact bodyPost_end (v := .tuple #[]) (by simp [results, Tryz.results57]) rfl ⟨rfl, hS⟩

theorem say_ok (k v : ByteArray) (hv : v.size ≤ 281474976710656) {w : World} (hL : Laid w) {g B : Nat} {h : Hd} {x : Value} {ext : PL} (hle : ext.length ≤ 1000) (hH : Blk w g (h.cs x) 26) (hg : g < B) (hB : B ≤ w.heap.size) (hx : w.ownsRow B 50 2 x ext.length (pcs2 ext)) :
    Calls Tryz.prog 57 #[.pointer (some ⟨g, 0, none⟩), .agg #[.string k, .string v]] w fun e w' => e = .returned (.tuple #[]) ∧ Sd w w' B g (sayH k v h) (sayE k v ext) := by
  by_cases k0 : bs k = [112, 97, 116, 104]
  · exact say_0 k v k0 hH hg hB hx
  by_cases k1 : bs k = [108, 105, 110, 107, 112, 97, 116, 104]
  · exact say_1 k v k1 hH hg hB hx
  by_cases k2 : bs k = [117, 110, 97, 109, 101]
  · exact say_2 k v k2 hH hg hB hx
  by_cases k3 : bs k = [103, 110, 97, 109, 101]
  · exact say_3 k v k3 hH hg hB hx
  by_cases k4 : bs k = [117, 105, 100]
  · exact say_4 k v hv k4 hL hH hg hB hx
  by_cases k5 : bs k = [103, 105, 100]
  · exact say_5 k v hv k5 hL hH hg hB hx
  by_cases k6 : bs k = [115, 105, 122, 101]
  · exact say_6 k v hv k6 hL hH hg hB hx
  by_cases k7 : bs k = [109, 116, 105, 109, 101]
  · exact say_7 k v hv k7 hL hH hg hB hx
  refine say_x k v ?_ hle hH hg hB hx
  unfold whichK
  rw [if_neg k0, if_neg k1, if_neg k2, if_neg k3, if_neg k4, if_neg k5, if_neg k6, if_neg k7]

end Go.Proofs.YthnaanjhmehgcaaGreatDoor

/-
  A HEAD's FOURTEEN CELLS, READ AND FILLED. No condition.
-/
namespace Go.Proofs.YthnaanjhmehgcaaGreatDoor
open Go.ChangeShapes Go.WideShapes Go.ChangeAt Go.RowKit Go.Lib
set_option linter.unusedVariables false
set_option linter.unusedSimpArgs false
set_option maxRecDepth 20000

theorem blk14 {w : World} {g : Nat} {t : TypeId} {h0 h1 h2 h3 h4 h5 h6 h7 h8 h9 h10 h11 h12 h13 : Value} (h : Blk w g #[h0, h1, h2, h3, h4, h5, h6, h7, h8, h9, h10, h11, h12, h13] t) :
    w.cell? ⟨g, 0, none⟩ = some h0 ∧ w.cell? ⟨g, 1, none⟩ = some h1 ∧ w.cell? ⟨g, 2, none⟩ = some h2 ∧ w.cell? ⟨g, 3, none⟩ = some h3 ∧ w.cell? ⟨g, 4, none⟩ = some h4 ∧ w.cell? ⟨g, 5, none⟩ = some h5 ∧ w.cell? ⟨g, 6, none⟩ = some h6 ∧ w.cell? ⟨g, 7, none⟩ = some h7 ∧ w.cell? ⟨g, 8, none⟩ = some h8 ∧ w.cell? ⟨g, 9, none⟩ = some h9 ∧ w.cell? ⟨g, 10, none⟩ = some h10 ∧ w.cell? ⟨g, 11, none⟩ = some h11 ∧ w.cell? ⟨g, 12, none⟩ = some h12 ∧ w.cell? ⟨g, 13, none⟩ = some h13 := by
  refine ⟨h.cell 0, h.cell 1, h.cell 2, h.cell 3, h.cell 4, h.cell 5, h.cell 6, h.cell 7, h.cell 8, h.cell 9, h.cell 10, h.cell 11, h.cell 12, h.cell 13⟩
theorem free14 {w : World} {g : Nat} {t : TypeId} {cs : Array Value} (h : Blk w g cs t) :
    w.frozen? ⟨g, 0, none⟩ = false ∧ w.frozen? ⟨g, 1, none⟩ = false ∧ w.frozen? ⟨g, 2, none⟩ = false ∧ w.frozen? ⟨g, 3, none⟩ = false ∧ w.frozen? ⟨g, 4, none⟩ = false ∧ w.frozen? ⟨g, 5, none⟩ = false ∧ w.frozen? ⟨g, 6, none⟩ = false ∧ w.frozen? ⟨g, 7, none⟩ = false ∧ w.frozen? ⟨g, 8, none⟩ = false ∧ w.frozen? ⟨g, 9, none⟩ = false ∧ w.frozen? ⟨g, 10, none⟩ = false ∧ w.frozen? ⟨g, 11, none⟩ = false ∧ w.frozen? ⟨g, 12, none⟩ = false ∧ w.frozen? ⟨g, 13, none⟩ = false := ⟨h.free 0, h.free 1, h.free 2, h.free 3, h.free 4, h.free 5, h.free 6, h.free 7, h.free 8, h.free 9, h.free 10, h.free 11, h.free 12, h.free 13⟩

theorem fill14 {w : World} {g : Nat} {t : TypeId} {z0 z1 z2 z3 z4 z5 z6 z7 z8 z9 z10 z11 z12 z13 : Value} (h : Blk w g #[z0, z1, z2, z3, z4, z5, z6, z7, z8, z9, z10, z11, z12, z13] t) (v0 v1 v2 v3 v4 v5 v6 v7 v8 v9 v10 v11 v12 v13 : Value) :
    Blk ((((((((((((((w.setCell ⟨g, 0, none⟩ v0).setCell ⟨g, 1, none⟩ v1).setCell ⟨g, 2, none⟩ v2).setCell ⟨g, 3, none⟩ v3).setCell ⟨g, 4, none⟩ v4).setCell ⟨g, 5, none⟩ v5).setCell ⟨g, 6, none⟩ v6).setCell ⟨g, 7, none⟩ v7).setCell ⟨g, 8, none⟩ v8).setCell ⟨g, 9, none⟩ v9).setCell ⟨g, 10, none⟩ v10).setCell ⟨g, 11, none⟩ v11).setCell ⟨g, 12, none⟩ v12).setCell ⟨g, 13, none⟩ v13) g #[v0, v1, v2, v3, v4, v5, v6, v7, v8, v9, v10, v11, v12, v13] t := by
  have k0 : Blk (w.setCell ⟨g, 0, none⟩ v0) g #[v0, z1, z2, z3, z4, z5, z6, z7, z8, z9, z10, z11, z12, z13] t := h.set (i := 0) v0
  have k1 : Blk ((w.setCell ⟨g, 0, none⟩ v0).setCell ⟨g, 1, none⟩ v1) g #[v0, v1, z2, z3, z4, z5, z6, z7, z8, z9, z10, z11, z12, z13] t := k0.set (i := 1) v1
  have k2 : Blk (((w.setCell ⟨g, 0, none⟩ v0).setCell ⟨g, 1, none⟩ v1).setCell ⟨g, 2, none⟩ v2) g #[v0, v1, v2, z3, z4, z5, z6, z7, z8, z9, z10, z11, z12, z13] t := k1.set (i := 2) v2
  have k3 : Blk ((((w.setCell ⟨g, 0, none⟩ v0).setCell ⟨g, 1, none⟩ v1).setCell ⟨g, 2, none⟩ v2).setCell ⟨g, 3, none⟩ v3) g #[v0, v1, v2, v3, z4, z5, z6, z7, z8, z9, z10, z11, z12, z13] t := k2.set (i := 3) v3
  have k4 : Blk (((((w.setCell ⟨g, 0, none⟩ v0).setCell ⟨g, 1, none⟩ v1).setCell ⟨g, 2, none⟩ v2).setCell ⟨g, 3, none⟩ v3).setCell ⟨g, 4, none⟩ v4) g #[v0, v1, v2, v3, v4, z5, z6, z7, z8, z9, z10, z11, z12, z13] t := k3.set (i := 4) v4
  have k5 : Blk ((((((w.setCell ⟨g, 0, none⟩ v0).setCell ⟨g, 1, none⟩ v1).setCell ⟨g, 2, none⟩ v2).setCell ⟨g, 3, none⟩ v3).setCell ⟨g, 4, none⟩ v4).setCell ⟨g, 5, none⟩ v5) g #[v0, v1, v2, v3, v4, v5, z6, z7, z8, z9, z10, z11, z12, z13] t := k4.set (i := 5) v5
  have k6 : Blk (((((((w.setCell ⟨g, 0, none⟩ v0).setCell ⟨g, 1, none⟩ v1).setCell ⟨g, 2, none⟩ v2).setCell ⟨g, 3, none⟩ v3).setCell ⟨g, 4, none⟩ v4).setCell ⟨g, 5, none⟩ v5).setCell ⟨g, 6, none⟩ v6) g #[v0, v1, v2, v3, v4, v5, v6, z7, z8, z9, z10, z11, z12, z13] t := k5.set (i := 6) v6
  have k7 : Blk ((((((((w.setCell ⟨g, 0, none⟩ v0).setCell ⟨g, 1, none⟩ v1).setCell ⟨g, 2, none⟩ v2).setCell ⟨g, 3, none⟩ v3).setCell ⟨g, 4, none⟩ v4).setCell ⟨g, 5, none⟩ v5).setCell ⟨g, 6, none⟩ v6).setCell ⟨g, 7, none⟩ v7) g #[v0, v1, v2, v3, v4, v5, v6, v7, z8, z9, z10, z11, z12, z13] t := k6.set (i := 7) v7
  have k8 : Blk (((((((((w.setCell ⟨g, 0, none⟩ v0).setCell ⟨g, 1, none⟩ v1).setCell ⟨g, 2, none⟩ v2).setCell ⟨g, 3, none⟩ v3).setCell ⟨g, 4, none⟩ v4).setCell ⟨g, 5, none⟩ v5).setCell ⟨g, 6, none⟩ v6).setCell ⟨g, 7, none⟩ v7).setCell ⟨g, 8, none⟩ v8) g #[v0, v1, v2, v3, v4, v5, v6, v7, v8, z9, z10, z11, z12, z13] t := k7.set (i := 8) v8
  have k9 : Blk ((((((((((w.setCell ⟨g, 0, none⟩ v0).setCell ⟨g, 1, none⟩ v1).setCell ⟨g, 2, none⟩ v2).setCell ⟨g, 3, none⟩ v3).setCell ⟨g, 4, none⟩ v4).setCell ⟨g, 5, none⟩ v5).setCell ⟨g, 6, none⟩ v6).setCell ⟨g, 7, none⟩ v7).setCell ⟨g, 8, none⟩ v8).setCell ⟨g, 9, none⟩ v9) g #[v0, v1, v2, v3, v4, v5, v6, v7, v8, v9, z10, z11, z12, z13] t := k8.set (i := 9) v9
  have k10 : Blk (((((((((((w.setCell ⟨g, 0, none⟩ v0).setCell ⟨g, 1, none⟩ v1).setCell ⟨g, 2, none⟩ v2).setCell ⟨g, 3, none⟩ v3).setCell ⟨g, 4, none⟩ v4).setCell ⟨g, 5, none⟩ v5).setCell ⟨g, 6, none⟩ v6).setCell ⟨g, 7, none⟩ v7).setCell ⟨g, 8, none⟩ v8).setCell ⟨g, 9, none⟩ v9).setCell ⟨g, 10, none⟩ v10) g #[v0, v1, v2, v3, v4, v5, v6, v7, v8, v9, v10, z11, z12, z13] t := k9.set (i := 10) v10
  have k11 : Blk ((((((((((((w.setCell ⟨g, 0, none⟩ v0).setCell ⟨g, 1, none⟩ v1).setCell ⟨g, 2, none⟩ v2).setCell ⟨g, 3, none⟩ v3).setCell ⟨g, 4, none⟩ v4).setCell ⟨g, 5, none⟩ v5).setCell ⟨g, 6, none⟩ v6).setCell ⟨g, 7, none⟩ v7).setCell ⟨g, 8, none⟩ v8).setCell ⟨g, 9, none⟩ v9).setCell ⟨g, 10, none⟩ v10).setCell ⟨g, 11, none⟩ v11) g #[v0, v1, v2, v3, v4, v5, v6, v7, v8, v9, v10, v11, z12, z13] t := k10.set (i := 11) v11
  have k12 : Blk (((((((((((((w.setCell ⟨g, 0, none⟩ v0).setCell ⟨g, 1, none⟩ v1).setCell ⟨g, 2, none⟩ v2).setCell ⟨g, 3, none⟩ v3).setCell ⟨g, 4, none⟩ v4).setCell ⟨g, 5, none⟩ v5).setCell ⟨g, 6, none⟩ v6).setCell ⟨g, 7, none⟩ v7).setCell ⟨g, 8, none⟩ v8).setCell ⟨g, 9, none⟩ v9).setCell ⟨g, 10, none⟩ v10).setCell ⟨g, 11, none⟩ v11).setCell ⟨g, 12, none⟩ v12) g #[v0, v1, v2, v3, v4, v5, v6, v7, v8, v9, v10, v11, v12, z13] t := k11.set (i := 12) v12
  have k13 : Blk ((((((((((((((w.setCell ⟨g, 0, none⟩ v0).setCell ⟨g, 1, none⟩ v1).setCell ⟨g, 2, none⟩ v2).setCell ⟨g, 3, none⟩ v3).setCell ⟨g, 4, none⟩ v4).setCell ⟨g, 5, none⟩ v5).setCell ⟨g, 6, none⟩ v6).setCell ⟨g, 7, none⟩ v7).setCell ⟨g, 8, none⟩ v8).setCell ⟨g, 9, none⟩ v9).setCell ⟨g, 10, none⟩ v10).setCell ⟨g, 11, none⟩ v11).setCell ⟨g, 12, none⟩ v12).setCell ⟨g, 13, none⟩ v13) g #[v0, v1, v2, v3, v4, v5, v6, v7, v8, v9, v10, v11, v12, v13] t := k12.set (i := 13) v13
  exact k13
theorem fill14_below {B : Nat} {a w : World} {g : Nat} (h : Below B a w) (hg : B ≤ g) (v0 v1 v2 v3 v4 v5 v6 v7 v8 v9 v10 v11 v12 v13 : Value) : Below B a ((((((((((((((w.setCell ⟨g, 0, none⟩ v0).setCell ⟨g, 1, none⟩ v1).setCell ⟨g, 2, none⟩ v2).setCell ⟨g, 3, none⟩ v3).setCell ⟨g, 4, none⟩ v4).setCell ⟨g, 5, none⟩ v5).setCell ⟨g, 6, none⟩ v6).setCell ⟨g, 7, none⟩ v7).setCell ⟨g, 8, none⟩ v8).setCell ⟨g, 9, none⟩ v9).setCell ⟨g, 10, none⟩ v10).setCell ⟨g, 11, none⟩ v11).setCell ⟨g, 12, none⟩ v12).setCell ⟨g, 13, none⟩ v13) := ((((((((((((((h.setCell (p := ⟨g, 0, none⟩) hg v0).setCell (p := ⟨g, 1, none⟩) hg v1).setCell (p := ⟨g, 2, none⟩) hg v2).setCell (p := ⟨g, 3, none⟩) hg v3).setCell (p := ⟨g, 4, none⟩) hg v4).setCell (p := ⟨g, 5, none⟩) hg v5).setCell (p := ⟨g, 6, none⟩) hg v6).setCell (p := ⟨g, 7, none⟩) hg v7).setCell (p := ⟨g, 8, none⟩) hg v8).setCell (p := ⟨g, 9, none⟩) hg v9).setCell (p := ⟨g, 10, none⟩) hg v10).setCell (p := ⟨g, 11, none⟩) hg v11).setCell (p := ⟨g, 12, none⟩) hg v12).setCell (p := ⟨g, 13, none⟩) hg v13)

end Go.Proofs.YthnaanjhmehgcaaGreatDoor

/-
  over.Apply: WHAT AN OVERLAY SAYS OF A HEAD. Conditions: how many pairs there are, how many bytes their texts have; what the listed variables hold.
-/
namespace Go.Proofs.YthnaanjhmehgcaaGreatDoor
open Go.ChangeShapes Go.WideShapes Go.ChangeAt Go.RowKit Go.Lib
set_option linter.unusedVariables false
set_option linter.unusedSimpArgs false
set_option maxRecDepth 20000

theorem fill14_own {w : World} {B g : Nat} {e : TypeId} {size n : Nat} {x : Value} {xs : List Value} (how : w.ownsRow B e size x n xs) (hg : g < B) (v0 v1 v2 v3 v4 v5 v6 v7 v8 v9 v10 v11 v12 v13 : Value) : (World.setCell (World.setCell (World.setCell (World.setCell (World.setCell (World.setCell (World.setCell (World.setCell (World.setCell (World.setCell (World.setCell (World.setCell (World.setCell (World.setCell w ⟨g, 0, none⟩ v0) ⟨g, 1, none⟩ v1) ⟨g, 2, none⟩ v2) ⟨g, 3, none⟩ v3) ⟨g, 4, none⟩ v4) ⟨g, 5, none⟩ v5) ⟨g, 6, none⟩ v6) ⟨g, 7, none⟩ v7) ⟨g, 8, none⟩ v8) ⟨g, 9, none⟩ v9) ⟨g, 10, none⟩ v10) ⟨g, 11, none⟩ v11) ⟨g, 12, none⟩ v12) ⟨g, 13, none⟩ v13).ownsRow B e size x n xs := (ownsRow_setCell_below (a := ⟨g, 13, none⟩) (ownsRow_setCell_below (a := ⟨g, 12, none⟩) (ownsRow_setCell_below (a := ⟨g, 11, none⟩) (ownsRow_setCell_below (a := ⟨g, 10, none⟩) (ownsRow_setCell_below (a := ⟨g, 9, none⟩) (ownsRow_setCell_below (a := ⟨g, 8, none⟩) (ownsRow_setCell_below (a := ⟨g, 7, none⟩) (ownsRow_setCell_below (a := ⟨g, 6, none⟩) (ownsRow_setCell_below (a := ⟨g, 5, none⟩) (ownsRow_setCell_below (a := ⟨g, 4, none⟩) (ownsRow_setCell_below (a := ⟨g, 3, none⟩) (ownsRow_setCell_below (a := ⟨g, 2, none⟩) (ownsRow_setCell_below (a := ⟨g, 1, none⟩) (ownsRow_setCell_below (a := ⟨g, 0, none⟩) how hg v0) hg v1) hg v2) hg v3) hg v4) hg v5) hg v6) hg v7) hg v8) hg v9) hg v10) hg v11) hg v12) hg v13)

set_option maxHeartbeats 8000000 in
theorem apply_ok {w : World} {a : Option Addr} {n c : Nat} {l : PL} (hp : Pys w a n c l) (hz : Sml l) (hn : n ≤ 1000) (hL : Laid w) (hov : ovB none l = true) (h : Hd) (xa : Option Addr) (xn xc : Nat) :
    Calls Tryz.prog 22 #[.agg #[.int .i64 h.kind, .string h.name, .string h.link, .int .i64 h.mode, .int .i64 h.uid, .int .i64 h.gid, .int .i64 h.size, .int .i64 h.sec, .int .i64 h.nano, .string h.user, .string h.group, .int .i64 h.major, .int .i64 h.minor, .slice xa xn xc], .slice a n c] w fun e w' => ∃ a2 m2 c2, e = .returned (.tuple #[.agg ((appH l h).cs (.slice a2 m2 c2)), .int .u8 0]) ∧ Pys w' a2 m2 c2 (appE l []) ∧ Below w.heap.size w w' := by
  obtain ⟨R, hR⟩ : ∃ R, R = appH l h := ⟨_, rfl⟩
  obtain ⟨RE, hRE⟩ : ∃ RE, RE = appE l [] := ⟨_, rfl⟩
  rw [← hR, ← hRE]
  replace hR := hid hR
  replace hRE := hid hRE
  have hl := hid hp.1
  have hz' := hid hz
  have hpc := hp.2.1
  have hpm := hp.2.2.1
  have hb0 := (Below.refl w.heap.size w).alloc (Nat.le_refl _) (.cells #[.int .i64 h.kind, .string h.name, .string h.link, .int .i64 h.mode, .int .i64 h.uid, .int .i64 h.gid, .int .i64 h.size, .int .i64 h.sec, .int .i64 h.nano, .string h.user, .string h.group, .int .i64 h.major, .int .i64 h.minor, .slice xa xn xc] 26)
  have hb1 := hb0.alloc hb0.size (.cells #[.int .i64 0, .string ⟨#[]⟩, .string ⟨#[]⟩, .int .i64 0, .int .i64 0, .int .i64 0, .int .i64 0, .int .i64 0, .int .i64 0, .string ⟨#[]⟩, .string ⟨#[]⟩, .int .i64 0, .int .i64 0, .slice none 0 0] 26)
  have hA : Blk ((w.alloc (.cells #[.int .i64 h.kind, .string h.name, .string h.link, .int .i64 h.mode, .int .i64 h.uid, .int .i64 h.gid, .int .i64 h.size, .int .i64 h.sec, .int .i64 h.nano, .string h.user, .string h.group, .int .i64 h.major, .int .i64 h.minor, .slice xa xn xc] 26)).alloc (.cells #[.int .i64 0, .string ⟨#[]⟩, .string ⟨#[]⟩, .int .i64 0, .int .i64 0, .int .i64 0, .int .i64 0, .int .i64 0, .int .i64 0, .string ⟨#[]⟩, .string ⟨#[]⟩, .int .i64 0, .int .i64 0, .slice none 0 0] 26)) w.heap.size (h.cs (.slice xa xn xc)) 26 := (Blk.new w _ _).below ((Below.refl _ _).alloc (Nat.le_refl _) _)
  have hZ : Blk ((w.alloc (.cells #[.int .i64 h.kind, .string h.name, .string h.link, .int .i64 h.mode, .int .i64 h.uid, .int .i64 h.gid, .int .i64 h.size, .int .i64 h.sec, .int .i64 h.nano, .string h.user, .string h.group, .int .i64 h.major, .int .i64 h.minor, .slice xa xn xc] 26)).alloc (.cells #[.int .i64 0, .string ⟨#[]⟩, .string ⟨#[]⟩, .int .i64 0, .int .i64 0, .int .i64 0, .int .i64 0, .int .i64 0, .int .i64 0, .string ⟨#[]⟩, .string ⟨#[]⟩, .int .i64 0, .int .i64 0, .slice none 0 0] 26)) (w.heap.size + 1) #[.int .i64 0, .string ⟨#[]⟩, .string ⟨#[]⟩, .int .i64 0, .int .i64 0, .int .i64 0, .int .i64 0, .int .i64 0, .int .i64 0, .string ⟨#[]⟩, .string ⟨#[]⟩, .int .i64 0, .int .i64 0, .slice none 0 0] 26 := by
    have := Blk.new (w.alloc (.cells #[.int .i64 h.kind, .string h.name, .string h.link, .int .i64 h.mode, .int .i64 h.uid, .int .i64 h.gid, .int .i64 h.size, .int .i64 h.sec, .int .i64 h.nano, .string h.user, .string h.group, .int .i64 h.major, .int .i64 h.minor, .slice xa xn xc] 26)) #[.int .i64 0, .string ⟨#[]⟩, .string ⟨#[]⟩, .int .i64 0, .int .i64 0, .int .i64 0, .int .i64 0, .int .i64 0, .int .i64 0, .string ⟨#[]⟩, .string ⟨#[]⟩, .int .i64 0, .int .i64 0, .slice none 0 0] 26
    rwa [show (w.alloc (.cells #[.int .i64 h.kind, .string h.name, .string h.link, .int .i64 h.mode, .int .i64 h.uid, .int .i64 h.gid, .int .i64 h.size, .int .i64 h.sec, .int .i64 h.nano, .string h.user, .string h.group, .int .i64 h.major, .int .i64 h.minor, .slice xa xn xc] 26)).heap.size = w.heap.size + 1 by simp] at this
  have hri := oright_ok (hp.below hb1) hz (hL.below hb1)
  rw [hov] at hri
  clear hov hz
  go_enter Tryz.func22, Tryz.ntmps22
  go_wp2_with (go_at_call 21; refine hri.mono ?_; rintro e w1 ⟨rfl, hw1⟩; have hA1 := hA.below hw1; have hZ1 := hZ.below hw1; have hacc := hb1.trans (hw1.mono hb1.size); have y13 := hA1.free 13; (have x13 : w1.cell? ⟨w.heap.size, 13, none⟩ = some (.slice xa xn xc) := hA1.cell 13))
  have hA2 : Blk (w1.setCell ⟨w.heap.size, 13, none⟩ (.slice none 0 0)) w.heap.size (h.cs (.slice none 0 0)) 26 := hA1.set (i := 13) (.slice none 0 0)
  have hZ2 : Blk (w1.setCell ⟨w.heap.size, 13, none⟩ (.slice none 0 0)) (w.heap.size + 1) #[.int .i64 0, .string ⟨#[]⟩, .string ⟨#[]⟩, .int .i64 0, .int .i64 0, .int .i64 0, .int .i64 0, .int .i64 0, .int .i64 0, .string ⟨#[]⟩, .string ⟨#[]⟩, .int .i64 0, .int .i64 0, .slice none 0 0] 26 := by
    unfold Blk
    rw [Below.heap_setCell w1 ⟨w.heap.size, 13, none⟩ _ (w.heap.size + 1) (by simp)]
    exact hZ1
  have hac2 := hacc.setCell (p := ⟨w.heap.size, 13, none⟩) (Nat.le_refl _) (.slice none 0 0)
  have hown0 := World.ownsRow_nil (w1.setCell ⟨w.heap.size, 13, none⟩ (.slice none 0 0)) (w.heap.size + 2) 50 2
  clear hA hZ hA1 hZ1 y13 x13 hacc hw1 hri hb0 hb1
  go_loopw [15] (fun x wr => ∃ (k : Nat) (hd : Hd) (ext : PL) (xv : Value), x = .int .i64 k ∧ k ≤ n ∧ Blk wr w.heap.size (hd.cs xv) 26 ∧ wr.ownsRow (w.heap.size + 2) 50 2 xv ext.length (pcs2 ext) ∧ ext.length ≤ k ∧ Blk wr (w.heap.size + 1) #[.int .i64 0, .string ⟨#[]⟩, .string ⟨#[]⟩, .int .i64 0, .int .i64 0, .int .i64 0, .int .i64 0, .int .i64 0, .int .i64 0, .string ⟨#[]⟩, .string ⟨#[]⟩, .int .i64 0, .int .i64 0, .slice none 0 0] 26 ∧ Below w.heap.size w wr ∧ Hid (R = appH (l.drop k) hd) ∧ Hid (RE = appE (l.drop k) ext)) (fun x _ => n - (RowKit.intOf x).toNat)
  case atStart => exact ⟨0, h, [], _, rfl, by omega, hA2, hown0, by simp, hZ2, hac2, hid hR.out, hid hRE.out⟩
  case round =>
    obtain ⟨k, hd, ext, xv, rfl, hkn, hB, how, hel, hZr, hb, hr, hre⟩ := hrel
    clear hA2 hZ2 hac2 hown0
    have hzl := hZr.lt
    by_cases hlt : k < n
    · obtain ⟨b, off, rfl, hc⟩ := hp.some_of (by omega)
      obtain ⟨ky, vl, hmem, hdr, c0, c1⟩ := (hc.below hb).at k (by rw [hl.out]; exact hlt)
      have hkI : (k : Int) < (n : Int) := by omega
      have hfr := (Below.refl wr.heap.size wr).alloc (Nat.le_refl _) (.cells #[.string ky, .string vl] 50)
      obtain ⟨z1, z2⟩ := hz'.out _ hmem
      simp only at z1 z2
      have hbn := hb.trans (hfr.mono hb.size)
      have hsay := say_ok ky vl (by omega) (hL.below hbn) (by omega) (hB.below hfr) (by omega : w.heap.size < w.heap.size + 2) (by have := hfr.size; omega) (own_below hfr how)
      have E1 := hid (by rw [hr.out, hdr.out, appH] : R = appH (l.drop (k + 1)) (sayH ky vl hd))
      have E2 := hid (by rw [hre.out, hdr.out, appE] : RE = appE (l.drop (k + 1)) (sayE ky vl ext))
      have hsl := sayE_len ky vl ext
      have hzf := hZr.below hfr
      have hal := hfr.size
      clear hr hre hdr hmem
      go_wp2_with (go_at_call 57; refine hsay.mono ?_; rintro e w3 ⟨rfl, ⟨x', hB3, how3⟩, hbel3, hoth3⟩)
      go_roundw
      case rel => exact ⟨k + 1, sayH ky vl hd, sayE ky vl ext, x', by go_num, by omega, hB3, how3, by omega, by (unfold Blk; rw [hoth3 _ (by omega) (by omega)]; exact hzf), hbn.trans (hbel3 _ (Nat.le_refl _)), E1, E2⟩
      case measure => simp [RowKit.intOf]; omega
    · obtain rfl : k = n := by omega
      have hkI : ¬ (k : Int) < (k : Int) := by omega
      have hd0 : l.drop k = [] := List.drop_eq_nil_iff.mpr (by rw [hl.out]; exact Nat.le_refl _)
      have E1 : R = hd := by rw [hr.out, hd0]; rfl
      have E2 : RE = ext := by rw [hre.out, hd0]; rfl
      obtain ⟨aa, cc, hvo, -⟩ := own_pys how rfl
      subst hvo
      clear hr hre hd0 hR hRE
      subst E1 E2
      obtain ⟨b0, b1, b2, b3, b4, b5, b6, b7, b8, b9, b10, b11, b12, b13⟩ := blk14 hB
      obtain ⟨z0, z1, z2, z3, z4, z5, z6, z7, z8, z9, z10, z11, z12, z13⟩ := blk14 hZr
      obtain ⟨f0, f1, f2, f3, f4, f5, f6, f7, f8, f9, f10, f11, f12, f13⟩ := free14 hZr
      go_wp2
      have hF := fill14 hZr (.int .i64 R.kind) (.string R.name) (.string R.link) (.int .i64 R.mode) (.int .i64 R.uid) (.int .i64 R.gid) (.int .i64 R.size) (.int .i64 R.sec) (.int .i64 R.nano) (.string R.user) (.string R.group) (.int .i64 R.major) (.int .i64 R.minor) (.slice aa (List.length RE) cc)
      have hB4 := fill14_below hb (Nat.le_succ w.heap.size) (.int .i64 R.kind) (.string R.name) (.string R.link) (.int .i64 R.mode) (.int .i64 R.uid) (.int .i64 R.gid) (.int .i64 R.size) (.int .i64 R.sec) (.int .i64 R.nano) (.string R.user) (.string R.group) (.int .i64 R.major) (.int .i64 R.minor) (.slice aa (List.length RE) cc)
      have howF := fill14_own how (by omega : w.heap.size + 1 < w.heap.size + 2) (.int .i64 R.kind) (.string R.name) (.string R.link) (.int .i64 R.mode) (.int .i64 R.uid) (.int .i64 R.gid) (.int .i64 R.size) (.int .i64 R.sec) (.int .i64 R.nano) (.string R.user) (.string R.group) (.int .i64 R.major) (.int .i64 R.minor) (.slice aa (List.length RE) cc)
      obtain ⟨aa', cc', heq, hpF⟩ := own_pys howF rfl
      simp only [Value.slice.injEq, true_and] at heq
      obtain ⟨rfl, rfl⟩ := heq
      obtain ⟨g0, g1, g2, g3, g4, g5, g6, g7, g8, g9, g10, g11, g12, g13⟩ := blk14 hF
      clear hF b0 b1 b2 b3 b4 b5 b6 b7 b8 b9 b10 b11 b12 b13 z0 z1 z2 z3 z4 z5 z6 z7 z8 z9 z10 z11 z12 z13 f0 f1 f2 f3 f4 f5 f6 f7 f8 f9 f10 f11 f12 f13
      refine bodyPost_ret (v := .tuple #[.agg #[.int .i64 R.kind, .string R.name, .string R.link, .int .i64 R.mode, .int .i64 R.uid, .int .i64 R.gid, .int .i64 R.size, .int .i64 R.sec, .int .i64 R.nano, .string R.user, .string R.group, .int .i64 R.major, .int .i64 R.minor, .slice aa (List.length RE) cc], .int .u8 0]) ?_ rfl ⟨aa, _, cc, rfl, hpF, hB4⟩
      clear hB4 hpF howF
      generalize (World.setCell (World.setCell (World.setCell (World.setCell (World.setCell (World.setCell (World.setCell (World.setCell (World.setCell (World.setCell (World.setCell (World.setCell (World.setCell (World.setCell wr ⟨w.heap.size + 1, 0, none⟩ (.int .i64 R.kind)) ⟨w.heap.size + 1, 1, none⟩ (.string R.name)) ⟨w.heap.size + 1, 2, none⟩ (.string R.link)) ⟨w.heap.size + 1, 3, none⟩ (.int .i64 R.mode)) ⟨w.heap.size + 1, 4, none⟩ (.int .i64 R.uid)) ⟨w.heap.size + 1, 5, none⟩ (.int .i64 R.gid)) ⟨w.heap.size + 1, 6, none⟩ (.int .i64 R.size)) ⟨w.heap.size + 1, 7, none⟩ (.int .i64 R.sec)) ⟨w.heap.size + 1, 8, none⟩ (.int .i64 R.nano)) ⟨w.heap.size + 1, 9, none⟩ (.string R.user)) ⟨w.heap.size + 1, 10, none⟩ (.string R.group)) ⟨w.heap.size + 1, 11, none⟩ (.int .i64 R.major)) ⟨w.heap.size + 1, 12, none⟩ (.int .i64 R.minor)) ⟨w.heap.size + 1, 13, none⟩ (.slice aa (List.length RE) cc)) = W4 at g0 g1 g2 g3 g4 g5 g6 g7 g8 g9 g10 g11 g12 g13 ⊢
      simp [results, Tryz.results22, go_sem, g0, g1, g2, g3, g4, g5, g6, g7, g8, g9, g10, g11, g12, g13]

set_option maxHeartbeats 8000000 in
theorem apply_not {w : World} {a : Option Addr} {n c : Nat} {l : PL} (hp : Pys w a n c l) (hz : Sml l) (hL : Laid w) (hov : ovB none l = false) (h : Hd) (xa : Option Addr) (xn xc : Nat) :
    Calls Tryz.prog 22 #[.agg #[.int .i64 h.kind, .string h.name, .string h.link, .int .i64 h.mode, .int .i64 h.uid, .int .i64 h.gid, .int .i64 h.size, .int .i64 h.sec, .int .i64 h.nano, .string h.user, .string h.group, .int .i64 h.major, .int .i64 h.minor, .slice xa xn xc], .slice a n c] w fun e w' => e = .returned (.tuple #[.agg #[.int .i64 0, .string ⟨#[]⟩, .string ⟨#[]⟩, .int .i64 0, .int .i64 0, .int .i64 0, .int .i64 0, .int .i64 0, .int .i64 0, .string ⟨#[]⟩, .string ⟨#[]⟩, .int .i64 0, .int .i64 0, .slice none 0 0], .int .u8 15]) ∧ Below w.heap.size w w' := by
  have hb0 := (Below.refl w.heap.size w).alloc (Nat.le_refl _) (.cells #[.int .i64 h.kind, .string h.name, .string h.link, .int .i64 h.mode, .int .i64 h.uid, .int .i64 h.gid, .int .i64 h.size, .int .i64 h.sec, .int .i64 h.nano, .string h.user, .string h.group, .int .i64 h.major, .int .i64 h.minor, .slice xa xn xc] 26)
  have hb1 := hb0.alloc hb0.size (.cells #[.int .i64 0, .string ⟨#[]⟩, .string ⟨#[]⟩, .int .i64 0, .int .i64 0, .int .i64 0, .int .i64 0, .int .i64 0, .int .i64 0, .string ⟨#[]⟩, .string ⟨#[]⟩, .int .i64 0, .int .i64 0, .slice none 0 0] 26)
  have hZ : Blk ((w.alloc (.cells #[.int .i64 h.kind, .string h.name, .string h.link, .int .i64 h.mode, .int .i64 h.uid, .int .i64 h.gid, .int .i64 h.size, .int .i64 h.sec, .int .i64 h.nano, .string h.user, .string h.group, .int .i64 h.major, .int .i64 h.minor, .slice xa xn xc] 26)).alloc (.cells #[.int .i64 0, .string ⟨#[]⟩, .string ⟨#[]⟩, .int .i64 0, .int .i64 0, .int .i64 0, .int .i64 0, .int .i64 0, .int .i64 0, .string ⟨#[]⟩, .string ⟨#[]⟩, .int .i64 0, .int .i64 0, .slice none 0 0] 26)) (w.heap.size + 1) #[.int .i64 0, .string ⟨#[]⟩, .string ⟨#[]⟩, .int .i64 0, .int .i64 0, .int .i64 0, .int .i64 0, .int .i64 0, .int .i64 0, .string ⟨#[]⟩, .string ⟨#[]⟩, .int .i64 0, .int .i64 0, .slice none 0 0] 26 := by
    have := Blk.new (w.alloc (.cells #[.int .i64 h.kind, .string h.name, .string h.link, .int .i64 h.mode, .int .i64 h.uid, .int .i64 h.gid, .int .i64 h.size, .int .i64 h.sec, .int .i64 h.nano, .string h.user, .string h.group, .int .i64 h.major, .int .i64 h.minor, .slice xa xn xc] 26)) #[.int .i64 0, .string ⟨#[]⟩, .string ⟨#[]⟩, .int .i64 0, .int .i64 0, .int .i64 0, .int .i64 0, .int .i64 0, .int .i64 0, .string ⟨#[]⟩, .string ⟨#[]⟩, .int .i64 0, .int .i64 0, .slice none 0 0] 26
    rwa [show (w.alloc (.cells #[.int .i64 h.kind, .string h.name, .string h.link, .int .i64 h.mode, .int .i64 h.uid, .int .i64 h.gid, .int .i64 h.size, .int .i64 h.sec, .int .i64 h.nano, .string h.user, .string h.group, .int .i64 h.major, .int .i64 h.minor, .slice xa xn xc] 26)).heap.size = w.heap.size + 1 by simp] at this
  have hri := oright_ok (hp.below hb1) hz (hL.below hb1)
  rw [hov] at hri
  clear hov hz
  go_enter Tryz.func22, Tryz.ntmps22
  go_wp2_with (go_at_call 21; refine hri.mono ?_; rintro e w1 ⟨rfl, hw1⟩; have hZ1 := hZ.below hw1; have hacc := hb1.trans (hw1.mono hb1.size); obtain ⟨z0, z1, z2, z3, z4, z5, z6, z7, z8, z9, z10, z11, z12, z13⟩ := blk14 hZ1; obtain ⟨f0, f1, f2, f3, f4, f5, f6, f7, f8, f9, f10, f11, f12, f13⟩ := free14 hZ1)
  have hF := fill14 hZ1 (.int .i64 0) (.string ⟨#[]⟩) (.string ⟨#[]⟩) (.int .i64 0) (.int .i64 0) (.int .i64 0) (.int .i64 0) (.int .i64 0) (.int .i64 0) (.string ⟨#[]⟩) (.string ⟨#[]⟩) (.int .i64 0) (.int .i64 0) (.slice none 0 0)
  have hB4 := fill14_below hacc (Nat.le_succ w.heap.size) (.int .i64 0) (.string ⟨#[]⟩) (.string ⟨#[]⟩) (.int .i64 0) (.int .i64 0) (.int .i64 0) (.int .i64 0) (.int .i64 0) (.int .i64 0) (.string ⟨#[]⟩) (.string ⟨#[]⟩) (.int .i64 0) (.int .i64 0) (.slice none 0 0)
  obtain ⟨g0, g1, g2, g3, g4, g5, g6, g7, g8, g9, g10, g11, g12, g13⟩ := blk14 hF
  clear hF z0 z1 z2 z3 z4 z5 z6 z7 z8 z9 z10 z11 z12 z13 f0 f1 f2 f3 f4 f5 f6 f7 f8 f9 f10 f11 f12 f13
  refine bodyPost_ret (v := .tuple #[.agg #[.int .i64 0, .string ⟨#[]⟩, .string ⟨#[]⟩, .int .i64 0, .int .i64 0, .int .i64 0, .int .i64 0, .int .i64 0, .int .i64 0, .string ⟨#[]⟩, .string ⟨#[]⟩, .int .i64 0, .int .i64 0, .slice none 0 0], .int .u8 15]) ?_ rfl ⟨rfl, hB4⟩
  clear hB4
  generalize (World.setCell (World.setCell (World.setCell (World.setCell (World.setCell (World.setCell (World.setCell (World.setCell (World.setCell (World.setCell (World.setCell (World.setCell (World.setCell (World.setCell w1 ⟨w.heap.size + 1, 0, none⟩ (.int .i64 0)) ⟨w.heap.size + 1, 1, none⟩ (.string ⟨#[]⟩)) ⟨w.heap.size + 1, 2, none⟩ (.string ⟨#[]⟩)) ⟨w.heap.size + 1, 3, none⟩ (.int .i64 0)) ⟨w.heap.size + 1, 4, none⟩ (.int .i64 0)) ⟨w.heap.size + 1, 5, none⟩ (.int .i64 0)) ⟨w.heap.size + 1, 6, none⟩ (.int .i64 0)) ⟨w.heap.size + 1, 7, none⟩ (.int .i64 0)) ⟨w.heap.size + 1, 8, none⟩ (.int .i64 0)) ⟨w.heap.size + 1, 9, none⟩ (.string ⟨#[]⟩)) ⟨w.heap.size + 1, 10, none⟩ (.string ⟨#[]⟩)) ⟨w.heap.size + 1, 11, none⟩ (.int .i64 0)) ⟨w.heap.size + 1, 12, none⟩ (.int .i64 0)) ⟨w.heap.size + 1, 13, none⟩ (.slice none 0 0)) = W4 at g0 g1 g2 g3 g4 g5 g6 g7 g8 g9 g10 g11 g12 g13 ⊢
  simp [results, Tryz.results22, go_sem, g0, g1, g2, g3, g4, g5, g6, g7, g8, g9, g10, g11, g12, g13]

end Go.Proofs.YthnaanjhmehgcaaGreatDoor
