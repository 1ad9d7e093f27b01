/-
  over.say: WHAT A PAIR SAYS IS PUT INTO A HEAD. Conditions: how many bytes a text may have; what the listed variables hold.
-/
import Derived.Test.YtkocnbdakfhpaaaGreatDoorHdp
namespace Go.Proofs.YtkocnbdakfhpaaaGreatDoor
open Go.ChangeShapes Go.WideShapes Go.ChangeAt Go.RowKit Go.Lib
set_option linter.unusedVariables false
set_option linter.unusedSimpArgs false
set_option maxRecDepth 20000

set_option maxHeartbeats 2000000 in
theorem say_0 (k v : ByteArray) (ki : bs k = [112, 97, 116, 104]) {w : World} {g B : Nat} {h : Hd} {x : Value} {ext : PL} (hH : Blk w g (h.cs x) 46) (hg : g < B) (hB : B ≤ w.heap.size) (hx : w.ownsRow B 23 2 x ext.length (pcs2 ext)) :
    Calls Tryz.prog 46 #[.pointer (some ⟨g, 0, none⟩), .agg #[.string k, .string v]] w fun e w' => e = .returned (.tuple #[]) ∧ Sd w w' B g (sayH k v h) (sayE k v ext) := by
  have hlt := hH.lt
  have hA : Blk (w.alloc (.cells #[.string k, .string v] 23)) g (h.cs x) 46 := hH.below ((Below.refl w.heap.size w).alloc (Nat.le_refl _) _)
  have y1 := hA.free 1
  have x1 : (w.alloc (.cells #[.string k, .string v] 23)).cell? ⟨g, 1, none⟩ = some (.string h.name) := hA.cell 1
  have e0 : (k.toList == [112, 97, 116, 104]) = true := by rw [str_is, ki]; decide
  have hS : Sd w ((w.setCell ⟨g, 1, none⟩ (.string v)).alloc (.cells #[.string k, .string v] 23)) B g (sayH k v h) (sayE k v ext) := by
    have hk : whichK (bs k) = 0 := by rw [ki]; decide
    rw [show sayE k v ext = ext by simp [sayE, hk]]
    rw [show sayH k v h = { h with name := v } by simp [sayH, hk]]
    exact (Sd.store (Below.refl _ w) hH hg hB hx 1 (.string v) rfl).alloc (by simp [World.setCell]; omega) hg _
  clear hH hA hx ki
  go_enter Tryz.func46, Tryz.ntmps46
  go_wp2
  exact bodyPost_end (v := .tuple #[]) (by simp [results, Tryz.results46]) rfl ⟨rfl, hS⟩

set_option maxHeartbeats 2000000 in
theorem say_1 (k v : ByteArray) (ki : bs k = [108, 105, 110, 107, 112, 97, 116, 104]) {w : World} {g B : Nat} {h : Hd} {x : Value} {ext : PL} (hH : Blk w g (h.cs x) 46) (hg : g < B) (hB : B ≤ w.heap.size) (hx : w.ownsRow B 23 2 x ext.length (pcs2 ext)) :
    Calls Tryz.prog 46 #[.pointer (some ⟨g, 0, none⟩), .agg #[.string k, .string v]] w fun e w' => e = .returned (.tuple #[]) ∧ Sd w w' B g (sayH k v h) (sayE k v ext) := by
  have hlt := hH.lt
  have hA : Blk (w.alloc (.cells #[.string k, .string v] 23)) g (h.cs x) 46 := hH.below ((Below.refl w.heap.size w).alloc (Nat.le_refl _) _)
  have y1 := hA.free 2
  have x1 : (w.alloc (.cells #[.string k, .string v] 23)).cell? ⟨g, 2, none⟩ = some (.string h.link) := hA.cell 2
  have e0 : (k.toList == [112, 97, 116, 104]) = false := by rw [str_is, ki]; decide
  have e1 : (k.toList == [108, 105, 110, 107, 112, 97, 116, 104]) = true := by rw [str_is, ki]; decide
  have hS : Sd w ((w.setCell ⟨g, 2, none⟩ (.string v)).alloc (.cells #[.string k, .string v] 23)) B g (sayH k v h) (sayE k v ext) := by
    have hk : whichK (bs k) = 1 := by rw [ki]; decide
    rw [show sayE k v ext = ext by simp [sayE, hk]]
    rw [show sayH k v h = { h with link := v } by simp [sayH, hk]]
    exact (Sd.store (Below.refl _ w) hH hg hB hx 2 (.string v) rfl).alloc (by simp [World.setCell]; omega) hg _
  clear hH hA hx ki
  go_enter Tryz.func46, Tryz.ntmps46
  go_wp2
  exact bodyPost_end (v := .tuple #[]) (by simp [results, Tryz.results46]) rfl ⟨rfl, hS⟩

set_option maxHeartbeats 2000000 in
theorem say_2 (k v : ByteArray) (ki : bs k = [117, 110, 97, 109, 101]) {w : World} {g B : Nat} {h : Hd} {x : Value} {ext : PL} (hH : Blk w g (h.cs x) 46) (hg : g < B) (hB : B ≤ w.heap.size) (hx : w.ownsRow B 23 2 x ext.length (pcs2 ext)) :
    Calls Tryz.prog 46 #[.pointer (some ⟨g, 0, none⟩), .agg #[.string k, .string v]] w fun e w' => e = .returned (.tuple #[]) ∧ Sd w w' B g (sayH k v h) (sayE k v ext) := by
  have hlt := hH.lt
  have hA : Blk (w.alloc (.cells #[.string k, .string v] 23)) g (h.cs x) 46 := hH.below ((Below.refl w.heap.size w).alloc (Nat.le_refl _) _)
  have y1 := hA.free 9
  have x1 : (w.alloc (.cells #[.string k, .string v] 23)).cell? ⟨g, 9, none⟩ = some (.string h.user) := hA.cell 9
  have e0 : (k.toList == [112, 97, 116, 104]) = false := by rw [str_is, ki]; decide
  have e1 : (k.toList == [108, 105, 110, 107, 112, 97, 116, 104]) = false := by rw [str_is, ki]; decide
  have e2 : (k.toList == [117, 110, 97, 109, 101]) = true := by rw [str_is, ki]; decide
  have hS : Sd w ((w.setCell ⟨g, 9, none⟩ (.string v)).alloc (.cells #[.string k, .string v] 23)) B g (sayH k v h) (sayE k v ext) := by
    have hk : whichK (bs k) = 2 := by rw [ki]; decide
    rw [show sayE k v ext = ext by simp [sayE, hk]]
    rw [show sayH k v h = { h with user := v } by simp [sayH, hk]]
    exact (Sd.store (Below.refl _ w) hH hg hB hx 9 (.string v) rfl).alloc (by simp [World.setCell]; omega) hg _
  clear hH hA hx ki
  go_enter Tryz.func46, Tryz.ntmps46
  go_wp2
  exact bodyPost_end (v := .tuple #[]) (by simp [results, Tryz.results46]) rfl ⟨rfl, hS⟩

set_option maxHeartbeats 2000000 in
theorem say_3 (k v : ByteArray) (ki : bs k = [103, 110, 97, 109, 101]) {w : World} {g B : Nat} {h : Hd} {x : Value} {ext : PL} (hH : Blk w g (h.cs x) 46) (hg : g < B) (hB : B ≤ w.heap.size) (hx : w.ownsRow B 23 2 x ext.length (pcs2 ext)) :
    Calls Tryz.prog 46 #[.pointer (some ⟨g, 0, none⟩), .agg #[.string k, .string v]] w fun e w' => e = .returned (.tuple #[]) ∧ Sd w w' B g (sayH k v h) (sayE k v ext) := by
  have hlt := hH.lt
  have hA : Blk (w.alloc (.cells #[.string k, .string v] 23)) g (h.cs x) 46 := hH.below ((Below.refl w.heap.size w).alloc (Nat.le_refl _) _)
  have y1 := hA.free 10
  have x1 : (w.alloc (.cells #[.string k, .string v] 23)).cell? ⟨g, 10, none⟩ = some (.string h.group) := hA.cell 10
  have e0 : (k.toList == [112, 97, 116, 104]) = false := by rw [str_is, ki]; decide
  have e1 : (k.toList == [108, 105, 110, 107, 112, 97, 116, 104]) = false := by rw [str_is, ki]; decide
  have e2 : (k.toList == [117, 110, 97, 109, 101]) = false := by rw [str_is, ki]; decide
  have e3 : (k.toList == [103, 110, 97, 109, 101]) = true := by rw [str_is, ki]; decide
  have hS : Sd w ((w.setCell ⟨g, 10, none⟩ (.string v)).alloc (.cells #[.string k, .string v] 23)) B g (sayH k v h) (sayE k v ext) := by
    have hk : whichK (bs k) = 3 := by rw [ki]; decide
    rw [show sayE k v ext = ext by simp [sayE, hk]]
    rw [show sayH k v h = { h with group := v } by simp [sayH, hk]]
    exact (Sd.store (Below.refl _ w) hH hg hB hx 10 (.string v) rfl).alloc (by simp [World.setCell]; omega) hg _
  clear hH hA hx ki
  go_enter Tryz.func46, Tryz.ntmps46
  go_wp2
  exact bodyPost_end (v := .tuple #[]) (by simp [results, Tryz.results46]) rfl ⟨rfl, hS⟩

set_option maxHeartbeats 2000000 in
theorem say_4 (k v : ByteArray) (hv : v.size ≤ 281474976710656) (ki : bs k = [117, 105, 100]) {w : World} (hL : Laid w) {g B : Nat} {h : Hd} {x : Value} {ext : PL} (hH : Blk w g (h.cs x) 46) (hg : g < B) (hB : B ≤ w.heap.size) (hx : w.ownsRow B 23 2 x ext.length (pcs2 ext)) :
    Calls Tryz.prog 46 #[.pointer (some ⟨g, 0, none⟩), .agg #[.string k, .string v]] w fun e w' => e = .returned (.tuple #[]) ∧ Sd w w' B g (sayH k v h) (sayE k v ext) := by
  have hlt := hH.lt
  have hfr := (Below.refl w.heap.size w).alloc (Nat.le_refl _) (.cells #[.string k, .string v] 23)
  have hA : Blk (w.alloc (.cells #[.string k, .string v] 23)) g (h.cs x) 46 := hH.below hfr
  have e0 : (k.toList == [112, 97, 116, 104]) = false := by rw [str_is, ki]; decide
  have e1 : (k.toList == [108, 105, 110, 107, 112, 97, 116, 104]) = false := by rw [str_is, ki]; decide
  have e2 : (k.toList == [117, 110, 97, 109, 101]) = false := by rw [str_is, ki]; decide
  have e3 : (k.toList == [103, 110, 97, 109, 101]) = false := by rw [str_is, ki]; decide
  have e4 : (k.toList == [117, 105, 100]) = true := by rw [str_is, ki]; decide
  obtain ⟨c0, hc0⟩ : ∃ c : Int, c = match nat63 (bs v) with | some u => if u ≤ 9223372036854775807 then 0 else 15 | none => 15 := ⟨_, rfl⟩
  have hnum := number_ok v hv _ (hL.below hfr) (numL (bs v)) c0 rfl hc0
  have hS : ∀ w1, Below (w.alloc (.cells #[.string k, .string v] 23)).heap.size (w.alloc (.cells #[.string k, .string v] 23)) w1 → Sd w (w1.setCell ⟨g, 4, none⟩ (.int .i64 (numL (bs v)))) B g (sayH k v h) (sayE k v ext) := fun w1 hb => by
    have hk : whichK (bs k) = 4 := by rw [ki]; decide
    rw [show sayE k v ext = ext by simp [sayE, hk]]
    rw [show sayH k v h = { h with uid := numL (bs v) } by simp [sayH, hk]]
    exact Sd.store (hfr.trans (hb.mono hfr.size)) hH hg hB hx 4 _ rfl
  clear hH hx ki hc0 hL
  go_enter Tryz.func46, Tryz.ntmps46
  go_wp2_with (go_at_call 51; refine hnum.mono ?_; rintro e w1 ⟨rfl, hb1⟩; have hA1 := hA.below hb1; have y1 := hA1.free 4; (have x1 : w1.cell? ⟨g, 4, none⟩ = some (.int .i64 h.uid) := hA1.cell 4); have hS1 := hS w1 hb1; clear hS)
  exact bodyPost_end (v := .tuple #[]) (by simp [results, Tryz.results46]) rfl ⟨rfl, hS1⟩

set_option maxHeartbeats 2000000 in
theorem say_5 (k v : ByteArray) (hv : v.size ≤ 281474976710656) (ki : bs k = [103, 105, 100]) {w : World} (hL : Laid w) {g B : Nat} {h : Hd} {x : Value} {ext : PL} (hH : Blk w g (h.cs x) 46) (hg : g < B) (hB : B ≤ w.heap.size) (hx : w.ownsRow B 23 2 x ext.length (pcs2 ext)) :
    Calls Tryz.prog 46 #[.pointer (some ⟨g, 0, none⟩), .agg #[.string k, .string v]] w fun e w' => e = .returned (.tuple #[]) ∧ Sd w w' B g (sayH k v h) (sayE k v ext) := by
  have hlt := hH.lt
  have hfr := (Below.refl w.heap.size w).alloc (Nat.le_refl _) (.cells #[.string k, .string v] 23)
  have hA : Blk (w.alloc (.cells #[.string k, .string v] 23)) g (h.cs x) 46 := hH.below hfr
  have e0 : (k.toList == [112, 97, 116, 104]) = false := by rw [str_is, ki]; decide
  have e1 : (k.toList == [108, 105, 110, 107, 112, 97, 116, 104]) = false := by rw [str_is, ki]; decide
  have e2 : (k.toList == [117, 110, 97, 109, 101]) = false := by rw [str_is, ki]; decide
  have e3 : (k.toList == [103, 110, 97, 109, 101]) = false := by rw [str_is, ki]; decide
  have e4 : (k.toList == [117, 105, 100]) = false := by rw [str_is, ki]; decide
  have e5 : (k.toList == [103, 105, 100]) = true := by rw [str_is, ki]; decide
  obtain ⟨c0, hc0⟩ : ∃ c : Int, c = match nat63 (bs v) with | some u => if u ≤ 9223372036854775807 then 0 else 15 | none => 15 := ⟨_, rfl⟩
  have hnum := number_ok v hv _ (hL.below hfr) (numL (bs v)) c0 rfl hc0
  have hS : ∀ w1, Below (w.alloc (.cells #[.string k, .string v] 23)).heap.size (w.alloc (.cells #[.string k, .string v] 23)) w1 → Sd w (w1.setCell ⟨g, 5, none⟩ (.int .i64 (numL (bs v)))) B g (sayH k v h) (sayE k v ext) := fun w1 hb => by
    have hk : whichK (bs k) = 5 := by rw [ki]; decide
    rw [show sayE k v ext = ext by simp [sayE, hk]]
    rw [show sayH k v h = { h with gid := numL (bs v) } by simp [sayH, hk]]
    exact Sd.store (hfr.trans (hb.mono hfr.size)) hH hg hB hx 5 _ rfl
  clear hH hx ki hc0 hL
  go_enter Tryz.func46, Tryz.ntmps46
  go_wp2_with (go_at_call 51; refine hnum.mono ?_; rintro e w1 ⟨rfl, hb1⟩; have hA1 := hA.below hb1; have y1 := hA1.free 5; (have x1 : w1.cell? ⟨g, 5, none⟩ = some (.int .i64 h.gid) := hA1.cell 5); have hS1 := hS w1 hb1; clear hS)
  exact bodyPost_end (v := .tuple #[]) (by simp [results, Tryz.results46]) rfl ⟨rfl, hS1⟩

set_option maxHeartbeats 2000000 in
theorem say_6 (k v : ByteArray) (hv : v.size ≤ 281474976710656) (ki : bs k = [115, 105, 122, 101]) {w : World} (hL : Laid w) {g B : Nat} {h : Hd} {x : Value} {ext : PL} (hH : Blk w g (h.cs x) 46) (hg : g < B) (hB : B ≤ w.heap.size) (hx : w.ownsRow B 23 2 x ext.length (pcs2 ext)) :
    Calls Tryz.prog 46 #[.pointer (some ⟨g, 0, none⟩), .agg #[.string k, .string v]] w fun e w' => e = .returned (.tuple #[]) ∧ Sd w w' B g (sayH k v h) (sayE k v ext) := by
  have hlt := hH.lt
  have hfr := (Below.refl w.heap.size w).alloc (Nat.le_refl _) (.cells #[.string k, .string v] 23)
  have hA : Blk (w.alloc (.cells #[.string k, .string v] 23)) g (h.cs x) 46 := hH.below hfr
  have e0 : (k.toList == [112, 97, 116, 104]) = false := by rw [str_is, ki]; decide
  have e1 : (k.toList == [108, 105, 110, 107, 112, 97, 116, 104]) = false := by rw [str_is, ki]; decide
  have e2 : (k.toList == [117, 110, 97, 109, 101]) = false := by rw [str_is, ki]; decide
  have e3 : (k.toList == [103, 110, 97, 109, 101]) = false := by rw [str_is, ki]; decide
  have e4 : (k.toList == [117, 105, 100]) = false := by rw [str_is, ki]; decide
  have e5 : (k.toList == [103, 105, 100]) = false := by rw [str_is, ki]; decide
  have e6 : (k.toList == [115, 105, 122, 101]) = true := by rw [str_is, ki]; decide
  obtain ⟨c0, hc0⟩ : ∃ c : Int, c = match nat63 (bs v) with | some u => if u ≤ 9223372036854775807 then 0 else 15 | none => 15 := ⟨_, rfl⟩
  have hnum := number_ok v hv _ (hL.below hfr) (numL (bs v)) c0 rfl hc0
  have hS : ∀ w1, Below (w.alloc (.cells #[.string k, .string v] 23)).heap.size (w.alloc (.cells #[.string k, .string v] 23)) w1 → Sd w (w1.setCell ⟨g, 6, none⟩ (.int .i64 (numL (bs v)))) B g (sayH k v h) (sayE k v ext) := fun w1 hb => by
    have hk : whichK (bs k) = 6 := by rw [ki]; decide
    rw [show sayE k v ext = ext by simp [sayE, hk]]
    rw [show sayH k v h = { h with size := numL (bs v) } by simp [sayH, hk]]
    exact Sd.store (hfr.trans (hb.mono hfr.size)) hH hg hB hx 6 _ rfl
  clear hH hx ki hc0 hL
  go_enter Tryz.func46, Tryz.ntmps46
  go_wp2_with (go_at_call 51; refine hnum.mono ?_; rintro e w1 ⟨rfl, hb1⟩; have hA1 := hA.below hb1; have y1 := hA1.free 6; (have x1 : w1.cell? ⟨g, 6, none⟩ = some (.int .i64 h.size) := hA1.cell 6); have hS1 := hS w1 hb1; clear hS)
  exact bodyPost_end (v := .tuple #[]) (by simp [results, Tryz.results46]) rfl ⟨rfl, hS1⟩

set_option maxHeartbeats 2000000 in
theorem say_7 (k v : ByteArray) (hv : v.size ≤ 281474976710656) (ki : bs k = [109, 116, 105, 109, 101]) {w : World} (hL : Laid w) {g B : Nat} {h : Hd} {x : Value} {ext : PL} (hH : Blk w g (h.cs x) 46) (hg : g < B) (hB : B ≤ w.heap.size) (hx : w.ownsRow B 23 2 x ext.length (pcs2 ext)) :
    Calls Tryz.prog 46 #[.pointer (some ⟨g, 0, none⟩), .agg #[.string k, .string v]] w fun e w' => e = .returned (.tuple #[]) ∧ Sd w w' B g (sayH k v h) (sayE k v ext) := by
  have hlt := hH.lt
  have hfr := (Below.refl w.heap.size w).alloc (Nat.le_refl _) (.cells #[.string k, .string v] 23)
  have hA : Blk (w.alloc (.cells #[.string k, .string v] 23)) g (h.cs x) 46 := hH.below hfr
  have e0 : (k.toList == [112, 97, 116, 104]) = false := by rw [str_is, ki]; decide
  have e1 : (k.toList == [108, 105, 110, 107, 112, 97, 116, 104]) = false := by rw [str_is, ki]; decide
  have e2 : (k.toList == [117, 110, 97, 109, 101]) = false := by rw [str_is, ki]; decide
  have e3 : (k.toList == [103, 110, 97, 109, 101]) = false := by rw [str_is, ki]; decide
  have e4 : (k.toList == [117, 105, 100]) = false := by rw [str_is, ki]; decide
  have e5 : (k.toList == [103, 105, 100]) = false := by rw [str_is, ki]; decide
  have e6 : (k.toList == [115, 105, 122, 101]) = false := by rw [str_is, ki]; decide
  have e7 : (k.toList == [109, 116, 105, 109, 101]) = true := by rw [str_is, ki]; decide
  obtain ⟨c0, hc0⟩ := tim_or (bs v)
  have hnum := time_ok v hv _ (hL.below hfr) (timA (bs v)) (timB (bs v)) c0 hc0
  have hS : ∀ w1, Below (w.alloc (.cells #[.string k, .string v] 23)).heap.size (w.alloc (.cells #[.string k, .string v] 23)) w1 → Sd w ((w1.setCell ⟨g, 7, none⟩ (.int .i64 (timA (bs v)))).setCell ⟨g, 8, none⟩ (.int .i64 (timB (bs v)))) B g (sayH k v h) (sayE k v ext) := fun w1 hb => by
    have hk : whichK (bs k) = 7 := by rw [ki]; decide
    rw [show sayE k v ext = ext by simp [sayE, hk]]
    rw [show sayH k v h = { h with sec := timA (bs v), nano := timB (bs v) } by simp [sayH, hk]]
    exact Sd.store2 (hfr.trans (hb.mono hfr.size)) hH hg hB hx _ _
  clear hH hx ki hc0 hL
  go_enter Tryz.func46, Tryz.ntmps46
  go_wp2_with (go_at_call 52; refine hnum.mono ?_; rintro e w1 ⟨rfl, hb1⟩; have hA1 := hA.below hb1; have y7 := hA1.free 7; have y8 := hA1.free 8; (have x7 : w1.cell? ⟨g, 7, none⟩ = some (.int .i64 h.sec) := hA1.cell 7); (have x8 : w1.cell? ⟨g, 8, none⟩ = some (.int .i64 h.nano) := hA1.cell 8); have hS1 := hS w1 hb1; clear hS)
  exact bodyPost_end (v := .tuple #[]) (by simp [results, Tryz.results46]) rfl ⟨rfl, hS1⟩

set_option maxHeartbeats 4000000 in
theorem say_x (k v : ByteArray) (ki : whichK (bs k) = -1) {w : World} {g B : Nat} {h : Hd} {x : Value} {ext : PL} (hle : ext.length ≤ 1000) (hH : Blk w g (h.cs x) 46) (hg : g < B) (hB : B ≤ w.heap.size) (hx : w.ownsRow B 23 2 x ext.length (pcs2 ext)) :
    Calls Tryz.prog 46 #[.pointer (some ⟨g, 0, none⟩), .agg #[.string k, .string v]] w fun e w' => e = .returned (.tuple #[]) ∧ Sd w w' B g (sayH k v h) (sayE k v ext) := by
  have hlt := hH.lt
  have hfr := (Below.refl w.heap.size w).alloc (Nat.le_refl _) (.cells #[.string k, .string v] 23)
  have hA : Blk (w.alloc (.cells #[.string k, .string v] 23)) g (h.cs x) 46 := hH.below hfr
  obtain ⟨i0, hi0, hz0, hz1, hz2⟩ := info_parts infoPair
  have hnw := pair_new (w.alloc (.cells #[.string k, .string v] 23)).drew k v
  rw [show ((w.alloc (.cells #[.string k, .string v] 23)).drew).heap.size = w.heap.size + 1 by simp] at hnw
  have hbW : Below w.heap.size w ((w.alloc (.cells #[.string k, .string v] 23)).drew.alloc (.cells #[.string k, .string v] 23)) := hfr.drew.alloc (by simp) _
  obtain ⟨v', w', hr, hown', hgr, -⟩ := run_append_own (P := Tryz.prog) ((w.alloc (.cells #[.string k, .string v] 23)).drew.alloc (.cells #[.string k, .string v] 23)) B 26 26 23 i0 (.agg #[.string ⟨#[]⟩, .string ⟨#[]⟩]) 2 32 Tryz.underlying26 hi0 hz0 hz1 hz2 rfl (by decide) x ext.length (pcs2 ext) (own_below hbW hx) ⟨w.heap.size + 1, 0, none⟩ 1 1 [.string k, .string v] rfl hnw (by intro z hz; simp at hz; rcases hz with rfl | rfl <;> rfl) (by unfold maxLen; omega) (by omega) (by have := hbW.size; omega)
  obtain ⟨hB', ⟨g', cap, rfl⟩, hS'⟩ := Sd.more hbW hH hg hB hx hown' hgr
  have x13 : (w.alloc (.cells #[.string k, .string v] 23)).cell? ⟨g, 13, none⟩ = some x := hA.cell 13
  have y13 := hB'.free 13
  have z13 : w'.cell? ⟨g, 13, none⟩ = some x := hB'.cell 13
  have hS : Sd w (w'.setCell ⟨g, 13, none⟩ (.slice (some ⟨g', 0, none⟩) (ext.length + 1) cap)) B g (sayH k v h) (sayE k v ext) := by
    rw [show sayE k v ext = ext ++ [(k, v)] by simp [sayE, ki], show sayH k v h = h by simp [sayH, ki]]
    exact hS'
  have e0 : (k.toList == [112, 97, 116, 104]) = false := by rw [str_is, decide_eq_false (fun e => by rw [e] at ki; exact absurd ki (by decide))]
  have e1 : (k.toList == [108, 105, 110, 107, 112, 97, 116, 104]) = false := by rw [str_is, decide_eq_false (fun e => by rw [e] at ki; exact absurd ki (by decide))]
  have e2 : (k.toList == [117, 110, 97, 109, 101]) = false := by rw [str_is, decide_eq_false (fun e => by rw [e] at ki; exact absurd ki (by decide))]
  have e3 : (k.toList == [103, 110, 97, 109, 101]) = false := by rw [str_is, decide_eq_false (fun e => by rw [e] at ki; exact absurd ki (by decide))]
  have e4 : (k.toList == [117, 105, 100]) = false := by rw [str_is, decide_eq_false (fun e => by rw [e] at ki; exact absurd ki (by decide))]
  have e5 : (k.toList == [103, 105, 100]) = false := by rw [str_is, decide_eq_false (fun e => by rw [e] at ki; exact absurd ki (by decide))]
  have e6 : (k.toList == [115, 105, 122, 101]) = false := by rw [str_is, decide_eq_false (fun e => by rw [e] at ki; exact absurd ki (by decide))]
  have e7 : (k.toList == [109, 116, 105, 109, 101]) = false := by rw [str_is, decide_eq_false (fun e => by rw [e] at ki; exact absurd ki (by decide))]
  clear hH hA hx ki hS' hown' hgr hB' hbW hfr hnw
  go_enter Tryz.func46, Tryz.ntmps46
  go_wp2_with fail
  go_region_law (refine step_append_run rfl (.tmp 10) (.tmp 12) 26 26 rfl _ _ (by simp [Act.eval, Act.put]) (by simp [Act.eval, Act.put]) hr ?_)
  all_goals go_wp2
  all_goals exact bodyPost_end (v := .tuple #[]) (by simp [results, Tryz.results46]) rfl ⟨rfl, hS⟩

theorem say_ok (k v : ByteArray) (hv : v.size ≤ 281474976710656) {w : World} (hL : Laid w) {g B : Nat} {h : Hd} {x : Value} {ext : PL} (hle : ext.length ≤ 1000) (hH : Blk w g (h.cs x) 46) (hg : g < B) (hB : B ≤ w.heap.size) (hx : w.ownsRow B 23 2 x ext.length (pcs2 ext)) :
    Calls Tryz.prog 46 #[.pointer (some ⟨g, 0, none⟩), .agg #[.string k, .string v]] w fun e w' => e = .returned (.tuple #[]) ∧ Sd w w' B g (sayH k v h) (sayE k v ext) := by
  by_cases k0 : bs k = [112, 97, 116, 104]
  · exact say_0 k v k0 hH hg hB hx
  by_cases k1 : bs k = [108, 105, 110, 107, 112, 97, 116, 104]
  · exact say_1 k v k1 hH hg hB hx
  by_cases k2 : bs k = [117, 110, 97, 109, 101]
  · exact say_2 k v k2 hH hg hB hx
  by_cases k3 : bs k = [103, 110, 97, 109, 101]
  · exact say_3 k v k3 hH hg hB hx
  by_cases k4 : bs k = [117, 105, 100]
  · exact say_4 k v hv k4 hL hH hg hB hx
  by_cases k5 : bs k = [103, 105, 100]
  · exact say_5 k v hv k5 hL hH hg hB hx
  by_cases k6 : bs k = [115, 105, 122, 101]
  · exact say_6 k v hv k6 hL hH hg hB hx
  by_cases k7 : bs k = [109, 116, 105, 109, 101]
  · exact say_7 k v hv k7 hL hH hg hB hx
  refine say_x k v ?_ hle hH hg hB hx
  unfold whichK
  rw [if_neg k0, if_neg k1, if_neg k2, if_neg k3, if_neg k4, if_neg k5, if_neg k6, if_neg k7]

end Go.Proofs.YtkocnbdakfhpaaaGreatDoor
