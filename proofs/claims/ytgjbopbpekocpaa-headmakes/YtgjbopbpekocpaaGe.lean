/-
  BLOCKS OF CELLS; WHY THERE IS NO HEADER: what Get answers then. Conditions: that the slice can be read.
-/
import Derived.Test.YtgjbopbpekocpaaNu
import Derived.Lib.SmallJoins
namespace Go.Proofs.Ytgjbopbpekocpaa
open Go.ChangeShapes Go.WideShapes Go.ChangeAt Go.RowKit
set_option linter.unusedVariables false
set_option maxRecDepth 20000

/-- a block of cells that may be written -/
def Blk (w : World) (g : Nat) (cs : Array Value) (t : TypeId) : Prop := w.heap[g]? = some (.cells cs t (0, 0))

theorem Blk.lt {w : World} {g : Nat} {cs : Array Value} {t : TypeId} (h : Blk w g cs t) : g < w.heap.size := (Array.getElem?_eq_some_iff.mp h).1
theorem Blk.cell {w : World} {g : Nat} {cs : Array Value} {t : TypeId} (h : Blk w g cs t) (i : Nat) : w.cell? ⟨g, i, none⟩ = cs[i]? := Joins.cell_of_block h i
theorem Blk.free {w : World} {g : Nat} {cs : Array Value} {t : TypeId} (h : Blk w g cs t) (i : Nat) : w.frozen? ⟨g, i, none⟩ = false := Joins.unfrozen_of_block h i
theorem Blk.below {w w' : World} {g : Nat} {cs : Array Value} {t : TypeId} (h : Blk w g cs t) (hb : Below w.heap.size w w') : Blk w' g cs t := by
  have hl := h.lt
  unfold Blk at *
  rw [hb.block g hl]; exact h
theorem Blk.set {w : World} {g i : Nat} {cs : Array Value} {t : TypeId} (h : Blk w g cs t) (v : Value) : Blk (w.setCell ⟨g, i, none⟩ v) g (cs.setIfInBounds i v) t := Joins.block_setCell h v
theorem Blk.new (w : World) (cs : Array Value) (t : TypeId) : Blk (w.alloc (.cells cs t)) w.heap.size cs t := by unfold Blk World.alloc; simp
theorem Blk.other {w : World} {g g' i : Nat} {cs : Array Value} {t : TypeId} (h : Blk w g cs t) (hne : g ≠ g') (v : Value) : Blk (w.setCell ⟨g', i, none⟩ v) g cs t := by
  unfold Blk at *
  rw [Below.heap_setCell _ _ _ _ hne]; exact h
theorem Tab.other {w : World} {t g g' i : Nat} (h : Tab w t g) (hne : t ≠ g') (v : Value) : Tab (w.setCell ⟨g', i, none⟩ v) t g := by
  unfold Tab at *
  rw [Below.heap_setCell _ _ _ _ hne]; exact h

theorem blk_lt {w : World} {a : Addr} {v : Value} (h : w.cell? a = some v) : a.block < w.heap.size := by
  rcases Nat.lt_or_ge a.block w.heap.size with h' | h'
  · exact h'
  · simp [World.cell?, Array.getElem?_eq_none h'] at h

/-- Raw's zero value -/
def rawZ : Array Value := #[.int .i64 0, .int .u8 0, .string ⟨#[]⟩, .string ⟨#[]⟩, .string ⟨#[]⟩, .string ⟨#[]⟩, .string ⟨#[]⟩, .int .i64 0, .int .i64 0, .int .i64 0, .int .i64 0, .int .i64 0, .int .i64 0, .int .i64 0]

set_option maxHeartbeats 1000000 in
theorem get_bad {w : World} {a : Option Addr} {n c : Nat} {l : List Int} (h : Bys w a n c l) (hne : n ≠ 512) : Calls Try.prog 8 #[.slice a n c] w fun e w' => e = .returned (.tuple #[.agg rawZ, .int .u8 2]) ∧ Below w.heap.size w w' := by
  have hb := (Below.refl w.heap.size w).alloc (Nat.le_refl _) (.cells rawZ 25)
  have hck := check_bad (h.below hb) hne
  clear h hne
  unfold rawZ at *
  go_enter Try.func8, Try.ntmps8
  go_wp2_with (go_at_call 22; refine hck.mono ?_; rintro e w' ⟨hw, rfl⟩; obtain rfl := hw.symm)
  refine bodyPost_ret (v := .tuple #[.agg #[.int .i64 0, .int .u8 0, .string ⟨#[]⟩, .string ⟨#[]⟩, .string ⟨#[]⟩, .string ⟨#[]⟩, .string ⟨#[]⟩, .int .i64 0, .int .i64 0, .int .i64 0, .int .i64 0, .int .i64 0, .int .i64 0, .int .i64 0], .int .u8 2]) ?_ rfl ⟨rfl, hb⟩
  simp [results, Try.results8, go_sem]

set_option maxHeartbeats 1000000 in
theorem get_wrong {w : World} {a : Option Addr} {n c : Nat} {l : List Int} (h : Bys w a n c l) (h5 : n = 512) (hne : chk l ≠ 0) : Calls Try.prog 8 #[.slice a n c] w fun e w' => e = .returned (.tuple #[.agg rawZ, .int .u8 (chk l)]) ∧ Below w.heap.size w w' := by
  have hb := (Below.refl w.heap.size w).alloc (Nat.le_refl _) (.cells rawZ 25)
  have hck := check_ok (h.below hb) h5
  clear h h5
  generalize chk l = k at *
  unfold rawZ at *
  have hne' : (k != 0) = true := by simp [hne]
  clear hne
  go_enter Try.func8, Try.ntmps8
  go_wp2_with (go_at_call 22; refine hck.mono ?_; rintro e w' ⟨hw, rfl⟩; obtain rfl := hw.symm)
  refine bodyPost_ret (v := .tuple #[.agg #[.int .i64 0, .int .u8 0, .string ⟨#[]⟩, .string ⟨#[]⟩, .string ⟨#[]⟩, .string ⟨#[]⟩, .string ⟨#[]⟩, .int .i64 0, .int .i64 0, .int .i64 0, .int .i64 0, .int .i64 0, .int .i64 0, .int .i64 0], .int .u8 k]) ?_ rfl ⟨rfl, hb⟩
  simp [results, Try.results8, go_sem]

theorem Bys.at {w : World} {b off n c : Nat} {l : List Int} (h : Bys w (some ⟨b, off, none⟩) n c l) (j : Nat) (hj : j < n) : w.cell? ⟨b, off + j, none⟩ = some (.int .u8 (l.getD j 0)) ∧ 0 ≤ l.getD j 0 ∧ l.getD j 0 ≤ 255 := by
  obtain ⟨hl, _, _, hr, ⟨_, h0⟩ | ⟨_, b', off', e, hc⟩⟩ := h
  · omega
  · simp only [Option.some.injEq, Addr.mk.injEq, and_true] at e
    obtain ⟨rfl, rfl⟩ := e
    refine ⟨hc.2 j (by omega), ?_⟩
    have hj' : j < l.length := by omega
    have : l.getD j 0 = l[j] := by simp [hj']
    rw [this]
    exact hr _ (List.getElem_mem hj')

set_option maxHeartbeats 1000000 in
theorem get_flag {w : World} {b off n c : Nat} {l : List Int} (h : Bys w (some ⟨b, off, none⟩) n c l) (h5 : n = 512) (hz : chk l = 0) (hf : flagB (l.getD 156 0) = false) : Calls Try.prog 8 #[.slice (some ⟨b, off, none⟩) n c] w fun e w' => e = .returned (.tuple #[.agg rawZ, .int .u8 9]) ∧ Below w.heap.size w w' := by
  have hb := (Below.refl w.heap.size w).alloc (Nat.le_refl _) (.cells rawZ 25)
  have hck := check_ok (h.below hb) h5
  have hn : (156 : Int) < n := by omega
  obtain ⟨hcl, hr0, hr1⟩ := (h.below hb).at 156 (by omega)
  have hfl := fun w => isFlag_ok _ hr0 hr1 w
  rw [hf] at hfl
  rw [hz] at hck
  clear h h5 hz hf
  generalize l.getD 156 0 = x at *
  unfold rawZ at *
  go_enter Try.func8, Try.ntmps8
  go_wp2_with (first
    | (go_at_call 22; refine hck.mono ?_; rintro e w' ⟨hw, rfl⟩; obtain rfl := hw.symm)
    | (go_at_call 23; refine (hfl _).mono ?_; rintro e w' ⟨hw, rfl⟩; obtain rfl := hw.symm))
  refine bodyPost_ret (v := .tuple #[.agg #[.int .i64 0, .int .u8 0, .string ⟨#[]⟩, .string ⟨#[]⟩, .string ⟨#[]⟩, .string ⟨#[]⟩, .string ⟨#[]⟩, .int .i64 0, .int .i64 0, .int .i64 0, .int .i64 0, .int .i64 0, .int .i64 0, .int .i64 0], .int .u8 9]) ?_ rfl ⟨rfl, hb⟩
  simp [results, Try.results8, go_sem]

end Go.Proofs.Ytgjbopbpekocpaa
