/-
  THE DOCUMENT's Get, WHERE THERE IS NO HEADER. Conditions: that the slice can be read.
-/
import Derived.Test.YtgjbopbpekocpaaRn
import Derived.Test.YtgjbopbpekocpaaGe
import Derived.Deep.RegionHeld3
namespace Go.Proofs.Ytgjbopbpekocpaa
open Go.ChangeShapes Go.WideShapes Go.ChangeAt Go.RowKit
set_option linter.unusedVariables false
set_option maxRecDepth 20000

set_option maxHeartbeats 1000000 in
theorem rget_bad {w : World} {a : Option Addr} {n c : Nat} {l : List Int} (h : Bys w a n c l) (hne : n ≠ 512) : Calls Try.prog 9 #[.slice a n c] w fun e w' => e = .returned (.tuple #[.agg rawZ, .int .i64 2]) ∧ Below w.heap.size w w' := by
  have hb := (Below.refl w.heap.size w).alloc (Nat.le_refl _) (.cells rawZ 32)
  have hck := rcheck_bad (h.below hb) hne
  clear h hne
  unfold rawZ at *
  go_enter Try.func9, Try.ntmps9
  go_wp2_with (go_at_call 29; refine hck.mono ?_; rintro e w' ⟨hw, rfl⟩; obtain rfl := hw.symm)
  refine bodyPost_ret (v := .tuple #[.agg #[.int .i64 0, .int .u8 0, .string ⟨#[]⟩, .string ⟨#[]⟩, .string ⟨#[]⟩, .string ⟨#[]⟩, .string ⟨#[]⟩, .int .i64 0, .int .i64 0, .int .i64 0, .int .i64 0, .int .i64 0, .int .i64 0, .int .i64 0], .int .i64 2]) ?_ rfl ⟨rfl, hb⟩
  simp [results, Try.results9, go_sem]

set_option maxHeartbeats 1000000 in
theorem rget_wrong {w : World} {a : Option Addr} {n c : Nat} {l : List Int} (h : Bys w a n c l) (h5 : n = 512) (hne : chk l ≠ 0) : Calls Try.prog 9 #[.slice a n c] w fun e w' => e = .returned (.tuple #[.agg rawZ, .int .i64 (chk l)]) ∧ Below w.heap.size w w' := by
  have hb := (Below.refl w.heap.size w).alloc (Nat.le_refl _) (.cells rawZ 32)
  have hck := rcheck_ok (h.below hb) h5
  clear h h5
  generalize chk l = k at *
  unfold rawZ at *
  have hne' : (k != 0) = true := by simp [hne]
  clear hne
  go_enter Try.func9, Try.ntmps9
  go_wp2_with (go_at_call 29; refine hck.mono ?_; rintro e w' ⟨hw, rfl⟩; obtain rfl := hw.symm)
  refine bodyPost_ret (v := .tuple #[.agg #[.int .i64 0, .int .u8 0, .string ⟨#[]⟩, .string ⟨#[]⟩, .string ⟨#[]⟩, .string ⟨#[]⟩, .string ⟨#[]⟩, .int .i64 0, .int .i64 0, .int .i64 0, .int .i64 0, .int .i64 0, .int .i64 0, .int .i64 0], .int .i64 k]) ?_ rfl ⟨rfl, hb⟩
  simp [results, Try.results9, go_sem]

/-- mark and flag alone -/
def rraw0 (mk x : Int) : Array Value := #[.int .i64 mk, .int .u8 x, .string ⟨#[]⟩, .string ⟨#[]⟩, .string ⟨#[]⟩, .string ⟨#[]⟩, .string ⟨#[]⟩, .int .i64 0, .int .i64 0, .int .i64 0, .int .i64 0, .int .i64 0, .int .i64 0, .int .i64 0]

theorem rstart2 (w : World) (mk x : Int) : Blk ((w.alloc (.cells rawZ 32)).alloc (.cells (rraw0 mk x) 32)).drew w.heap.size rawZ 32 ∧ Blk ((w.alloc (.cells rawZ 32)).alloc (.cells (rraw0 mk x) 32)).drew (w.heap.size + 1) (rraw0 mk x) 32 ∧ Below w.heap.size w ((w.alloc (.cells rawZ 32)).alloc (.cells (rraw0 mk x) 32)).drew := by
  have hb := (Below.refl w.heap.size w).alloc (Nat.le_refl _) (.cells rawZ 32)
  refine ⟨(Blk.new w rawZ 32).below ((Below.refl _ _).alloc (Nat.le_refl _) _).drew, ?_, (hb.alloc hb.size _).drew⟩
  have h : Blk ((w.alloc (.cells rawZ 32)).alloc (.cells (rraw0 mk x) 32)) (w.alloc (.cells rawZ 32)).heap.size (rraw0 mk x) 32 := Blk.new _ _ _
  rw [show (w.alloc (.cells rawZ 32)).heap.size = w.heap.size + 1 by simp] at h
  exact h

set_option maxHeartbeats 2000000 in
theorem rget_flag {w : World} {b off n c : Nat} {l : List Int} (h : Bys w (some ⟨b, off, none⟩) n c l) (h5 : n = 512) (hz : chk l = 0) (hf : flagB (l.getD 156 0) = false) :
    Calls Try.prog 9 #[.slice (some ⟨b, off, none⟩) n c] w fun e w' => e = .returned (.tuple #[.agg rawZ, .int .i64 9]) ∧ Below w.heap.size w w' := by
  have hb := (Below.refl w.heap.size w).alloc (Nat.le_refl _) (.cells rawZ 32)
  have hck := rcheck_ok (h.below hb) h5
  have hn1 : (156 : Int) < n := by omega
  obtain ⟨hcl, hr0, hr1⟩ := (h.below hb).at 156 (by omega)
  have hlt : b < w.heap.size := blk_lt (h.at 156 (by omega)).1
  have hfl := fun w => known_ok w _ hr0 hr1
  have hmk := fun w' (hb : Below w.heap.size w w') => rmark_ok (h.below hb) h5
  rw [hf] at hfl
  rw [hz] at hck
  clear h h5 hz hf
  generalize l.getD 156 0 = x at *
  generalize markL ((l.drop 257).take 8) = mk at *
  unfold rawZ at *
  go_enter Try.func9, Try.ntmps9
  go_upto_region 4 with (go_at_call 29; refine hck.mono ?_; rintro e w' ⟨hw, rfl⟩; obtain rfl := hw.symm)
  go_cut [5] (fun p wc => p = .pointer (some ⟨w.heap.size + 1, 0, none⟩) ∧ Blk wc w.heap.size rawZ 32 ∧ Blk wc (w.heap.size + 1) (rraw0 mk x) 32 ∧ Below w.heap.size w wc)
  case first =>
    go_region_held3 (fun w' => w'.cell? ⟨b, off + 156, none⟩ = some (.int .u8 x)) (go_keep) (first | (go_at_call 30; refine (hmk _ ?_).mono ?_; (first | exact hb.drew | exact hb.drew.alloc hb.drew.size _ | exact (hb.alloc hb.size _).drew); rintro e w' ⟨hw, rfl⟩; obtain rfl := hw.symm))
    all_goals
      go_wp2
      go_meet
      case rel => exact ⟨rfl, rstart2 w mk x⟩
  case rest =>
    obtain ⟨rfl, hB0, hB1, hbc⟩ := hcut
    clear hck hcl hmk hb hr0 hr1
    have hx := hB1.cell 1
    have z0 := hB0.cell 0
    have z1 := hB0.cell 1
    have z2 := hB0.cell 2
    have z3 := hB0.cell 3
    have z4 := hB0.cell 4
    have z5 := hB0.cell 5
    have z6 := hB0.cell 6
    have z7 := hB0.cell 7
    have z8 := hB0.cell 8
    have z9 := hB0.cell 9
    have z10 := hB0.cell 10
    have z11 := hB0.cell 11
    have z12 := hB0.cell 12
    have z13 := hB0.cell 13
    have y0 := fun i => hB0.free i
    unfold rawZ at z0 z1 z2 z3 z4 z5 z6 z7 z8 z9 z10 z11 z12 z13
    unfold rraw0 at hx
    simp at z0 z1 z2 z3 z4 z5 z6 z7 z8 z9 z10 z11 z12 z13 hx
    go_wp2_with (go_at_call 31; refine (hfl _).mono ?_; rintro e w' ⟨hw, rfl⟩; obtain rfl := hw.symm)
    refine bodyPost_ret (v := .tuple #[.agg #[.int .i64 0, .int .u8 0, .string ⟨#[]⟩, .string ⟨#[]⟩, .string ⟨#[]⟩, .string ⟨#[]⟩, .string ⟨#[]⟩, .int .i64 0, .int .i64 0, .int .i64 0, .int .i64 0, .int .i64 0, .int .i64 0, .int .i64 0], .int .i64 9]) ?_ rfl ⟨rfl, ?_⟩
    · simp [results, Try.results9, go_sem, z0, z1, z2, z3, z4, z5, z6, z7, z8, z9, z10, z11, z12, z13]
    · exact (((((((((((((((hbc.setCell (Nat.le_refl _) _)).setCell (Nat.le_refl _) _).setCell (Nat.le_refl _) _).setCell (Nat.le_refl _) _).setCell (Nat.le_refl _) _).setCell (Nat.le_refl _) _).setCell (Nat.le_refl _) _).setCell (Nat.le_refl _) _).setCell (Nat.le_refl _) _).setCell (Nat.le_refl _) _).setCell (Nat.le_refl _) _).setCell (Nat.le_refl _) _).setCell (Nat.le_refl _) _).setCell (Nat.le_refl _) _)
end Go.Proofs.Ytgjbopbpekocpaa
