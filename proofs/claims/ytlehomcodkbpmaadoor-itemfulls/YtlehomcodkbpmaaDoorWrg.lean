/-
  item.Wrong: THE FIRST FIELD THAT ISN'T RIGHT. Conditions: how long the texts and lists may be; what the listed variables hold.
-/
import Derived.Test.YtlehomcodkbpmaaDoorIfl
namespace Go.Proofs.YtlehomcodkbpmaaDoor
open Go.ChangeShapes Go.WideShapes Go.ChangeAt Go.RowKit Go.Lib
set_option linter.unusedVariables false
set_option linter.unusedSimpArgs false
set_option maxRecDepth 20000

/-- which fields are right, in api's order -/
def fieldsR (h : Hd) (l : PL) : List Bool := [kndR h.kind, fnameR h, flinkR h, decide (0 ≤ h.mode), decide (0 ≤ h.uid), decide (0 ≤ h.gid), numR h.size (h.kind == 1), decide (0 ≤ h.nano ∧ h.nano < 1000000000), txtR h.user, txtR h.group, numR h.major (devR h.kind), numR h.minor (devR h.kind), fextraR l]
/-- the first that isn't -/
def wrongN : List Bool → Int → Int
  | [], _ => 0
  | b :: t, i => if b = true then wrongN t (i + 1) else i
def wrongH (h : Hd) (l : PL) : Int := wrongN (fieldsR h l) 1

set_option maxHeartbeats 16000000 in
theorem wrong_ok {w : World} {a : Option Addr} {n c : Nat} {l : PL} (h : Hd) (hp : Pys w a n c l) (hz : Sml l) (hs : h.name.size ≤ 9000000000000000) (hL : Laid w) :
    Calls Tryd.prog 6 #[.agg (h.cs (.slice a n c))] w fun e w' => e = .returned (.int .i64 (wrongH h l)) ∧ Below w.heap.size w w' := by
  have c1 := fkind_ok h (.slice a n c)
  have c2 := fname_ok h (.slice a n c) hs
  have c3 := flink_ok h (.slice a n c)
  have c4 := fmode_ok h (.slice a n c)
  have c5 := fuid_ok h (.slice a n c)
  have c6 := fgid_ok h (.slice a n c)
  have c7 := fsize_ok h (.slice a n c)
  have c8 := ftime_ok h (.slice a n c)
  have c9 := fuser_ok h (.slice a n c)
  have c10 := fgroup_ok h (.slice a n c)
  have c11 := fmajor_ok h (.slice a n c)
  have c12 := fminor_ok h (.slice a n c)
  have c13 := fun (wr : World) (hb : Below w.heap.size w wr) => fextra_ok h (hp.below hb) hz (hL.below hb)
  have hB0 : Blk ((w.alloc (.cells (h.cs (.slice a n c)) 26)).alloc (.cells (h.cs (.slice a n c)) 37)) (w.heap.size + 1) (h.cs (.slice a n c)) 37 := (two_new w _ _).2
  have hac0 : Below w.heap.size w ((w.alloc (.cells (h.cs (.slice a n c)) 26)).alloc (.cells (h.cs (.slice a n c)) 37)) := (two_new w _ _).1
  unfold wrongH fieldsR
  generalize kndR h.kind = b1 at *
  generalize fnameR h = b2 at *
  generalize flinkR h = b3 at *
  generalize decide (0 ≤ h.mode) = b4 at *
  generalize decide (0 ≤ h.uid) = b5 at *
  generalize decide (0 ≤ h.gid) = b6 at *
  generalize numR h.size (h.kind == 1) = b7 at *
  generalize decide (0 ≤ h.nano ∧ h.nano < 1000000000) = b8 at *
  generalize txtR h.user = b9 at *
  generalize txtR h.group = b10 at *
  generalize numR h.major (devR h.kind) = b11 at *
  generalize numR h.minor (devR h.kind) = b12 at *
  generalize fextraR l = b13 at *
  clear hp hz hL hs
  obtain ⟨cs, hcs⟩ : ∃ cs, cs = h.cs (.slice a n c) := ⟨_, rfl⟩
  have hn : (Tryd.prog.info? 37).map (·.size) = some (h.cs (.slice a n c)).size := by kernel_rfl
  have hB := hB0
  have hac := hac0
  clear hB0 hac0
  unfold Hd.cs at *
  go_enter Tryd.func6, Tryd.ntmps6
  go_wp2_with (first
    | (go_at_call 9; refine (c1 _).mono ?_; rintro e wx ⟨rfl, hbx⟩; replace hB := hB.below hbx; replace hac := hac.trans (hbx.mono hac.size); clear hbx)
    | (go_at_call 10; refine (c2 _).mono ?_; rintro e wx ⟨rfl, hbx⟩; replace hB := hB.below hbx; replace hac := hac.trans (hbx.mono hac.size); clear hbx)
    | (go_at_call 11; refine (c3 _).mono ?_; rintro e wx ⟨rfl, hbx⟩; replace hB := hB.below hbx; replace hac := hac.trans (hbx.mono hac.size); clear hbx)
    | (go_at_call 12; refine (c4 _).mono ?_; rintro e wx ⟨rfl, hbx⟩; replace hB := hB.below hbx; replace hac := hac.trans (hbx.mono hac.size); clear hbx)
    | (go_at_call 13; refine (c5 _).mono ?_; rintro e wx ⟨rfl, hbx⟩; replace hB := hB.below hbx; replace hac := hac.trans (hbx.mono hac.size); clear hbx)
    | (go_at_call 14; refine (c6 _).mono ?_; rintro e wx ⟨rfl, hbx⟩; replace hB := hB.below hbx; replace hac := hac.trans (hbx.mono hac.size); clear hbx)
    | (go_at_call 15; refine (c7 _).mono ?_; rintro e wx ⟨rfl, hbx⟩; replace hB := hB.below hbx; replace hac := hac.trans (hbx.mono hac.size); clear hbx)
    | (go_at_call 16; refine (c8 _).mono ?_; rintro e wx ⟨rfl, hbx⟩; replace hB := hB.below hbx; replace hac := hac.trans (hbx.mono hac.size); clear hbx)
    | (go_at_call 17; refine (c9 _).mono ?_; rintro e wx ⟨rfl, hbx⟩; replace hB := hB.below hbx; replace hac := hac.trans (hbx.mono hac.size); clear hbx)
    | (go_at_call 18; refine (c10 _).mono ?_; rintro e wx ⟨rfl, hbx⟩; replace hB := hB.below hbx; replace hac := hac.trans (hbx.mono hac.size); clear hbx)
    | (go_at_call 19; refine (c11 _).mono ?_; rintro e wx ⟨rfl, hbx⟩; replace hB := hB.below hbx; replace hac := hac.trans (hbx.mono hac.size); clear hbx)
    | (go_at_call 20; refine (c12 _).mono ?_; rintro e wx ⟨rfl, hbx⟩; replace hB := hB.below hbx; replace hac := hac.trans (hbx.mono hac.size); clear hbx)
    | (go_at_call 21; refine (c13 _ hac).mono ?_; rintro e wx ⟨rfl, hbx⟩; replace hB := hB.below hbx; replace hac := hac.trans (hbx.mono hac.size); clear hbx)
    | (refine wpList_load_row (P := Tryd.prog) rfl 37 (.tmp 3) rfl (w.heap.size + 1) rfl 37 _ (0, 0) _ hB Tryd.underlying37 rfl hn ?_))
  all_goals go_ret
  all_goals exact ⟨ret_int (by simp_all [wrongN]), hac⟩

end Go.Proofs.YtlehomcodkbpmaaDoor
