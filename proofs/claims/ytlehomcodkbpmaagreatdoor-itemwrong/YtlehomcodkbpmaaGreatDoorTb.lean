/-
  WHETHER A KEY IS KNOWN; AND WHAT FOLLOWS OF IT. Conditions: those that each part names.
-/
import Derived.Test.YtlehomcodkbpmaaGreatDoorKnd
import Derived.Test.YtlehomcodkbpmaaGreatDoorTim
import Derived.Test.YtlehomcodkbpmaaGreatDoorTa
import Derived.Test.YtlehomcodkbpmaaGreatDoorOrt
import Derived.BigQuiet
/-
  WHETHER A KEY IS KNOWN. Conditions: none.
-/
namespace Go.Proofs.YtlehomcodkbpmaaGreatDoor
open Go.ChangeShapes Go.WideShapes Go.ChangeAt Go.RowKit Go.Lib
set_option linter.unusedVariables false
set_option maxRecDepth 20000

theorem known_ok (s : ByteArray) (w : World) : Calls Tryz.prog 48 #[.string s] w fun e w' => w' = w ∧ e = .returned (.bool ((kindK (bs s) : Int) != 0)) := by
  have h := kind_ok s w
  generalize kindK (bs s) = q at *
  go_enter Tryz.func48, Tryz.ntmps48
  go_wp2_with (go_at_call 57; refine h.mono ?_; rintro e w1 ⟨hw, rfl⟩; obtain rfl := hw.symm)
  all_goals go_ret
  all_goals first | exact ⟨rfl, rfl⟩ | simp_all

end Go.Proofs.YtlehomcodkbpmaaGreatDoor

/-
  WHETHER A TIME IS RIGHT: dec.Right. No condition.
-/
namespace Go.Proofs.YtlehomcodkbpmaaGreatDoor
open Go.ChangeShapes Go.WideShapes Go.ChangeAt Go.RowKit Go.Lib
set_option linter.unusedVariables false
set_option linter.unusedSimpArgs false
set_option maxRecDepth 20000

theorem dright_ok (a b : Int) (w : World) :
    Calls Tryz.prog 34 #[.agg #[.int .i64 a, .int .i64 b]] w fun e w' => e = .returned (.bool (decide (0 ≤ b ∧ b < 1000000000))) ∧ Below w.heap.size w w' := by
  by_cases h0 : 0 ≤ b
  · by_cases h1 : b < 1000000000
    · have hd : decide (0 ≤ b ∧ b < 1000000000) = true := decide_eq_true ⟨h0, h1⟩
      rw [hd]
      go_enter Tryz.func34, Tryz.ntmps34
      go_wp2
      go_ret
      refine ⟨rfl, ?_⟩
      first | exact (Below.refl _ _).alloc (Nat.le_refl _) _ | exact ((Below.refl _ _).alloc (Nat.le_refl _) _).drew
    · have hd : decide (0 ≤ b ∧ b < 1000000000) = false := decide_eq_false fun h => h1 h.2
      rw [hd]
      go_enter Tryz.func34, Tryz.ntmps34
      go_wp2
      go_ret
      refine ⟨rfl, ?_⟩
      first | exact (Below.refl _ _).alloc (Nat.le_refl _) _ | exact ((Below.refl _ _).alloc (Nat.le_refl _) _).drew
  · have hd : decide (0 ≤ b ∧ b < 1000000000) = false := decide_eq_false fun h => h0 h.1
    rw [hd]
    go_enter Tryz.func34, Tryz.ntmps34
    go_wp2
    go_ret
    refine ⟨rfl, ?_⟩
    first | exact (Below.refl _ _).alloc (Nat.le_refl _) _ | exact ((Below.refl _ _).alloc (Nat.le_refl _) _).drew


end Go.Proofs.YtlehomcodkbpmaaGreatDoor

/-
  THE FIELDS OF A HEAD, ASKED ONE BY ONE (item's methods). Conditions: how long the texts and lists may be; what the listed variables hold.
-/
namespace Go.Proofs.YtlehomcodkbpmaaGreatDoor
open Go.ChangeShapes Go.WideShapes Go.ChangeAt Go.RowKit Go.Lib
set_option linter.unusedVariables false
set_option linter.unusedSimpArgs false
set_option maxRecDepth 20000

/-- may a text be one, a name, a number? -/
def txtR (s : ByteArray) : Bool := decide (s.size ≤ 65536) && !has 0 (bs s)
def namR (s : ByteArray) : Bool := !(s.toList == []) && txtR s
def numR (n : Int) (t : Bool) : Bool := decide (n = 0) || (decide (0 < n) && t)
def kndR (k : Int) : Bool := decide (1 ≤ k ∧ k ≤ 7)
def devR (k : Int) : Bool := k == 4 || k == 5
def anyK : PL → Bool
  | [] => false
  | p :: t => (kindK (bs p.1) != 0) || anyK t
def fnameR (h : Hd) : Bool := namR h.name && !(h.kind == 1 && endsS h.name)
def flinkR (h : Hd) : Bool := if h.kind == 2 || h.kind == 3 then namR h.link else h.link.toList == []
def fextraR (l : PL) : Bool := ovB none l && !anyK l

set_option maxHeartbeats 1000000 in
theorem clean_ok (s : ByteArray) (w : World) : Calls Tryz.prog 45 #[.string s] w fun e w' => w' = w ∧ e = .returned (.bool (!has 0 (bs s))) := by
  have hib := fun w => Tryz.strings_IndexByte s 0 w
  have hge := indexByte_ge (bs s) 0
  have hm := indexByte_mem 0 (bs s)
  generalize has 0 (bs s) = q at *
  have E : decide (indexByte s.data.toList 0 < 0) = !q := by
    rw [← hm]
    show decide (indexByte (bs s) 0 < 0) = !decide (0 ≤ indexByte (bs s) 0)
    rw [Bool.eq_iff_iff]; simp
  clear hm hge
  go_enter Tryz.func45, Tryz.ntmps45
  go_wp2_with (go_at_call 54; refine (hib _).mono ?_; rintro e w' ⟨hw, rfl⟩; obtain rfl := hw.symm)
  go_ret
  exact ⟨rfl, rfl⟩

set_option maxHeartbeats 1000000 in
theorem text_ok (s : ByteArray) (w : World) : Calls Tryz.prog 35 #[.string s] w fun e w' => w' = w ∧ e = .returned (.bool (txtR s)) := by
  have hc := clean_ok s
  unfold txtR
  generalize has 0 (bs s) = q at *
  by_cases h : s.size ≤ 65536
  · have hI : (s.size : Int) ≤ 65536 := by omega
    rw [decide_eq_true h]
    go_enter Tryz.func35, Tryz.ntmps35
    go_wp2_with (go_at_call 45; refine (hc _).mono ?_; rintro e w' ⟨hw, rfl⟩; obtain rfl := hw.symm)
    go_ret
    exact ⟨rfl, rfl⟩
  · have hI : ¬ (s.size : Int) ≤ 65536 := by omega
    rw [decide_eq_false h]
    go_enter Tryz.func35, Tryz.ntmps35
    go_wp2
    go_ret
    exact ⟨rfl, rfl⟩

set_option maxHeartbeats 1000000 in
theorem name_ok (s : ByteArray) (w : World) : Calls Tryz.prog 32 #[.string s] w fun e w' => w' = w ∧ e = .returned (.bool (namR s)) := by
  have hc := text_ok s
  unfold namR
  generalize txtR s = q at *
  cases h : (s.toList == [])
  · go_enter Tryz.func32, Tryz.ntmps32
    go_wp2_with (go_at_call 35; refine (hc _).mono ?_; rintro e w' ⟨hw, rfl⟩; obtain rfl := hw.symm)
    go_ret
    exact ⟨rfl, rfl⟩
  · go_enter Tryz.func32, Tryz.ntmps32
    go_wp2
    go_ret
    exact ⟨rfl, rfl⟩

set_option maxHeartbeats 1000000 in
theorem num_ok (n : Int) (t : Bool) (w : World) : Calls Tryz.prog 33 #[.int .i64 n, .bool t] w fun e w' => w' = w ∧ e = .returned (.bool (numR n t)) := by
  unfold numR
  by_cases h : n = 0
  · subst h
    go_enter Tryz.func33, Tryz.ntmps33
    go_wp2
    all_goals go_ret
    all_goals exact ⟨rfl, ret_bool (by simp)⟩
  · have hb : (n == 0) = false := by simpa using h
    by_cases h2 : 0 < n
    · go_enter Tryz.func33, Tryz.ntmps33
      go_wp2
      all_goals go_ret
      all_goals exact ⟨rfl, ret_bool (by simp [h, h2])⟩
    · go_enter Tryz.func33, Tryz.ntmps33
      go_wp2
      all_goals go_ret
      all_goals exact ⟨rfl, ret_bool (by rw [decide_eq_false (show ¬ 0 < n by omega)]; rfl)⟩

set_option maxHeartbeats 4000000 in
theorem iflag_ok (k : Int) (w : World) : Calls Tryz.prog 31 #[.int .i64 k] w fun e w' => w' = w ∧ ∃ f, e = .returned (.int .u8 f) ∧ (f != 0) = kndR k := by
  by_cases hc : k = 1 ∨ k = 2 ∨ k = 3 ∨ k = 4 ∨ k = 5 ∨ k = 6 ∨ k = 7
  · rcases hc with rfl | rfl | rfl | rfl | rfl | rfl | rfl
    all_goals go_enter Tryz.func31, Tryz.ntmps31
    all_goals go_wp2
    all_goals go_ret
    all_goals exact ⟨rfl, _, rfl, rfl⟩
  · have g1 : (k == 1) = false := by simp; omega
    have g2 : (k == 2) = false := by simp; omega
    have g3 : (k == 3) = false := by simp; omega
    have g4 : (k == 4) = false := by simp; omega
    have g5 : (k == 5) = false := by simp; omega
    have g6 : (k == 6) = false := by simp; omega
    have g7 : (k == 7) = false := by simp; omega
    have E := hid (by unfold kndR; rw [decide_eq_false (by omega)] : kndR k = false)
    clear hc
    go_enter Tryz.func31, Tryz.ntmps31
    go_wp2
    go_ret
    exact ⟨rfl, _, rfl, by rw [E.out]; rfl⟩

set_option maxHeartbeats 1000000 in
theorem fkind_ok (h : Hd) (x : Value) (w : World) : Calls Tryz.prog 15 #[.agg (h.cs x)] w fun e w' => e = .returned (.bool (kndR h.kind)) ∧ Below w.heap.size w w' := by
  have hc := iflag_ok h.kind
  unfold Hd.cs
  generalize kndR h.kind = q at *
  go_enter Tryz.func15, Tryz.ntmps15
  go_wp2_with (go_at_call 31; refine (hc _).mono ?_; rintro e w' ⟨hw, f, rfl, hf⟩; obtain rfl := hw.symm)
  go_ret
  exact ⟨rfl, below_alloc _ _⟩

set_option maxHeartbeats 2000000 in
theorem fname_ok (h : Hd) (x : Value) (hs : h.name.size ≤ 9000000000000000) (w : World) : Calls Tryz.prog 16 #[.agg (h.cs x)] w fun e w' => e = .returned (.bool (fnameR h)) ∧ Below w.heap.size w w' := by
  have hc := name_ok h.name
  have hsf := suf_ok h.name (by omega)
  unfold Hd.cs fnameR
  generalize namR h.name = q at *
  generalize endsS h.name = s at *
  cases q
  · go_enter Tryz.func16, Tryz.ntmps16
    go_wp2_with (go_at_call 32; refine (hc _).mono ?_; rintro e w' ⟨hw, rfl⟩; obtain rfl := hw.symm)
    go_ret
    exact ⟨rfl, below_alloc _ _⟩
  · cases hk : (h.kind == 1)
    · go_enter Tryz.func16, Tryz.ntmps16
      go_wp2_with (go_at_call 32; refine (hc _).mono ?_; rintro e w' ⟨hw, rfl⟩; obtain rfl := hw.symm)
      go_ret
      exact ⟨rfl, below_alloc _ _⟩
    · go_enter Tryz.func16, Tryz.ntmps16
      go_wp2_with (first | (go_at_call 32; refine (hc _).mono ?_; rintro e w' ⟨hw, rfl⟩; obtain rfl := hw.symm) | (go_at_call 13; refine (hsf _).mono ?_; rintro e w' ⟨hw, rfl⟩; obtain rfl := hw.symm))
      go_ret
      exact ⟨rfl, below_alloc _ _⟩

set_option maxHeartbeats 2000000 in
theorem flink_ok (h : Hd) (x : Value) (w : World) : Calls Tryz.prog 17 #[.agg (h.cs x)] w fun e w' => e = .returned (.bool (flinkR h)) ∧ Below w.heap.size w w' := by
  have hc := name_ok h.link
  unfold Hd.cs flinkR
  generalize namR h.link = q at *
  cases h2 : (h.kind == 2)
  · cases h3 : (h.kind == 3)
    · go_enter Tryz.func17, Tryz.ntmps17
      go_wp2
      go_ret
      exact ⟨rfl, below_alloc _ _⟩
    · go_enter Tryz.func17, Tryz.ntmps17
      go_wp2_with (go_at_call 32; refine (hc _).mono ?_; rintro e w' ⟨hw, rfl⟩; obtain rfl := hw.symm)
      go_ret
      exact ⟨rfl, below_alloc _ _⟩
  · go_enter Tryz.func17, Tryz.ntmps17
    go_wp2_with (go_at_call 32; refine (hc _).mono ?_; rintro e w' ⟨hw, rfl⟩; obtain rfl := hw.symm)
    go_ret
    exact ⟨rfl, below_alloc _ _⟩

theorem fmode_ok (h : Hd) (x : Value) (w : World) : Calls Tryz.prog 18 #[.agg (h.cs x)] w fun e w' => e = .returned (.bool (decide (0 ≤ h.mode))) ∧ Below w.heap.size w w' := by
  unfold Hd.cs
  go_enter Tryz.func18, Tryz.ntmps18
  go_wp2
  go_ret
  exact ⟨rfl, below_alloc _ _⟩

theorem fuid_ok (h : Hd) (x : Value) (w : World) : Calls Tryz.prog 19 #[.agg (h.cs x)] w fun e w' => e = .returned (.bool (decide (0 ≤ h.uid))) ∧ Below w.heap.size w w' := by
  unfold Hd.cs
  go_enter Tryz.func19, Tryz.ntmps19
  go_wp2
  go_ret
  exact ⟨rfl, below_alloc _ _⟩

theorem fgid_ok (h : Hd) (x : Value) (w : World) : Calls Tryz.prog 20 #[.agg (h.cs x)] w fun e w' => e = .returned (.bool (decide (0 ≤ h.gid))) ∧ Below w.heap.size w w' := by
  unfold Hd.cs
  go_enter Tryz.func20, Tryz.ntmps20
  go_wp2
  go_ret
  exact ⟨rfl, below_alloc _ _⟩

theorem fsize_ok (h : Hd) (x : Value) (w : World) : Calls Tryz.prog 21 #[.agg (h.cs x)] w fun e w' => e = .returned (.bool (numR h.size (h.kind == 1))) ∧ Below w.heap.size w w' := by
  have hc := num_ok h.size (h.kind == 1)
  unfold Hd.cs
  generalize numR h.size (h.kind == 1) = q at *
  go_enter Tryz.func21, Tryz.ntmps21
  go_wp2_with (go_at_call 33; refine (hc _).mono ?_; rintro e w' ⟨hw, rfl⟩; obtain rfl := hw.symm)
  go_ret
  exact ⟨rfl, below_alloc _ _⟩

theorem ftime_ok (h : Hd) (x : Value) (w : World) : Calls Tryz.prog 22 #[.agg (h.cs x)] w fun e w' => e = .returned (.bool (decide (0 ≤ h.nano ∧ h.nano < 1000000000))) ∧ Below w.heap.size w w' := by
  have hc := dright_ok h.sec h.nano
  unfold Hd.cs
  generalize decide (0 ≤ h.nano ∧ h.nano < 1000000000) = q at *
  go_enter Tryz.func22, Tryz.ntmps22
  go_wp2_with (go_at_call 34; refine (hc _).mono ?_; rintro e w1 ⟨rfl, hb⟩)
  go_ret
  exact ⟨rfl, (below_alloc _ _).trans (hb.mono (by simp))⟩

theorem fuser_ok (h : Hd) (x : Value) (w : World) : Calls Tryz.prog 23 #[.agg (h.cs x)] w fun e w' => e = .returned (.bool (txtR h.user)) ∧ Below w.heap.size w w' := by
  have hc := text_ok h.user
  unfold Hd.cs
  generalize txtR h.user = q at *
  go_enter Tryz.func23, Tryz.ntmps23
  go_wp2_with (go_at_call 35; refine (hc _).mono ?_; rintro e w' ⟨hw, rfl⟩; obtain rfl := hw.symm)
  go_ret
  exact ⟨rfl, below_alloc _ _⟩

theorem fgroup_ok (h : Hd) (x : Value) (w : World) : Calls Tryz.prog 24 #[.agg (h.cs x)] w fun e w' => e = .returned (.bool (txtR h.group)) ∧ Below w.heap.size w w' := by
  have hc := text_ok h.group
  unfold Hd.cs
  generalize txtR h.group = q at *
  go_enter Tryz.func24, Tryz.ntmps24
  go_wp2_with (go_at_call 35; refine (hc _).mono ?_; rintro e w' ⟨hw, rfl⟩; obtain rfl := hw.symm)
  go_ret
  exact ⟨rfl, below_alloc _ _⟩

theorem fdev_ok (h : Hd) (x : Value) (w : World) : Calls Tryz.prog 36 #[.agg (h.cs x)] w fun e w' => e = .returned (.bool (devR h.kind)) ∧ Below w.heap.size w w' := by
  unfold Hd.cs devR
  cases h2 : (h.kind == 4)
  · go_enter Tryz.func36, Tryz.ntmps36
    go_wp2
    go_ret
    exact ⟨rfl, below_alloc _ _⟩
  · go_enter Tryz.func36, Tryz.ntmps36
    go_wp2
    go_ret
    exact ⟨rfl, below_alloc _ _⟩

theorem box_cell {w w2 : World} {cs : Array Value} {t : TypeId} (hb : Below (w.alloc (.cells cs t)).heap.size (w.alloc (.cells cs t)) w2) (i : Nat) : w2.cell? ⟨w.heap.size, i, none⟩ = cs[i]? := by
  have h : w2.heap[w.heap.size]? = some (.cells cs t) := by
    rw [hb.block _ (by simp)]; exact heap_alloc_new _ _
  simp [World.cell?, h]

set_option maxHeartbeats 4000000 in
theorem fmajor_ok (h : Hd) (x : Value) (w : World) : Calls Tryz.prog 25 #[.agg (h.cs x)] w fun e w' => e = .returned (.bool (numR h.major (devR h.kind))) ∧ Below w.heap.size w w' := by
  have hd := fdev_ok h x
  have hn := num_ok h.major (devR h.kind)
  generalize numR h.major (devR h.kind) = q at *
  generalize devR h.kind = dv at *
  obtain ⟨W1, hW1⟩ : ∃ W1, W1 = w.alloc (.cells (h.cs x) 42) := ⟨_, rfl⟩
  have G : ∀ (p : After W1) (i : Nat), p.out.cell? ⟨w.heap.size, i, none⟩ = (h.cs x)[i]? := fun p i => by
    subst hW1; exact box_cell p.bel i
  have hB : Below w.heap.size w W1 := by subst hW1; exact below_alloc _ _
  have hne : Nonempty (After W1) := ⟨⟨_, Below.refl _ _⟩⟩
  have g0 : ∀ p : After W1, p.out.cell? ⟨w.heap.size, 0, none⟩ = some (.int .i64 h.kind) := fun p => G p 0
  have g1 : ∀ p : After W1, p.out.cell? ⟨w.heap.size, 1, none⟩ = some (.string h.name) := fun p => G p 1
  have g2 : ∀ p : After W1, p.out.cell? ⟨w.heap.size, 2, none⟩ = some (.string h.link) := fun p => G p 2
  have g3 : ∀ p : After W1, p.out.cell? ⟨w.heap.size, 3, none⟩ = some (.int .i64 h.mode) := fun p => G p 3
  have g4 : ∀ p : After W1, p.out.cell? ⟨w.heap.size, 4, none⟩ = some (.int .i64 h.uid) := fun p => G p 4
  have g5 : ∀ p : After W1, p.out.cell? ⟨w.heap.size, 5, none⟩ = some (.int .i64 h.gid) := fun p => G p 5
  have g6 : ∀ p : After W1, p.out.cell? ⟨w.heap.size, 6, none⟩ = some (.int .i64 h.size) := fun p => G p 6
  have g7 : ∀ p : After W1, p.out.cell? ⟨w.heap.size, 7, none⟩ = some (.int .i64 h.sec) := fun p => G p 7
  have g8 : ∀ p : After W1, p.out.cell? ⟨w.heap.size, 8, none⟩ = some (.int .i64 h.nano) := fun p => G p 8
  have g9 : ∀ p : After W1, p.out.cell? ⟨w.heap.size, 9, none⟩ = some (.string h.user) := fun p => G p 9
  have g10 : ∀ p : After W1, p.out.cell? ⟨w.heap.size, 10, none⟩ = some (.string h.group) := fun p => G p 10
  have g11 : ∀ p : After W1, p.out.cell? ⟨w.heap.size, 11, none⟩ = some (.int .i64 h.major) := fun p => G p 11
  have g12 : ∀ p : After W1, p.out.cell? ⟨w.heap.size, 12, none⟩ = some (.int .i64 h.minor) := fun p => G p 12
  have g13 : ∀ p : After W1, p.out.cell? ⟨w.heap.size, 13, none⟩ = some (x) := fun p => G p 13
  clear G
  unfold Hd.cs at hd hW1 ⊢
  go_enter Tryz.func25, Tryz.ntmps25
  go_wp2
  rw [← hW1]
  clear hW1
  refine wp_region_after (by kernel_rfl) (by kernel_rfl) ?_
  repeat (go_big_quiet_step ((first
    | (go_at_call 36; exact after_below _ (hd _))
    | (go_at_call 33; exact after_same _ (hn _)))))
  refine wpQuiet_nil ?_
  intro wq hw'
  obtain ⟨⟨z, hwq⟩, hx⟩ := hw'
  simp only at hx
  subst hx
  go_wp2
  go_ret
  exact ⟨rfl, hB.trans (hwq.mono hB.size)⟩

set_option maxHeartbeats 4000000 in
theorem fminor_ok (h : Hd) (x : Value) (w : World) : Calls Tryz.prog 26 #[.agg (h.cs x)] w fun e w' => e = .returned (.bool (numR h.minor (devR h.kind))) ∧ Below w.heap.size w w' := by
  have hd := fdev_ok h x
  have hn := num_ok h.minor (devR h.kind)
  generalize numR h.minor (devR h.kind) = q at *
  generalize devR h.kind = dv at *
  obtain ⟨W1, hW1⟩ : ∃ W1, W1 = w.alloc (.cells (h.cs x) 42) := ⟨_, rfl⟩
  have G : ∀ (p : After W1) (i : Nat), p.out.cell? ⟨w.heap.size, i, none⟩ = (h.cs x)[i]? := fun p i => by
    subst hW1; exact box_cell p.bel i
  have hB : Below w.heap.size w W1 := by subst hW1; exact below_alloc _ _
  have hne : Nonempty (After W1) := ⟨⟨_, Below.refl _ _⟩⟩
  have g0 : ∀ p : After W1, p.out.cell? ⟨w.heap.size, 0, none⟩ = some (.int .i64 h.kind) := fun p => G p 0
  have g1 : ∀ p : After W1, p.out.cell? ⟨w.heap.size, 1, none⟩ = some (.string h.name) := fun p => G p 1
  have g2 : ∀ p : After W1, p.out.cell? ⟨w.heap.size, 2, none⟩ = some (.string h.link) := fun p => G p 2
  have g3 : ∀ p : After W1, p.out.cell? ⟨w.heap.size, 3, none⟩ = some (.int .i64 h.mode) := fun p => G p 3
  have g4 : ∀ p : After W1, p.out.cell? ⟨w.heap.size, 4, none⟩ = some (.int .i64 h.uid) := fun p => G p 4
  have g5 : ∀ p : After W1, p.out.cell? ⟨w.heap.size, 5, none⟩ = some (.int .i64 h.gid) := fun p => G p 5
  have g6 : ∀ p : After W1, p.out.cell? ⟨w.heap.size, 6, none⟩ = some (.int .i64 h.size) := fun p => G p 6
  have g7 : ∀ p : After W1, p.out.cell? ⟨w.heap.size, 7, none⟩ = some (.int .i64 h.sec) := fun p => G p 7
  have g8 : ∀ p : After W1, p.out.cell? ⟨w.heap.size, 8, none⟩ = some (.int .i64 h.nano) := fun p => G p 8
  have g9 : ∀ p : After W1, p.out.cell? ⟨w.heap.size, 9, none⟩ = some (.string h.user) := fun p => G p 9
  have g10 : ∀ p : After W1, p.out.cell? ⟨w.heap.size, 10, none⟩ = some (.string h.group) := fun p => G p 10
  have g11 : ∀ p : After W1, p.out.cell? ⟨w.heap.size, 11, none⟩ = some (.int .i64 h.major) := fun p => G p 11
  have g12 : ∀ p : After W1, p.out.cell? ⟨w.heap.size, 12, none⟩ = some (.int .i64 h.minor) := fun p => G p 12
  have g13 : ∀ p : After W1, p.out.cell? ⟨w.heap.size, 13, none⟩ = some (x) := fun p => G p 13
  clear G
  unfold Hd.cs at hd hW1 ⊢
  go_enter Tryz.func26, Tryz.ntmps26
  go_wp2
  rw [← hW1]
  clear hW1
  refine wp_region_after (by kernel_rfl) (by kernel_rfl) ?_
  repeat (go_big_quiet_step ((first
    | (go_at_call 36; exact after_below _ (hd _))
    | (go_at_call 33; exact after_same _ (hn _)))))
  refine wpQuiet_nil ?_
  intro wq hw'
  obtain ⟨⟨z, hwq⟩, hx⟩ := hw'
  simp only at hx
  subst hx
  go_wp2
  go_ret
  exact ⟨rfl, hB.trans (hwq.mono hB.size)⟩

set_option maxHeartbeats 2000000 in
theorem known1_ok (p : ByteArray × ByteArray) (w : World) : Calls Tryz.prog 39 #[.agg #[.string p.1, .string p.2]] w fun e w' => e = .returned (.bool (kindK (bs p.1) != 0)) ∧ Below w.heap.size w w' := by
  have hc := known_ok p.1
  generalize ((kindK (bs p.1) : Int) != 0) = q at *
  go_enter Tryz.func39, Tryz.ntmps39
  go_wp2_with (go_at_call 48; refine (hc _).mono ?_; rintro e w' ⟨hw, rfl⟩; obtain rfl := hw.symm)
  go_ret
  exact ⟨rfl, below_alloc _ _⟩

set_option maxHeartbeats 4000000 in
theorem indexf_ok {w : World} {a : Option Addr} {n c : Nat} {l : PL} (h : Pys w a n c l) : Calls Tryz.prog 47 #[.slice a n c, .func (.func 39) #[] #[]] w fun e w' => ∃ i : Int, e = .returned (.int .i64 i) ∧ decide (0 ≤ i) = anyK l ∧ Below w.heap.size w w' := by
  have hm1 := h.2.1
  have hm2 := h.2.2.1
  obtain ⟨q, hq⟩ : ∃ q, q = anyK l := ⟨_, rfl⟩
  rw [← hq]
  have hl := hid h.1
  replace hq := hid hq
  go_enter Tryz.func47, Tryz.ntmps47
  go_wp2
  go_loopw [8] (fun x wr => ∃ k : Nat, x = .int .i64 k ∧ k ≤ n ∧ Below w.heap.size w wr ∧ Hid (q = anyK (l.drop k))) (fun x _ => n - (RowKit.intOf x).toNat)
  case atStart => exact ⟨0, rfl, by omega, Below.refl _ _, hid hq.out⟩
  case round =>
    obtain ⟨k, rfl, hk, hb, hr⟩ := hrel
    by_cases hlt : k < n
    · obtain ⟨b, off, rfl, hc⟩ := h.some_of (by omega)
      obtain ⟨ky, vl, hmem, hd, c0, c1⟩ := (hc.below hb).at k (by rw [hl.out]; exact hlt)
      have hkI : (k : Int) < (n : Int) := by omega
      have hkn := known1_ok (ky, vl) wr
      simp only at hkn
      cases hK : ((kindK (bs ky) : Int) != 0)
      · have E := hid (by rw [hr.out, hd.out, anyK, hK]; rfl : q = anyK (l.drop (k + 1)))
        rw [hK] at hkn
        clear hr hd hmem h hc hq
        go_wp2_with (go_at_call 39; refine hkn.mono ?_; rintro e w1 ⟨rfl, hb1⟩)
        go_roundw
        case rel => exact ⟨k + 1, by go_num, by omega, hb.trans (hb1.mono hb.size), E⟩
        case measure => simp [RowKit.intOf]; omega
      · have E := hid (by rw [hr.out, hd.out, anyK, hK]; rfl : q = true)
        rw [hK] at hkn
        clear hr hd hmem h hc hq
        go_wp2_with (go_at_call 39; refine hkn.mono ?_; rintro e w1 ⟨rfl, hb1⟩)
        go_ret
        exact ⟨_, rfl, by rw [E.out]; simp, hb.trans (hb1.mono hb.size)⟩
    · obtain rfl : k = n := by omega
      have E := hid (by rw [hr.out, List.drop_eq_nil_iff.mpr (by rw [hl.out]; exact Nat.le_refl _)]; rfl : q = false)
      clear hr hq h
      go_wp2
      go_ret
      exact ⟨_, rfl, by rw [E.out]; simp, hb⟩

set_option maxHeartbeats 2000000 in
theorem containsf_ok {w : World} {a : Option Addr} {n c : Nat} {l : PL} (h : Pys w a n c l) : Calls Tryz.prog 38 #[.slice a n c, .func (.func 39) #[] #[]] w fun e w' => e = .returned (.bool (anyK l)) ∧ Below w.heap.size w w' := by
  have hi := indexf_ok h
  generalize anyK l = q at *
  go_enter Tryz.func38, Tryz.ntmps38
  go_wp2_with (go_at_call 47; refine hi.mono ?_; rintro e w1 ⟨i, rfl, hq, hb1⟩)
  go_ret
  exact ⟨rfl, hb1⟩

set_option maxHeartbeats 2000000 in
theorem fextra_ok {w : World} {a : Option Addr} {n c : Nat} {l : PL} (h : Hd) (hp : Pys w a n c l) (hz : Sml l) (hL : Laid w) : Calls Tryz.prog 27 #[.agg (h.cs (.slice a n c))] w fun e w' => e = .returned (.bool (fextraR l)) ∧ Below w.heap.size w w' := by
  have hb0 := below_alloc w (.cells (h.cs (.slice a n c)) 42)
  have ho := oright_ok (hp.below hb0) hz (hL.below hb0)
  have hcx : ∀ {wr : World}, Below (w.heap.size + 1) (w.alloc (.cells (h.cs (.slice a n c)) 42)) wr → wr.cell? ⟨w.heap.size, 13, none⟩ = some (.slice a n c) := by
    intro wr hb
    exact box_cell (cs := h.cs (.slice a n c)) (t := 42) (by simpa using hb) 13
  have hsz : (w.alloc (.cells (h.cs (.slice a n c)) 42)).heap.size = w.heap.size + 1 := by simp
  unfold fextraR
  generalize ovB none l = q at *
  rw [hsz] at ho
  unfold Hd.cs at *
  cases q
  · go_enter Tryz.func27, Tryz.ntmps27
    go_wp2_with (go_at_call 37; refine ho.mono ?_; rintro e w1 ⟨rfl, hb1⟩)
    go_ret
    exact ⟨rfl, hb0.trans (hb1.mono (Nat.le_succ _))⟩
  · have hct := fun {wr : World} (hb : Below w.heap.size w wr) => containsf_ok (hp.below hb)
    generalize anyK l = r at *
    go_enter Tryz.func27, Tryz.ntmps27
    go_wp2_with (first
      | (go_at_call 37; refine ho.mono ?_; rintro e w1 ⟨rfl, hb1⟩; have hcx1 := hcx hb1; have hb2 := hb0.trans (hb1.mono (Nat.le_succ _)))
      | (go_at_call 38; refine (hct hb2).mono ?_; rintro e w2 ⟨rfl, hb3⟩))
    go_ret
    exact ⟨rfl, hb2.trans (hb3.mono hb2.size)⟩

end Go.Proofs.YtlehomcodkbpmaaGreatDoor

/-
  item.Wrong: THE FIRST FIELD THAT ISN'T RIGHT. Conditions: how long the texts and lists may be; what the listed variables hold.
-/
namespace Go.Proofs.YtlehomcodkbpmaaGreatDoor
open Go.ChangeShapes Go.WideShapes Go.ChangeAt Go.RowKit Go.Lib
set_option linter.unusedVariables false
set_option linter.unusedSimpArgs false
set_option maxRecDepth 20000

/-- which fields are right, in api's order -/
def fieldsR (h : Hd) (l : PL) : List Bool := [kndR h.kind, fnameR h, flinkR h, decide (0 ≤ h.mode), decide (0 ≤ h.uid), decide (0 ≤ h.gid), numR h.size (h.kind == 1), decide (0 ≤ h.nano ∧ h.nano < 1000000000), txtR h.user, txtR h.group, numR h.major (devR h.kind), numR h.minor (devR h.kind), fextraR l]
/-- the first that isn't -/
def wrongN : List Bool → Int → Int
  | [], _ => 0
  | b :: t, i => if b = true then wrongN t (i + 1) else i
def wrongH (h : Hd) (l : PL) : Int := wrongN (fieldsR h l) 1

set_option maxHeartbeats 16000000 in
theorem wrong_ok {w : World} {a : Option Addr} {n c : Nat} {l : PL} (h : Hd) (hp : Pys w a n c l) (hz : Sml l) (hs : h.name.size ≤ 9000000000000000) (hL : Laid w) :
    Calls Tryz.prog 8 #[.agg (h.cs (.slice a n c))] w fun e w' => e = .returned (.int .i64 (wrongH h l)) ∧ Below w.heap.size w w' := by
  have c1 := fkind_ok h (.slice a n c)
  have c2 := fname_ok h (.slice a n c) hs
  have c3 := flink_ok h (.slice a n c)
  have c4 := fmode_ok h (.slice a n c)
  have c5 := fuid_ok h (.slice a n c)
  have c6 := fgid_ok h (.slice a n c)
  have c7 := fsize_ok h (.slice a n c)
  have c8 := ftime_ok h (.slice a n c)
  have c9 := fuser_ok h (.slice a n c)
  have c10 := fgroup_ok h (.slice a n c)
  have c11 := fmajor_ok h (.slice a n c)
  have c12 := fminor_ok h (.slice a n c)
  have c13 := fun (wr : World) (hb : Below w.heap.size w wr) => fextra_ok h (hp.below hb) hz (hL.below hb)
  have hB0 : Blk ((w.alloc (.cells (h.cs (.slice a n c)) 26)).alloc (.cells (h.cs (.slice a n c)) 42)) (w.heap.size + 1) (h.cs (.slice a n c)) 42 := (two_new w _ _).2
  have hac0 : Below w.heap.size w ((w.alloc (.cells (h.cs (.slice a n c)) 26)).alloc (.cells (h.cs (.slice a n c)) 42)) := (two_new w _ _).1
  unfold wrongH fieldsR
  generalize kndR h.kind = b1 at *
  generalize fnameR h = b2 at *
  generalize flinkR h = b3 at *
  generalize decide (0 ≤ h.mode) = b4 at *
  generalize decide (0 ≤ h.uid) = b5 at *
  generalize decide (0 ≤ h.gid) = b6 at *
  generalize numR h.size (h.kind == 1) = b7 at *
  generalize decide (0 ≤ h.nano ∧ h.nano < 1000000000) = b8 at *
  generalize txtR h.user = b9 at *
  generalize txtR h.group = b10 at *
  generalize numR h.major (devR h.kind) = b11 at *
  generalize numR h.minor (devR h.kind) = b12 at *
  generalize fextraR l = b13 at *
  clear hp hz hL hs
  obtain ⟨cs, hcs⟩ : ∃ cs, cs = h.cs (.slice a n c) := ⟨_, rfl⟩
  have hn : (Tryz.prog.info? 42).map (·.size) = some (h.cs (.slice a n c)).size := by kernel_rfl
  have hB := hB0
  have hac := hac0
  clear hB0 hac0
  unfold Hd.cs at *
  go_enter Tryz.func8, Tryz.ntmps8
  go_wp2_with (first
    | (go_at_call 15; refine (c1 _).mono ?_; rintro e wx ⟨rfl, hbx⟩; replace hB := hB.below hbx; replace hac := hac.trans (hbx.mono hac.size); clear hbx)
    | (go_at_call 16; refine (c2 _).mono ?_; rintro e wx ⟨rfl, hbx⟩; replace hB := hB.below hbx; replace hac := hac.trans (hbx.mono hac.size); clear hbx)
    | (go_at_call 17; refine (c3 _).mono ?_; rintro e wx ⟨rfl, hbx⟩; replace hB := hB.below hbx; replace hac := hac.trans (hbx.mono hac.size); clear hbx)
    | (go_at_call 18; refine (c4 _).mono ?_; rintro e wx ⟨rfl, hbx⟩; replace hB := hB.below hbx; replace hac := hac.trans (hbx.mono hac.size); clear hbx)
    | (go_at_call 19; refine (c5 _).mono ?_; rintro e wx ⟨rfl, hbx⟩; replace hB := hB.below hbx; replace hac := hac.trans (hbx.mono hac.size); clear hbx)
    | (go_at_call 20; refine (c6 _).mono ?_; rintro e wx ⟨rfl, hbx⟩; replace hB := hB.below hbx; replace hac := hac.trans (hbx.mono hac.size); clear hbx)
    | (go_at_call 21; refine (c7 _).mono ?_; rintro e wx ⟨rfl, hbx⟩; replace hB := hB.below hbx; replace hac := hac.trans (hbx.mono hac.size); clear hbx)
    | (go_at_call 22; refine (c8 _).mono ?_; rintro e wx ⟨rfl, hbx⟩; replace hB := hB.below hbx; replace hac := hac.trans (hbx.mono hac.size); clear hbx)
    | (go_at_call 23; refine (c9 _).mono ?_; rintro e wx ⟨rfl, hbx⟩; replace hB := hB.below hbx; replace hac := hac.trans (hbx.mono hac.size); clear hbx)
    | (go_at_call 24; refine (c10 _).mono ?_; rintro e wx ⟨rfl, hbx⟩; replace hB := hB.below hbx; replace hac := hac.trans (hbx.mono hac.size); clear hbx)
    | (go_at_call 25; refine (c11 _).mono ?_; rintro e wx ⟨rfl, hbx⟩; replace hB := hB.below hbx; replace hac := hac.trans (hbx.mono hac.size); clear hbx)
    | (go_at_call 26; refine (c12 _).mono ?_; rintro e wx ⟨rfl, hbx⟩; replace hB := hB.below hbx; replace hac := hac.trans (hbx.mono hac.size); clear hbx)
    | (go_at_call 27; refine (c13 _ hac).mono ?_; rintro e wx ⟨rfl, hbx⟩; replace hB := hB.below hbx; replace hac := hac.trans (hbx.mono hac.size); clear hbx)
    | (refine wpList_load_row (P := Tryz.prog) rfl 42 (.tmp 3) rfl (w.heap.size + 1) rfl 42 _ (0, 0) _ hB Tryz.underlying42 rfl hn ?_))
  all_goals go_ret
  all_goals exact ⟨ret_int (by simp_all [wrongN]), hac⟩

end Go.Proofs.YtlehomcodkbpmaaGreatDoor
