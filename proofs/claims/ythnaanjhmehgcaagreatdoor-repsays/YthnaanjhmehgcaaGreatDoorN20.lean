/-
  THE FIELDS OF A HEAD, ASKED ONE BY ONE (item's methods); AND WHAT FOLLOWS OF IT. Conditions: those that each part names.
-/
import Derived.Test.YthnaanjhmehgcaaGreatDoorN13
import Derived.Test.YthnaanjhmehgcaaGreatDoorN17
import Derived.Test.YthnaanjhmehgcaaGreatDoorN15
import Derived.Test.YthnaanjhmehgcaaGreatDoorN18
import Derived.BigQuiet
import Derived.Test.YthnaanjhmehgcaaGreatDoorN19
/-
  THE FIELDS OF A HEAD, ASKED ONE BY ONE (item's methods). Conditions: how long the texts and lists may be; what the listed variables hold.
-/
namespace Go.Proofs.YthnaanjhmehgcaaGreatDoor
open Go.ChangeShapes Go.WideShapes Go.ChangeAt Go.RowKit Go.Lib
set_option linter.unusedVariables false
set_option linter.unusedSimpArgs false
set_option maxRecDepth 20000

/-- may a text be one, a name, a number? -/
def txtR (s : ByteArray) : Bool := decide (s.size ≤ 65536) && !has 0 (bs s)
def namR (s : ByteArray) : Bool := !(s.toList == []) && txtR s
def numR (n : Int) (t : Bool) : Bool := decide (n = 0) || (decide (0 < n) && t)
def kndR (k : Int) : Bool := decide (1 ≤ k ∧ k ≤ 7)
def devR (k : Int) : Bool := k == 4 || k == 5
def anyK : PL → Bool
  | [] => false
  | p :: t => (kindK (bs p.1) != 0) || anyK t
def fnameR (h : Hd) : Bool := namR h.name && !(h.kind == 1 && endsS h.name)
def flinkR (h : Hd) : Bool := if h.kind == 2 || h.kind == 3 then namR h.link else h.link.toList == []
def fextraR (l : PL) : Bool := ovB none l && !anyK l

set_option maxHeartbeats 1000000 in
theorem clean_ok (s : ByteArray) (w : World) : Calls Tryz.prog 114 #[.string s] w fun e w' => w' = w ∧ e = .returned (.bool (!has 0 (bs s))) := by
  have hib := fun w => Tryz.strings_IndexByte s 0 w
  have hge := indexByte_ge (bs s) 0
  have hm := indexByte_mem 0 (bs s)
  generalize has 0 (bs s) = q at *
  have E : decide (indexByte s.data.toList 0 < 0) = !q := by
    rw [← hm]
    show decide (indexByte (bs s) 0 < 0) = !decide (0 ≤ indexByte (bs s) 0)
    rw [Bool.eq_iff_iff]; simp
  clear hm hge
  go_enter Tryz.func114, Tryz.ntmps114
  go_wp2_with (go_at_call 146; refine (hib _).mono ?_; rintro e w' ⟨hw, rfl⟩; obtain rfl := hw.symm)
  go_ret
  exact ⟨rfl, rfl⟩

set_option maxHeartbeats 1000000 in
theorem itext_ok (s : ByteArray) (w : World) : Calls Tryz.prog 88 #[.string s] w fun e w' => w' = w ∧ e = .returned (.bool (txtR s)) := by
  have hc := clean_ok s
  unfold txtR
  generalize has 0 (bs s) = q at *
  by_cases h : s.size ≤ 65536
  · have hI : (s.size : Int) ≤ 65536 := by omega
    rw [decide_eq_true h]
    go_enter Tryz.func88, Tryz.ntmps88
    go_wp2_with (go_at_call 114; refine (hc _).mono ?_; rintro e w' ⟨hw, rfl⟩; obtain rfl := hw.symm)
    go_ret
    exact ⟨rfl, rfl⟩
  · have hI : ¬ (s.size : Int) ≤ 65536 := by omega
    rw [decide_eq_false h]
    go_enter Tryz.func88, Tryz.ntmps88
    go_wp2
    go_ret
    exact ⟨rfl, rfl⟩

set_option maxHeartbeats 1000000 in
theorem name_ok (s : ByteArray) (w : World) : Calls Tryz.prog 85 #[.string s] w fun e w' => w' = w ∧ e = .returned (.bool (namR s)) := by
  have hc := itext_ok s
  unfold namR
  generalize txtR s = q at *
  cases h : (s.toList == [])
  · go_enter Tryz.func85, Tryz.ntmps85
    go_wp2_with (go_at_call 88; refine (hc _).mono ?_; rintro e w' ⟨hw, rfl⟩; obtain rfl := hw.symm)
    go_ret
    exact ⟨rfl, rfl⟩
  · go_enter Tryz.func85, Tryz.ntmps85
    go_wp2
    go_ret
    exact ⟨rfl, rfl⟩

set_option maxHeartbeats 1000000 in
theorem num_ok (n : Int) (t : Bool) (w : World) : Calls Tryz.prog 86 #[.int .i64 n, .bool t] w fun e w' => w' = w ∧ e = .returned (.bool (numR n t)) := by
  unfold numR
  by_cases h : n = 0
  · subst h
    go_enter Tryz.func86, Tryz.ntmps86
    go_wp2
    all_goals go_ret
    all_goals exact ⟨rfl, ret_bool (by simp)⟩
  · have hb : (n == 0) = false := by simpa using h
    by_cases h2 : 0 < n
    · go_enter Tryz.func86, Tryz.ntmps86
      go_wp2
      all_goals go_ret
      all_goals exact ⟨rfl, ret_bool (by simp [h, h2])⟩
    · go_enter Tryz.func86, Tryz.ntmps86
      go_wp2
      all_goals go_ret
      all_goals exact ⟨rfl, ret_bool (by rw [decide_eq_false (show ¬ 0 < n by omega)]; rfl)⟩

set_option maxHeartbeats 4000000 in
theorem iflag_ok (k : Int) (w : World) : Calls Tryz.prog 84 #[.int .i64 k] w fun e w' => w' = w ∧ ∃ f, e = .returned (.int .u8 f) ∧ (f != 0) = kndR k := by
  by_cases hc : k = 1 ∨ k = 2 ∨ k = 3 ∨ k = 4 ∨ k = 5 ∨ k = 6 ∨ k = 7
  · rcases hc with rfl | rfl | rfl | rfl | rfl | rfl | rfl
    all_goals go_enter Tryz.func84, Tryz.ntmps84
    all_goals go_wp2
    all_goals go_ret
    all_goals exact ⟨rfl, _, rfl, rfl⟩
  · have g1 : (k == 1) = false := by simp; omega
    have g2 : (k == 2) = false := by simp; omega
    have g3 : (k == 3) = false := by simp; omega
    have g4 : (k == 4) = false := by simp; omega
    have g5 : (k == 5) = false := by simp; omega
    have g6 : (k == 6) = false := by simp; omega
    have g7 : (k == 7) = false := by simp; omega
    have E := hid (by unfold kndR; rw [decide_eq_false (by omega)] : kndR k = false)
    clear hc
    go_enter Tryz.func84, Tryz.ntmps84
    go_wp2
    go_ret
    exact ⟨rfl, _, rfl, by rw [E.out]; rfl⟩

set_option maxHeartbeats 1000000 in
theorem fkind_ok (h : Hd) (x : Value) (w : World) : Calls Tryz.prog 43 #[.agg (h.cs x)] w fun e w' => e = .returned (.bool (kndR h.kind)) ∧ Below w.heap.size w w' := by
  have hc := iflag_ok h.kind
  unfold Hd.cs
  generalize kndR h.kind = q at *
  go_enter Tryz.func43, Tryz.ntmps43
  go_wp2_with (go_at_call 84; refine (hc _).mono ?_; rintro e w' ⟨hw, f, rfl, hf⟩; obtain rfl := hw.symm)
  go_ret
  exact ⟨rfl, below_alloc _ _⟩

set_option maxHeartbeats 2000000 in
theorem fname_ok (h : Hd) (x : Value) (hs : h.name.size ≤ 9000000000000000) (w : World) : Calls Tryz.prog 44 #[.agg (h.cs x)] w fun e w' => e = .returned (.bool (fnameR h)) ∧ Below w.heap.size w w' := by
  have hc := name_ok h.name
  have hsf := suf_ok h.name (by omega)
  unfold Hd.cs fnameR
  generalize namR h.name = q at *
  generalize endsS h.name = s at *
  cases q
  · go_enter Tryz.func44, Tryz.ntmps44
    go_wp2_with (go_at_call 85; refine (hc _).mono ?_; rintro e w' ⟨hw, rfl⟩; obtain rfl := hw.symm)
    go_ret
    exact ⟨rfl, below_alloc _ _⟩
  · cases hk : (h.kind == 1)
    · go_enter Tryz.func44, Tryz.ntmps44
      go_wp2_with (go_at_call 85; refine (hc _).mono ?_; rintro e w' ⟨hw, rfl⟩; obtain rfl := hw.symm)
      go_ret
      exact ⟨rfl, below_alloc _ _⟩
    · go_enter Tryz.func44, Tryz.ntmps44
      go_wp2_with (first | (go_at_call 85; refine (hc _).mono ?_; rintro e w' ⟨hw, rfl⟩; obtain rfl := hw.symm) | (go_at_call 58; refine (hsf _).mono ?_; rintro e w' ⟨hw, rfl⟩; obtain rfl := hw.symm))
      go_ret
      exact ⟨rfl, below_alloc _ _⟩

set_option maxHeartbeats 2000000 in
theorem flink_ok (h : Hd) (x : Value) (w : World) : Calls Tryz.prog 45 #[.agg (h.cs x)] w fun e w' => e = .returned (.bool (flinkR h)) ∧ Below w.heap.size w w' := by
  have hc := name_ok h.link
  unfold Hd.cs flinkR
  generalize namR h.link = q at *
  cases h2 : (h.kind == 2)
  · cases h3 : (h.kind == 3)
    · go_enter Tryz.func45, Tryz.ntmps45
      go_wp2
      go_ret
      exact ⟨rfl, below_alloc _ _⟩
    · go_enter Tryz.func45, Tryz.ntmps45
      go_wp2_with (go_at_call 85; refine (hc _).mono ?_; rintro e w' ⟨hw, rfl⟩; obtain rfl := hw.symm)
      go_ret
      exact ⟨rfl, below_alloc _ _⟩
  · go_enter Tryz.func45, Tryz.ntmps45
    go_wp2_with (go_at_call 85; refine (hc _).mono ?_; rintro e w' ⟨hw, rfl⟩; obtain rfl := hw.symm)
    go_ret
    exact ⟨rfl, below_alloc _ _⟩

theorem fmode_ok (h : Hd) (x : Value) (w : World) : Calls Tryz.prog 46 #[.agg (h.cs x)] w fun e w' => e = .returned (.bool (decide (0 ≤ h.mode))) ∧ Below w.heap.size w w' := by
  unfold Hd.cs
  go_enter Tryz.func46, Tryz.ntmps46
  go_wp2
  go_ret
  exact ⟨rfl, below_alloc _ _⟩

theorem fuid_ok (h : Hd) (x : Value) (w : World) : Calls Tryz.prog 47 #[.agg (h.cs x)] w fun e w' => e = .returned (.bool (decide (0 ≤ h.uid))) ∧ Below w.heap.size w w' := by
  unfold Hd.cs
  go_enter Tryz.func47, Tryz.ntmps47
  go_wp2
  go_ret
  exact ⟨rfl, below_alloc _ _⟩

theorem fgid_ok (h : Hd) (x : Value) (w : World) : Calls Tryz.prog 48 #[.agg (h.cs x)] w fun e w' => e = .returned (.bool (decide (0 ≤ h.gid))) ∧ Below w.heap.size w w' := by
  unfold Hd.cs
  go_enter Tryz.func48, Tryz.ntmps48
  go_wp2
  go_ret
  exact ⟨rfl, below_alloc _ _⟩

theorem fsize_ok (h : Hd) (x : Value) (w : World) : Calls Tryz.prog 49 #[.agg (h.cs x)] w fun e w' => e = .returned (.bool (numR h.size (h.kind == 1))) ∧ Below w.heap.size w w' := by
  have hc := num_ok h.size (h.kind == 1)
  unfold Hd.cs
  generalize numR h.size (h.kind == 1) = q at *
  go_enter Tryz.func49, Tryz.ntmps49
  go_wp2_with (go_at_call 86; refine (hc _).mono ?_; rintro e w' ⟨hw, rfl⟩; obtain rfl := hw.symm)
  go_ret
  exact ⟨rfl, below_alloc _ _⟩

theorem ftime_ok (h : Hd) (x : Value) (w : World) : Calls Tryz.prog 50 #[.agg (h.cs x)] w fun e w' => e = .returned (.bool (decide (0 ≤ h.nano ∧ h.nano < 1000000000))) ∧ Below w.heap.size w w' := by
  have hc := dright_ok h.sec h.nano
  unfold Hd.cs
  generalize decide (0 ≤ h.nano ∧ h.nano < 1000000000) = q at *
  go_enter Tryz.func50, Tryz.ntmps50
  go_wp2_with (go_at_call 87; refine (hc _).mono ?_; rintro e w1 ⟨rfl, hb⟩)
  go_ret
  exact ⟨rfl, (below_alloc _ _).trans (hb.mono (by simp))⟩

theorem fuser_ok (h : Hd) (x : Value) (w : World) : Calls Tryz.prog 51 #[.agg (h.cs x)] w fun e w' => e = .returned (.bool (txtR h.user)) ∧ Below w.heap.size w w' := by
  have hc := itext_ok h.user
  unfold Hd.cs
  generalize txtR h.user = q at *
  go_enter Tryz.func51, Tryz.ntmps51
  go_wp2_with (go_at_call 88; refine (hc _).mono ?_; rintro e w' ⟨hw, rfl⟩; obtain rfl := hw.symm)
  go_ret
  exact ⟨rfl, below_alloc _ _⟩

theorem fgroup_ok (h : Hd) (x : Value) (w : World) : Calls Tryz.prog 52 #[.agg (h.cs x)] w fun e w' => e = .returned (.bool (txtR h.group)) ∧ Below w.heap.size w w' := by
  have hc := itext_ok h.group
  unfold Hd.cs
  generalize txtR h.group = q at *
  go_enter Tryz.func52, Tryz.ntmps52
  go_wp2_with (go_at_call 88; refine (hc _).mono ?_; rintro e w' ⟨hw, rfl⟩; obtain rfl := hw.symm)
  go_ret
  exact ⟨rfl, below_alloc _ _⟩

theorem fdev_ok (h : Hd) (x : Value) (w : World) : Calls Tryz.prog 89 #[.agg (h.cs x)] w fun e w' => e = .returned (.bool (devR h.kind)) ∧ Below w.heap.size w w' := by
  unfold Hd.cs devR
  cases h2 : (h.kind == 4)
  · go_enter Tryz.func89, Tryz.ntmps89
    go_wp2
    go_ret
    exact ⟨rfl, below_alloc _ _⟩
  · go_enter Tryz.func89, Tryz.ntmps89
    go_wp2
    go_ret
    exact ⟨rfl, below_alloc _ _⟩

theorem box_cell {w w2 : World} {cs : Array Value} {t : TypeId} (hb : Below (w.alloc (.cells cs t)).heap.size (w.alloc (.cells cs t)) w2) (i : Nat) : w2.cell? ⟨w.heap.size, i, none⟩ = cs[i]? := by
  have h : w2.heap[w.heap.size]? = some (.cells cs t) := by
    rw [hb.block _ (by simp)]; exact heap_alloc_new _ _
  simp [World.cell?, h]

set_option maxHeartbeats 4000000 in
theorem fmajor_ok (h : Hd) (x : Value) (w : World) : Calls Tryz.prog 53 #[.agg (h.cs x)] w fun e w' => e = .returned (.bool (numR h.major (devR h.kind))) ∧ Below w.heap.size w w' := by
  have hd := fdev_ok h x
  have hn := num_ok h.major (devR h.kind)
  generalize numR h.major (devR h.kind) = q at *
  generalize devR h.kind = dv at *
  obtain ⟨W1, hW1⟩ : ∃ W1, W1 = w.alloc (.cells (h.cs x) 76) := ⟨_, rfl⟩
  have G : ∀ (p : After W1) (i : Nat), p.out.cell? ⟨w.heap.size, i, none⟩ = (h.cs x)[i]? := fun p i => by
    subst hW1; exact box_cell p.bel i
  have hB : Below w.heap.size w W1 := by subst hW1; exact below_alloc _ _
  have hne : Nonempty (After W1) := ⟨⟨_, Below.refl _ _⟩⟩
  have g0 : ∀ p : After W1, p.out.cell? ⟨w.heap.size, 0, none⟩ = some (.int .i64 h.kind) := fun p => G p 0
  have g1 : ∀ p : After W1, p.out.cell? ⟨w.heap.size, 1, none⟩ = some (.string h.name) := fun p => G p 1
  have g2 : ∀ p : After W1, p.out.cell? ⟨w.heap.size, 2, none⟩ = some (.string h.link) := fun p => G p 2
  have g3 : ∀ p : After W1, p.out.cell? ⟨w.heap.size, 3, none⟩ = some (.int .i64 h.mode) := fun p => G p 3
  have g4 : ∀ p : After W1, p.out.cell? ⟨w.heap.size, 4, none⟩ = some (.int .i64 h.uid) := fun p => G p 4
  have g5 : ∀ p : After W1, p.out.cell? ⟨w.heap.size, 5, none⟩ = some (.int .i64 h.gid) := fun p => G p 5
  have g6 : ∀ p : After W1, p.out.cell? ⟨w.heap.size, 6, none⟩ = some (.int .i64 h.size) := fun p => G p 6
  have g7 : ∀ p : After W1, p.out.cell? ⟨w.heap.size, 7, none⟩ = some (.int .i64 h.sec) := fun p => G p 7
  have g8 : ∀ p : After W1, p.out.cell? ⟨w.heap.size, 8, none⟩ = some (.int .i64 h.nano) := fun p => G p 8
  have g9 : ∀ p : After W1, p.out.cell? ⟨w.heap.size, 9, none⟩ = some (.string h.user) := fun p => G p 9
  have g10 : ∀ p : After W1, p.out.cell? ⟨w.heap.size, 10, none⟩ = some (.string h.group) := fun p => G p 10
  have g11 : ∀ p : After W1, p.out.cell? ⟨w.heap.size, 11, none⟩ = some (.int .i64 h.major) := fun p => G p 11
  have g12 : ∀ p : After W1, p.out.cell? ⟨w.heap.size, 12, none⟩ = some (.int .i64 h.minor) := fun p => G p 12
  have g13 : ∀ p : After W1, p.out.cell? ⟨w.heap.size, 13, none⟩ = some (x) := fun p => G p 13
  clear G
  unfold Hd.cs at hd hW1 ⊢
  go_enter Tryz.func53, Tryz.ntmps53
  go_wp2
  rw [← hW1]
  clear hW1
  refine wp_region_after (by kernel_rfl) (by kernel_rfl) ?_
  repeat (go_big_quiet_step ((first
    | (go_at_call 89; exact after_below _ (hd _))
    | (go_at_call 86; exact after_same _ (hn _)))))
  refine wpQuiet_nil ?_
  intro wq hw'
  obtain ⟨⟨z, hwq⟩, hx⟩ := hw'
  simp only at hx
  subst hx
  go_wp2
  go_ret
  exact ⟨rfl, hB.trans (hwq.mono hB.size)⟩

set_option maxHeartbeats 4000000 in
theorem fminor_ok (h : Hd) (x : Value) (w : World) : Calls Tryz.prog 54 #[.agg (h.cs x)] w fun e w' => e = .returned (.bool (numR h.minor (devR h.kind))) ∧ Below w.heap.size w w' := by
  have hd := fdev_ok h x
  have hn := num_ok h.minor (devR h.kind)
  generalize numR h.minor (devR h.kind) = q at *
  generalize devR h.kind = dv at *
  obtain ⟨W1, hW1⟩ : ∃ W1, W1 = w.alloc (.cells (h.cs x) 76) := ⟨_, rfl⟩
  have G : ∀ (p : After W1) (i : Nat), p.out.cell? ⟨w.heap.size, i, none⟩ = (h.cs x)[i]? := fun p i => by
    subst hW1; exact box_cell p.bel i
  have hB : Below w.heap.size w W1 := by subst hW1; exact below_alloc _ _
  have hne : Nonempty (After W1) := ⟨⟨_, Below.refl _ _⟩⟩
  have g0 : ∀ p : After W1, p.out.cell? ⟨w.heap.size, 0, none⟩ = some (.int .i64 h.kind) := fun p => G p 0
  have g1 : ∀ p : After W1, p.out.cell? ⟨w.heap.size, 1, none⟩ = some (.string h.name) := fun p => G p 1
  have g2 : ∀ p : After W1, p.out.cell? ⟨w.heap.size, 2, none⟩ = some (.string h.link) := fun p => G p 2
  have g3 : ∀ p : After W1, p.out.cell? ⟨w.heap.size, 3, none⟩ = some (.int .i64 h.mode) := fun p => G p 3
  have g4 : ∀ p : After W1, p.out.cell? ⟨w.heap.size, 4, none⟩ = some (.int .i64 h.uid) := fun p => G p 4
  have g5 : ∀ p : After W1, p.out.cell? ⟨w.heap.size, 5, none⟩ = some (.int .i64 h.gid) := fun p => G p 5
  have g6 : ∀ p : After W1, p.out.cell? ⟨w.heap.size, 6, none⟩ = some (.int .i64 h.size) := fun p => G p 6
  have g7 : ∀ p : After W1, p.out.cell? ⟨w.heap.size, 7, none⟩ = some (.int .i64 h.sec) := fun p => G p 7
  have g8 : ∀ p : After W1, p.out.cell? ⟨w.heap.size, 8, none⟩ = some (.int .i64 h.nano) := fun p => G p 8
  have g9 : ∀ p : After W1, p.out.cell? ⟨w.heap.size, 9, none⟩ = some (.string h.user) := fun p => G p 9
  have g10 : ∀ p : After W1, p.out.cell? ⟨w.heap.size, 10, none⟩ = some (.string h.group) := fun p => G p 10
  have g11 : ∀ p : After W1, p.out.cell? ⟨w.heap.size, 11, none⟩ = some (.int .i64 h.major) := fun p => G p 11
  have g12 : ∀ p : After W1, p.out.cell? ⟨w.heap.size, 12, none⟩ = some (.int .i64 h.minor) := fun p => G p 12
  have g13 : ∀ p : After W1, p.out.cell? ⟨w.heap.size, 13, none⟩ = some (x) := fun p => G p 13
  clear G
  unfold Hd.cs at hd hW1 ⊢
  go_enter Tryz.func54, Tryz.ntmps54
  go_wp2
  rw [← hW1]
  clear hW1
  refine wp_region_after (by kernel_rfl) (by kernel_rfl) ?_
  repeat (go_big_quiet_step ((first
    | (go_at_call 89; exact after_below _ (hd _))
    | (go_at_call 86; exact after_same _ (hn _)))))
  refine wpQuiet_nil ?_
  intro wq hw'
  obtain ⟨⟨z, hwq⟩, hx⟩ := hw'
  simp only at hx
  subst hx
  go_wp2
  go_ret
  exact ⟨rfl, hB.trans (hwq.mono hB.size)⟩

set_option maxHeartbeats 2000000 in
theorem known1_ok (p : ByteArray × ByteArray) (w : World) : Calls Tryz.prog 91 #[.agg #[.string p.1, .string p.2]] w fun e w' => e = .returned (.bool (kindK (bs p.1) != 0)) ∧ Below w.heap.size w w' := by
  have hc := known_ok p.1
  generalize ((kindK (bs p.1) : Int) != 0) = q at *
  go_enter Tryz.func91, Tryz.ntmps91
  go_wp2_with (go_at_call 116; refine (hc _).mono ?_; rintro e w' ⟨hw, rfl⟩; obtain rfl := hw.symm)
  go_ret
  exact ⟨rfl, below_alloc _ _⟩

set_option maxHeartbeats 4000000 in
theorem indexf_ok {w : World} {a : Option Addr} {n c : Nat} {l : PL} (h : Pys w a n c l) : Calls Tryz.prog 115 #[.slice a n c, .func (.func 91) #[] #[]] w fun e w' => ∃ i : Int, e = .returned (.int .i64 i) ∧ decide (0 ≤ i) = anyK l ∧ Below w.heap.size w w' := by
  have hm1 := h.2.1
  have hm2 := h.2.2.1
  obtain ⟨q, hq⟩ : ∃ q, q = anyK l := ⟨_, rfl⟩
  rw [← hq]
  have hl := hid h.1
  replace hq := hid hq
  go_enter Tryz.func115, Tryz.ntmps115
  go_wp2
  go_loopw [8] (fun x wr => ∃ k : Nat, x = .int .i64 k ∧ k ≤ n ∧ Below w.heap.size w wr ∧ Hid (q = anyK (l.drop k))) (fun x _ => n - (RowKit.intOf x).toNat)
  case atStart => exact ⟨0, rfl, by omega, Below.refl _ _, hid hq.out⟩
  case round =>
    obtain ⟨k, rfl, hk, hb, hr⟩ := hrel
    by_cases hlt : k < n
    · obtain ⟨b, off, rfl, hc⟩ := h.some_of (by omega)
      obtain ⟨ky, vl, hmem, hd, c0, c1⟩ := (hc.below hb).at k (by rw [hl.out]; exact hlt)
      have hkI : (k : Int) < (n : Int) := by omega
      have hkn := known1_ok (ky, vl) wr
      simp only at hkn
      cases hK : ((kindK (bs ky) : Int) != 0)
      · have E := hid (by rw [hr.out, hd.out, anyK, hK]; rfl : q = anyK (l.drop (k + 1)))
        rw [hK] at hkn
        clear hr hd hmem h hc hq
        go_wp2_with (go_at_call 91; refine hkn.mono ?_; rintro e w1 ⟨rfl, hb1⟩)
        go_roundw
        case rel => exact ⟨k + 1, by go_num, by omega, hb.trans (hb1.mono hb.size), E⟩
        case measure => simp [RowKit.intOf]; omega
      · have E := hid (by rw [hr.out, hd.out, anyK, hK]; rfl : q = true)
        rw [hK] at hkn
        clear hr hd hmem h hc hq
        go_wp2_with (go_at_call 91; refine hkn.mono ?_; rintro e w1 ⟨rfl, hb1⟩)
        go_ret
        exact ⟨_, rfl, by rw [E.out]; simp, hb.trans (hb1.mono hb.size)⟩
    · obtain rfl : k = n := by omega
      have E := hid (by rw [hr.out, List.drop_eq_nil_iff.mpr (by rw [hl.out]; exact Nat.le_refl _)]; rfl : q = false)
      clear hr hq h
      go_wp2
      go_ret
      exact ⟨_, rfl, by rw [E.out]; simp, hb⟩

set_option maxHeartbeats 2000000 in
theorem containsf_ok {w : World} {a : Option Addr} {n c : Nat} {l : PL} (h : Pys w a n c l) : Calls Tryz.prog 90 #[.slice a n c, .func (.func 91) #[] #[]] w fun e w' => e = .returned (.bool (anyK l)) ∧ Below w.heap.size w w' := by
  have hi := indexf_ok h
  generalize anyK l = q at *
  go_enter Tryz.func90, Tryz.ntmps90
  go_wp2_with (go_at_call 115; refine hi.mono ?_; rintro e w1 ⟨i, rfl, hq, hb1⟩)
  go_ret
  exact ⟨rfl, hb1⟩

set_option maxHeartbeats 2000000 in
theorem fextra_ok {w : World} {a : Option Addr} {n c : Nat} {l : PL} (h : Hd) (hp : Pys w a n c l) (hz : Sml l) (hL : Laid w) : Calls Tryz.prog 55 #[.agg (h.cs (.slice a n c))] w fun e w' => e = .returned (.bool (fextraR l)) ∧ Below w.heap.size w w' := by
  have hb0 := below_alloc w (.cells (h.cs (.slice a n c)) 76)
  have ho := oright_ok (hp.below hb0) hz (hL.below hb0)
  have hcx : ∀ {wr : World}, Below (w.heap.size + 1) (w.alloc (.cells (h.cs (.slice a n c)) 76)) wr → wr.cell? ⟨w.heap.size, 13, none⟩ = some (.slice a n c) := by
    intro wr hb
    exact box_cell (cs := h.cs (.slice a n c)) (t := 76) (by simpa using hb) 13
  have hsz : (w.alloc (.cells (h.cs (.slice a n c)) 76)).heap.size = w.heap.size + 1 := by simp
  unfold fextraR
  generalize ovB none l = q at *
  rw [hsz] at ho
  unfold Hd.cs at *
  cases q
  · go_enter Tryz.func55, Tryz.ntmps55
    go_wp2_with (go_at_call 21; refine ho.mono ?_; rintro e w1 ⟨rfl, hb1⟩)
    go_ret
    exact ⟨rfl, hb0.trans (hb1.mono (Nat.le_succ _))⟩
  · have hct := fun {wr : World} (hb : Below w.heap.size w wr) => containsf_ok (hp.below hb)
    generalize anyK l = r at *
    go_enter Tryz.func55, Tryz.ntmps55
    go_wp2_with (first
      | (go_at_call 21; refine ho.mono ?_; rintro e w1 ⟨rfl, hb1⟩; have hcx1 := hcx hb1; have hb2 := hb0.trans (hb1.mono (Nat.le_succ _)))
      | (go_at_call 90; refine (hct hb2).mono ?_; rintro e w2 ⟨rfl, hb3⟩))
    go_ret
    exact ⟨rfl, hb2.trans (hb3.mono hb2.size)⟩

end Go.Proofs.YthnaanjhmehgcaaGreatDoor

/-
  item.Wrong: THE FIRST FIELD THAT ISN'T RIGHT. Conditions: how long the texts and lists may be; what the listed variables hold.
-/
namespace Go.Proofs.YthnaanjhmehgcaaGreatDoor
open Go.ChangeShapes Go.WideShapes Go.ChangeAt Go.RowKit Go.Lib
set_option linter.unusedVariables false
set_option linter.unusedSimpArgs false
set_option maxRecDepth 20000

/-- which fields are right, in api's order -/
def fieldsR (h : Hd) (l : PL) : List Bool := [kndR h.kind, fnameR h, flinkR h, decide (0 ≤ h.mode), decide (0 ≤ h.uid), decide (0 ≤ h.gid), numR h.size (h.kind == 1), decide (0 ≤ h.nano ∧ h.nano < 1000000000), txtR h.user, txtR h.group, numR h.major (devR h.kind), numR h.minor (devR h.kind), fextraR l]
/-- the first that isn't -/
def wrongN : List Bool → Int → Int
  | [], _ => 0
  | b :: t, i => if b = true then wrongN t (i + 1) else i
def wrongH (h : Hd) (l : PL) : Int := wrongN (fieldsR h l) 1

set_option maxHeartbeats 16000000 in
theorem wrong_ok {w : World} {a : Option Addr} {n c : Nat} {l : PL} (h : Hd) (hp : Pys w a n c l) (hz : Sml l) (hs : h.name.size ≤ 9000000000000000) (hL : Laid w) :
    Calls Tryz.prog 20 #[.agg (h.cs (.slice a n c))] w fun e w' => e = .returned (.int .i64 (wrongH h l)) ∧ Below w.heap.size w w' := by
  have c1 := fkind_ok h (.slice a n c)
  have c2 := fname_ok h (.slice a n c) hs
  have c3 := flink_ok h (.slice a n c)
  have c4 := fmode_ok h (.slice a n c)
  have c5 := fuid_ok h (.slice a n c)
  have c6 := fgid_ok h (.slice a n c)
  have c7 := fsize_ok h (.slice a n c)
  have c8 := ftime_ok h (.slice a n c)
  have c9 := fuser_ok h (.slice a n c)
  have c10 := fgroup_ok h (.slice a n c)
  have c11 := fmajor_ok h (.slice a n c)
  have c12 := fminor_ok h (.slice a n c)
  have c13 := fun (wr : World) (hb : Below w.heap.size w wr) => fextra_ok h (hp.below hb) hz (hL.below hb)
  have hB0 : Blk ((w.alloc (.cells (h.cs (.slice a n c)) 26)).alloc (.cells (h.cs (.slice a n c)) 76)) (w.heap.size + 1) (h.cs (.slice a n c)) 76 := (two_new w _ _).2
  have hac0 : Below w.heap.size w ((w.alloc (.cells (h.cs (.slice a n c)) 26)).alloc (.cells (h.cs (.slice a n c)) 76)) := (two_new w _ _).1
  unfold wrongH fieldsR
  generalize kndR h.kind = b1 at *
  generalize fnameR h = b2 at *
  generalize flinkR h = b3 at *
  generalize decide (0 ≤ h.mode) = b4 at *
  generalize decide (0 ≤ h.uid) = b5 at *
  generalize decide (0 ≤ h.gid) = b6 at *
  generalize numR h.size (h.kind == 1) = b7 at *
  generalize decide (0 ≤ h.nano ∧ h.nano < 1000000000) = b8 at *
  generalize txtR h.user = b9 at *
  generalize txtR h.group = b10 at *
  generalize numR h.major (devR h.kind) = b11 at *
  generalize numR h.minor (devR h.kind) = b12 at *
  generalize fextraR l = b13 at *
  clear hp hz hL hs
  obtain ⟨cs, hcs⟩ : ∃ cs, cs = h.cs (.slice a n c) := ⟨_, rfl⟩
  have hn : (Tryz.prog.info? 76).map (·.size) = some (h.cs (.slice a n c)).size := by kernel_rfl
  have hB := hB0
  have hac := hac0
  clear hB0 hac0
  unfold Hd.cs at *
  go_enter Tryz.func20, Tryz.ntmps20
  go_wp2_with (first
    | (go_at_call 43; refine (c1 _).mono ?_; rintro e wx ⟨rfl, hbx⟩; replace hB := hB.below hbx; replace hac := hac.trans (hbx.mono hac.size); clear hbx)
    | (go_at_call 44; refine (c2 _).mono ?_; rintro e wx ⟨rfl, hbx⟩; replace hB := hB.below hbx; replace hac := hac.trans (hbx.mono hac.size); clear hbx)
    | (go_at_call 45; refine (c3 _).mono ?_; rintro e wx ⟨rfl, hbx⟩; replace hB := hB.below hbx; replace hac := hac.trans (hbx.mono hac.size); clear hbx)
    | (go_at_call 46; refine (c4 _).mono ?_; rintro e wx ⟨rfl, hbx⟩; replace hB := hB.below hbx; replace hac := hac.trans (hbx.mono hac.size); clear hbx)
    | (go_at_call 47; refine (c5 _).mono ?_; rintro e wx ⟨rfl, hbx⟩; replace hB := hB.below hbx; replace hac := hac.trans (hbx.mono hac.size); clear hbx)
    | (go_at_call 48; refine (c6 _).mono ?_; rintro e wx ⟨rfl, hbx⟩; replace hB := hB.below hbx; replace hac := hac.trans (hbx.mono hac.size); clear hbx)
    | (go_at_call 49; refine (c7 _).mono ?_; rintro e wx ⟨rfl, hbx⟩; replace hB := hB.below hbx; replace hac := hac.trans (hbx.mono hac.size); clear hbx)
    | (go_at_call 50; refine (c8 _).mono ?_; rintro e wx ⟨rfl, hbx⟩; replace hB := hB.below hbx; replace hac := hac.trans (hbx.mono hac.size); clear hbx)
    | (go_at_call 51; refine (c9 _).mono ?_; rintro e wx ⟨rfl, hbx⟩; replace hB := hB.below hbx; replace hac := hac.trans (hbx.mono hac.size); clear hbx)
    | (go_at_call 52; refine (c10 _).mono ?_; rintro e wx ⟨rfl, hbx⟩; replace hB := hB.below hbx; replace hac := hac.trans (hbx.mono hac.size); clear hbx)
    | (go_at_call 53; refine (c11 _).mono ?_; rintro e wx ⟨rfl, hbx⟩; replace hB := hB.below hbx; replace hac := hac.trans (hbx.mono hac.size); clear hbx)
    | (go_at_call 54; refine (c12 _).mono ?_; rintro e wx ⟨rfl, hbx⟩; replace hB := hB.below hbx; replace hac := hac.trans (hbx.mono hac.size); clear hbx)
    | (go_at_call 55; refine (c13 _ hac).mono ?_; rintro e wx ⟨rfl, hbx⟩; replace hB := hB.below hbx; replace hac := hac.trans (hbx.mono hac.size); clear hbx)
    | (refine wpList_load_row (P := Tryz.prog) rfl 76 (.tmp 3) rfl (w.heap.size + 1) rfl 76 _ (0, 0) _ hB Tryz.underlying76 rfl hn ?_))
  all_goals go_ret
  all_goals exact ⟨ret_int (by simp_all [wrongN]), hac⟩

end Go.Proofs.YthnaanjhmehgcaaGreatDoor

/-
  THE FULL NAMES OF A RIGHT HEAD TELL ITS KIND AND NAME, AND NO OTHERS DO. Nothing of the program. No condition.
-/
namespace Go.Proofs.YthnaanjhmehgcaaGreatDoor
open Go.ChangeShapes Go.WideShapes Go.ChangeAt Go.RowKit Go.Lib
set_option linter.unusedVariables false
set_option linter.unusedSimpArgs false
set_option maxRecDepth 20000

theorem nums_app1 (s t : ByteArray) : nums (s ++ t) = nums s ++ nums t := by
  unfold nums
  rw [ByteArray.data_append, Array.toList_append, List.map_append]

theorem ends_sl (s : ByteArray) : endsS (s ++ ⟨#[47]⟩) = true := by
  have hs : (s ++ ⟨#[47]⟩ : ByteArray).size = s.size + 1 := by rw [ByteArray.size_append]; rfl
  unfold endsS
  rw [hs, nums_app1]
  have e : nums ⟨#[47]⟩ = [47] := rfl
  rw [e]
  have : (nums s ++ [47]).getD (s.size + 1 - 1) 0 = 47 := by
    rw [Nat.add_sub_cancel, List.getD_eq_getElem?_getD, List.getElem?_append_right (by rw [nums_length]; exact Nat.le_refl _), nums_length]; simp
  rw [this]
  simp

theorem cut_sl (s : ByteArray) : cutS (s ++ ⟨#[47]⟩) = s := by
  have hs : (s ++ ⟨#[47]⟩ : ByteArray).size = s.size + 1 := by rw [ByteArray.size_append]; rfl
  apply nums_inj
  unfold cutS
  rw [nums_extract, hs, nums_app1, List.drop_zero]
  rw [show s.size + 1 - 1 - 0 = (nums s).length by rw [nums_length]; omega]
  exact List.take_left

theorem sl_cut (o : ByteArray) (h : endsS o = true) : cutS o ++ ⟨#[47]⟩ = o := by
  unfold endsS at h
  simp only [Bool.and_eq_true, decide_eq_true_eq, beq_iff_eq] at h
  obtain ⟨h0, h1⟩ := h
  apply nums_inj
  have e : nums ⟨#[47]⟩ = [47] := rfl
  rw [nums_app1, e]
  unfold cutS
  rw [nums_extract, List.drop_zero, Nat.sub_zero]
  have hl : o.size - 1 < (nums o).length := by rw [nums_length]; omega
  have h2 : (nums o)[o.size - 1] = 47 := by
    rw [List.getD_eq_getElem?_getD, List.getElem?_eq_getElem hl] at h1; simpa using h1
  have h3 := List.take_append_getElem hl
  rw [h2] at h3
  rw [h3, List.take_of_length_le (by rw [nums_length]; omega)]

theorem app_ne (s : ByteArray) (h : 0 < s.size) : s ++ ⟨#[47]⟩ ≠ (⟨#[47]⟩ : ByteArray) := by
  intro e
  have := congrArg ByteArray.size e
  rw [ByteArray.size_append] at this
  have e1 : (⟨#[47]⟩ : ByteArray).size = 1 := rfl
  omega

theorem ends_one : endsS ⟨#[47]⟩ = true := by decide +kernel

/-- each of them tells the kind and the name -/
theorem fulls_tell (k : Int) (s : ByteArray) (h0 : 0 < s.size) (h1 : k = 1 → endsS s = false) : ∀ f ∈ fulls k s, toldK k f = k ∧ toldS k f = s := by
  intro f hf
  unfold fulls at hf
  by_cases h6 : k = 6
  · subst h6
    have hT : ∀ x, toldK 6 x = 6 := fun x => by unfold toldK; rw [if_neg (by simp)]
    have hA : toldS 6 (s ++ ⟨#[47]⟩) = s := by
      unfold toldS; rw [hT, if_pos ⟨rfl, app_ne s h0, ends_sl s⟩, cut_sl]
    refine ⟨hT f, ?_⟩
    rw [if_pos rfl] at hf
    split at hf
    · have e : f = s ++ ⟨#[47]⟩ := by simpa using hf
      rw [e, hA]
    · rename_i hc
      have e : f = s ∨ f = s ++ ⟨#[47]⟩ := by simpa using hf
      rcases e with rfl | rfl
      · unfold toldS
        rw [hT, if_neg]
        rintro ⟨_, h3, h4⟩
        exact hc ⟨h3, h4⟩
      · exact hA
  · rw [if_neg h6] at hf
    have e : f = s := by simpa using hf
    subst e
    have hK : toldK k f = k := by
      unfold toldK
      rw [if_neg]
      rintro ⟨h2, h3⟩
      rw [h1 h2] at h3
      cases h3
    refine ⟨hK, ?_⟩
    unfold toldS
    rw [hK, if_neg (fun h => h6 h.1)]

/-- no other does -/
theorem fulls_only (k : Int) (s o : ByteArray) (hK : toldK k o = k) (hS : toldS k o = s) : o ∈ fulls k s := by
  unfold fulls
  unfold toldS at hS
  rw [hK] at hS
  by_cases h6 : k = 6
  · subst h6
    rw [if_pos rfl]
    by_cases hc : o ≠ ⟨#[47]⟩ ∧ endsS o = true
    · rw [if_pos ⟨rfl, hc⟩] at hS
      have e : o = s ++ ⟨#[47]⟩ := by rw [← hS, sl_cut o hc.2]
      split <;> simp [e]
    · rw [if_neg (fun h => hc h.2)] at hS
      subst hS
      rw [if_neg hc]
      simp
  · rw [if_neg (fun h => h6 h.1)] at hS
    rw [if_neg h6, hS]
    simp

/-- is a text among others? -/
def memB (o : ByteArray) : List ByteArray → Bool
  | [] => false
  | f :: t => (f.toList == o.toList) || memB o t
theorem memB_iff (o : ByteArray) : ∀ l : List ByteArray, memB o l = true ↔ o ∈ l
  | [] => by simp [memB]
  | f :: t => by
    rw [memB, Bool.or_eq_true, str_beq, memB_iff o t, List.mem_cons]
    exact ⟨fun h => h.imp Eq.symm id, fun h => h.imp Eq.symm id⟩
theorem memB_app (o f : ByteArray) : ∀ l : List ByteArray, memB o (l ++ [f]) = (memB o l || (f.toList == o.toList))
  | [] => by simp [memB]
  | g :: t => by rw [List.cons_append, memB, memB, memB_app o f t, Bool.or_assoc]

theorem fulls_iff (k : Int) (s o : ByteArray) (h0 : 0 < s.size) (h1 : k = 1 → endsS s = false) : memB o (fulls k s) = ((toldK k o == k) && ((toldS k o).toList == s.toList)) := by
  rw [str_dec, Bool.eq_iff_iff, memB_iff]
  simp only [decide_eq_true_eq, Bool.and_eq_true, beq_iff_eq]
  exact ⟨fulls_tell k s h0 h1 o, fun h => fulls_only k s o h.1 h.2⟩

theorem fulls_size (k : Int) (s : ByteArray) : ∀ f ∈ fulls k s, f.size ≤ s.size + 1 := by
  intro f hf
  have hs : (s ++ ⟨#[47]⟩ : ByteArray).size = s.size + 1 := by rw [ByteArray.size_append]; rfl
  unfold fulls at hf
  split at hf
  · split at hf
    · have e : f = s ++ ⟨#[47]⟩ := by simpa using hf
      rw [e, hs]; exact Nat.le_refl _
    · have e : f = s ∨ f = s ++ ⟨#[47]⟩ := by simpa using hf
      rcases e with rfl | rfl
      · omega
      · omega
  · have e : f = s := by simpa using hf
    rw [e]; omega

theorem fulls_len (k : Int) (s : ByteArray) : 0 < (fulls k s).length ∧ (fulls k s).length ≤ 2 := by
  unfold fulls
  repeat' split
  all_goals simp

theorem wrongN_zero : ∀ (l : List Bool) (i : Int), 0 < i → wrongN l i = 0 → ∀ b ∈ l, b = true
  | [], _, _, _ => by simp
  | b :: t, i, hi, h => by
    rw [wrongN] at h
    split at h
    · rename_i hb
      intro c hc
      rcases List.mem_cons.1 hc with rfl | hc
      · exact hb
      · exact wrongN_zero t (i + 1) (by omega) h c hc
    · omega

/-- what a right head's name is -/
theorem right_name {h : Hd} {l : PL} (e : wrongH h l = 0) : 0 < h.name.size ∧ (h.kind = 1 → endsS h.name = false) := by
  have hb := wrongN_zero _ _ (by decide) e (fnameR h) (by unfold fieldsR; simp)
  unfold fnameR namR at hb
  simp only [Bool.and_eq_true, Bool.not_eq_true', beq_eq_false_iff_ne] at hb
  obtain ⟨⟨h1, _⟩, h2⟩ := hb
  constructor
  · rcases Nat.eq_zero_or_pos h.name.size with e | e
    · exact absurd (by rw [toList_data]; simp; apply Array.eq_empty_of_size_eq_zero; exact e) h1
    · exact e
  · intro hk
    rw [hk] at h2
    simpa using h2

theorem mem_tot : ∀ (l : PL), ∀ p ∈ l, p.1.size + p.2.size ≤ totN l
  | [], p, h => by cases h
  | q :: t, p, h => by
    rw [totN]
    rcases List.mem_cons.1 h with rfl | h
    · omega
    · have := mem_tot t p h
      omega

end Go.Proofs.YthnaanjhmehgcaaGreatDoor
