/-
  THE FIELDS OF A HEAD, ASKED ONE BY ONE (item's methods). Conditions: how long the texts and lists may be; what the listed variables hold.
-/
import Derived.Test.YtlehomcodkbpmaaDoorAlv
import Derived.Test.YtlehomcodkbpmaaDoorOrt
import Derived.Test.YtlehomcodkbpmaaDoorKnw
import Derived.Test.YtlehomcodkbpmaaDoorDrt
import Derived.BigQuiet
namespace Go.Proofs.YtlehomcodkbpmaaDoor
open Go.ChangeShapes Go.WideShapes Go.ChangeAt Go.RowKit Go.Lib
set_option linter.unusedVariables false
set_option linter.unusedSimpArgs false
set_option maxRecDepth 20000

/-- may a text be one, a name, a number? -/
def txtR (s : ByteArray) : Bool := decide (s.size ≤ 65536) && !has 0 (bs s)
def namR (s : ByteArray) : Bool := !(s.toList == []) && txtR s
def numR (n : Int) (t : Bool) : Bool := decide (n = 0) || (decide (0 < n) && t)
def kndR (k : Int) : Bool := decide (1 ≤ k ∧ k ≤ 7)
def devR (k : Int) : Bool := k == 4 || k == 5
def anyK : PL → Bool
  | [] => false
  | p :: t => (kindK (bs p.1) != 0) || anyK t
def fnameR (h : Hd) : Bool := namR h.name && !(h.kind == 1 && endsS h.name)
def flinkR (h : Hd) : Bool := if h.kind == 2 || h.kind == 3 then namR h.link else h.link.toList == []
def fextraR (l : PL) : Bool := ovB none l && !anyK l

set_option maxHeartbeats 1000000 in
theorem clean_ok (s : ByteArray) (w : World) : Calls Tryd.prog 35 #[.string s] w fun e w' => w' = w ∧ e = .returned (.bool (!has 0 (bs s))) := by
  have hib := fun w => Tryd.strings_IndexByte s 0 w
  have hge := indexByte_ge (bs s) 0
  have hm := indexByte_mem 0 (bs s)
  generalize has 0 (bs s) = q at *
  have E : decide (indexByte s.data.toList 0 < 0) = !q := by
    rw [← hm]
    show decide (indexByte (bs s) 0 < 0) = !decide (0 ≤ indexByte (bs s) 0)
    rw [Bool.eq_iff_iff]; simp
  clear hm hge
  go_enter Tryd.func35, Tryd.ntmps35
  go_wp2_with (go_at_call 39; refine (hib _).mono ?_; rintro e w' ⟨hw, rfl⟩; obtain rfl := hw.symm)
  go_ret
  exact ⟨rfl, rfl⟩

set_option maxHeartbeats 1000000 in
theorem text_ok (s : ByteArray) (w : World) : Calls Tryd.prog 28 #[.string s] w fun e w' => w' = w ∧ e = .returned (.bool (txtR s)) := by
  have hc := clean_ok s
  unfold txtR
  generalize has 0 (bs s) = q at *
  by_cases h : s.size ≤ 65536
  · have hI : (s.size : Int) ≤ 65536 := by omega
    rw [decide_eq_true h]
    go_enter Tryd.func28, Tryd.ntmps28
    go_wp2_with (go_at_call 35; refine (hc _).mono ?_; rintro e w' ⟨hw, rfl⟩; obtain rfl := hw.symm)
    go_ret
    exact ⟨rfl, rfl⟩
  · have hI : ¬ (s.size : Int) ≤ 65536 := by omega
    rw [decide_eq_false h]
    go_enter Tryd.func28, Tryd.ntmps28
    go_wp2
    go_ret
    exact ⟨rfl, rfl⟩

set_option maxHeartbeats 1000000 in
theorem name_ok (s : ByteArray) (w : World) : Calls Tryd.prog 25 #[.string s] w fun e w' => w' = w ∧ e = .returned (.bool (namR s)) := by
  have hc := text_ok s
  unfold namR
  generalize txtR s = q at *
  cases h : (s.toList == [])
  · go_enter Tryd.func25, Tryd.ntmps25
    go_wp2_with (go_at_call 28; refine (hc _).mono ?_; rintro e w' ⟨hw, rfl⟩; obtain rfl := hw.symm)
    go_ret
    exact ⟨rfl, rfl⟩
  · go_enter Tryd.func25, Tryd.ntmps25
    go_wp2
    go_ret
    exact ⟨rfl, rfl⟩

set_option maxHeartbeats 1000000 in
theorem num_ok (n : Int) (t : Bool) (w : World) : Calls Tryd.prog 26 #[.int .i64 n, .bool t] w fun e w' => w' = w ∧ e = .returned (.bool (numR n t)) := by
  unfold numR
  by_cases h : n = 0
  · subst h
    go_enter Tryd.func26, Tryd.ntmps26
    go_wp2
    all_goals go_ret
    all_goals exact ⟨rfl, ret_bool (by simp)⟩
  · have hb : (n == 0) = false := by simpa using h
    by_cases h2 : 0 < n
    · go_enter Tryd.func26, Tryd.ntmps26
      go_wp2
      all_goals go_ret
      all_goals exact ⟨rfl, ret_bool (by simp [h, h2])⟩
    · go_enter Tryd.func26, Tryd.ntmps26
      go_wp2
      all_goals go_ret
      all_goals exact ⟨rfl, ret_bool (by rw [decide_eq_false (show ¬ 0 < n by omega)]; rfl)⟩

set_option maxHeartbeats 4000000 in
theorem iflag_ok (k : Int) (w : World) : Calls Tryd.prog 24 #[.int .i64 k] w fun e w' => w' = w ∧ ∃ f, e = .returned (.int .u8 f) ∧ (f != 0) = kndR k := by
  by_cases hc : k = 1 ∨ k = 2 ∨ k = 3 ∨ k = 4 ∨ k = 5 ∨ k = 6 ∨ k = 7
  · rcases hc with rfl | rfl | rfl | rfl | rfl | rfl | rfl
    all_goals go_enter Tryd.func24, Tryd.ntmps24
    all_goals go_wp2
    all_goals go_ret
    all_goals exact ⟨rfl, _, rfl, rfl⟩
  · have g1 : (k == 1) = false := by simp; omega
    have g2 : (k == 2) = false := by simp; omega
    have g3 : (k == 3) = false := by simp; omega
    have g4 : (k == 4) = false := by simp; omega
    have g5 : (k == 5) = false := by simp; omega
    have g6 : (k == 6) = false := by simp; omega
    have g7 : (k == 7) = false := by simp; omega
    have E := hid (by unfold kndR; rw [decide_eq_false (by omega)] : kndR k = false)
    clear hc
    go_enter Tryd.func24, Tryd.ntmps24
    go_wp2
    go_ret
    exact ⟨rfl, _, rfl, by rw [E.out]; rfl⟩

set_option maxHeartbeats 1000000 in
theorem fkind_ok (h : Hd) (x : Value) (w : World) : Calls Tryd.prog 9 #[.agg (h.cs x)] w fun e w' => e = .returned (.bool (kndR h.kind)) ∧ Below w.heap.size w w' := by
  have hc := iflag_ok h.kind
  unfold Hd.cs
  generalize kndR h.kind = q at *
  go_enter Tryd.func9, Tryd.ntmps9
  go_wp2_with (go_at_call 24; refine (hc _).mono ?_; rintro e w' ⟨hw, f, rfl, hf⟩; obtain rfl := hw.symm)
  go_ret
  exact ⟨rfl, below_alloc _ _⟩

set_option maxHeartbeats 2000000 in
theorem fname_ok (h : Hd) (x : Value) (hs : h.name.size ≤ 9000000000000000) (w : World) : Calls Tryd.prog 10 #[.agg (h.cs x)] w fun e w' => e = .returned (.bool (fnameR h)) ∧ Below w.heap.size w w' := by
  have hc := name_ok h.name
  have hsf := suf_ok h.name (by omega)
  unfold Hd.cs fnameR
  generalize namR h.name = q at *
  generalize endsS h.name = s at *
  cases q
  · go_enter Tryd.func10, Tryd.ntmps10
    go_wp2_with (go_at_call 25; refine (hc _).mono ?_; rintro e w' ⟨hw, rfl⟩; obtain rfl := hw.symm)
    go_ret
    exact ⟨rfl, below_alloc _ _⟩
  · cases hk : (h.kind == 1)
    · go_enter Tryd.func10, Tryd.ntmps10
      go_wp2_with (go_at_call 25; refine (hc _).mono ?_; rintro e w' ⟨hw, rfl⟩; obtain rfl := hw.symm)
      go_ret
      exact ⟨rfl, below_alloc _ _⟩
    · go_enter Tryd.func10, Tryd.ntmps10
      go_wp2_with (first | (go_at_call 25; refine (hc _).mono ?_; rintro e w' ⟨hw, rfl⟩; obtain rfl := hw.symm) | (go_at_call 22; refine (hsf _).mono ?_; rintro e w' ⟨hw, rfl⟩; obtain rfl := hw.symm))
      go_ret
      exact ⟨rfl, below_alloc _ _⟩

set_option maxHeartbeats 2000000 in
theorem flink_ok (h : Hd) (x : Value) (w : World) : Calls Tryd.prog 11 #[.agg (h.cs x)] w fun e w' => e = .returned (.bool (flinkR h)) ∧ Below w.heap.size w w' := by
  have hc := name_ok h.link
  unfold Hd.cs flinkR
  generalize namR h.link = q at *
  cases h2 : (h.kind == 2)
  · cases h3 : (h.kind == 3)
    · go_enter Tryd.func11, Tryd.ntmps11
      go_wp2
      go_ret
      exact ⟨rfl, below_alloc _ _⟩
    · go_enter Tryd.func11, Tryd.ntmps11
      go_wp2_with (go_at_call 25; refine (hc _).mono ?_; rintro e w' ⟨hw, rfl⟩; obtain rfl := hw.symm)
      go_ret
      exact ⟨rfl, below_alloc _ _⟩
  · go_enter Tryd.func11, Tryd.ntmps11
    go_wp2_with (go_at_call 25; refine (hc _).mono ?_; rintro e w' ⟨hw, rfl⟩; obtain rfl := hw.symm)
    go_ret
    exact ⟨rfl, below_alloc _ _⟩

theorem fmode_ok (h : Hd) (x : Value) (w : World) : Calls Tryd.prog 12 #[.agg (h.cs x)] w fun e w' => e = .returned (.bool (decide (0 ≤ h.mode))) ∧ Below w.heap.size w w' := by
  unfold Hd.cs
  go_enter Tryd.func12, Tryd.ntmps12
  go_wp2
  go_ret
  exact ⟨rfl, below_alloc _ _⟩

theorem fuid_ok (h : Hd) (x : Value) (w : World) : Calls Tryd.prog 13 #[.agg (h.cs x)] w fun e w' => e = .returned (.bool (decide (0 ≤ h.uid))) ∧ Below w.heap.size w w' := by
  unfold Hd.cs
  go_enter Tryd.func13, Tryd.ntmps13
  go_wp2
  go_ret
  exact ⟨rfl, below_alloc _ _⟩

theorem fgid_ok (h : Hd) (x : Value) (w : World) : Calls Tryd.prog 14 #[.agg (h.cs x)] w fun e w' => e = .returned (.bool (decide (0 ≤ h.gid))) ∧ Below w.heap.size w w' := by
  unfold Hd.cs
  go_enter Tryd.func14, Tryd.ntmps14
  go_wp2
  go_ret
  exact ⟨rfl, below_alloc _ _⟩

theorem fsize_ok (h : Hd) (x : Value) (w : World) : Calls Tryd.prog 15 #[.agg (h.cs x)] w fun e w' => e = .returned (.bool (numR h.size (h.kind == 1))) ∧ Below w.heap.size w w' := by
  have hc := num_ok h.size (h.kind == 1)
  unfold Hd.cs
  generalize numR h.size (h.kind == 1) = q at *
  go_enter Tryd.func15, Tryd.ntmps15
  go_wp2_with (go_at_call 26; refine (hc _).mono ?_; rintro e w' ⟨hw, rfl⟩; obtain rfl := hw.symm)
  go_ret
  exact ⟨rfl, below_alloc _ _⟩

theorem ftime_ok (h : Hd) (x : Value) (w : World) : Calls Tryd.prog 16 #[.agg (h.cs x)] w fun e w' => e = .returned (.bool (decide (0 ≤ h.nano ∧ h.nano < 1000000000))) ∧ Below w.heap.size w w' := by
  have hc := dright_ok h.sec h.nano
  unfold Hd.cs
  generalize decide (0 ≤ h.nano ∧ h.nano < 1000000000) = q at *
  go_enter Tryd.func16, Tryd.ntmps16
  go_wp2_with (go_at_call 27; refine (hc _).mono ?_; rintro e w1 ⟨rfl, hb⟩)
  go_ret
  exact ⟨rfl, (below_alloc _ _).trans (hb.mono (by simp))⟩

theorem fuser_ok (h : Hd) (x : Value) (w : World) : Calls Tryd.prog 17 #[.agg (h.cs x)] w fun e w' => e = .returned (.bool (txtR h.user)) ∧ Below w.heap.size w w' := by
  have hc := text_ok h.user
  unfold Hd.cs
  generalize txtR h.user = q at *
  go_enter Tryd.func17, Tryd.ntmps17
  go_wp2_with (go_at_call 28; refine (hc _).mono ?_; rintro e w' ⟨hw, rfl⟩; obtain rfl := hw.symm)
  go_ret
  exact ⟨rfl, below_alloc _ _⟩

theorem fgroup_ok (h : Hd) (x : Value) (w : World) : Calls Tryd.prog 18 #[.agg (h.cs x)] w fun e w' => e = .returned (.bool (txtR h.group)) ∧ Below w.heap.size w w' := by
  have hc := text_ok h.group
  unfold Hd.cs
  generalize txtR h.group = q at *
  go_enter Tryd.func18, Tryd.ntmps18
  go_wp2_with (go_at_call 28; refine (hc _).mono ?_; rintro e w' ⟨hw, rfl⟩; obtain rfl := hw.symm)
  go_ret
  exact ⟨rfl, below_alloc _ _⟩

theorem fdev_ok (h : Hd) (x : Value) (w : World) : Calls Tryd.prog 29 #[.agg (h.cs x)] w fun e w' => e = .returned (.bool (devR h.kind)) ∧ Below w.heap.size w w' := by
  unfold Hd.cs devR
  cases h2 : (h.kind == 4)
  · go_enter Tryd.func29, Tryd.ntmps29
    go_wp2
    go_ret
    exact ⟨rfl, below_alloc _ _⟩
  · go_enter Tryd.func29, Tryd.ntmps29
    go_wp2
    go_ret
    exact ⟨rfl, below_alloc _ _⟩

theorem box_cell {w w2 : World} {cs : Array Value} {t : TypeId} (hb : Below (w.alloc (.cells cs t)).heap.size (w.alloc (.cells cs t)) w2) (i : Nat) : w2.cell? ⟨w.heap.size, i, none⟩ = cs[i]? := by
  have h : w2.heap[w.heap.size]? = some (.cells cs t) := by
    rw [hb.block _ (by simp)]; exact heap_alloc_new _ _
  simp [World.cell?, h]

set_option maxHeartbeats 4000000 in
theorem fmajor_ok (h : Hd) (x : Value) (w : World) : Calls Tryd.prog 19 #[.agg (h.cs x)] w fun e w' => e = .returned (.bool (numR h.major (devR h.kind))) ∧ Below w.heap.size w w' := by
  have hd := fdev_ok h x
  have hn := num_ok h.major (devR h.kind)
  generalize numR h.major (devR h.kind) = q at *
  generalize devR h.kind = dv at *
  obtain ⟨W1, hW1⟩ : ∃ W1, W1 = w.alloc (.cells (h.cs x) 37) := ⟨_, rfl⟩
  have G : ∀ (p : After W1) (i : Nat), p.out.cell? ⟨w.heap.size, i, none⟩ = (h.cs x)[i]? := fun p i => by
    subst hW1; exact box_cell p.bel i
  have hB : Below w.heap.size w W1 := by subst hW1; exact below_alloc _ _
  have hne : Nonempty (After W1) := ⟨⟨_, Below.refl _ _⟩⟩
  have g0 : ∀ p : After W1, p.out.cell? ⟨w.heap.size, 0, none⟩ = some (.int .i64 h.kind) := fun p => G p 0
  have g1 : ∀ p : After W1, p.out.cell? ⟨w.heap.size, 1, none⟩ = some (.string h.name) := fun p => G p 1
  have g2 : ∀ p : After W1, p.out.cell? ⟨w.heap.size, 2, none⟩ = some (.string h.link) := fun p => G p 2
  have g3 : ∀ p : After W1, p.out.cell? ⟨w.heap.size, 3, none⟩ = some (.int .i64 h.mode) := fun p => G p 3
  have g4 : ∀ p : After W1, p.out.cell? ⟨w.heap.size, 4, none⟩ = some (.int .i64 h.uid) := fun p => G p 4
  have g5 : ∀ p : After W1, p.out.cell? ⟨w.heap.size, 5, none⟩ = some (.int .i64 h.gid) := fun p => G p 5
  have g6 : ∀ p : After W1, p.out.cell? ⟨w.heap.size, 6, none⟩ = some (.int .i64 h.size) := fun p => G p 6
  have g7 : ∀ p : After W1, p.out.cell? ⟨w.heap.size, 7, none⟩ = some (.int .i64 h.sec) := fun p => G p 7
  have g8 : ∀ p : After W1, p.out.cell? ⟨w.heap.size, 8, none⟩ = some (.int .i64 h.nano) := fun p => G p 8
  have g9 : ∀ p : After W1, p.out.cell? ⟨w.heap.size, 9, none⟩ = some (.string h.user) := fun p => G p 9
  have g10 : ∀ p : After W1, p.out.cell? ⟨w.heap.size, 10, none⟩ = some (.string h.group) := fun p => G p 10
  have g11 : ∀ p : After W1, p.out.cell? ⟨w.heap.size, 11, none⟩ = some (.int .i64 h.major) := fun p => G p 11
  have g12 : ∀ p : After W1, p.out.cell? ⟨w.heap.size, 12, none⟩ = some (.int .i64 h.minor) := fun p => G p 12
  have g13 : ∀ p : After W1, p.out.cell? ⟨w.heap.size, 13, none⟩ = some (x) := fun p => G p 13
  clear G
  unfold Hd.cs at hd hW1 ⊢
  go_enter Tryd.func19, Tryd.ntmps19
  go_wp2
  rw [← hW1]
  clear hW1
  refine wp_region_after (by kernel_rfl) (by kernel_rfl) ?_
  repeat (go_big_quiet_step ((first
    | (go_at_call 29; exact after_below _ (hd _))
    | (go_at_call 26; exact after_same _ (hn _)))))
  refine wpQuiet_nil ?_
  intro wq hw'
  obtain ⟨⟨z, hwq⟩, hx⟩ := hw'
  simp only at hx
  subst hx
  go_wp2
  go_ret
  exact ⟨rfl, hB.trans (hwq.mono hB.size)⟩

set_option maxHeartbeats 4000000 in
theorem fminor_ok (h : Hd) (x : Value) (w : World) : Calls Tryd.prog 20 #[.agg (h.cs x)] w fun e w' => e = .returned (.bool (numR h.minor (devR h.kind))) ∧ Below w.heap.size w w' := by
  have hd := fdev_ok h x
  have hn := num_ok h.minor (devR h.kind)
  generalize numR h.minor (devR h.kind) = q at *
  generalize devR h.kind = dv at *
  obtain ⟨W1, hW1⟩ : ∃ W1, W1 = w.alloc (.cells (h.cs x) 37) := ⟨_, rfl⟩
  have G : ∀ (p : After W1) (i : Nat), p.out.cell? ⟨w.heap.size, i, none⟩ = (h.cs x)[i]? := fun p i => by
    subst hW1; exact box_cell p.bel i
  have hB : Below w.heap.size w W1 := by subst hW1; exact below_alloc _ _
  have hne : Nonempty (After W1) := ⟨⟨_, Below.refl _ _⟩⟩
  have g0 : ∀ p : After W1, p.out.cell? ⟨w.heap.size, 0, none⟩ = some (.int .i64 h.kind) := fun p => G p 0
  have g1 : ∀ p : After W1, p.out.cell? ⟨w.heap.size, 1, none⟩ = some (.string h.name) := fun p => G p 1
  have g2 : ∀ p : After W1, p.out.cell? ⟨w.heap.size, 2, none⟩ = some (.string h.link) := fun p => G p 2
  have g3 : ∀ p : After W1, p.out.cell? ⟨w.heap.size, 3, none⟩ = some (.int .i64 h.mode) := fun p => G p 3
  have g4 : ∀ p : After W1, p.out.cell? ⟨w.heap.size, 4, none⟩ = some (.int .i64 h.uid) := fun p => G p 4
  have g5 : ∀ p : After W1, p.out.cell? ⟨w.heap.size, 5, none⟩ = some (.int .i64 h.gid) := fun p => G p 5
  have g6 : ∀ p : After W1, p.out.cell? ⟨w.heap.size, 6, none⟩ = some (.int .i64 h.size) := fun p => G p 6
  have g7 : ∀ p : After W1, p.out.cell? ⟨w.heap.size, 7, none⟩ = some (.int .i64 h.sec) := fun p => G p 7
  have g8 : ∀ p : After W1, p.out.cell? ⟨w.heap.size, 8, none⟩ = some (.int .i64 h.nano) := fun p => G p 8
  have g9 : ∀ p : After W1, p.out.cell? ⟨w.heap.size, 9, none⟩ = some (.string h.user) := fun p => G p 9
  have g10 : ∀ p : After W1, p.out.cell? ⟨w.heap.size, 10, none⟩ = some (.string h.group) := fun p => G p 10
  have g11 : ∀ p : After W1, p.out.cell? ⟨w.heap.size, 11, none⟩ = some (.int .i64 h.major) := fun p => G p 11
  have g12 : ∀ p : After W1, p.out.cell? ⟨w.heap.size, 12, none⟩ = some (.int .i64 h.minor) := fun p => G p 12
  have g13 : ∀ p : After W1, p.out.cell? ⟨w.heap.size, 13, none⟩ = some (x) := fun p => G p 13
  clear G
  unfold Hd.cs at hd hW1 ⊢
  go_enter Tryd.func20, Tryd.ntmps20
  go_wp2
  rw [← hW1]
  clear hW1
  refine wp_region_after (by kernel_rfl) (by kernel_rfl) ?_
  repeat (go_big_quiet_step ((first
    | (go_at_call 29; exact after_below _ (hd _))
    | (go_at_call 26; exact after_same _ (hn _)))))
  refine wpQuiet_nil ?_
  intro wq hw'
  obtain ⟨⟨z, hwq⟩, hx⟩ := hw'
  simp only at hx
  subst hx
  go_wp2
  go_ret
  exact ⟨rfl, hB.trans (hwq.mono hB.size)⟩

set_option maxHeartbeats 2000000 in
theorem known1_ok (p : ByteArray × ByteArray) (w : World) : Calls Tryd.prog 32 #[.agg #[.string p.1, .string p.2]] w fun e w' => e = .returned (.bool (kindK (bs p.1) != 0)) ∧ Below w.heap.size w w' := by
  have hc := known_ok p.1
  generalize ((kindK (bs p.1) : Int) != 0) = q at *
  go_enter Tryd.func32, Tryd.ntmps32
  go_wp2_with (go_at_call 38; refine (hc _).mono ?_; rintro e w' ⟨hw, rfl⟩; obtain rfl := hw.symm)
  go_ret
  exact ⟨rfl, below_alloc _ _⟩

set_option maxHeartbeats 4000000 in
theorem indexf_ok {w : World} {a : Option Addr} {n c : Nat} {l : PL} (h : Pys w a n c l) : Calls Tryd.prog 37 #[.slice a n c, .func (.func 32) #[] #[]] w fun e w' => ∃ i : Int, e = .returned (.int .i64 i) ∧ decide (0 ≤ i) = anyK l ∧ Below w.heap.size w w' := by
  have hm1 := h.2.1
  have hm2 := h.2.2.1
  obtain ⟨q, hq⟩ : ∃ q, q = anyK l := ⟨_, rfl⟩
  rw [← hq]
  have hl := hid h.1
  replace hq := hid hq
  go_enter Tryd.func37, Tryd.ntmps37
  go_wp2
  go_loopw [8] (fun x wr => ∃ k : Nat, x = .int .i64 k ∧ k ≤ n ∧ Below w.heap.size w wr ∧ Hid (q = anyK (l.drop k))) (fun x _ => n - (RowKit.intOf x).toNat)
  case atStart => exact ⟨0, rfl, by omega, Below.refl _ _, hid hq.out⟩
  case round =>
    obtain ⟨k, rfl, hk, hb, hr⟩ := hrel
    by_cases hlt : k < n
    · obtain ⟨b, off, rfl, hc⟩ := h.some_of (by omega)
      obtain ⟨ky, vl, hmem, hd, c0, c1⟩ := (hc.below hb).at k (by rw [hl.out]; exact hlt)
      have hkI : (k : Int) < (n : Int) := by omega
      have hkn := known1_ok (ky, vl) wr
      simp only at hkn
      cases hK : ((kindK (bs ky) : Int) != 0)
      · have E := hid (by rw [hr.out, hd.out, anyK, hK]; rfl : q = anyK (l.drop (k + 1)))
        rw [hK] at hkn
        clear hr hd hmem h hc hq
        go_wp2_with (go_at_call 32; refine hkn.mono ?_; rintro e w1 ⟨rfl, hb1⟩)
        go_roundw
        case rel => exact ⟨k + 1, by go_num, by omega, hb.trans (hb1.mono hb.size), E⟩
        case measure => simp [RowKit.intOf]; omega
      · have E := hid (by rw [hr.out, hd.out, anyK, hK]; rfl : q = true)
        rw [hK] at hkn
        clear hr hd hmem h hc hq
        go_wp2_with (go_at_call 32; refine hkn.mono ?_; rintro e w1 ⟨rfl, hb1⟩)
        go_ret
        exact ⟨_, rfl, by rw [E.out]; simp, hb.trans (hb1.mono hb.size)⟩
    · obtain rfl : k = n := by omega
      have E := hid (by rw [hr.out, List.drop_eq_nil_iff.mpr (by rw [hl.out]; exact Nat.le_refl _)]; rfl : q = false)
      clear hr hq h
      go_wp2
      go_ret
      exact ⟨_, rfl, by rw [E.out]; simp, hb⟩

set_option maxHeartbeats 2000000 in
theorem containsf_ok {w : World} {a : Option Addr} {n c : Nat} {l : PL} (h : Pys w a n c l) : Calls Tryd.prog 31 #[.slice a n c, .func (.func 32) #[] #[]] w fun e w' => e = .returned (.bool (anyK l)) ∧ Below w.heap.size w w' := by
  have hi := indexf_ok h
  generalize anyK l = q at *
  go_enter Tryd.func31, Tryd.ntmps31
  go_wp2_with (go_at_call 37; refine hi.mono ?_; rintro e w1 ⟨i, rfl, hq, hb1⟩)
  go_ret
  exact ⟨rfl, hb1⟩

set_option maxHeartbeats 2000000 in
theorem fextra_ok {w : World} {a : Option Addr} {n c : Nat} {l : PL} (h : Hd) (hp : Pys w a n c l) (hz : Sml l) (hL : Laid w) : Calls Tryd.prog 21 #[.agg (h.cs (.slice a n c))] w fun e w' => e = .returned (.bool (fextraR l)) ∧ Below w.heap.size w w' := by
  have hb0 := below_alloc w (.cells (h.cs (.slice a n c)) 37)
  have ho := oright_ok (hp.below hb0) hz (hL.below hb0)
  have hcx : ∀ {wr : World}, Below (w.heap.size + 1) (w.alloc (.cells (h.cs (.slice a n c)) 37)) wr → wr.cell? ⟨w.heap.size, 13, none⟩ = some (.slice a n c) := by
    intro wr hb
    exact box_cell (cs := h.cs (.slice a n c)) (t := 37) (by simpa using hb) 13
  have hsz : (w.alloc (.cells (h.cs (.slice a n c)) 37)).heap.size = w.heap.size + 1 := by simp
  unfold fextraR
  generalize ovB none l = q at *
  rw [hsz] at ho
  unfold Hd.cs at *
  cases q
  · go_enter Tryd.func21, Tryd.ntmps21
    go_wp2_with (go_at_call 30; refine ho.mono ?_; rintro e w1 ⟨rfl, hb1⟩)
    go_ret
    exact ⟨rfl, hb0.trans (hb1.mono (Nat.le_succ _))⟩
  · have hct := fun {wr : World} (hb : Below w.heap.size w wr) => containsf_ok (hp.below hb)
    generalize anyK l = r at *
    go_enter Tryd.func21, Tryd.ntmps21
    go_wp2_with (first
      | (go_at_call 30; refine ho.mono ?_; rintro e w1 ⟨rfl, hb1⟩; have hcx1 := hcx hb1; have hb2 := hb0.trans (hb1.mono (Nat.le_succ _)))
      | (go_at_call 31; refine (hct hb2).mono ?_; rintro e w2 ⟨rfl, hb3⟩))
    go_ret
    exact ⟨rfl, hb2.trans (hb3.mono hb2.size)⟩

end Go.Proofs.YtlehomcodkbpmaaDoor
