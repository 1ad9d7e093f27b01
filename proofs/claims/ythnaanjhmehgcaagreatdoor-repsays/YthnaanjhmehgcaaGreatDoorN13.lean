/-
  TEXTS THAT END IN A SLASH; WHAT A FULL NAME TELLS: strings.HasSuffix and TrimSuffix at a slash, item.Told; AND WHAT FOLLOWS OF IT. Conditions: those that each part names.
-/
import Derived.Test.YthnaanjhmehgcaaGreatDoorProg
import Derived.Test.YthnaanjhmehgcaaGreatDoorN03
/-
  TEXTS THAT END IN A SLASH; WHAT A FULL NAME TELLS: strings.HasSuffix and TrimSuffix at a slash, item.Told. Conditions: how long the text may be.
-/
namespace Go.Proofs.YthnaanjhmehgcaaGreatDoor
open Go.ChangeShapes Go.WideShapes Go.ChangeAt Go.RowKit Go.Lib
set_option linter.unusedVariables false
set_option linter.unusedSimpArgs false
set_option maxRecDepth 20000

/-- does a text end in a slash? -/
def endsS (s : ByteArray) : Bool := decide (0 < s.size) && ((nums s).getD (s.size - 1) 0 == 47)
/-- it without its last byte -/
def cutS (s : ByteArray) : ByteArray := s.extract 0 (s.size - 1)
/-- the kind and the name that a full name tells -/
def toldK (k : Int) (s : ByteArray) : Int := if k = 1 ∧ endsS s = true then 6 else k
def toldS (k : Int) (s : ByteArray) : ByteArray := if toldK k s = 6 ∧ s ≠ ⟨#[47]⟩ ∧ endsS s = true then cutS s else s

theorem str_dec (a b : ByteArray) : (a.toList == b.toList) = decide (a = b) := by
  rw [Bool.eq_iff_iff, str_beq]; simp

theorem str_sl (a : ByteArray) : (a.toList == [47]) = decide (a = ⟨#[47]⟩) := by
  rw [← str_dec]; congr 1; rw [Lib.toList_data]
theorem ends_end (s : ByteArray) (h : 0 < s.size) : (decide (s.extract (s.size - 1) s.size = ⟨#[47]⟩)) = ((nums s).getD (s.size - 1) 0 == 47) := by
  have e : nums (s.extract (s.size - 1) s.size) = [(nums s).getD (s.size - 1) 0] := by
    rw [nums_extract_end]
    have hl : s.size - 1 < (nums s).length := by rw [nums_length]; omega
    rw [List.drop_eq_getElem_cons hl, List.getD_eq_getElem?_getD, List.getElem?_eq_getElem hl, List.drop_eq_nil_iff.2 (by rw [nums_length]; omega)]
    rfl
  rw [Bool.eq_iff_iff]
  simp only [decide_eq_true_eq, beq_iff_eq]
  constructor
  · intro h
    rw [h] at e
    have : nums ⟨#[47]⟩ = [47] := rfl
    rw [this] at e
    simpa using e.symm
  · intro h
    apply nums_inj
    rw [e, h]; rfl

set_option maxHeartbeats 2000000 in
theorem suf_lite (s : ByteArray) (hs : s.size ≤ 9000000000000000000) (w : World) : Calls Tryz.prog 97 #[.string s, .string ⟨#[47]⟩] w fun e w' => w' = w ∧ e = .returned (.bool (endsS s)) := by
  by_cases h0 : 0 < s.size
  · have h1 : (1 : Int) ≤ (s.size : Int) := by omega
    have e1 : ((s.size : Int) - 1).toNat = s.size - 1 := by omega
    have E := ends_end s h0
    rw [← str_dec] at E
    go_enter Tryz.func97, Tryz.ntmps97
    go_wp2
    all_goals go_ret
    all_goals exact ⟨rfl, ret_bool (by unfold endsS; simp_all)⟩
  · have e0 : s.size = 0 := by omega
    go_enter Tryz.func97, Tryz.ntmps97
    go_wp2
    all_goals go_ret
    all_goals exact ⟨rfl, ret_bool (by unfold endsS; simp_all)⟩

theorem suf_ok (s : ByteArray) (hs : s.size ≤ 9000000000000000000) (w : World) : Calls Tryz.prog 58 #[.string s, .string ⟨#[47]⟩] w fun e w' => w' = w ∧ e = .returned (.bool (endsS s)) := by
  go_enter Tryz.func58, Tryz.ntmps58
  go_wp2_with (go_at_call 97; refine (suf_lite s hs _).mono ?_; rintro e w' ⟨hw, rfl⟩; obtain rfl := hw.symm)
  go_ret
  exact ⟨rfl, rfl⟩

theorem trim_lite (s : ByteArray) (hs : s.size ≤ 9000000000000000000) (w : World) : Calls Tryz.prog 98 #[.string s, .string ⟨#[47]⟩] w fun e w' => w' = w ∧ e = .returned (.string (if endsS s = true then cutS s else s)) := by
  have hc := suf_lite s hs
  cases he : endsS s
  · rw [he] at hc
    go_enter Tryz.func98, Tryz.ntmps98
    go_wp2_with (go_at_call 97; refine (hc _).mono ?_; rintro e w' ⟨hw, rfl⟩; obtain rfl := hw.symm)
    go_ret
    exact ⟨rfl, rfl⟩
  · rw [he] at hc
    have h0 : 0 < s.size := by unfold endsS at he; simp at he; exact he.1
    have h1 : (1 : Int) ≤ (s.size : Int) := by omega
    have e1 : ((s.size : Int) - 1).toNat = s.size - 1 := by omega
    go_enter Tryz.func98, Tryz.ntmps98
    go_wp2_with (go_at_call 97; refine (hc _).mono ?_; rintro e w' ⟨hw, rfl⟩; obtain rfl := hw.symm)
    go_ret
    exact ⟨rfl, ret_string (by unfold cutS; simp [e1])⟩

theorem trim_ok (s : ByteArray) (hs : s.size ≤ 9000000000000000000) (w : World) : Calls Tryz.prog 59 #[.string s, .string ⟨#[47]⟩] w fun e w' => w' = w ∧ e = .returned (.string (if endsS s = true then cutS s else s)) := by
  have ht := trim_lite s hs
  generalize (if endsS s = true then cutS s else s) = x at ht ⊢
  go_enter Tryz.func59, Tryz.ntmps59
  go_wp2_with (go_at_call 98; refine (ht _).mono ?_; rintro e w' ⟨hw, rfl⟩; obtain rfl := hw.symm)
  go_ret
  exact ⟨rfl, rfl⟩

theorem ret_is {k : IntKind} {a b : Int} {s t : ByteArray} (h : a = b) (h' : s = t) : Ending.returned (.tuple #[.int k a, .string s]) = .returned (.tuple #[.int k b, .string t]) := by rw [h, h']

set_option maxHeartbeats 2000000 in
theorem told_ok (k : Int) (s : ByteArray) (hs : s.size ≤ 9000000000000000000) (w : World) : Calls Tryz.prog 24 #[.int .i64 k, .string s] w fun e w' => w' = w ∧ e = .returned (.tuple #[.int .i64 (toldK k s), .string (toldS k s)]) := by
  have hc := suf_ok s hs
  have ht := trim_ok s hs
  have E := str_sl s
  generalize hK : toldK k s = K
  generalize hS : toldS k s = S
  unfold toldS toldK at hS
  unfold toldK at hK
  replace hK := hid hK
  replace hS := hid hS
  by_cases h1 : k = 1
  · subst h1
    cases he : endsS s
    · rw [he] at hc
      go_enter Tryz.func24, Tryz.ntmps24
      go_wp2_with (go_at_call 58; refine (hc _).mono ?_; rintro e w' ⟨hw, rfl⟩; obtain rfl := hw.symm)
      go_ret2
      exact ⟨rfl, ret_is (by rw [← hK.out]; simp [he]) (by rw [← hS.out]; simp [he])⟩
    · rw [he] at hc ht
      rw [if_pos rfl] at ht
      by_cases hq : s = ⟨#[47]⟩
      · rw [decide_eq_true hq] at E
        subst hq
        go_enter Tryz.func24, Tryz.ntmps24
        go_wp2_with (go_at_call 58; refine (hc _).mono ?_; rintro e w' ⟨hw, rfl⟩; obtain rfl := hw.symm)
        all_goals go_ret2
        all_goals exact ⟨rfl, ret_is (by rw [← hK.out]; simp [*]) (by rw [← hS.out]; simp [*])⟩
      · rw [decide_eq_false hq] at E
        go_enter Tryz.func24, Tryz.ntmps24
        go_wp2_with (first | (go_at_call 58; refine (hc _).mono ?_; rintro e w' ⟨hw, rfl⟩; obtain rfl := hw.symm) | (go_at_call 59; refine (ht _).mono ?_; rintro e w' ⟨hw, rfl⟩; obtain rfl := hw.symm))
        all_goals go_ret2
        all_goals exact ⟨rfl, ret_is (by rw [← hK.out]; simp [*]) (by rw [← hS.out]; simp [*])⟩
  · have hk1 : (k == 1) = false := by simpa using h1
    by_cases h6 : k = 6
    · subst h6
      generalize hx : (if endsS s = true then cutS s else s) = x at ht
      replace hx := hid hx
      by_cases hq : s = ⟨#[47]⟩
      · rw [decide_eq_true hq] at E
        go_enter Tryz.func24, Tryz.ntmps24
        go_wp2
        all_goals go_ret2
        all_goals exact ⟨rfl, ret_is (by rw [← hK.out]; simp [*]) (by rw [← hS.out]; simp [*])⟩
      · rw [decide_eq_false hq] at E
        go_enter Tryz.func24, Tryz.ntmps24
        go_wp2_with (go_at_call 59; refine (ht _).mono ?_; rintro e w' ⟨hw, rfl⟩; obtain rfl := hw.symm)
        all_goals go_ret2
        all_goals exact ⟨rfl, ret_is (by rw [← hK.out]; simp [*]) (by rw [← hS.out, ← hx.out]; simp [hq])⟩
    · have hk6 : (k == 6) = false := by simpa using h6
      go_enter Tryz.func24, Tryz.ntmps24
      go_wp2
      all_goals go_ret2
      all_goals exact ⟨rfl, ret_is (by rw [← hK.out]; simp [h1]) (by rw [← hS.out]; simp [h1, h6])⟩

end Go.Proofs.YthnaanjhmehgcaaGreatDoor

/-
  HEADS, THEIR CELLS; LISTS OF TEXTS IN MEMORY. Nothing of the program. No condition.
-/
namespace Go.Proofs.YthnaanjhmehgcaaGreatDoor
open Go.ChangeShapes Go.WideShapes Go.ChangeAt Go.RowKit Go.Lib
set_option linter.unusedVariables false
set_option maxRecDepth 20000

/-- a head, its list aside -/
structure Hd where
  kind : Int
  name : ByteArray
  link : ByteArray
  mode : Int
  uid : Int
  gid : Int
  size : Int
  sec : Int
  nano : Int
  user : ByteArray
  group : ByteArray
  major : Int
  minor : Int

/-- its cells -/
def Hd.cs (h : Hd) (x : Value) : Array Value := #[.int .i64 h.kind, .string h.name, .string h.link, .int .i64 h.mode, .int .i64 h.uid, .int .i64 h.gid, .int .i64 h.size, .int .i64 h.sec, .int .i64 h.nano, .string h.user, .string h.group, .int .i64 h.major, .int .i64 h.minor, x]

/-- the full names that tell a head's kind and name -/
def fulls (k : Int) (s : ByteArray) : List ByteArray := if k = 6 then (if s ≠ ⟨#[47]⟩ ∧ endsS s = true then [s ++ ⟨#[47]⟩] else [s, s ++ ⟨#[47]⟩]) else [s]

/-- texts, in a block of their own -/
def Sts (w : World) (g : Nat) (l : List ByteArray) : Prop := w.heap[g]? = some (.cells (l.map Value.string).toArray 9)
theorem Sts.below {w w' : World} {g : Nat} {l : List ByteArray} (h : Sts w g l) (hb : Below w.heap.size w w') : Sts w' g l := by
  have hg : g < w.heap.size := (Array.getElem?_eq_some_iff.1 h).1
  unfold Sts
  rw [hb.block g hg]
  exact h

end Go.Proofs.YthnaanjhmehgcaaGreatDoor

/-
  item.Fulls: THE FULL NAMES THAT TELL A HEAD's KIND AND NAME. Conditions: how long the name may be.
-/
namespace Go.Proofs.YthnaanjhmehgcaaGreatDoor
open Go.ChangeShapes Go.WideShapes Go.ChangeAt Go.RowKit Go.Lib
set_option linter.unusedVariables false
set_option linter.unusedSimpArgs false
set_option maxRecDepth 20000

theorem two_new (w : World) (o1 o2 : Obj) : Below w.heap.size w ((w.alloc o1).alloc o2) ∧ ((w.alloc o1).alloc o2).heap[w.heap.size + 1]? = some o2 := by
  have hb := (Below.refl w.heap.size w).alloc (Nat.le_refl _) o1
  refine ⟨hb.alloc hb.size o2, ?_⟩
  have e : (w.alloc o1).heap.size = w.heap.size + 1 := by simp
  rw [← e]
  exact heap_alloc_new _ _

set_option maxHeartbeats 4000000 in
theorem fulls_ok (h : Hd) (x : Value) (hs : h.name.size ≤ 9000000000000000) (w : World) :
    Calls Tryz.prog 78 #[.agg (h.cs x)] w fun e w' => ∃ g n, e = .returned (.slice (some ⟨g, 0, none⟩) n n) ∧ n = (fulls h.kind h.name).length ∧ Sts w' g (fulls h.kind h.name) ∧ Below w.heap.size w w' := by
  have hc := suf_ok h.name (by omega)
  have E := str_sl h.name
  unfold Hd.cs
  unfold fulls
  by_cases h6 : h.kind = 6
  · rw [if_pos h6]
    have hk : (h.kind != 6) = false := by simp [h6]
    by_cases hq : h.name = ⟨#[47]⟩
    · rw [if_neg (by simp [hq])]
      rw [decide_eq_true hq] at E
      have hq' := hid hq
      clear hq
      go_enter Tryz.func78, Tryz.ntmps78
      go_wp2
      go_ret
      exact ⟨_, _, rfl, rfl, (two_new _ _ _).2, (two_new _ _ _).1⟩
    · rw [decide_eq_false hq] at E
      cases he : endsS h.name
      · rw [if_neg (by simp)]
        rw [he] at hc
        go_enter Tryz.func78, Tryz.ntmps78
        go_wp2_with (go_at_call 58; refine (hc _).mono ?_; rintro e w' ⟨hw, rfl⟩; obtain rfl := hw.symm)
        go_ret
        exact ⟨_, _, rfl, rfl, (two_new _ _ _).2, (two_new _ _ _).1⟩
      · rw [if_pos (by simp [hq])]
        rw [he] at hc
        go_enter Tryz.func78, Tryz.ntmps78
        go_wp2_with (go_at_call 58; refine (hc _).mono ?_; rintro e w' ⟨hw, rfl⟩; obtain rfl := hw.symm)
        go_ret
        exact ⟨_, _, rfl, rfl, (two_new _ _ _).2, (two_new _ _ _).1⟩
  · rw [if_neg h6]
    have hk : (h.kind != 6) = true := by simp [h6]
    go_enter Tryz.func78, Tryz.ntmps78
    go_wp2
    go_ret
    exact ⟨_, _, rfl, rfl, (two_new _ _ _).2, (two_new _ _ _).1⟩

end Go.Proofs.YthnaanjhmehgcaaGreatDoor
