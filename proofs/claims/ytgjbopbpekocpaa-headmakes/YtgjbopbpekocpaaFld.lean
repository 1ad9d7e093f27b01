/-
  Texts in fields. No condition but the length.
-/
import Derived.Test.YtgjbopbpekocpaaTold
import Derived.Test.YtgjbopbpekocpaaRowops
import Derived.Lib.BytesEntry
namespace Go.Proofs.Ytgjbopbpekocpaa
open Go.ChangeShapes Go.WideShapes Go.ChangeAt Go.RowKit
set_option linter.unusedVariables false
set_option maxRecDepth 20000

/-- a field's text -/
def upto (l : List Int) : List Int := l.takeWhile (· != 0)

/-- where the first nought stands, or -1 -/
def idx0 (l : List Int) : Int := if (upto l).length < l.length then (upto l).length else -1

def cleanB (l : List Int) : Bool := (upto l).length == l.length

theorem upto_le (l : List Int) : (upto l).length ≤ l.length := by
  unfold upto
  exact (List.takeWhile_sublist _).length_le

theorem indexByte_zero (l : List Int) (hr : ∀ x ∈ l, 0 ≤ x ∧ x ≤ 255) : Lib.indexByte (Lib.bytesOf l) 0 = idx0 l := by
  induction l with
  | nil => rfl
  | cons c r ih =>
    have hc := hr c (by simp)
    have ih := ih (fun x hx => hr x (by simp [hx]))
    have hle := upto_le r
    have hb : Lib.bytesOf (c :: r) = UInt8.ofNat c.toNat :: Lib.bytesOf r := rfl
    rw [hb]
    unfold Lib.indexByte
    by_cases h0 : c = 0
    · subst h0
      simp [idx0, upto]
    · have hne : (UInt8.ofNat c.toNat == 0) = false := by
        rw [beq_eq_false_iff_ne]
        intro e
        have := congrArg UInt8.toNat e
        simp only [UInt8.toNat_ofNat'] at this
        simp at this
        omega
      have hu : upto (c :: r) = c :: upto r := by simp [upto, h0]
      rw [hne, ih]
      simp only [Bool.false_eq_true, if_false]
      unfold idx0
      rw [hu]
      simp only [List.length_cons]
      by_cases hlt : (upto r).length < r.length
      · simp [hlt]
      · simp [hlt]

set_option maxHeartbeats 1000000 in
set_option maxRecDepth 100000 in
theorem bidx_walk {w : World} {a : Option Addr} {n c : Nat} {l : List Int} (h : Bys w a n c l) : Calls Try.prog 64 #[.slice a n c, .int .u8 0] w fun e w' => w' = w ∧ e = .returned (.int .i64 (idx0 l)) := by
  have hrun : (Extern.BytealgIndexByte.indexByte #[.slice a n c, .int .u8 0]).run Try.prog w = .ok (.int .i64 (idx0 l)) w := by
    obtain ⟨hl, hlc, hm, hb, ⟨rfl, rfl⟩ | ⟨h0, b, off, rfl, hc⟩⟩ := h
    · cases a with
      | none => exact Lib.run_indexByteNil w 0 c 0
      | some x => exact Lib.run_indexByteString (P := Try.prog) .empty 0 w
    · rw [← indexByte_zero l hb]
      exact Lib.run_indexByteSlice w b off n c l hl (fun i hi => hc.2 i (by omega)) 0
  go_enter Try.func64, Try.ntmps64
  go_wp2
  rw [run_callFunc_extern Try.func74 (by kernel_rfl) (by kernel_rfl) (by kernel_rfl) (e := Extern.BytealgIndexByte.indexByte) (by kernel_rfl), hrun]
  simp only [Result.andThen]
  rw [Oper.upon_value]
  go_wp2
  go_ret
  exact ⟨rfl, rfl⟩

set_option maxHeartbeats 1000000 in
set_option maxRecDepth 100000 in
theorem sidx_walk (s : ByteArray) (w : World) : Calls Try.prog 47 #[.string s, .int .u8 0] w fun e w' => w' = w ∧ e = .returned (.int .i64 (idx0 (nums s))) := by
  have hrun : (Extern.BytealgIndexByte.indexByte #[.string s, .int .u8 0]).run Try.prog w = .ok (.int .i64 (idx0 (nums s))) w := by
    rw [← indexByte_zero _ (nums_range s)]
    have h := Lib.run_indexByteString (P := Try.prog) s 0 w
    have e : Lib.bytesOf (nums s) = s.data.toList := by
      unfold Lib.bytesOf nums
      rw [List.map_map]
      have : ((fun n : Int => UInt8.ofNat n.toNat) ∘ fun c : UInt8 => (c.toNat : Int)) = id := by funext c; simp
      rw [this]; simp
    rw [e]; exact h
  have h40 : Calls Try.prog 63 #[.string s, .int .u8 0] w fun e w' => w' = w ∧ e = .returned (.int .i64 (idx0 (nums s))) := by
    go_enter Try.func63, Try.ntmps63
    go_wp2
    rw [run_callFunc_extern Try.func73 (by kernel_rfl) (by kernel_rfl) (by kernel_rfl) (e := Extern.BytealgIndexByte.indexByte) (by kernel_rfl), hrun]
    simp only [Result.andThen]
    rw [Oper.upon_value]
    go_wp2
    go_ret
    exact ⟨rfl, rfl⟩
  go_enter Try.func47, Try.ntmps47
  go_wp2_with (go_at_call 63; refine h40.mono ?_; rintro e w' ⟨hw, rfl⟩; obtain rfl := hw.symm)
  go_ret
  exact ⟨rfl, rfl⟩

theorem idx0_cases (l : List Int) : (idx0 l = ((upto l).length : Int) ∧ (upto l).length < l.length ∧ cleanB l = false) ∨ (idx0 l = -1 ∧ (upto l).length = l.length ∧ cleanB l = true) := by
  have := upto_le l
  unfold idx0 cleanB
  by_cases h : (upto l).length < l.length
  · rw [if_pos h]; exact .inl ⟨rfl, h, by simp; omega⟩
  · rw [if_neg h]; exact .inr ⟨rfl, by omega, by simp; omega⟩

set_option maxHeartbeats 1000000 in
theorem clean_walk (s : ByteArray) (w : World) : Calls Try.prog 67 #[.string s] w fun e w' => w' = w ∧ e = .returned (.bool (cleanB (nums s))) := by
  have hs := sidx_walk s w
  rcases idx0_cases (nums s) with ⟨h, h', h''⟩ | ⟨h, h', h''⟩
  · rw [h] at hs
    rw [h'']
    generalize (upto (nums s)).length = k at hs
    clear h' h h''
    go_enter Try.func67, Try.ntmps67
    go_wp2_with (go_at_call 47; refine hs.mono ?_; rintro e w' ⟨hw, rfl⟩; obtain rfl := hw.symm)
    go_ret
    exact ⟨rfl, ret_bool (by simp)⟩
  · rw [h] at hs
    rw [h'']
    clear h' h h''
    go_enter Try.func67, Try.ntmps67
    go_wp2_with (go_at_call 47; refine hs.mono ?_; rintro e w' ⟨hw, rfl⟩; obtain rfl := hw.symm)
    go_ret
    exact ⟨rfl, rfl⟩

set_option maxHeartbeats 1000000 in
theorem end_walk {w : World} {a : Option Addr} {n c : Nat} {l : List Int} (h : Bys w a n c l) : Calls Try.prog 48 #[.slice a n c] w fun e w' => w' = w ∧ e = .returned (.int .i64 ((upto l).length : Nat)) := by
  have hs := bidx_walk h
  have hl := h.1
  rcases idx0_cases l with ⟨h, h', h''⟩ | ⟨h, h', h''⟩
  · rw [h] at hs
    generalize (upto l).length = k at hs h'
    clear h h''
    go_enter Try.func48, Try.ntmps48
    go_wp2_with (go_at_call 64; refine hs.mono ?_; rintro e w' ⟨hw, rfl⟩; obtain rfl := hw.symm)
    go_ret
    exact ⟨rfl, rfl⟩
  · rw [h] at hs
    rw [h', hl]
    clear h' h h'' hl
    go_enter Try.func48, Try.ntmps48
    go_wp2_with (go_at_call 64; refine hs.mono ?_; rintro e w' ⟨hw, rfl⟩; obtain rfl := hw.symm)
    go_ret
    exact ⟨rfl, rfl⟩

theorem upto_take (l : List Int) : l.take (upto l).length = upto l := by
  unfold upto
  exact (List.prefix_iff_eq_take.1 (List.takeWhile_prefix _)).symm

set_option maxHeartbeats 1000000 in
theorem tget_walk {w : World} {a : Option Addr} {n c : Nat} {l : List Int} (h : Bys w a n c l) : Calls Try.prog 27 #[.slice a n c] w fun e w' => w' = w ∧ e = .returned (.string (strOfNums (upto l))) := by
  have he := end_walk h
  have hle : (upto l).length ≤ n := by have := upto_le l; have := h.1; omega
  have hnc : n ≤ c := h.2.1
  have hcv := bys_string (P := Try.prog) Try.underlying22 Try.underlying5 Try.underlying9 (h.take (upto l).length hle)
  rw [upto_take] at hcv
  go_enter Try.func27, Try.ntmps27
  go_wp2_with (go_at_call 48; refine he.mono ?_; rintro e w' ⟨hw, rfl⟩; obtain rfl := hw.symm)
  go_ret
  exact ⟨rfl, rfl⟩

/-- as much of s as there is room for in n bytes, and noughts -/
def fillL (l : List Int) (n : Nat) : List Int := l.take n ++ List.replicate (n - l.length) 0

theorem fillL_length (l : List Int) (n : Nat) : (fillL l n).length = n := by unfold fillL; simp; omega

theorem fillL_range (l : List Int) (n : Nat) (h : ∀ x ∈ l, 0 ≤ x ∧ x ≤ 255) : ∀ x ∈ fillL l n, 0 ≤ x ∧ x ≤ 255 := by
  intro x hx
  simp only [fillL, List.mem_append] at hx
  rcases hx with hx | hx
  · exact h x (List.mem_of_mem_take hx)
  · have := List.eq_of_mem_replicate hx; omega

set_option maxHeartbeats 1000000 in
theorem width_walk (n : Int) (w : World) : Calls Try.prog 66 #[.int .i64 n] w fun e w' => w' = w ∧ e = .returned (.bool (decide (0 ≤ n ∧ n ≤ 65536))) := by
  go_enter Try.func66, Try.ntmps66
  go_wp2
  all_goals go_ret
  all_goals exact ⟨rfl, ret_bool (by first | (simp_all; done) | (simp_all; omega))⟩

set_option maxHeartbeats 2000000 in
theorem fill_walk (s : ByteArray) (n : Nat) (hn : n ≤ 65536) (w : World) :
    Calls Try.prog 68 #[.string s, .int .i64 n] w fun e w' => ∃ v, e = .returned v ∧ w'.ownsRow w.heap.size 5 1 v n (u8s (fillL (nums s) n)) ∧ (∃ g c, v = .slice (some ⟨g, 0, none⟩) n c) ∧ Below w.heap.size w w' := by
  obtain ⟨i0, hi, hz0, hz1, hz2⟩ := info_parts Try.info5
  have hns := nums_length s
  go_enter Try.func68, Try.ntmps68
  go_wp2_with (refine wpList_make_full _ rfl (.tmp 6) (.tmp 6) 22 rfl w.heap.size 5 i0 (.int .u8 0) 1 Try.underlying22 hi hz0 hz1 _ _ _ _ n rfl rfl rfl rfl (by rw [hz2]; omega) (by unfold maxLen; omega) (Nat.le_refl _) ?_; intro w1 hown hgrow; try rw [Nat.mul_one] at hown)
  rw [madeBytes'] at hown
  have hb1 := (Below.refl w.heap.size w).grown hgrow (Nat.le_refl _) (by simp)
  obtain ⟨w2, hcopy, hown2, hgrow2⟩ := run_copy_own (P := Try.prog) w1 (dT := 22) (sT := 9) (ty := 3) Try.underlying22 hi hz1 hown (by simp) s
  rw [hcopy]
  simp only [Result.andThen]
  rw [Oper.upon_value]
  go_wp2
  go_ret
  refine ⟨_, rfl, ?_, ⟨_, _, rfl⟩, hb1.grown hgrow2 hb1.size (fun k hk => (hown.lt k hk).1)⟩
  have e : (nums s).take n ++ (List.replicate n (0 : Int)).drop (Nat.min s.size n) = fillL (nums s) n := by
    unfold fillL
    rw [List.drop_replicate, hns]
    congr 2
    have : Nat.min s.size n = min s.size n := rfl
    omega
  rw [← e]
  exact hown2

def tputC (s : ByteArray) (n : Int) : Int := if ¬ (0 ≤ n ∧ n ≤ 65536) then 2 else if cleanB (nums s) = false then 15 else if n < s.size then 13 else 0

set_option maxHeartbeats 2000000 in
theorem tput_bad (s : ByteArray) (hs : s.size ≤ 140737488355328) (n : Int) (w : World) (hc : tputC s n ≠ 0) :
    Calls Try.prog 52 #[.string s, .int .i64 n] w fun e w' => w' = w ∧ e = .returned (.tuple #[.slice none 0 0, .int .u8 (tputC s n)]) := by
  have hw := fun w => width_walk n w
  have hcl := fun w => clean_walk s w
  by_cases h1 : 0 ≤ n ∧ n ≤ 65536
  · have hd : decide (0 ≤ n ∧ n ≤ 65536) = true := by simpa using h1
    rw [hd] at hw
    cases h2 : cleanB (nums s) with
    | false =>
      have hp : tputC s n = 15 := by unfold tputC; rw [if_neg (by simpa using h1), if_pos h2]
      rw [hp]
      rw [h2] at hcl
      clear hp hc hd
      go_enter Try.func52, Try.ntmps52
      go_wp2_with (first | (go_at_call 66; refine (hw _).mono ?_; rintro e w' ⟨hw', rfl⟩; obtain rfl := hw'.symm) | (go_at_call 67; refine (hcl _).mono ?_; rintro e w' ⟨hw', rfl⟩; obtain rfl := hw'.symm))
      go_ret2
      exact ⟨rfl, rfl⟩
    | true =>
      rw [h2] at hcl
      by_cases h3 : n < s.size
      · have hp : tputC s n = 13 := by unfold tputC; rw [if_neg (by simpa using h1), if_neg (by simp [h2]), if_pos h3]
        rw [hp]
        clear hp hc hd
        go_enter Try.func52, Try.ntmps52
        go_wp2_with (first | (go_at_call 66; refine (hw _).mono ?_; rintro e w' ⟨hw', rfl⟩; obtain rfl := hw'.symm) | (go_at_call 67; refine (hcl _).mono ?_; rintro e w' ⟨hw', rfl⟩; obtain rfl := hw'.symm))
        go_ret2
        exact ⟨rfl, rfl⟩
      · exact absurd (by unfold tputC; rw [if_neg (by simpa using h1), if_neg (by simp [h2]), if_neg h3]) hc
  · have hd : decide (0 ≤ n ∧ n ≤ 65536) = false := by simpa using h1
    rw [hd] at hw
    have hp : tputC s n = 2 := by unfold tputC; rw [if_pos h1]
    rw [hp]
    clear hp hc hd
    go_enter Try.func52, Try.ntmps52
    go_wp2_with (go_at_call 66; refine (hw _).mono ?_; rintro e w' ⟨hw', rfl⟩; obtain rfl := hw'.symm)
    go_ret2
    exact ⟨rfl, rfl⟩

theorem tputC_good {s : ByteArray} {n : Int} (h : tputC s n = 0) : 0 ≤ n ∧ n ≤ 65536 ∧ cleanB (nums s) = true ∧ (s.size : Int) ≤ n := by
  unfold tputC at h
  split at h
  · simp at h
  · split at h
    · simp at h
    · split at h
      · simp at h
      · rename_i h1 h2 h3
        refine ⟨by omega, by omega, by simpa using h2, by omega⟩

set_option maxHeartbeats 2000000 in
theorem tput_good (s : ByteArray) (hs : s.size ≤ 140737488355328) (n : Nat) (w : World) (hc : tputC s n = 0) :
    Calls Try.prog 52 #[.string s, .int .i64 n] w fun e w' => ∃ v, e = .returned (.tuple #[v, .int .u8 0]) ∧ w'.ownsRow w.heap.size 5 1 v n (u8s (fillL (nums s) n)) ∧ (∃ g c, v = .slice (some ⟨g, 0, none⟩) n c) ∧ Below w.heap.size w w' := by
  obtain ⟨h1, h1', h2, h3⟩ := tputC_good hc
  have hw := fun w => width_walk n w
  have hcl := fun w => clean_walk s w
  have hd : decide (0 ≤ (n : Int) ∧ (n : Int) ≤ 65536) = true := by simp; omega
  rw [hd] at hw
  rw [h2] at hcl
  clear hd hc
  go_enter Try.func52, Try.ntmps52
  go_wp2_with (first | (go_at_call 66; refine (hw _).mono ?_; rintro e w' ⟨hw', rfl⟩; obtain rfl := hw'.symm) | (go_at_call 67; refine (hcl _).mono ?_; rintro e w' ⟨hw', rfl⟩; obtain rfl := hw'.symm) | (go_at_call 68; refine (fill_walk s n (by omega) _).mono ?_; rintro e w1 ⟨v, rfl, hown, hv, hb⟩))
  go_ret2
  exact ⟨v, rfl, hown, hv, hb⟩

end Go.Proofs.Ytgjbopbpekocpaa
