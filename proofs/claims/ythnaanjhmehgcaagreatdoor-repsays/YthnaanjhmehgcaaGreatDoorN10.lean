/-
  WHETHER A TEXT HAS ONE OF TWO BYTES, = AND THE NOUGHT (strings.ContainsAny), of any text; whether a key is right; AND WHAT FOLLOWS OF IT. Conditions: those that each part names.
-/
import Derived.Test.YthnaanjhmehgcaaGreatDoorN09
import Derived.Laws.Runes
import Derived.BigRegion
import Derived.WalkMore
import Derived.BigQuiet
import Derived.Deep.RegionHeld3
import Derived.Laws.RangeAny
import Derived.Lib.OthersKept
/-
  WHETHER A TEXT HAS ONE OF TWO BYTES, = AND THE NOUGHT (strings.ContainsAny), of any text; whether a key is right. Conditions: how many bytes a text may have.
-/
namespace Go.Proofs.YthnaanjhmehgcaaGreatDoor
open Go.ChangeShapes Go.WideShapes Go.ChangeAt Go.RowKit Go.Lib
set_option linter.unusedVariables false
set_option maxRecDepth 20000

/-- where a rune is in the two bytes -/
def runeI (r : Nat) : Int := if r = 61 then 0 else if r = 0 then 1 else -1
theorem rune_small : ∀ k : Fin 128, indexByte [61, 0] (UInt8.ofNat k.val) = runeI k.val := by decide +kernel

theorem irune_ascii (r : Nat) (h : r < 128) (w : World) : Calls Tryz.prog 170 #[.string ⟨#[61, 0]⟩, .int .i32 r] w fun e w' => e = .returned (.int .i64 (runeI r)) ∧ Below w.heap.size w w' := by
  refine (Tryz.strings_IndexRune_ascii ⟨#[61, 0]⟩ r w (by omega) (by omega)).mono ?_
  rintro e w' ⟨rfl, rfl⟩
  exact ⟨ret_int (rune_small ⟨r, h⟩), Below.refl _ _⟩

set_option maxHeartbeats 2000000 in
theorem irune_err (w : World) : Calls Tryz.prog 170 #[.string ⟨#[61, 0]⟩, .int .i32 65533] w fun e w' => e = .returned (.int .i64 (-1)) ∧ Below w.heap.size w w' := by
  have n0 : ∀ ty, (Instr.next (.pointer (some ⟨w.heap.size, 0, none⟩)) true ty).run Tryz.prog (w.iter ⟨#[61, 0]⟩ 0) = .ok (.tuple #[.bool true, .int .i64 0, .int .i32 61]) (w.iter ⟨#[61, 0]⟩ 1) := fun ty => run_next_any w ⟨#[61, 0]⟩ 0 ty (by decide)
  have n1 : ∀ ty, (Instr.next (.pointer (some ⟨w.heap.size, 0, none⟩)) true ty).run Tryz.prog (w.iter ⟨#[61, 0]⟩ 1) = .ok (.tuple #[.bool true, .int .i64 1, .int .i32 0]) (w.iter ⟨#[61, 0]⟩ 2) := fun ty => run_next_any w ⟨#[61, 0]⟩ 1 ty (by decide)
  have n2 : ∀ ty, (Instr.next (.pointer (some ⟨w.heap.size, 0, none⟩)) true ty).run Tryz.prog (w.iter ⟨#[61, 0]⟩ 2) = _ := fun ty => run_next_end w ⟨#[61, 0]⟩ 2 ty (by decide)
  go_enter Tryz.func170, Tryz.ntmps170
  go_wp2
  go_rounds 3
  all_goals go_ret
  all_goals exact ⟨rfl, iter_below _ _ _⟩

theorem below_drewN (w : World) : ∀ n, Below w.heap.size w (w.drewN n)
  | 0 => Below.refl _ _
  | n + 1 => (below_drewN w n).drew

theorem str_tail (W : World) : (Instr.sliceAt 9 (.string ⟨#[61, 0]⟩) (some (.int .i64 2)) none none).run Tryz.prog W = .ok (.string ⟨#[]⟩) W := by kernel_rfl

set_option maxHeartbeats 4000000 in
set_option maxRecDepth 1000000 in
theorem irune_far (r : Nat) (h0 : 128 ≤ r) (h1 : r ≤ 1114111) (hv : Utf8.valid r = true) (hv2 : Lib.validRune (r : Int) = true) (hne : r ≠ 65533) (w : World) : Calls Tryz.prog 170 #[.string ⟨#[61, 0]⟩, .int .i32 r] w fun e w' => e = .returned (.int .i64 (-1)) ∧ Below w.heap.size w w' := by
  obtain ⟨z2, z4, zl⟩ := encode_facts r hv (by omega)
  have hval := fun w => Tryz.utf8_ValidRune r w
  rw [hv2] at hval
  have hr0 : (0 : Int) ≤ r := by omega
  have hr1 : ¬ ((r : Int) < 128) := by omega
  have hr2 : ((r : Int) == 65533) = false := by simp; omega
  have hcv : ∀ W, (convert 21 9 (.int .i32 (r : Int))).run Tryz.prog W = .ok (.string (Utf8.encode r)) W := fun W => run_convert_int_string W 21 9 .i32 r (by rw [Tryz.underlying21]; rfl) Tryz.underlying9
  generalize Utf8.encode r = E at *
  by_cases hz : E.size = 2
  · obtain ⟨e0, e1, rfl⟩ : ∃ e0 e1 : UInt8, E = ⟨#[e0, e1]⟩ := by
      obtain ⟨arr⟩ := E
      obtain ⟨e0, e1, rfl⟩ := Joins.array2 (cs := arr) hz
      exact ⟨e0, e1, rfl⟩
    have hc : 128 ≤ e1.toNat := zl (by show 2 - 1 < 2; omega)
    have hc2 : (((((⟨#[61, 0]⟩ : ByteArray)[1]'(by decide)).toNat : Nat) : Int) != ((((⟨#[e0, e1]⟩ : ByteArray)[1]'(by show 1 < 2; omega)).toNat : Nat) : Int)) = true := by
      show ((0 : Int) != (e1.toNat : Int)) = true
      simp; omega
    have hsz : (⟨#[e0, e1]⟩ : ByteArray).size = 2 := rfl
    have hsl := str_tail
    have hw2 : IntKind.i64.wrap 2 = 2 := rfl
    have hib := fun w => Tryz.strings_IndexByte ⟨#[]⟩ (((⟨#[e0, e1]⟩ : ByteArray)[1]'(by show 1 < 2; omega)).toNat : Int) w
    change ∀ w, Calls _ _ _ _ fun e w' => e = .returned (.int .i64 (-1)) ∧ _ at hib
    clear hz zl z2 z4 hv hv2 h0 h1 hne
    go_enter Tryz.func170, Tryz.ntmps170
    go_wp2_with (go_at_call 189; refine (hval _).mono ?_; rintro e w' ⟨rfl, hw⟩; obtain rfl := hw.symm)
    go_step3
    go_wp2
    refine wp_loop_rounds 1 ?_
    rw [rounds_succ]
    go_wp2
    go_step3
    go_wp2
    go_region
    all_goals
      go_wp2
      go_quiet (first | (go_at_call 146; refine (hib _).mono ?_; rintro e w' ⟨rfl, rfl⟩; exact ⟨rfl, _, rfl⟩))
      all_goals go_wp2
      all_goals simp only [Exit.noGoto_ret, Exit.then, Exit.inBlock]
      all_goals go_ret
      all_goals exact ⟨rfl, below_drewN _ _⟩
  · have hz3 : 3 ≤ E.size := by omega
    clear hz zl
    go_enter Tryz.func170, Tryz.ntmps170
    go_wp2_with (go_at_call 189; refine (hval _).mono ?_; rintro e w' ⟨rfl, hw⟩; obtain rfl := hw.symm)
    go_step3
    go_wp2
    go_rounds 1
    all_goals rw [Exit.noGoto_ret]
    all_goals go_ret
    all_goals exact ⟨rfl, Below.refl _ _⟩

/-- a decoded rune is one byte, or its bytes are all above 127 -/
theorem dec_parts (l : List UInt8) (hne : l ≠ []) : ((decodeL l).1 < 128 ∧ (decodeL l).2 = 1 ∧ ∃ t, l = UInt8.ofNat (decodeL l).1 :: t) ∨ (128 ≤ (decodeL l).1 ∧ ∀ b ∈ l.take (decodeL l).2, 128 ≤ b.toNat) := by
  have hl : 0 < l.length := List.length_pos_iff.2 hne
  obtain ⟨b, t, rfl⟩ : ∃ b t, l = b :: t := by cases l with | nil => exact absurd rfl hne | cons b t => exact ⟨b, t, rfl⟩
  rw [decodeL_N]
  have k0 := b.toNat_lt
  have g : ∀ i, ((b :: t).getD i 0).toNat < 256 := fun i => ((b :: t).getD i 0).toNat_lt
  by_cases hb : b.toNat < 128
  · left
    have e : decodeN (b :: t).length ((b :: t).getD 0 0).toNat ((b :: t).getD 1 0).toNat ((b :: t).getD 2 0).toNat ((b :: t).getD 3 0).toNat = (b.toNat, 1) := by
      unfold decodeN
      rw [if_pos (show ((b :: t).getD 0 0).toNat < 128 from hb)]
      rfl
    rw [e]
    exact ⟨hb, rfl, t, by simp⟩
  · right
    have key : ∀ (n : Nat), n ≤ 4 → (∀ i, 0 < i → i < n → 128 ≤ ((b :: t).getD i 0).toNat) → ∀ x ∈ (b :: t).take n, 128 ≤ x.toNat := by
      intro n hn h x hx
      obtain ⟨i, hi, rfl⟩ := List.mem_iff_getElem.1 hx
      rw [List.getElem_take]
      have hi2 : i < n ∧ i < (b :: t).length := by simp at hi ⊢; omega
      by_cases h0 : i = 0
      · subst h0; simpa using hb
      · have := h i (by omega) hi2.1
        simpa [List.getD_eq_getElem?_getD, List.getElem?_eq_getElem hi2.2] using this
    have hb0 : ((b :: t).getD 0 0).toNat = b.toNat := rfl
    rcases decodeN_shape (b :: t).length ((b :: t).getD 0 0).toNat ((b :: t).getD 1 0).toNat ((b :: t).getD 2 0).toNat ((b :: t).getD 3 0).toNat with ⟨h, _⟩ | ⟨_, _, h1, h2, e⟩ | ⟨_, _, h1, h2, h3, _, e⟩ | ⟨_, _, h1, h2, h3, h4, _, e⟩ | e
    · omega
    · rw [e]
      refine ⟨h2, key 2 (by omega) fun i a c => ?_⟩
      have : i = 1 := by omega
      subst this; omega
    · rw [e]
      refine ⟨by omega, key 3 (by omega) fun i a c => ?_⟩
      have : i = 1 ∨ i = 2 := by omega
      rcases this with rfl | rfl <;> omega
    · rw [e]
      refine ⟨by omega, key 4 (by omega) fun i a c => ?_⟩
      have : i = 1 ∨ i = 2 ∨ i = 3 := by omega
      rcases this with rfl | rfl | rfl <;> omega
    · rw [e]
      exact ⟨by decide, key 1 (by omega) fun i a c => by omega⟩

/-- = or the nought -/
def anyB (l : List UInt8) : Bool := has 61 l || has 0 l
theorem any_cons (b : UInt8) (t : List UInt8) : anyB (b :: t) = (decide (b = 61 ∨ b = 0) || anyB t) := by
  unfold anyB has
  rw [Bool.eq_iff_iff]
  simp only [List.mem_cons, Bool.or_eq_true, decide_eq_true_eq]
  constructor
  · rintro ((h | h) | (h | h))
    · exact .inl (.inl h.symm)
    · exact .inr (.inl h)
    · exact .inl (.inr h.symm)
    · exact .inr (.inr h)
  · rintro ((h | h) | (h | h))
    · exact .inl (.inl h.symm)
    · exact .inr (.inl h.symm)
    · exact .inl (.inr h)
    · exact .inr (.inr h)
theorem any_app (a b : List UInt8) : anyB (a ++ b) = (anyB a || anyB b) := by
  induction a with
  | nil => rfl
  | cons c t ih => rw [List.cons_append, any_cons, any_cons, ih, Bool.or_assoc]
theorem any_high (l : List UInt8) (h : ∀ b ∈ l, 128 ≤ b.toNat) : anyB l = false := by
  induction l with
  | nil => rfl
  | cons c t ih =>
    rw [any_cons, ih (fun b hb => h b (List.mem_cons_of_mem _ hb))]
    have hc := h c (List.mem_cons_self ..)
    have : ¬ (c = 61 ∨ c = 0) := by rintro (rfl | rfl) <;> exact absurd hc (by decide)
    simp [this]
theorem any_step (l : List UInt8) (n : Nat) (h : ∀ b ∈ l.take n, 128 ≤ b.toNat) : anyB l = anyB (l.drop n) := by
  conv => lhs; rw [← List.take_append_drop n l, any_app, any_high _ h]
  rfl

end Go.Proofs.YthnaanjhmehgcaaGreatDoor

/-
  WHETHER A TEXT HAS = OR THE NOUGHT (strings.IndexAny, ContainsAny), of any text; whether a key is right. Conditions: how many bytes a text may have.
-/
namespace Go.Proofs.YthnaanjhmehgcaaGreatDoor
open Go.ChangeShapes Go.WideShapes Go.ChangeAt Go.RowKit Go.Lib
set_option linter.unusedVariables false
set_option maxRecDepth 20000

/-- a decoded rune is valid -/
theorem dec_valid (l : List UInt8) : Utf8.valid ((decodeL l).1 : Int) = true ∧ Lib.validRune ((decodeL l).1 : Int) = true ∧ (decodeL l).1 ≤ 1114111 := by
  have k0 := (l.getD 0 0).toNat_lt
  have k1 := (l.getD 1 0).toNat_lt
  have k2 := (l.getD 2 0).toNat_lt
  have k3 := (l.getD 3 0).toNat_lt
  rw [decodeL_N]
  have V : ∀ n : Nat, n ≤ 1114111 → (n < 55296 ∨ 57344 ≤ n) → Utf8.valid (n : Int) = true ∧ Lib.validRune (n : Int) = true ∧ n ≤ 1114111 := by
    intro n h1 h2
    refine ⟨?_, ?_, h1⟩
    · unfold Utf8.valid; simp; omega
    · unfold Lib.validRune; simp; omega
  rcases decodeN_shape l.length (l.getD 0 0).toNat (l.getD 1 0).toNat (l.getD 2 0).toNat (l.getD 3 0).toNat with ⟨h, e⟩ | ⟨h0, _, h1, h2, e⟩ | ⟨h0, _, h1, h2, h3, h4, e⟩ | ⟨_, _, h1, h2, h3, h4, h5, e⟩ | e
  all_goals rw [e]
  · exact V _ (by omega) (by omega)
  · exact V _ (by omega) (by omega)
  · exact V _ (by omega) (by omega)
  · exact V _ (by omega) (by omega)
  · exact V _ (by omega) (by omega)

theorem zero_set (w : World) : (zeroValue 165).run Tryz.prog w = .ok (.agg (Array.replicate 256 (.bool false))) w := by kernel_rfl

theorem irune_any (l : List UInt8) (w : World) : Calls Tryz.prog 170 #[.string ⟨#[61, 0]⟩, .int .i32 ((decodeL l).1 : Nat)] w fun e w' => e = .returned (.int .i64 (runeI (decodeL l).1)) ∧ Below w.heap.size w w' := by
  obtain ⟨v1, v2, v3⟩ := dec_valid l
  generalize (decodeL l).1 = r at *
  by_cases h : r < 128
  · exact irune_ascii r h w
  · have e : runeI r = -1 := by unfold runeI; rw [if_neg (by omega), if_neg (by omega)]
    rw [e]
    by_cases h2 : r = 65533
    · subst h2; exact irune_err w
    · exact irune_far r (by omega) v3 v1 v2 h2 w

theorem iterPos_at {w : World} {k : Nat} {s : ByteArray} {pos : Nat} (h : w.heap[k]? = some (.stringIter s pos)) : w.iterPos k = pos := by unfold World.iterPos; rw [h]

set_option maxHeartbeats 2000000 in
theorem index_short (s : ByteArray) (h8 : s.size ≤ 8) (w : World) : Calls Tryz.prog 147 #[.string s, .string ⟨#[61, 0]⟩] w fun e w' => (∃ i : Int, e = .returned (.int .i64 i) ∧ decide (0 ≤ i) = anyB s.data.toList) ∧ Below w.heap.size w w' := by
  obtain ⟨q, hq⟩ : ∃ q, q = anyB s.data.toList := ⟨_, rfl⟩
  rw [← hq]
  have hsu := fun w => Tryz.strings_shouldUseASCIISet (s.size : Int) w
  rw [decide_eq_false (by omega)] at hsu
  have hir := irune_any
  go_enter Tryz.func147, Tryz.ntmps147
  go_wp2_with (go_at_call 171; refine (hsu _).mono ?_; rintro e w' ⟨rfl, hw⟩; obtain rfl := hw.symm)
  have hit : (w.iter s 0).heap[w.heap.size]? = some (.stringIter s 0) := World.iter_heap w s 0
  go_loopw [9] (fun x wr => ∃ pos : Nat, pos ≤ s.size ∧ wr.heap[w.heap.size]? = some (.stringIter s pos) ∧ Below w.heap.size w wr ∧ Hid (anyB (s.data.toList.drop pos) = q)) (fun _ wr => s.size - wr.iterPos w.heap.size)
  case atStart => exact ⟨0, Nat.zero_le _, hit, iter_below _ _ _, hid (by rw [hq]; rfl)⟩
  case round =>
    obtain ⟨pos, hpos, hk, hb, hp⟩ := hrel
    by_cases hlt : pos < s.size
    · have hnx : ∀ ty, (Instr.next (.pointer (some ⟨w.heap.size, 0, none⟩)) true ty).run Tryz.prog wr = _ := fun ty => Lib.run_next_any_at wr _ s pos ty hk hlt
      have hne := drop_ne s pos hlt
      have hd := Lib.decodeL_drop s pos
      have hle := decodeL_le _ hne
      have hwp := decodeL_width (s.data.toList.drop pos)
      rw [List.length_drop, bytes_len] at hle
      have hpi : (0 : Int) ≤ (pos : Int) := by omega
      have hir2 := hir (s.data.toList.drop pos)
      have hparts := dec_parts _ hne
      have hstep := any_step (s.data.toList.drop pos) (decodeL (s.data.toList.drop pos)).2
      rw [List.drop_drop] at hstep
      rw [← hd] at hnx
      have hk1 := Lib.iterAt_heap wr _ s pos (pos + (decodeL (s.data.toList.drop pos)).2) hk
      have hb1 := Lib.below_iterAt hb (Nat.le_refl _) s (pos + (decodeL (s.data.toList.drop pos)).2)
      have hip := iterPos_at hk
      have hfin : ((decodeL (s.data.toList.drop pos)).1 = 61 ∨ (decodeL (s.data.toList.drop pos)).1 = 0) ∧ q = true ∨ ¬ ((decodeL (s.data.toList.drop pos)).1 = 61 ∨ (decodeL (s.data.toList.drop pos)).1 = 0) ∧ anyB (s.data.toList.drop (pos + (decodeL (s.data.toList.drop pos)).2)) = q := by
        rcases hparts with ⟨h1, h2, t, ht⟩ | ⟨h1, h2⟩
        · have hc := any_cons (UInt8.ofNat (decodeL (s.data.toList.drop pos)).1) t
          rw [← ht, hp.out] at hc
          have hdt : s.data.toList.drop (pos + (decodeL (s.data.toList.drop pos)).2) = t := by
            rw [h2, ← List.drop_drop, ht]; rfl
          rw [hdt]
          generalize (decodeL (s.data.toList.drop pos)).1 = r at *
          have hu : (UInt8.ofNat r = 61 ∨ UInt8.ofNat r = 0) ↔ (r = 61 ∨ r = 0) := by
            constructor
            · rintro (h | h)
              · left; have := congrArg UInt8.toNat h; simp at this; omega
              · right; have := congrArg UInt8.toNat h; simp at this; omega
            · rintro (rfl | rfl)
              · exact .inl rfl
              · exact .inr rfl
          by_cases hr : r = 61 ∨ r = 0
          · left; exact ⟨hr, by rw [hc, decide_eq_true (hu.2 hr)]; rfl⟩
          · right; exact ⟨hr, by rw [hc, decide_eq_false (fun h => hr (hu.1 h))]; rfl⟩
        · right
          exact ⟨by omega, by rw [← hstep h2]; exact hp.out⟩
      clear hparts hstep hd hne hir
      generalize (decodeL (s.data.toList.drop pos)).2 = d at *
      generalize (decodeL (s.data.toList.drop pos)).1 = r at *
      rcases hfin with ⟨hr, hq1⟩ | ⟨hr, hq1⟩
      · have hri : 0 ≤ runeI r := by unfold runeI; rcases hr with rfl | rfl <;> decide
        generalize runeI r = ri at *
        have hq1 := hid hq1
        clear hq hp hr hk
        go_wp2_with (go_at_call 170; refine (hir2 _).mono ?_; rintro e w2 ⟨rfl, hb2⟩)
        all_goals go_ret
        all_goals exact ⟨⟨pos, rfl, by rw [hq1.out, decide_eq_true hpi]⟩, hb1.trans (hb2.mono hb1.size)⟩
      · have hri : ¬ 0 ≤ runeI r := by unfold runeI; rw [if_neg (fun h => hr (.inl h)), if_neg (fun h => hr (.inr h))]; decide
        generalize runeI r = ri at *
        have hq1 := hid hq1
        clear hq hp hr hk
        go_wp2_with (go_at_call 170; refine (hir2 _).mono ?_; rintro e w2 ⟨rfl, hb2⟩)
        have hk2 : w2.heap[w.heap.size]? = some (.stringIter s (pos + d)) := by
          rw [hb2.block _ (by have := Array.getElem?_eq_some_iff.mp hk1; exact this.1)]; exact hk1
        go_roundw
        case rel => exact ⟨pos + d, by omega, hk2, hb1.trans (hb2.mono hb1.size), hq1⟩
        case measure => rw [hip, iterPos_at hk2]; omega
    · have hnx : ∀ ty, (Instr.next (.pointer (some ⟨w.heap.size, 0, none⟩)) true ty).run Tryz.prog wr = _ := fun ty => Lib.run_next_end_at wr _ s pos ty hk hlt
      have hq' : Hid (q = false) := hid (by rw [← hp.out, List.drop_eq_nil_iff.2 (by rw [bytes_len]; omega)]; rfl)
      clear hq hp hir
      go_wp2
      go_ret
      exact ⟨⟨-1, rfl, by rw [hq'.out]; rfl⟩, hb⟩

theorem index_any (s : ByteArray) (hs : s.size < 4294967281) (w : World) : Calls Tryz.prog 147 #[.string s, .string ⟨#[61, 0]⟩] w fun e w' => (∃ i : Int, e = .returned (.int .i64 i) ∧ decide (0 ≤ i) = anyB s.data.toList) ∧ Below w.heap.size w w' := by
  by_cases h8 : s.size ≤ 8
  · exact index_short s h8 w
  · refine (Tryz.strings_IndexAny_long zero_set s ⟨#[61, 0]⟩ w (by decide) (by omega) hs (by decide) (by intro j b hj; match j, hj with | 0, hj => (cases hj; decide) | 1, hj => (cases hj; decide))).mono ?_
    rintro e w' ⟨rfl, rfl⟩
    have hb := (Below.refl w.heap.size w).alloc (Nat.le_refl _) (.cells (Lib.setCells [61, 0]) 165)
    exact ⟨⟨_, rfl, indexAny_mem _⟩, hb.alloc hb.size _⟩

theorem contains_any (s : ByteArray) (hs : s.size < 4294967281) (w : World) : Calls Tryz.prog 117 #[.string s, .string ⟨#[61, 0]⟩] w fun e w' => e = .returned (.bool (anyB s.data.toList)) ∧ Below w.heap.size w w' := by
  have hi := index_any s hs
  go_enter Tryz.func117, Tryz.ntmps117
  go_wp2_with (go_at_call 147; refine (hi _).mono ?_; rintro e w1 ⟨⟨i, rfl, hq⟩, hb⟩)
  all_goals go_ret
  all_goals first | exact ⟨rfl, hb⟩ | exact ⟨ret_bool hq, hb⟩

theorem is_nil (s : ByteArray) : s.toList.isEmpty = decide (bs s = []) := by
  rw [toList_data]; unfold bs; cases s.data.toList <;> simp

set_option maxHeartbeats 1000000 in
theorem key_ok (s : ByteArray) (hs : s.size < 4294967281) (w : World) : Calls Tryz.prog 92 #[.string s] w fun e w' => e = .returned (.bool (keyR (bs s))) ∧ Below w.heap.size w w' := by
  have hc := contains_any s hs
  have hr := right_walk s (by omega)
  have K : keyR (bs s) = (!decide (bs s = []) && (!anyB s.data.toList && decide (firstL s.data.toList < 0))) := by
    unfold keyR
    rw [show decide (bs s ≠ []) = !decide (bs s = []) by simp]
    rfl
  rw [K, ← is_nil]
  clear K
  generalize anyB s.data.toList = q at *
  generalize decide (firstL s.data.toList < 0) = f at *
  cases z : s.toList.isEmpty
  · cases q
    all_goals
      go_enter Tryz.func92, Tryz.ntmps92
      go_wp2_with (first
        | (go_at_call 117; refine (hc _).mono ?_; rintro e w1 ⟨rfl, hb1⟩)
        | (go_at_call 80; refine (hr _).mono ?_; rintro e w2 ⟨rfl, hb2⟩))
      all_goals go_ret
      all_goals first | exact ⟨rfl, hb1.trans (hb2.mono hb1.size)⟩ | exact ⟨rfl, hb1⟩
  · go_enter Tryz.func92, Tryz.ntmps92
    go_wp2
    all_goals go_ret
    all_goals exact ⟨rfl, Below.refl _ _⟩

end Go.Proofs.YthnaanjhmehgcaaGreatDoor

/-
  WHETHER A PAIR IS RIGHT. Conditions: how many bytes its texts may have; what the listed variables hold.
-/
namespace Go.Proofs.YthnaanjhmehgcaaGreatDoor
open Go.ChangeShapes Go.WideShapes Go.ChangeAt Go.RowKit Go.Lib
set_option linter.unusedVariables false
set_option maxRecDepth 20000

theorem two_cells {w w2 : World} {t : TypeId} {a b : Value} (hb : Below (w.alloc (.cells #[a, b] t)).heap.size (w.alloc (.cells #[a, b] t)) w2) :
    w2.cell? ⟨w.heap.size, 0, none⟩ = some a ∧ w2.cell? ⟨w.heap.size, 1, none⟩ = some b := by
  have h : w2.heap[w.heap.size]? = some (.cells #[a, b] t) := by
    rw [hb.block _ (by simp)]; unfold World.alloc; simp
  exact ⟨by simp [World.cell?, h], by simp [World.cell?, h]⟩

set_option maxHeartbeats 2000000 in
theorem right_ok (k v : ByteArray) (hk : k.size < 4294967281) (hv : v.size ≤ 281474976710656) (w : World) (hL : Laid w) :
    Calls Tryz.prog 56 #[.agg #[.string k, .string v]] w fun e w' => e = .returned (.bool (rightP (bs k) (bs v))) ∧ Below w.heap.size w w' := by
  have hb0 := (Below.refl w.heap.size w).alloc (Nat.le_refl _) (.cells #[.string k, .string v] 50)
  have hkey := key_ok k hk
  have hrt := right_walk v (by omega)
  have hkd := kind_ok k
  have hho := fun w' (hb : Below w.heap.size w w') => holds_ok (kindK (bs k)) v (kindK_is _) hv w' (hL.below hb)
  have E : rightP (bs k) (bs v) = (keyR (bs k) && decide (firstL v.data.toList < 0) && (decide (bs v = []) || holdK (kindK (bs k)) (bs v))) := rfl
  rw [E, ← is_nil v]
  clear E hL
  generalize keyR (bs k) = a at *
  generalize decide (firstL v.data.toList < 0) = f at *
  generalize holdK (kindK (bs k)) (bs v) = h at *
  generalize kindK (bs k) = kk at *
  cases a
  · go_enter Tryz.func56, Tryz.ntmps56
    go_wp2_with (go_at_call 92; refine (hkey _).mono ?_; rintro e w1 ⟨rfl, hb1⟩)
    all_goals go_ret
    all_goals exact ⟨rfl, hb0.trans (hb1.mono hb0.size)⟩
  · cases f
    · go_enter Tryz.func56, Tryz.ntmps56
      go_wp2_with (first
        | (go_at_call 92; refine (hkey _).mono ?_; rintro e w1 ⟨rfl, hb1⟩; obtain ⟨c0, c1⟩ := two_cells hb1; have hacc := hb0.trans (hb1.mono hb0.size))
        | (go_at_call 80; refine (hrt _).mono ?_; rintro e w2 ⟨rfl, hb2⟩; replace hacc := hacc.trans (hb2.mono hacc.size)))
      all_goals go_ret
      all_goals exact ⟨rfl, hacc⟩
    · have hz : v = ⟨#[]⟩ ∨ v.toList.isEmpty = false := by
        by_cases e : bs v = []
        · left; rw [← txt_bs v, e]; rfl
        · right; rw [is_nil, decide_eq_false e]
      rcases hz with rfl | z
      · go_enter Tryz.func56, Tryz.ntmps56
        go_wp2_with (first
          | (go_at_call 92; refine (hkey _).mono ?_; rintro e w1 ⟨rfl, hb1⟩; obtain ⟨c0, c1⟩ := two_cells hb1; have hacc := hb0.trans (hb1.mono hb0.size))
          | (go_at_call 80; refine (hrt _).mono ?_; rintro e w2 ⟨rfl, hb2⟩; replace hacc := hacc.trans (hb2.mono hacc.size); replace c0 := cell_later hb2 c0; replace c1 := cell_later hb2 c1; clear hb2))
        go_region
        all_goals go_wp2
        all_goals go_ret
        all_goals exact ⟨ret_bool (by rw [is_nil]; rfl), hacc.drew⟩
      · go_enter Tryz.func56, Tryz.ntmps56
        go_wp2_with (first
          | (go_at_call 92; refine (hkey _).mono ?_; rintro e w1 ⟨rfl, hb1⟩; obtain ⟨c0, c1⟩ := two_cells hb1; have hacc := hb0.trans (hb1.mono hb0.size))
          | (go_at_call 80; refine (hrt _).mono ?_; rintro e w2 ⟨rfl, hb2⟩; replace hacc := hacc.trans (hb2.mono hacc.size); replace c0 := cell_later hb2 c0; replace c1 := cell_later hb2 c1; clear hb2))
        go_region_held3 (fun w' => w'.cell? ⟨w.heap.size, 0, none⟩ = some (.string k) ∧ w'.cell? ⟨w.heap.size, 1, none⟩ = some (.string v)) (go_keep)
          (first
            | (go_at_call 93; refine (hkd _).mono ?_; rintro e w' ⟨hw, rfl⟩; obtain rfl := hw.symm)
            | (go_at_call 94; refine (hho _ hacc.drew).mono ?_; rintro e w3 ⟨rfl, hb3⟩; have f0 := cell_later (w := w2.drew) hb3 c0; have f1 := cell_later (w := w2.drew) hb3 c1; have hfin := hacc.drew.trans (hb3.mono hacc.drew.size)))
        all_goals go_wp2
        all_goals go_ret
        all_goals exact ⟨ret_bool (by rw [z]; simp), hfin⟩

end Go.Proofs.YthnaanjhmehgcaaGreatDoor
