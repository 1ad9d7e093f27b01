/-
  WHETHER A TEXT HAS ONE OF TWO BYTES, = AND THE NOUGHT (strings.ContainsAny), of any text; whether a key is right. Conditions: how many bytes a text may have.
-/
import Derived.Test.YtlehomcodkbpmaaGreatDoorKnd
import Derived.Laws.Runes
import Derived.BigRegion
import Derived.WalkMore
import Derived.BigQuiet
import Derived.Deep.RegionHeld3
namespace Go.Proofs.YtlehomcodkbpmaaGreatDoor
open Go.ChangeShapes Go.WideShapes Go.ChangeAt Go.RowKit Go.Lib
set_option linter.unusedVariables false
set_option maxRecDepth 20000

/-- where a rune is in the two bytes -/
def runeI (r : Nat) : Int := if r = 61 then 0 else if r = 0 then 1 else -1
theorem rune_small : ∀ k : Fin 128, indexByte [61, 0] (UInt8.ofNat k.val) = runeI k.val := by decide +kernel

theorem irune_ascii (r : Nat) (h : r < 128) (w : World) : Calls Tryz.prog 82 #[.string ⟨#[61, 0]⟩, .int .i32 r] w fun e w' => e = .returned (.int .i64 (runeI r)) ∧ Below w.heap.size w w' := by
  refine (Tryz.strings_IndexRune_ascii ⟨#[61, 0]⟩ r w (by omega) (by omega)).mono ?_
  rintro e w' ⟨rfl, rfl⟩
  exact ⟨ret_int (rune_small ⟨r, h⟩), Below.refl _ _⟩

set_option maxHeartbeats 2000000 in
theorem irune_err (w : World) : Calls Tryz.prog 82 #[.string ⟨#[61, 0]⟩, .int .i32 65533] w fun e w' => e = .returned (.int .i64 (-1)) ∧ Below w.heap.size w w' := by
  have n0 : ∀ ty, (Instr.next (.pointer (some ⟨w.heap.size, 0, none⟩)) true ty).run Tryz.prog (w.iter ⟨#[61, 0]⟩ 0) = .ok (.tuple #[.bool true, .int .i64 0, .int .i32 61]) (w.iter ⟨#[61, 0]⟩ 1) := fun ty => run_next_any w ⟨#[61, 0]⟩ 0 ty (by decide)
  have n1 : ∀ ty, (Instr.next (.pointer (some ⟨w.heap.size, 0, none⟩)) true ty).run Tryz.prog (w.iter ⟨#[61, 0]⟩ 1) = .ok (.tuple #[.bool true, .int .i64 1, .int .i32 0]) (w.iter ⟨#[61, 0]⟩ 2) := fun ty => run_next_any w ⟨#[61, 0]⟩ 1 ty (by decide)
  have n2 : ∀ ty, (Instr.next (.pointer (some ⟨w.heap.size, 0, none⟩)) true ty).run Tryz.prog (w.iter ⟨#[61, 0]⟩ 2) = _ := fun ty => run_next_end w ⟨#[61, 0]⟩ 2 ty (by decide)
  go_enter Tryz.func82, Tryz.ntmps82
  go_wp2
  go_rounds 3
  all_goals go_ret
  all_goals exact ⟨rfl, iter_below _ _ _⟩

theorem below_drewN (w : World) : ∀ n, Below w.heap.size w (w.drewN n)
  | 0 => Below.refl _ _
  | n + 1 => (below_drewN w n).drew

theorem str_tail (W : World) : (Instr.sliceAt 9 (.string ⟨#[61, 0]⟩) (some (.int .i64 2)) none none).run Tryz.prog W = .ok (.string ⟨#[]⟩) W := by kernel_rfl

set_option maxHeartbeats 4000000 in
set_option maxRecDepth 1000000 in
theorem irune_far (r : Nat) (h0 : 128 ≤ r) (h1 : r ≤ 1114111) (hv : Utf8.valid r = true) (hv2 : Lib.validRune (r : Int) = true) (hne : r ≠ 65533) (w : World) : Calls Tryz.prog 82 #[.string ⟨#[61, 0]⟩, .int .i32 r] w fun e w' => e = .returned (.int .i64 (-1)) ∧ Below w.heap.size w w' := by
  obtain ⟨z2, z4, zl⟩ := encode_facts r hv (by omega)
  have hval := fun w => Tryz.utf8_ValidRune r w
  rw [hv2] at hval
  have hr0 : (0 : Int) ≤ r := by omega
  have hr1 : ¬ ((r : Int) < 128) := by omega
  have hr2 : ((r : Int) == 65533) = false := by simp; omega
  have hcv : ∀ W, (convert 21 9 (.int .i32 (r : Int))).run Tryz.prog W = .ok (.string (Utf8.encode r)) W := fun W => run_convert_int_string W 21 9 .i32 r (by rw [Tryz.underlying21]; rfl) Tryz.underlying9
  generalize Utf8.encode r = E at *
  by_cases hz : E.size = 2
  · obtain ⟨e0, e1, rfl⟩ : ∃ e0 e1 : UInt8, E = ⟨#[e0, e1]⟩ := by
      obtain ⟨arr⟩ := E
      obtain ⟨e0, e1, rfl⟩ := Joins.array2 (cs := arr) hz
      exact ⟨e0, e1, rfl⟩
    have hc : 128 ≤ e1.toNat := zl (by show 2 - 1 < 2; omega)
    have hc2 : (((((⟨#[61, 0]⟩ : ByteArray)[1]'(by decide)).toNat : Nat) : Int) != ((((⟨#[e0, e1]⟩ : ByteArray)[1]'(by show 1 < 2; omega)).toNat : Nat) : Int)) = true := by
      show ((0 : Int) != (e1.toNat : Int)) = true
      simp; omega
    have hsz : (⟨#[e0, e1]⟩ : ByteArray).size = 2 := rfl
    have hsl := str_tail
    have hw2 : IntKind.i64.wrap 2 = 2 := rfl
    have hib := fun w => Tryz.strings_IndexByte ⟨#[]⟩ (((⟨#[e0, e1]⟩ : ByteArray)[1]'(by show 1 < 2; omega)).toNat : Int) w
    change ∀ w, Calls _ _ _ _ fun e w' => e = .returned (.int .i64 (-1)) ∧ _ at hib
    clear hz zl z2 z4 hv hv2 h0 h1 hne
    go_enter Tryz.func82, Tryz.ntmps82
    go_wp2_with (go_at_call 92; refine (hval _).mono ?_; rintro e w' ⟨rfl, hw⟩; obtain rfl := hw.symm)
    go_step3
    go_wp2
    refine wp_loop_rounds 1 ?_
    rw [rounds_succ]
    go_wp2
    go_step3
    go_wp2
    go_region
    all_goals
      go_wp2
      go_quiet (first | (go_at_call 54; refine (hib _).mono ?_; rintro e w' ⟨rfl, rfl⟩; exact ⟨rfl, _, rfl⟩))
      all_goals go_wp2
      all_goals simp only [Exit.noGoto_ret, Exit.then, Exit.inBlock]
      all_goals go_ret
      all_goals exact ⟨rfl, below_drewN _ _⟩
  · have hz3 : 3 ≤ E.size := by omega
    clear hz zl
    go_enter Tryz.func82, Tryz.ntmps82
    go_wp2_with (go_at_call 92; refine (hval _).mono ?_; rintro e w' ⟨rfl, hw⟩; obtain rfl := hw.symm)
    go_step3
    go_wp2
    go_rounds 1
    all_goals rw [Exit.noGoto_ret]
    all_goals go_ret
    all_goals exact ⟨rfl, Below.refl _ _⟩

/-- a decoded rune is one byte, or its bytes are all above 127 -/
theorem dec_parts (l : List UInt8) (hne : l ≠ []) : ((decodeL l).1 < 128 ∧ (decodeL l).2 = 1 ∧ ∃ t, l = UInt8.ofNat (decodeL l).1 :: t) ∨ (128 ≤ (decodeL l).1 ∧ ∀ b ∈ l.take (decodeL l).2, 128 ≤ b.toNat) := by
  have hl : 0 < l.length := List.length_pos_iff.2 hne
  obtain ⟨b, t, rfl⟩ : ∃ b t, l = b :: t := by cases l with | nil => exact absurd rfl hne | cons b t => exact ⟨b, t, rfl⟩
  rw [decodeL_N]
  have k0 := b.toNat_lt
  have g : ∀ i, ((b :: t).getD i 0).toNat < 256 := fun i => ((b :: t).getD i 0).toNat_lt
  by_cases hb : b.toNat < 128
  · left
    have e : decodeN (b :: t).length ((b :: t).getD 0 0).toNat ((b :: t).getD 1 0).toNat ((b :: t).getD 2 0).toNat ((b :: t).getD 3 0).toNat = (b.toNat, 1) := by
      unfold decodeN
      rw [if_pos (show ((b :: t).getD 0 0).toNat < 128 from hb)]
      rfl
    rw [e]
    exact ⟨hb, rfl, t, by simp⟩
  · right
    have key : ∀ (n : Nat), n ≤ 4 → (∀ i, 0 < i → i < n → 128 ≤ ((b :: t).getD i 0).toNat) → ∀ x ∈ (b :: t).take n, 128 ≤ x.toNat := by
      intro n hn h x hx
      obtain ⟨i, hi, rfl⟩ := List.mem_iff_getElem.1 hx
      rw [List.getElem_take]
      have hi2 : i < n ∧ i < (b :: t).length := by simp at hi ⊢; omega
      by_cases h0 : i = 0
      · subst h0; simpa using hb
      · have := h i (by omega) hi2.1
        simpa [List.getD_eq_getElem?_getD, List.getElem?_eq_getElem hi2.2] using this
    have hb0 : ((b :: t).getD 0 0).toNat = b.toNat := rfl
    rcases decodeN_shape (b :: t).length ((b :: t).getD 0 0).toNat ((b :: t).getD 1 0).toNat ((b :: t).getD 2 0).toNat ((b :: t).getD 3 0).toNat with ⟨h, _⟩ | ⟨_, _, h1, h2, e⟩ | ⟨_, _, h1, h2, h3, _, e⟩ | ⟨_, _, h1, h2, h3, h4, _, e⟩ | e
    · omega
    · rw [e]
      refine ⟨h2, key 2 (by omega) fun i a c => ?_⟩
      have : i = 1 := by omega
      subst this; omega
    · rw [e]
      refine ⟨by omega, key 3 (by omega) fun i a c => ?_⟩
      have : i = 1 ∨ i = 2 := by omega
      rcases this with rfl | rfl <;> omega
    · rw [e]
      refine ⟨by omega, key 4 (by omega) fun i a c => ?_⟩
      have : i = 1 ∨ i = 2 ∨ i = 3 := by omega
      rcases this with rfl | rfl | rfl <;> omega
    · rw [e]
      exact ⟨by decide, key 1 (by omega) fun i a c => by omega⟩

/-- = or the nought -/
def anyB (l : List UInt8) : Bool := has 61 l || has 0 l
theorem any_cons (b : UInt8) (t : List UInt8) : anyB (b :: t) = (decide (b = 61 ∨ b = 0) || anyB t) := by
  unfold anyB has
  rw [Bool.eq_iff_iff]
  simp only [List.mem_cons, Bool.or_eq_true, decide_eq_true_eq]
  constructor
  · rintro ((h | h) | (h | h))
    · exact .inl (.inl h.symm)
    · exact .inr (.inl h)
    · exact .inl (.inr h.symm)
    · exact .inr (.inr h)
  · rintro ((h | h) | (h | h))
    · exact .inl (.inl h.symm)
    · exact .inr (.inl h.symm)
    · exact .inl (.inr h)
    · exact .inr (.inr h)
theorem any_app (a b : List UInt8) : anyB (a ++ b) = (anyB a || anyB b) := by
  induction a with
  | nil => rfl
  | cons c t ih => rw [List.cons_append, any_cons, any_cons, ih, Bool.or_assoc]
theorem any_high (l : List UInt8) (h : ∀ b ∈ l, 128 ≤ b.toNat) : anyB l = false := by
  induction l with
  | nil => rfl
  | cons c t ih =>
    rw [any_cons, ih (fun b hb => h b (List.mem_cons_of_mem _ hb))]
    have hc := h c (List.mem_cons_self ..)
    have : ¬ (c = 61 ∨ c = 0) := by rintro (rfl | rfl) <;> exact absurd hc (by decide)
    simp [this]
theorem any_step (l : List UInt8) (n : Nat) (h : ∀ b ∈ l.take n, 128 ≤ b.toNat) : anyB l = anyB (l.drop n) := by
  conv => lhs; rw [← List.take_append_drop n l, any_app, any_high _ h]
  rfl

end Go.Proofs.YtlehomcodkbpmaaGreatDoor
