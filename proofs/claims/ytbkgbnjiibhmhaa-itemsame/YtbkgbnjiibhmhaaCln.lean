/-
  slices.Clone OF PAIRS AND OF BYTES: the same, in memory of its own. Conditions: how many there are.
-/
import Derived.Test.YtbkgbnjiibhmhaaPbs
import Derived.Lib.SliceRun
namespace Go.Proofs.Ytbkgbnjiibhmhaa
open Go.ChangeShapes Go.WideShapes Go.ChangeAt Go.RowKit Go.Lib
set_option linter.unusedVariables false
set_option linter.unusedSimpArgs false
set_option maxRecDepth 20000

theorem infoPair : (Try.prog.info? 37).map (fun i => (i.zero, i.size, i.bytes)) = some (some (.agg #[.string ⟨#[]⟩, .string ⟨#[]⟩]), 2, 32) := by kernel_rfl
theorem Try.info5' : (Try.prog.info? 5).map (fun i => (i.zero, i.size, i.bytes)) = some (some (.int .u8 0), 1, 1) := by kernel_rfl

set_option maxHeartbeats 4000000 in
theorem clonep_ok {w : World} {a : Option Addr} {n c : Nat} {l : List (ByteArray × ByteArray)} (hp : Pys w a n c l) (hnl : a = none → n = 0 ∧ c = 0) (hn : n ≤ 1000000) :
    Calls Try.prog 26 #[.slice a n c] w fun e w' => ∃ v, e = .returned v ∧ w'.ownsRow w.heap.size 37 2 v n (pcs2 l) ∧ Below w.heap.size w w' := by
  obtain ⟨i0, hi0, hz0, hz1, hz2⟩ := info_parts infoPair
  cases a with
  | none =>
    obtain ⟨rfl, rfl⟩ := hnl rfl
    have e : l = [] := by have := hp.1; simpa using this
    subst e
    have hnil := fun w : World => run_eql_slice_nil (P := Try.prog) w 24 _ none 0 0 0 0 Try.underlying24
    go_enter Try.func26, Try.ntmps26
    go_wp2
    go_ret
    exact ⟨_, rfl, World.ownsRow_nil _ _ _ _, Below.refl _ _⟩
  | some x =>
    have hb1 := (Below.refl w.heap.size w).alloc (Nat.le_refl _) (.cells #[] 37)
    have hsrc := pys_news (hp.below hb1)
    have hlen : (pcs2 l).length = n * 2 := by rw [pcs2_len, hp.1]
    have hone := pcs2_one l
    have hown : (w.alloc (.cells #[] 37)).ownsRow w.heap.size 37 2 (.slice (some ⟨w.heap.size, 0, none⟩) 0 0) 0 [] := World.ownsRow_made w #[] 0 (Nat.le_refl _) (by decide) rfl
    have hsz : w.heap.size ≤ (w.alloc (.cells #[] 37)).heap.size := by simp
    have hnil := fun w : World => run_eql_slice_nil (P := Try.prog) w 24 _ (some x) n c 0 0 Try.underlying24
    clear hp hnl
    go_enter Try.func26, Try.ntmps26
    go_wp2_with (at_builtin; refine wpList_append_own (P := Try.prog) _ rfl (.tmp 5) (.tmp 6) 24 rfl w.heap.size 37 i0 (.agg #[.string ⟨#[]⟩, .string ⟨#[]⟩]) 2 32 Try.underlying24 hi0 hz0 hz1 hz2 rfl (by decide) _ _ _ rfl hown x n c (pcs2 l) rfl hlen hsrc hone (by unfold maxLen; omega) (by omega) hsz ?_; intro v' w3 hown' hgrow' _)
    go_ret
    exact ⟨_, rfl, by simpa using hown', hb1.grown hgrow' hsz (fun g hg => (hown.lt g hg).1)⟩

set_option maxHeartbeats 4000000 in
theorem cloneb_ok {w : World} {a : Option Addr} {n c : Nat} {l : List Int} (hp : Bys w a n c l) (hnl : a = none → n = 0 ∧ c = 0) (hn : n ≤ 1000000) :
    Calls Try.prog 27 #[.slice a n c] w fun e w' => ∃ v, e = .returned v ∧ w'.ownsRow w.heap.size 5 1 v n (u8s l) ∧ Below w.heap.size w w' := by
  obtain ⟨i0, hi0, hz0, hz1, hz2⟩ := info_parts Try.info5'
  cases a with
  | none =>
    obtain ⟨rfl, rfl⟩ := hnl rfl
    have e : l = [] := by have := hp.1; simpa using this
    subst e
    have hnil := fun w : World => run_eql_slice_nil (P := Try.prog) w 27 _ none 0 0 0 0 Try.underlying27
    go_enter Try.func27, Try.ntmps27
    go_wp2
    go_ret
    exact ⟨_, rfl, World.ownsRow_nil _ _ _ _, Below.refl _ _⟩
  | some x =>
    have hb1 := (Below.refl w.heap.size w).alloc (Nat.le_refl _) (.cells #[] 5)
    have hsrc := bys_news (hp.below hb1)
    have hlen : (u8s l).length = n * 1 := by rw [u8s_len, hp.1]
    have hone := u8s_one l
    have hown : (w.alloc (.cells #[] 5)).ownsRow w.heap.size 5 1 (.slice (some ⟨w.heap.size, 0, none⟩) 0 0) 0 [] := World.ownsRow_made w #[] 0 (Nat.le_refl _) (by decide) rfl
    have hsz : w.heap.size ≤ (w.alloc (.cells #[] 5)).heap.size := by simp
    have hnil := fun w : World => run_eql_slice_nil (P := Try.prog) w 27 _ (some x) n c 0 0 Try.underlying27
    clear hp hnl
    go_enter Try.func27, Try.ntmps27
    go_wp2_with (at_builtin; refine wpList_append_own (P := Try.prog) _ rfl (.tmp 5) (.tmp 6) 27 rfl w.heap.size 5 i0 (.int .u8 0) 1 1 Try.underlying27 hi0 hz0 hz1 hz2 rfl (by decide) _ _ _ rfl hown x n c (u8s l) rfl hlen hsrc hone (by unfold maxLen; omega) (by omega) hsz ?_; intro v' w3 hown' hgrow' _)
    go_ret
    exact ⟨_, rfl, by simpa using hown', hb1.grown hgrow' hsz (fun g hg => (hown.lt g hg).1)⟩

end Go.Proofs.Ytbkgbnjiibhmhaa
