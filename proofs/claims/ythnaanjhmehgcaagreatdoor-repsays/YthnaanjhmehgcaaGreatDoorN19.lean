/-
  WHETHER THE PAIRS ARE FEW; AND WHAT FOLLOWS OF IT. Conditions: those that each part names.
-/
import Derived.Test.YthnaanjhmehgcaaGreatDoorN11
import Derived.Test.YthnaanjhmehgcaaGreatDoorN13
/-
  WHETHER THE PAIRS ARE FEW. Conditions: how many bytes their texts may have together.
-/
namespace Go.Proofs.YthnaanjhmehgcaaGreatDoor
open Go.ChangeShapes Go.WideShapes Go.ChangeAt Go.RowKit Go.Lib
set_option linter.unusedVariables false
set_option linter.unusedSimpArgs false
set_option maxRecDepth 20000

/-- the bytes of all texts -/
def totN : List (ByteArray × ByteArray) → Nat
  | [] => 0
  | p :: t => p.1.size + p.2.size + totN t

theorem tot_drop (l : List (ByteArray × ByteArray)) : ∀ i, totN (l.drop i) ≤ totN l := by
  induction l with
  | nil => intro i; simp
  | cons p t ih =>
    intro i
    cases i with
    | zero => simp
    | succ i => have := ih i; rw [List.drop_succ_cons, totN]; omega

end Go.Proofs.YthnaanjhmehgcaaGreatDoor

/-
  WHETHER PAIRS ARE FEW, whatever they are. Conditions: a text has no more bytes than a machine reaches.
-/
namespace Go.Proofs.YthnaanjhmehgcaaGreatDoor
open Go.ChangeShapes Go.WideShapes Go.ChangeAt Go.RowKit Go.Lib
set_option linter.unusedVariables false
set_option linter.unusedSimpArgs false
set_option maxRecDepth 20000

theorem tot_le (M : Nat) : ∀ l : List (ByteArray × ByteArray), (∀ p ∈ l, p.1.size ≤ M ∧ p.2.size ≤ M) → totN l ≤ l.length * (2 * M)
  | [], _ => by simp [totN]
  | p :: t, h => by
    obtain ⟨h1, h2⟩ := h p (List.mem_cons_self ..)
    have := tot_le M t fun q hq => h q (List.mem_cons_of_mem _ hq)
    rw [totN, List.length_cons, Nat.add_mul]
    omega
end Go.Proofs.YthnaanjhmehgcaaGreatDoor

/-
  WHETHER A HEAD IS MORE THAN IS GONE THROUGH (the statements' own measure). Conditions: a text has no more bytes than a machine reaches.
-/
namespace Go.Proofs.YthnaanjhmehgcaaGreatDoor
open Go.ChangeShapes Go.WideShapes Go.ChangeAt Go.RowKit Go.Lib
set_option linter.unusedVariables false
set_option linter.unusedSimpArgs false
set_option maxRecDepth 20000

/-- the bytes of a head's texts -/
def sumH (h : Hd) : Nat := h.name.size + h.link.size + h.user.size + h.group.size

set_option maxHeartbeats 8000000 in
theorem many_ok {w : World} {a : Option Addr} {n c : Nat} {l : List (ByteArray × ByteArray)} (h : Hd) (hp : Pys w a n c l) (ht : sumH h + totN l ≤ 4611686018427387904) :
    Calls Tryz.prog 8 #[.agg (h.cs (.slice a n c))] w fun e w' => e = .returned (.bool (decide (300000 < sumH h + totN l ∨ 40 < n))) ∧ Below w.heap.size w w' := by
  have hb0 := (Below.refl w.heap.size w).alloc (Nat.le_refl _) (.cells (h.cs (.slice a n c)) 26)
  have hB : ∀ {wr : World}, Below (w.heap.size + 1) (w.alloc (.cells (h.cs (.slice a n c)) 26)) wr → Below w.heap.size w wr := fun hb => hb0.trans (hb.mono (Nat.le_succ _))
  have hcx : ∀ {wr : World}, Below (w.heap.size + 1) (w.alloc (.cells (h.cs (.slice a n c)) 26)) wr → wr.cell? ⟨w.heap.size, 13, none⟩ = some (.slice a n c) := by
    intro wr hb
    have e1 : (w.alloc (.cells (h.cs (.slice a n c)) 26)).heap[w.heap.size]? = some (.cells (h.cs (.slice a n c)) 26) := heap_alloc_new _ _
    have e2 : wr.heap[w.heap.size]? = some (.cells (h.cs (.slice a n c)) 26) := by rw [hb.block _ (by omega)]; exact e1
    simp [World.cell?, e2, Hd.cs]
  have hsz : (w.alloc (.cells (h.cs (.slice a n c)) 26)).heap.size = w.heap.size + 1 := by simp
  obtain ⟨T, hT⟩ : ∃ T, T = sumH h + totN l := ⟨_, rfl⟩
  rw [← hT] at ht ⊢
  have hT0 : h.name.size + h.link.size + h.user.size + h.group.size ≤ T := by rw [hT]; unfold sumH; omega
  have hT' := hid (show h.name.size + h.link.size + h.user.size + h.group.size + totN l = T by rw [hT]; rfl)
  clear hT
  obtain ⟨hl, hlc, hm, hor⟩ := hp
  have hl' := hid hl
  clear hl
  unfold Hd.cs at *
  rcases hor with ⟨rfl, rfl⟩ | ⟨h0, b, off, rfl, hc⟩
  · have E := hid (by have := hT'.out; rw [totN] at this; omega : h.name.size + h.link.size + h.user.size + h.group.size = T)
    clear hT'
    go_enter Tryz.func8, Tryz.ntmps8
    by_cases g : 300000 < h.name.size + h.link.size + h.user.size + h.group.size
    · have gI : (300000 : Int) < (h.name.size : Int) + h.link.size + h.user.size + h.group.size := by omega
      go_wp2
      refine wp_loop_rounds 1 ?_
      rw [rounds_succ]
      go_wp2
      all_goals go_ret
      all_goals exact ⟨ret_bool (by have := E.out; simp; omega), hb0⟩
    · have gI : ¬ (300000 : Int) < (h.name.size : Int) + h.link.size + h.user.size + h.group.size := by omega
      go_wp2
      refine wp_loop_rounds 1 ?_
      rw [rounds_succ]
      go_wp2
      all_goals go_ret
      all_goals exact ⟨ret_bool (by have := E.out; simp; omega), hb0⟩
  · go_enter Tryz.func8, Tryz.ntmps8
    go_wp2
    go_loopw [3, 4] (fun y x wr => ∃ (s k : Nat), y = .int .i64 s ∧ x = .int .i64 k ∧ Below (w.heap.size + 1) _ wr ∧ k ≤ n ∧ s ≤ T ∧ Hid (s + totN (l.drop k) = T)) (fun _ x _ => n - (RowKit.intOf x).toNat)
    case atStart => exact ⟨h.name.size + h.link.size + h.user.size + h.group.size, 0, by go_num, rfl, Below.refl _ _, by omega, hT0, hid (by have := hT'.out; simpa using this)⟩
    case round =>
      obtain ⟨s, k, rfl, rfl, hb, hk, hs, hr⟩ := hrel
      have hcx1 := hcx hb
      by_cases hlt : k < n
      · obtain ⟨ky, vl, hmem, hd, c0, c1⟩ := (hc.below (hB hb)).at k (by rw [hl'.out]; exact hlt)
        have hkI : (k : Int) < (n : Int) := by omega
        have E := hid (by have := hr.out; rw [hd.out, totN] at this; simp only at this; omega : s + ky.size + vl.size + totN (l.drop (k + 1)) = T)
        have hb1 : s + ky.size + vl.size ≤ T := by have := E.out; omega
        clear hr hd hmem
        go_wp2
        go_region
        go_wp2
        go_roundw
        case rel => exact ⟨s + ky.size + vl.size, k + 1, by go_num, by go_num, hb.drew, by omega, hb1, E⟩
        case measure => simp [RowKit.intOf]; omega
      · obtain rfl : k = n := by omega
        have E : s = T := by have := hr.out; rw [List.drop_eq_nil_iff.mpr (by rw [hl'.out]; exact Nat.le_refl _), totN] at this; omega
        subst E
        clear hr hT'
        by_cases g2 : 300000 < s
        · have i2 : (300000 : Int) < (s : Int) := by omega
          go_wp2
          all_goals go_ret
          all_goals exact ⟨by simp [g2], hB hb⟩
        · have i2 : ¬ (300000 : Int) < (s : Int) := by omega
          by_cases g1 : 40 < k
          · have i1 : (40 : Int) < (k : Int) := by omega
            go_wp2
            all_goals go_ret
            all_goals exact ⟨by simp [g1, g2], hB hb⟩
          · have i1 : ¬ (40 : Int) < (k : Int) := by omega
            go_wp2
            all_goals go_ret
            all_goals exact ⟨by simp [g1, g2], hB hb⟩

set_option maxHeartbeats 8000000 in
theorem many_big {w : World} {a : Option Addr} {n c : Nat} {l : List (ByteArray × ByteArray)} (h : Hd) (hp : Pys w a n c l) (hn : 40 < n) :
    Calls Tryz.prog 8 #[.agg (h.cs (.slice a n c))] w fun e w' => e = .returned (.bool true) ∧ Below w.heap.size w w' := by
  have hb0 := (Below.refl w.heap.size w).alloc (Nat.le_refl _) (.cells (h.cs (.slice a n c)) 26)
  have hB : ∀ {wr : World}, Below (w.heap.size + 1) (w.alloc (.cells (h.cs (.slice a n c)) 26)) wr → Below w.heap.size w wr := fun hb => hb0.trans (hb.mono (Nat.le_succ _))
  have hcx : ∀ {wr : World}, Below (w.heap.size + 1) (w.alloc (.cells (h.cs (.slice a n c)) 26)) wr → wr.cell? ⟨w.heap.size, 13, none⟩ = some (.slice a n c) := by
    intro wr hb
    have e1 : (w.alloc (.cells (h.cs (.slice a n c)) 26)).heap[w.heap.size]? = some (.cells (h.cs (.slice a n c)) 26) := heap_alloc_new _ _
    have e2 : wr.heap[w.heap.size]? = some (.cells (h.cs (.slice a n c)) 26) := by rw [hb.block _ (by omega)]; exact e1
    simp [World.cell?, e2, Hd.cs]
  have hsz : (w.alloc (.cells (h.cs (.slice a n c)) 26)).heap.size = w.heap.size + 1 := by simp
  obtain ⟨hl, hlc, hm, hor⟩ := hp
  have hl' := hid hl
  clear hl
  unfold Hd.cs at *
  rcases hor with ⟨rfl, rfl⟩ | ⟨h0, b, off, rfl, hc⟩
  · omega
  · go_enter Tryz.func8, Tryz.ntmps8
    go_wp2
    go_loopw [3, 4] (fun y x wr => ∃ (s : Int) (k : Nat), y = .int .i64 s ∧ x = .int .i64 k ∧ Below (w.heap.size + 1) _ wr ∧ k ≤ n) (fun _ x _ => n - (RowKit.intOf x).toNat)
    case atStart => exact ⟨_, 0, rfl, rfl, Below.refl _ _, by omega⟩
    case round =>
      obtain ⟨s, k, rfl, rfl, hb, hk⟩ := hrel
      have hcx1 := hcx hb
      by_cases hlt : k < n
      · obtain ⟨ky, vl, hmem, hd, c0, c1⟩ := (hc.below (hB hb)).at k (by rw [hl'.out]; exact hlt)
        have hkI : (k : Int) < (n : Int) := by omega
        clear hd hmem
        go_wp2
        go_region
        go_wp2
        go_roundw
        case rel => exact ⟨_, k + 1, rfl, by go_num, hb.drew, by omega⟩
        case measure => simp [RowKit.intOf]; omega
      · obtain rfl : k = n := by omega
        have i1 : (40 : Int) < (k : Int) := by omega
        by_cases i2 : (300000 : Int) < s
        · go_wp2
          all_goals go_ret
          all_goals exact ⟨rfl, hB hb⟩
        · go_wp2
          all_goals go_ret
          all_goals exact ⟨rfl, hB hb⟩

/-- many, whatever the head is: false tells that all is small -/
theorem many_all {w : World} {a : Option Addr} {n c : Nat} {l : List (ByteArray × ByteArray)} (h : Hd) (hp : Pys w a n c l) (hz : ∀ p ∈ l, p.1.size ≤ 140737488351232 ∧ p.2.size ≤ 140737488351232)
    (h1 : h.name.size ≤ 140737488351232) (h2 : h.link.size ≤ 140737488351232) (h3 : h.user.size ≤ 140737488351232) (h4 : h.group.size ≤ 140737488351232) :
    Calls Tryz.prog 8 #[.agg (h.cs (.slice a n c))] w fun e w' => e = .returned (.bool (decide (300000 < sumH h + totN l ∨ 40 < n))) ∧ Below w.heap.size w w' := by
  by_cases hn : n ≤ 40
  · refine many_ok h hp ?_
    have := tot_le 140737488351232 l hz
    have h5 := hp.1
    unfold sumH
    omega
  · refine (many_big h hp (by omega)).mono fun e w' ⟨e1, e2⟩ => ⟨?_, e2⟩
    rw [e1, decide_eq_true (.inr (by omega))]

end Go.Proofs.YthnaanjhmehgcaaGreatDoor
