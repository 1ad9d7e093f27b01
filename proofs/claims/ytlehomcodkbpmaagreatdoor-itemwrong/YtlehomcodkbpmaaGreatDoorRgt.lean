/-
  WHETHER A PAIR IS RIGHT. Conditions: how many bytes its texts may have; what the listed variables hold.
-/
import Derived.Test.YtlehomcodkbpmaaGreatDoorKey
import Derived.Deep.RegionHeld3
import Derived.BigRegion
namespace Go.Proofs.YtlehomcodkbpmaaGreatDoor
open Go.ChangeShapes Go.WideShapes Go.ChangeAt Go.RowKit Go.Lib
set_option linter.unusedVariables false
set_option maxRecDepth 20000

theorem two_cells {w w2 : World} {t : TypeId} {a b : Value} (hb : Below (w.alloc (.cells #[a, b] t)).heap.size (w.alloc (.cells #[a, b] t)) w2) :
    w2.cell? ⟨w.heap.size, 0, none⟩ = some a ∧ w2.cell? ⟨w.heap.size, 1, none⟩ = some b := by
  have h : w2.heap[w.heap.size]? = some (.cells #[a, b] t) := by
    rw [hb.block _ (by simp)]; unfold World.alloc; simp
  exact ⟨by simp [World.cell?, h], by simp [World.cell?, h]⟩

set_option maxHeartbeats 2000000 in
theorem right_ok (k v : ByteArray) (hk : k.size < 4294967281) (hv : v.size ≤ 281474976710656) (w : World) (hL : Laid w) :
    Calls Tryz.prog 46 #[.agg #[.string k, .string v]] w fun e w' => e = .returned (.bool (rightP (bs k) (bs v))) ∧ Below w.heap.size w w' := by
  have hb0 := (Below.refl w.heap.size w).alloc (Nat.le_refl _) (.cells #[.string k, .string v] 39)
  have hkey := key_ok k hk
  have hrt := right_walk v (by omega)
  have hkd := kind_ok k
  have hho := fun w' (hb : Below w.heap.size w w') => holds_ok (kindK (bs k)) v (kindK_is _) hv w' (hL.below hb)
  have E : rightP (bs k) (bs v) = (keyR (bs k) && decide (firstL v.data.toList < 0) && (decide (bs v = []) || holdK (kindK (bs k)) (bs v))) := rfl
  rw [E, ← is_nil v]
  clear E hL
  generalize keyR (bs k) = a at *
  generalize decide (firstL v.data.toList < 0) = f at *
  generalize holdK (kindK (bs k)) (bs v) = h at *
  generalize kindK (bs k) = kk at *
  cases a
  · go_enter Tryz.func46, Tryz.ntmps46
    go_wp2_with (go_at_call 55; refine (hkey _).mono ?_; rintro e w1 ⟨rfl, hb1⟩)
    all_goals go_ret
    all_goals exact ⟨rfl, hb0.trans (hb1.mono hb0.size)⟩
  · cases f
    · go_enter Tryz.func46, Tryz.ntmps46
      go_wp2_with (first
        | (go_at_call 55; refine (hkey _).mono ?_; rintro e w1 ⟨rfl, hb1⟩; obtain ⟨c0, c1⟩ := two_cells hb1; have hacc := hb0.trans (hb1.mono hb0.size))
        | (go_at_call 56; refine (hrt _).mono ?_; rintro e w2 ⟨rfl, hb2⟩; replace hacc := hacc.trans (hb2.mono hacc.size)))
      all_goals go_ret
      all_goals exact ⟨rfl, hacc⟩
    · have hz : v = ⟨#[]⟩ ∨ v.toList.isEmpty = false := by
        by_cases e : bs v = []
        · left; rw [← txt_bs v, e]; rfl
        · right; rw [is_nil, decide_eq_false e]
      rcases hz with rfl | z
      · go_enter Tryz.func46, Tryz.ntmps46
        go_wp2_with (first
          | (go_at_call 55; refine (hkey _).mono ?_; rintro e w1 ⟨rfl, hb1⟩; obtain ⟨c0, c1⟩ := two_cells hb1; have hacc := hb0.trans (hb1.mono hb0.size))
          | (go_at_call 56; refine (hrt _).mono ?_; rintro e w2 ⟨rfl, hb2⟩; replace hacc := hacc.trans (hb2.mono hacc.size); replace c0 := cell_later hb2 c0; replace c1 := cell_later hb2 c1; clear hb2))
        go_region
        all_goals go_wp2
        all_goals go_ret
        all_goals exact ⟨ret_bool (by rw [is_nil]; rfl), hacc.drew⟩
      · go_enter Tryz.func46, Tryz.ntmps46
        go_wp2_with (first
          | (go_at_call 55; refine (hkey _).mono ?_; rintro e w1 ⟨rfl, hb1⟩; obtain ⟨c0, c1⟩ := two_cells hb1; have hacc := hb0.trans (hb1.mono hb0.size))
          | (go_at_call 56; refine (hrt _).mono ?_; rintro e w2 ⟨rfl, hb2⟩; replace hacc := hacc.trans (hb2.mono hacc.size); replace c0 := cell_later hb2 c0; replace c1 := cell_later hb2 c1; clear hb2))
        go_region_held3 (fun w' => w'.cell? ⟨w.heap.size, 0, none⟩ = some (.string k) ∧ w'.cell? ⟨w.heap.size, 1, none⟩ = some (.string v)) (go_keep)
          (first
            | (go_at_call 57; refine (hkd _).mono ?_; rintro e w' ⟨hw, rfl⟩; obtain rfl := hw.symm)
            | (go_at_call 58; refine (hho _ hacc.drew).mono ?_; rintro e w3 ⟨rfl, hb3⟩; have f0 := cell_later (w := w2.drew) hb3 c0; have f1 := cell_later (w := w2.drew) hb3 c1; have hfin := hacc.drew.trans (hb3.mono hacc.drew.size)))
        all_goals go_wp2
        all_goals go_ret
        all_goals exact ⟨ret_bool (by rw [z]; simp), hfin⟩

end Go.Proofs.YtlehomcodkbpmaaGreatDoor
