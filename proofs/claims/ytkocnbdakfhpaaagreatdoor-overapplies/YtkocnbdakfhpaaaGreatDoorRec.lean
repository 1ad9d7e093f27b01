/-
  A PAIR's RECORD. Conditions: how many bytes its texts may have; what the listed variables hold.
-/
import Derived.Test.YtkocnbdakfhpaaaGreatDoorLng
import Derived.Deep.RegionHeld3
namespace Go.Proofs.YtkocnbdakfhpaaaGreatDoor
open Go.ChangeShapes Go.WideShapes Go.ChangeAt Go.RowKit Go.Lib
set_option linter.unusedVariables false
set_option maxRecDepth 20000

/-- a pair's record -/
def recB (k v : ByteArray) : ByteArray := txt (decDigits (lenN (restN k v))) ++ ⟨#[32]⟩ ++ k ++ ⟨#[61]⟩ ++ v ++ ⟨#[10]⟩

theorem one_size (c : UInt8) : (⟨#[c]⟩ : ByteArray).size = 1 := rfl

theorem new_two (w : World) (a b : Value) (t : TypeId) : (w.alloc (.cells #[a, b] t)).cell? ⟨w.heap.size, 0, none⟩ = some a ∧ (w.alloc (.cells #[a, b] t)).cell? ⟨w.heap.size, 1, none⟩ = some b := two_cells (Below.refl _ _)

set_option maxHeartbeats 2000000 in
theorem record_ok (k v : ByteArray) (hk : k.size ≤ 1000000) (hv : v.size ≤ 1000000) (w : World) (hL : Laid w) :
    Calls Tryz.prog 42 #[.agg #[.string k, .string v]] w fun e w' => e = .returned (.string (recB k v)) ∧ Below w.heap.size w w' := by
  have hb0 := (Below.refl w.heap.size w).alloc (Nat.le_refl _) (.cells #[.string k, .string v] 23)
  have hlen := fun w' (hb : Below w.heap.size w w') => len_ok k v (by omega) (by omega) w' (hL.below hb)
  obtain ⟨c0, c1⟩ := new_two w (.string k) (.string v) 23
  have hrs : restN k v ≤ 2000003 := by unfold restN; omega
  have hn := lenN_le (restN k v) (by omega)
  have hn2 : lenN (restN k v) ≤ 9223372036854775807 := by omega
  have htx := fun w' (hb : Below w.heap.size w w') => text_ok (lenN (restN k v) : Nat) (by omega) (by omega) w' (hL.below hb)
  have hT : txt (signOf ((lenN (restN k v) : Nat) : Int) ++ decDigits ((lenN (restN k v) : Nat) : Int).natAbs) = txt (decDigits (lenN (restN k v))) := by
    have : signOf ((lenN (restN k v) : Nat) : Int) = [] := by unfold signOf; rw [if_neg (by omega)]
    rw [this]; simp
  rw [hT] at htx
  have hsz := dec_size (lenN (restN k v)) (by omega)
  unfold recB
  generalize txt (decDigits (lenN (restN k v))) = D at *
  generalize lenN (restN k v) = n at *
  have s1 := one_size 32
  have s2 := one_size 61
  have s3 := one_size 10
  have a1 : ¬ 9223372036854775807 < D.size + (⟨#[32]⟩ : ByteArray).size := by omega
  have a2 : ¬ 9223372036854775807 < (D ++ ⟨#[32]⟩).size + k.size := by rw [ByteArray.size_append]; omega
  have a3 : ¬ 9223372036854775807 < (D ++ ⟨#[32]⟩ ++ k).size + (⟨#[61]⟩ : ByteArray).size := by rw [ByteArray.size_append, ByteArray.size_append]; omega
  have a4 : ¬ 9223372036854775807 < (D ++ ⟨#[32]⟩ ++ k ++ ⟨#[61]⟩).size + v.size := by rw [ByteArray.size_append, ByteArray.size_append, ByteArray.size_append]; omega
  have a5 : ¬ 9223372036854775807 < (D ++ ⟨#[32]⟩ ++ k ++ ⟨#[61]⟩ ++ v).size + (⟨#[10]⟩ : ByteArray).size := by rw [ByteArray.size_append, ByteArray.size_append, ByteArray.size_append, ByteArray.size_append]; omega
  have d1 : ¬ 9223372036854775807 < D.size + 1 := by omega
  have d2 : ¬ 9223372036854775807 < D.size + 1 + k.size := by omega
  have d3 : ¬ 9223372036854775807 < D.size + 1 + k.size + 1 := by omega
  have d4 : ¬ 9223372036854775807 < D.size + 1 + k.size + 1 + v.size := by omega
  have d5 : ¬ 9223372036854775807 < D.size + 1 + k.size + 1 + v.size + 1 := by omega
  clear s1 s2 s3 hrs hT hL hn hsz hn2
  go_enter Tryz.func42, Tryz.ntmps42
  go_wp2
  go_region_held3 (fun w' => w'.cell? ⟨w.heap.size, 0, none⟩ = some (.string k) ∧ w'.cell? ⟨w.heap.size, 1, none⟩ = some (.string v)) (go_keep)
    (first
      | (go_at_call 13; refine (hlen _ hb0.drew).mono ?_; rintro e w1 ⟨rfl, hb1⟩; have f0 := cell_later (w := (w.alloc (.cells #[.string k, .string v] 23)).drew) hb1 c0; have f1 := cell_later (w := (w.alloc (.cells #[.string k, .string v] 23)).drew) hb1 c1; have hacc := hb0.drew.trans (hb1.mono hb0.drew.size))
      | (go_at_call 57; refine (htx _ hacc).mono ?_; rintro e w2 ⟨rfl, hb2⟩; have g0 := cell_later hb2 f0; have g1 := cell_later hb2 f1; have hfin := hacc.trans (hb2.mono hacc.size)))
  all_goals go_wp2
  all_goals go_ret
  all_goals exact ⟨rfl, hfin⟩

end Go.Proofs.YtkocnbdakfhpaaaGreatDoor
