/-
  THE DOCUMENT's RECORD OF A PAIR. Conditions: how many bytes its texts may have.
-/
import Derived.Test.YtkocnbdakfhpaaaGreatDoorRln
import Derived.Test.YtkocnbdakfhpaaaGreatDoorRec
import Derived.Deep.RegionWith
namespace Go.Proofs.YtkocnbdakfhpaaaGreatDoor
open Go.ChangeShapes Go.WideShapes Go.ChangeAt Go.RowKit Go.Lib
set_option linter.unusedVariables false
set_option maxRecDepth 20000

set_option maxHeartbeats 4000000 in
theorem rrecord_ok (k v : ByteArray) (hk : k.size ≤ 1000000) (hv : v.size ≤ 1000000) (w : World) :
    Calls Tryz.prog 43 #[.agg #[.string k, .string v]] w fun e w' => ∃ a m c, e = .returned (.slice a m c) ∧ Bys w' a m c (nums (recB k v)) ∧ Below w.heap.size w w' := by
  have hb0 := (Below.refl w.heap.size w).alloc (Nat.le_refl _) (.cells #[.string k, .string v] 23)
  have hlen := fun w' => rlen_ok k v hk hv w'
  obtain ⟨c0, c1⟩ := new_two w (.string k) (.string v) 23
  have hrs : restN k v ≤ 2000003 := by unfold restN; omega
  have hn := lenN_le (restN k v) (by omega)
  have hsR := rec_size k v hk hv
  have htx := fun w' => digits_ok (lenN (restN k v)) (by omega) w'
  have hcv := fun w' => conv_string (P := Tryz.prog) (src := 9) (dst := 31) Tryz.underlying9 Tryz.underlying31 Tryz.underlying5 w' (recB k v) (by omega)
  have hsz := dec_size (lenN (restN k v)) (by omega)
  unfold recB at hcv ⊢
  generalize txt (decDigits (lenN (restN k v))) = D at *
  generalize lenN (restN k v) = n at *
  have s1 := one_size 32
  have s2 := one_size 61
  have s3 := one_size 10
  have d1 : ¬ 9223372036854775807 < D.size + 1 := by omega
  have d2 : ¬ 9223372036854775807 < D.size + 1 + k.size := by omega
  have d3 : ¬ 9223372036854775807 < D.size + 1 + k.size + 1 := by omega
  have d4 : ¬ 9223372036854775807 < D.size + 1 + k.size + 1 + v.size := by omega
  have d5 : ¬ 9223372036854775807 < D.size + 1 + k.size + 1 + v.size + 1 := by omega
  have a1 : ¬ 9223372036854775807 < D.size + (⟨#[32]⟩ : ByteArray).size := by omega
  have a2 : ¬ 9223372036854775807 < (D ++ ⟨#[32]⟩).size + k.size := by rw [ByteArray.size_append]; omega
  have a3 : ¬ 9223372036854775807 < (D ++ ⟨#[32]⟩ ++ k).size + (⟨#[61]⟩ : ByteArray).size := by rw [ByteArray.size_append, ByteArray.size_append]; omega
  have a4 : ¬ 9223372036854775807 < (D ++ ⟨#[32]⟩ ++ k ++ ⟨#[61]⟩).size + v.size := by rw [ByteArray.size_append, ByteArray.size_append, ByteArray.size_append]; omega
  have a5 : ¬ 9223372036854775807 < (D ++ ⟨#[32]⟩ ++ k ++ ⟨#[61]⟩ ++ v).size + (⟨#[10]⟩ : ByteArray).size := by rw [ByteArray.size_append, ByteArray.size_append, ByteArray.size_append, ByteArray.size_append]; omega
  obtain ⟨S, hS⟩ : ∃ S, S = (D ++ ⟨#[32]⟩ ++ k ++ ⟨#[61]⟩ ++ v ++ ⟨#[10]⟩) := ⟨_, rfl⟩
  obtain ⟨kf, wf, hrun, hbyf, hbf⟩ : ∃ (kf : World → Nat) (wf : World → World), (∀ w', (convert 9 31 (.string (D ++ ⟨#[32]⟩ ++ k ++ ⟨#[61]⟩ ++ v ++ ⟨#[10]⟩))).run Tryz.prog w' = .ok (.slice (some ⟨w'.heap.size, 0, none⟩) S.size (kf w')) (wf w')) ∧ (∀ w', Bys (wf w') (some ⟨w'.heap.size, 0, none⟩) S.size (kf w') (nums S)) ∧ (∀ w', Below w'.heap.size w' (wf w')) := by
    subst hS
    exact ⟨fun w' => (hcv w').choose, fun w' => (hcv w').choose_spec.choose, fun w' => (hcv w').choose_spec.choose_spec.1, fun w' => (hcv w').choose_spec.choose_spec.2.2.1, fun w' => (hcv w').choose_spec.choose_spec.2.2.2⟩
  rw [← hS]
  replace hS := hid hS
  clear s1 s2 s3 hrs hn hsz hsR hcv
  go_enter Tryz.func43, Tryz.ntmps43
  go_wp2
  go_region_with (first
      | (go_at_call 14; refine (hlen _).mono ?_; rintro e w1 ⟨rfl, hb1⟩; have f0 := cell_later (w := (w.alloc (.cells #[.string k, .string v] 23)).drew) hb1 c0; have f1 := cell_later (w := (w.alloc (.cells #[.string k, .string v] 23)).drew) hb1 c1; have hacc := hb0.drew.trans (hb1.mono hb0.drew.size))
      | (go_at_call 41; refine (htx _).mono ?_; rintro e w2 ⟨rfl, hb2⟩; have g0 := cell_later hb2 f0; have g1 := cell_later hb2 f1; have hfin := hacc.trans (hb2.mono hacc.size); have hfin3 := hfin.trans ((hbf w2).mono hfin.size); have k0 := cell_later (hbf w2) g0; have k1 := cell_later (hbf w2) g1; have hby := hbyf w2))
  all_goals go_wp2
  all_goals go_ret
  all_goals exact ⟨_, _, _, rfl, hby, hfin3⟩

end Go.Proofs.YtkocnbdakfhpaaaGreatDoor
