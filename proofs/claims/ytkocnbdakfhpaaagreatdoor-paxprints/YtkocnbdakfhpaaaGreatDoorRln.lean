/-
  THE DOCUMENT's LENGTH OF A RECORD. Conditions: how many bytes a pair's texts may have.
-/
import Derived.Test.YtkocnbdakfhpaaaGreatDoorRrg
import Derived.Test.YtkocnbdakfhpaaaGreatDoorLng
import Derived.Test.YtkocnbdakfhpaaaGreatDoorRef
namespace Go.Proofs.YtkocnbdakfhpaaaGreatDoor
open Go.ChangeShapes Go.WideShapes Go.ChangeAt Go.RowKit Go.Lib
set_option linter.unusedVariables false
set_option maxRecDepth 20000

set_option maxHeartbeats 4000000 in
theorem rlen_ok (k v : ByteArray) (hk : k.size ≤ 1000000) (hv : v.size ≤ 1000000) (w : World) :
    Calls Tryz.prog 14 #[.agg #[.string k, .string v]] w fun e w' => e = .returned (.int .i64 (lenN (restN k v))) ∧ Below w.heap.size w w' := by
  have hb0 := (Below.refl w.heap.size w).alloc (Nat.le_refl _) (.cells #[.string k, .string v] 23)
  have hcc := two_cells (Below.refl (w.alloc (.cells #[.string k, .string v] 23)).heap.size (w.alloc (.cells #[.string k, .string v] 23)))
  obtain ⟨c0, c1⟩ := hcc
  obtain ⟨R, hR⟩ : ∃ R, R = restN k v := ⟨_, rfl⟩
  have hR1 : (R : Int) = (k.size : Int) + (v.size : Int) + 3 := by rw [hR]; unfold restN; omega
  have hR2 : R ≤ 2000003 := by rw [hR]; unfold restN; omega
  rw [← hR]
  obtain ⟨hs1, hs2⟩ := lenN_spec R (by omega)
  obtain ⟨D, hD⟩ : ∃ D, D = nDigits (lenN R) := ⟨_, rfl⟩
  rw [← hD] at hs1
  have hD1 : 1 ≤ D := by rw [hD]; exact nDigits_pos _
  have hDle : D ≤ 20 := by rw [hD]; exact nDigits_le20 _ (by have := lenN_le R (by omega); omega)
  have hst : ∀ d, d ≤ D → nDigits (R + d) = d → d = D := fun d h1 h2 => by
    have := hs2 (R + d) (by rw [h2]); omega
  have hnx : nDigits (R + D) = D := by rw [← hs1, ← hD]
  rw [hs1]
  have hdg := fun (n : Nat) hn w' => digits_ok n hn w'
  clear hR hs1 hs2 hD
  replace hst := hid hst
  replace hnx := hid hnx
  go_enter Tryz.func14, Tryz.ntmps14
  go_wp2
  go_loopw [3] (fun x wr => ∃ d : Nat, x = .int .i64 d ∧ 1 ≤ d ∧ d ≤ D ∧ wr.cell? ⟨w.heap.size, 0, none⟩ = some (.string k) ∧ wr.cell? ⟨w.heap.size, 1, none⟩ = some (.string v) ∧ Below w.heap.size w wr) (fun x _ => D + 1 - (RowKit.intOf x).toNat)
  case atStart => exact ⟨1, rfl, by omega, hD1, c0, c1, hb0⟩
  case round =>
    obtain ⟨d, rfl, h1, h2, e0, e1, hb⟩ := hrel
    clear c0 c1 hb0
    obtain ⟨N, hN⟩ : ∃ N, N = R + d := ⟨_, rfl⟩
    have hE : (d : Int) + (k.size : Int) + (v.size : Int) + 3 = (N : Int) := by omega
    have hd := hdg N (by omega) wr
    have hsz2 : (txt (decDigits N)).size = nDigits N := by rw [txt_size, decDigits_length]
    obtain ⟨s, hs⟩ : ∃ s, s = txt (decDigits N) := ⟨_, rfl⟩
    rw [← hs] at hd hsz2
    clear hdg
    by_cases he : nDigits N = d
    · have hdD := hst.out d h2 (by rw [← hN]; exact he)
      have hI : ((s.size : Int) == (d : Int)) = true := by simp; omega
      have hr : Hid ((N : Int) = ((R + D : Nat) : Int)) := hid (by omega)
      clear hst hnx hs he hsz2 hN hdD
      go_wp2_with (go_at_call 41; refine hd.mono ?_; rintro e w1 ⟨rfl, hb1⟩)
      all_goals go_ret
      all_goals exact ⟨ret_int hr.out, hb.trans (hb1.mono hb.size)⟩
    · have hdD : d ≠ D := fun e => he (by rw [hN, e]; exact hnx.out)
      have hI : ((s.size : Int) == (d : Int)) = false := by simp; omega
      clear hst hnx hs he hsz2 hN
      go_wp2_with (go_at_call 41; refine hd.mono ?_; rintro e w1 ⟨rfl, hb1⟩; have f0 := cell_later hb1 e0; have f1 := cell_later hb1 e1; have hacc := hb.trans (hb1.mono hb.size))
      go_roundw
      case rel => exact ⟨d + 1, by go_num, by omega, by omega, f0, f1, hacc⟩
      case measure => simp [RowKit.intOf]; omega

end Go.Proofs.YtkocnbdakfhpaaaGreatDoor
