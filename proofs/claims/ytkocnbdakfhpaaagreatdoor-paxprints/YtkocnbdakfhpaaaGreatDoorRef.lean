/-
  The document's own answers for numbers: what they are.
  Conditions: those that each theorem names.
-/
import Derived.Test.YtkocnbdakfhpaaaGreatDoorTim
namespace Go.Proofs.YtkocnbdakfhpaaaGreatDoor
open Go.ChangeShapes Go.WideShapes Go.ChangeAt Go.RowKit Go.Lib Go.Sort

theorem conv_one (b d : Nat) (hd : d < 10) (W : World) (hW : W.cell? ⟨b, 0, none⟩ = some (.int .u8 (48 + (d : Int)))) :
    (convert 31 9 (.slice (some ⟨b, 0, none⟩) 1 1)).run Tryz.prog W = .ok (.string (txt [UInt8.ofNat (48 + d)])) W := by
  have h := run_convert_bytes_back (P := Tryz.prog) W 31 9 5 ⟨b, 0, none⟩ 1 [UInt8.ofNat (48 + d)] (by kernel_rfl) (by kernel_rfl) (by kernel_rfl) (fun j hj => by
    obtain rfl : j = 0 := by simpa using hj
    rw [Lib.add_plain]
    simp only [List.getElem_cons_zero, dig_nat hd]
    exact hW.trans (by simp))
  exact h

set_option maxHeartbeats 4000000 in
set_option maxRecDepth 20000 in
theorem digits_lt (n : Nat) (h : n < 10) (w : World) :
    Calls Tryz.prog 41 #[.int .i64 n] w fun e w' => e = .returned (.string (txt (decDigits n))) ∧ Below w.heap.size w w' := by
  have hi : (n : Int) < 10 := by omega
  have hu : IntKind.u8.wrap (48 + (n : Int)) = 48 + n := by simp [IntKind.wrap, IntKind.bits, IntKind.signed]; omega
  have hc := conv_one w.heap.size n h
  rw [dec_lt h]
  generalize txt [UInt8.ofNat (48 + n)] = E at *
  clear h
  go_enter Tryz.func41, Tryz.ntmps41
  go_wp2
  go_ret
  exact ⟨rfl, below_alloc _ _⟩

theorem lit_cell {w w1 : World} {v : Int} {t : TypeId} (hb : Below (w.alloc (.cells #[.int .u8 v] t)).drew.heap.size (w.alloc (.cells #[.int .u8 v] t)).drew w1) : w1.cell? ⟨w.heap.size, 0, none⟩ = some (.int .u8 v) :=
  (hb.cell (p := ⟨w.heap.size, 0, none⟩) (by simp)).trans (by simp)

set_option maxHeartbeats 8000000 in
set_option maxRecDepth 20000 in
theorem digits_ge (n : Nat) (h : ¬ n < 10) (hn : n ≤ 9223372036854775807) (ih : ∀ w, Calls Tryz.prog 41 #[.int .i64 (n / 10 : Nat)] w fun e w' => e = .returned (.string (txt (decDigits (n / 10)))) ∧ Below w.heap.size w w') (w : World) :
    Calls Tryz.prog 41 #[.int .i64 n] w fun e w' => e = .returned (.string (txt (decDigits n))) ∧ Below w.heap.size w w' := by
  have hi : ¬ (n : Int) < 10 := by omega
  obtain ⟨q, hq⟩ : ∃ q, q = n / 10 := ⟨_, rfl⟩
  obtain ⟨r, hr⟩ : ∃ r, r = n % 10 := ⟨_, rfl⟩
  have hu : IntKind.u8.wrap (48 + (r : Int)) = 48 + r := by simp [IntKind.wrap, IntKind.bits, IntKind.signed]; omega
  have hc := fun b => conv_one b r (by omega)
  have hs := dec_size q (by omega)
  have hcat : ¬ 9223372036854775807 < (txt (decDigits q)).size + (txt [UInt8.ofNat (48 + r)]).size := by rw [txt_size, txt_size] at *; simp; omega
  have e1 : (n : Int).tdiv 10 = (q : Int) := by rw [hq]; rfl
  have e2 : (n : Int).tmod 10 = (r : Int) := by rw [hr]; rfl
  have e3 : (n : Int) / 10 = (q : Int) := by omega
  have e4 : (n : Int) % 10 = (r : Int) := by omega
  have w1 : IntKind.i64.wrap (q : Int) = q := by rw [IntKind.wrap_i64]; omega
  have w2 : IntKind.i64.wrap (r : Int) = r := by rw [IntKind.wrap_i64]; omega
  have w3 : IntKind.i64.wrap (48 + (r : Int)) = 48 + r := by rw [IntKind.wrap_i64]; omega
  rw [dec_ge h, ← txt_app]
  rw [← hq, ← hr]
  rw [← hq] at ih
  generalize txt (decDigits q) = D at *
  generalize txt [UInt8.ofNat (48 + r)] = E at *
  have E1 := hid e1
  have E2 := hid e2
  clear h hs hq hr e1
  go_enter Tryz.func41, Tryz.ntmps41
  go_wp2
  go_region_with (first | (go_at_call 41; refine (ih _).mono ?_; rintro e w1 ⟨rfl, hb1⟩; first | have q0 := lit_cell hb1 | skip))
  all_goals go_wp2
  all_goals go_ret
  · exact ⟨rfl, ((Below.refl _ w).drew.trans hb1).alloc hb1.size _⟩
  · exact ⟨rfl, (below_alloc w _).drew.trans (hb1.mono (by simp))⟩
  · exact ⟨rfl, (below_alloc w _).drew.trans (hb1.mono (by simp))⟩

/-- Digits, of a number from 0 on. -/
theorem digits_ok : ∀ (n : Nat), n ≤ 9223372036854775807 → ∀ w, Calls Tryz.prog 41 #[.int .i64 n] w fun e w' => e = .returned (.string (txt (decDigits n))) ∧ Below w.heap.size w w' := by
  intro n
  induction n using Nat.strongRecOn with
  | _ n ih =>
    intro hn w
    by_cases h : n < 10
    · exact digits_lt n h w
    · exact digits_ge n h hn (ih (n / 10) (by omega) (by omega)) w

end Go.Proofs.YtkocnbdakfhpaaaGreatDoor
