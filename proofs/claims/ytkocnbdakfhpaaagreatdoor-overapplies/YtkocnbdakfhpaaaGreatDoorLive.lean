/-
  THE CHAPTER's EXAMPLE, as the statements ask for it: it holds. Conditions: what the listed variables hold.
-/
import Derived.Test.YtkocnbdakfhpaaaGreatDoorPrs
namespace Go.Proofs.YtkocnbdakfhpaaaGreatDoor
open Go.ChangeShapes Go.WideShapes Go.ChangeAt Go.RowKit Go.Lib
set_option linter.unusedVariables false
set_option maxRecDepth 20000

def exK : ByteArray := ⟨#[112, 97, 116, 104]⟩
def exV : ByteArray := ⟨#[97]⟩

theorem ex_right : rightP (bs exK) (bs exV) = true := by decide +kernel
theorem ex_len : lenN (restN exK exV) = 9 := by
  have e : restN exK exV = 8 := rfl
  rw [e]
  obtain ⟨h1, h2⟩ := lenN_spec 8 (by omega)
  have h3 := h2 9 (by rw [nDigits_small (by omega)])
  have h4 := nDigits_pos (lenN 8)
  omega
theorem ex_rec : recB exK exV = ⟨#[57, 32, 112, 97, 116, 104, 61, 97, 10]⟩ := by
  unfold recB
  rw [ex_len]
  have : decDigits 9 = [57] := by rw [decDigits, dif_pos (by omega)]; rfl
  rw [this]
  rfl
theorem ex_prn : prn [(exK, exV)] [] = some [57, 32, 112, 97, 116, 104, 61, 97, 10] := by
  rw [prn, ex_right, if_pos rfl, ex_rec, prn]
  rfl
theorem ex_frst : frst [49, 48, 32, 112, 97, 116, 104, 61, 97, 10] = some ([112, 97, 116, 104], [97], 10) := by decide +kernel
theorem ex_prs : prs [49, 48, 32, 112, 97, 116, 104, 61, 97, 10] = some [(exK, exV)] := by
  unfold prs
  rw [prs_step (by simp), ex_frst]
  simp only
  exact prs_end _

theorem ex_eq (w : World) : (binOp .eql 23 (.agg #[.string ⟨#[112, 97, 116, 104]⟩, .string ⟨#[97]⟩]) (.agg #[.string ⟨#[112, 97, 116, 104]⟩, .string ⟨#[97]⟩])).run Tryz.prog w = .ok (.bool true) w := by kernel_rfl

theorem ten_bys (W : World) : Bys (W.alloc (.cells #[.int .u8 49, .int .u8 48, .int .u8 32, .int .u8 112, .int .u8 97, .int .u8 116, .int .u8 104, .int .u8 61, .int .u8 97, .int .u8 10] 5 (10, 11))) (some ⟨W.heap.size, 0, none⟩) 10 10 [49, 48, 32, 112, 97, 116, 104, 61, 97, 10] := by
  refine Bys.mk' rfl (Nat.le_refl _) (by omega) ⟨by decide, fun i hi => ?_⟩
  rw [Nat.zero_add, Joins.cell_alloc_mark_at W _ 5 (10, 11) W.heap.size i rfl]
  match i, hi with
  | 0, _ => rfl
  | 1, _ => rfl
  | 2, _ => rfl
  | 3, _ => rfl
  | 4, _ => rfl
  | 5, _ => rfl
  | 6, _ => rfl
  | 7, _ => rfl
  | 8, _ => rfl
  | 9, _ => rfl

theorem one_pys (w : World) (k v : ByteArray) : Pys (w.alloc (.cells #[.string k, .string v] 23)) (some ⟨w.heap.size, 0, none⟩) 1 1 [(k, v)] := by
  obtain ⟨h1, h2⟩ := new_two w (.string k) (.string v) 23
  refine ⟨rfl, Nat.le_refl _, by omega, .inr ⟨by omega, w.heap.size, 0, rfl, fun i hi => ?_⟩⟩
  obtain rfl : i = 0 := by simpa using hi
  exact ⟨h1, h2⟩

set_option maxHeartbeats 2000000 in
theorem alive_ok (w : World) (hL : Laid w) : Calls Tryz.prog 7 #[] w fun e w' => e = .returned (.bool true) ∧ Below w.heap.size w w' := by
  have hb0 := (Below.refl w.heap.size w).alloc (Nat.le_refl _) (.cells #[.string ⟨#[112, 97, 116, 104]⟩, .string ⟨#[97]⟩] 23)
  have hpr := print_ok (one_pys w ⟨#[112, 97, 116, 104]⟩ ⟨#[97]⟩) ⟨by simp, by intro p hp; simp at hp; subst hp; exact ⟨by decide, by decide⟩⟩ (hL.below hb0)
  have e1 := ex_prn
  unfold exK exV at e1
  rw [e1] at hpr
  simp only [prnC, prnL] at hpr
  have hpa := fun (W : World) (hb : Below w.heap.size w W) => parse_w (ten_bys W) (by omega) (hL.below (hb.alloc hb.size (.cells #[.int .u8 49, .int .u8 48, .int .u8 32, .int .u8 112, .int .u8 97, .int .u8 116, .int .u8 104, .int .u8 61, .int .u8 97, .int .u8 10] 5 (10, 11))))
  have e2 := ex_prs
  unfold exK exV at e2
  rw [e2] at hpa
  simp only [prsC, prsP] at hpa
  have hcv := fun (W : World) => Joins.run_convert_bytes_const_at (P := Tryz.prog) W 31 5 #[.int .u8 49, .int .u8 48, .int .u8 32, .int .u8 112, .int .u8 97, .int .u8 116, .int .u8 104, .int .u8 61, .int .u8 97, .int .u8 10] 10 10 W.heap.size rfl Tryz.underlying31 Tryz.underlying5
  have heq := ex_eq
  clear e1 e2 hL
  go_enter Tryz.func7, Tryz.ntmps7
  go_wp2_with (first
    | (go_at_call 15; refine hpr.mono ?_; rintro e w1 ⟨a, m, c, rfl, hby, hb1⟩; have hacc := hb0.trans (hb1.mono hb0.size))
    | (go_at_call 30; refine (hpa _ hacc).mono ?_; rintro e w2 ⟨a2, m2, c2, rfl, hpy, hb2⟩; have hac2 := hacc.alloc hacc.size (.cells #[.int .u8 49, .int .u8 48, .int .u8 32, .int .u8 112, .int .u8 97, .int .u8 116, .int .u8 104, .int .u8 61, .int .u8 97, .int .u8 10] 5 (10, 11)); have hby2 := (hby.alloc (.cells #[.int .u8 49, .int .u8 48, .int .u8 32, .int .u8 112, .int .u8 97, .int .u8 116, .int .u8 104, .int .u8 61, .int .u8 97, .int .u8 10] 5 (10, 11))).below hb2; have hst := bys_string (P := Tryz.prog) Tryz.underlying31 Tryz.underlying5 Tryz.underlying9 hby2; replace hac2 := hac2.trans (hb2.mono hac2.size); (have hst2 : (convert 31 9 (.slice a m c)).run Tryz.prog w2 = .ok (.string ⟨#[57, 32, 112, 97, 116, 104, 61, 97, 10]⟩) w2 := hst); obtain ⟨hm2, -, -, ⟨hx, -⟩ | ⟨-, b, off, rfl, hc⟩⟩ := hpy; (cases hx); obtain ⟨c0, c1⟩ := hc 0 (by decide); (obtain rfl : m2 = 1 := hm2.symm); (have c0' : w2.cell? ⟨b, off, none⟩ = some (.string ⟨#[112, 97, 116, 104]⟩) := c0); (have c1' : w2.cell? ⟨b, off + 1, none⟩ = some (.string ⟨#[97]⟩) := c1); clear hst hby2 c0 c1 hc))
  all_goals go_ret
  all_goals exact ⟨rfl, hac2⟩

end Go.Proofs.YtkocnbdakfhpaaaGreatDoor
