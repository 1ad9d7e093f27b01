/-
  THE CHAPTER's EXAMPLE, as the statements ask for it: it holds. No condition.
-/
import Derived.Test.YtgjbopbpekocpaaMm
import Derived.Test.YtgjbopbpekocpaaRg
namespace Go.Proofs.Ytgjbopbpekocpaa
open Go.ChangeShapes Go.WideShapes Go.ChangeAt Go.RowKit
set_option linter.unusedVariables false
set_option maxRecDepth 20000

theorem pl_zeros (n : Nat) : ∀ i, pl i (List.replicate n 0) = 32 * ((min 8 (156 - i) : Nat) : Int) - 32 * ((min 8 (156 - (i + n)) : Nat) : Int) := by
  induction n with
  | zero => intro i; simp [pl]
  | succ n ih =>
    intro i
    rw [List.replicate_succ, pl, ih, cnt]
    split <;> omega

theorem seal_zeros : sealL zeros = List.replicate 148 0 ++ [48, 48, 48, 52, 48, 48, 0, 32] ++ List.replicate 356 0 := by
  unfold sealL zeros
  rw [pl_zeros]
  show _ ++ lets 256 6 ++ _ = _
  rw [show lets 256 6 = [48, 48, 48, 52, 48, 48] by decide, List.take_replicate, List.drop_replicate]
  rfl

theorem chk_zeros : chk (sealL zeros) = 0 := chk_seal zeros zeros_length (by unfold zeros; rw [pl_zeros]; omega) (by unfold zeros; rw [pl_zeros]; omega)

theorem flag_zeros : (sealL zeros).getD 156 0 = 0 := by rw [seal_zeros]; decide +kernel
theorem raw_zeros : rawE (sealL zeros) = rawZ := by
  have f1 : fieldL (sealL zeros) 257 8 = [0, 0, 0, 0, 0, 0, 0, 0] := by rw [seal_zeros]; decide +kernel
  have f2 : upto (fieldL (sealL zeros) 0 100) = [] := by rw [seal_zeros]; decide +kernel
  have f3 : upto (fieldL (sealL zeros) 157 100) = [] := by rw [seal_zeros]; decide +kernel
  unfold rawE rawL gt
  rw [f1, flag_zeros, f2, f3]
  rfl

/-- the example's header -/
def exR : RawV := ⟨2, 48, fun k => if k = 2 then ⟨#[97]⟩ else ⟨#[]⟩, fun _ => 0⟩
theorem exR_ok : exR.ok := by
  refine ⟨by decide, by decide, fun k => ?_, fun k => ⟨by show (-9223372036854775808 : Int) ≤ 0; decide, by show (0 : Int) ≤ 9223372036854775807; decide⟩⟩
  show (if k = 2 then (⟨#[97]⟩ : ByteArray) else ⟨#[]⟩).size ≤ 3000
  split <;> decide
theorem exC : makeC exR false false = 0 := by decide +kernel
theorem exL : (makeL exR false false).length = 512 ∧ fieldL (makeL exR false false) 257 8 = [117, 115, 116, 97, 114, 32, 32, 0] := by decide +kernel

theorem eq25 (w : World) : (binOp .eql 25 (.agg #[.int .i64 0, .int .u8 0, .string ⟨#[]⟩, .string ⟨#[]⟩, .string ⟨#[]⟩, .string ⟨#[]⟩, .string ⟨#[]⟩, .int .i64 0, .int .i64 0, .int .i64 0, .int .i64 0, .int .i64 0, .int .i64 0, .int .i64 0]) (.agg #[.int .i64 0, .int .u8 0, .string ⟨#[]⟩, .string ⟨#[]⟩, .string ⟨#[]⟩, .string ⟨#[]⟩, .string ⟨#[]⟩, .int .i64 0, .int .i64 0, .int .i64 0, .int .i64 0, .int .i64 0, .int .i64 0, .int .i64 0])).run Try.prog w = .ok (.bool true) w := by kernel_rfl

theorem exArr : exR.arr = #[.int .i64 2, .int .u8 48, .string ⟨#[97]⟩, .string ⟨#[]⟩, .string ⟨#[]⟩, .string ⟨#[]⟩, .string ⟨#[]⟩, .int .i64 0, .int .i64 0, .int .i64 0, .int .i64 0, .int .i64 0, .int .i64 0, .int .i64 0] := rfl

theorem cells14 {w w2 : World} {t : TypeId} {v0 v1 v2 v3 v4 v5 v6 v7 v8 v9 v10 v11 v12 v13 : Value} (hb : Below (w.alloc (.cells #[v0, v1, v2, v3, v4, v5, v6, v7, v8, v9, v10, v11, v12, v13] t)).heap.size (w.alloc (.cells #[v0, v1, v2, v3, v4, v5, v6, v7, v8, v9, v10, v11, v12, v13] t)) w2) :
    w2.cell? ⟨w.heap.size, 0, none⟩ = some v0 ∧ w2.cell? ⟨w.heap.size, 1, none⟩ = some v1 ∧ w2.cell? ⟨w.heap.size, 2, none⟩ = some v2 ∧ w2.cell? ⟨w.heap.size, 3, none⟩ = some v3 ∧ w2.cell? ⟨w.heap.size, 4, none⟩ = some v4 ∧ w2.cell? ⟨w.heap.size, 5, none⟩ = some v5 ∧ w2.cell? ⟨w.heap.size, 6, none⟩ = some v6 ∧ w2.cell? ⟨w.heap.size, 7, none⟩ = some v7 ∧ w2.cell? ⟨w.heap.size, 8, none⟩ = some v8 ∧ w2.cell? ⟨w.heap.size, 9, none⟩ = some v9 ∧ w2.cell? ⟨w.heap.size, 10, none⟩ = some v10 ∧ w2.cell? ⟨w.heap.size, 11, none⟩ = some v11 ∧ w2.cell? ⟨w.heap.size, 12, none⟩ = some v12 ∧ w2.cell? ⟨w.heap.size, 13, none⟩ = some v13 := by
  have h := (Blk.new w #[v0, v1, v2, v3, v4, v5, v6, v7, v8, v9, v10, v11, v12, v13] t).below hb
  exact ⟨h.cell 0, h.cell 1, h.cell 2, h.cell 3, h.cell 4, h.cell 5, h.cell 6, h.cell 7, h.cell 8, h.cell 9, h.cell 10, h.cell 11, h.cell 12, h.cell 13⟩

set_option maxHeartbeats 4000000 in
theorem alive_any (w : World) : Calls Try.prog 7 #[] w fun e w' => e = .returned (.bool true) ∧ Below w.heap.size w w' := by
  obtain ⟨i0, hi, hz0, hz1, hz2⟩ := info_parts Try.info5
  have hmk := fun w => make_any w exR exR_ok false false
  rw [exArr, exC] at hmk
  have hll := hid exL.1
  have hlm := hid exL.2
  generalize makeL exR false false = M at *
  have hq := eq25
  go_enter Try.func7, Try.ntmps7
  go_wp2_with (first
    | (refine wpList_make_full _ rfl (.const (.int .i64 512)) (.const (.int .i64 512)) 22 rfl w.heap.size 5 i0 (.int .u8 0) 1 Try.underlying22 hi hz0 hz1 _ _ _ _ 512 rfl rfl rfl rfl (by rw [hz2]; omega) (by unfold maxLen; omega) (Nat.le_refl _) ?_; intro w1 hown hgrow; (try rw [Nat.mul_one] at hown); rw [madeBytes'] at hown; have hb1 := (Below.refl w.heap.size w).grown hgrow (Nat.le_refl _) (by simp); have hby := own_row512 (L := zeros) hown zeros_length zeros_ok; clear hown hgrow)
    | (go_at_call 21; refine (rseal_ok hby rfl).mono ?_; rintro e w2 ⟨g, c, rfl, hown, hb2⟩; have hb3 := hb1.trans (hb2.mono hb1.size); have hby2 := own_row512 hown (seal_length _ zeros_length) (seal_range _ zeros_ok); clear hown hby hb2 hb1)
    | (go_at_call 8; refine (get_good hby2 rfl chk_zeros (by rw [flag_zeros]; rfl)).mono ?_; rw [raw_zeros]; rintro e w3 ⟨rfl, hb4⟩; unfold rawZ; have hb5 := hb3.trans (hb4.mono hb3.size); clear hby2 hb4 hb3)
    | (go_at_call 18; refine (hmk _).mono ?_; rintro e w4 ⟨a, m, cc, rfl, hby4, hb6⟩; obtain ⟨y0, y1, y2, y3, y4, y5, y6, y7, y8, y9, y10, y11, y12, y13⟩ := cells14 hb6; have hmm : m = 512 := (by have := hby4.1; rw [hll.out] at this; exact this.symm); subst hmm; obtain ⟨bb, oo, rfl⟩ := hby4.some_of (by omega); have hcv := bys_string (P := Try.prog) Try.underlying22 Try.underlying5 Try.underlying9 (hby4.part 257 8 (by omega)); rw [hlm.out] at hcv; have hcv : (convert 22 9 (.slice (some ⟨bb, oo + 257, none⟩) 8 (cc - 257))).run Try.prog w4 = .ok (.string ⟨#[117, 115, 116, 97, 114, 32, 32, 0]⟩) w4 := hcv; have hc1 := hby4.2.1; have hc2 := hby4.2.2.1; have hn1 : ¬ cc = 257 := (by omega); have hbf := hb5.alloc hb5.size (.cells rawZ 25); unfold rawZ at hbf; have hbz := hbf.trans (hb6.mono hbf.size); clear hby4 hb6 hbf))
  all_goals go_ret
  all_goals exact ⟨ret_bool (by first | rfl | (rw [Lib.toList_data]; rfl) | decide +kernel | simp [Lib.toList_data]), hbz⟩
end Go.Proofs.Ytgjbopbpekocpaa
