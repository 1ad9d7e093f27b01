/-
  HeadBack: what is made is got: its mark, its flag, the texts that its mark has, and its numbers. No condition.
-/
import Derived.Test.YtgjbopbpekocpaaRows
import Derived.Test.YtgjbopbpekocpaaLive
import Derived.Test.YtgjbopbpekocpaaPb
import Derived.Test.YtgjbopbpekocpaaOpn
import Derived.WalkKit
import Derived.ProofKit
import Derived.OpenShut
import Derived.ShutString
import Derived.ChangeOld
import Derived.Below
import Derived.SizedLaws
namespace Go.Proofs.Ytgjbopbpekocpaa.headBack
open Go.ChangeShapes Go.WideShapes Go.ChangeAt Go.RowKit
open Go.ChangeMaps (open_string shut_string)
set_option linter.unusedVariables false

theorem own : ownKnob Try.prog.godebug = none := by kernel_rfl
theorem laidOut : laidOutB Try.prog = true := by kernel_rfl

theorem mk_range {R : RawV} (wide dev : Bool) (rows : List RowD) : ∀ L, 0 ≤ (mkR R wide dev rows L).1 ∧ (mkR R wide dev rows L).1 ≤ 255 := by
  induction rows with
  | nil => intro L; rw [mkR_nil]; show 0 ≤ (0 : Int) ∧ (0 : Int) ≤ 255; decide
  | cons r t ih =>
    intro L
    cases hi : isInB r.inn R.m dev
    · rw [mkR_out R wide dev r t _ hi]; exact ih L
    · by_cases hc : fldC R wide r = 0
      · rw [mkR_lay R wide dev r t _ hi hc]; exact ih _
      · rw [mkR_bad R wide dev r t _ hi hc]
        show 0 ≤ fldC R wide r ∧ fldC R wide r ≤ 255
        unfold fldC
        split
        · unfold tputC; repeat' split
          all_goals decide
        · unfold numC
          split
          · unfold putC; repeat' split
            all_goals decide
          · decide
theorem make_range {R : RawV} (wide dev : Bool) : 0 ≤ makeC R wide dev ∧ makeC R wide dev ≤ 255 := by
  unfold makeC
  split
  · decide
  · split
    · decide
    · exact mk_range wide dev _ _

/-- texts no longer than are gone through -/
theorem raw_ok {R : RawV} (hx : 0 ≤ R.x ∧ R.x ≤ 255) (hN : ∀ k, -9223372036854775808 ≤ R.N k ∧ R.N k ≤ 9223372036854775807) (hT : ∀ k, (R.T k).size ≤ 140737488351232 ∧ (k < 2 ∨ 6 < k → (R.T k).size = 0)) (hs : ¬ 3000 < (R.T 2).size + (R.T 3).size + (R.T 4).size + (R.T 5).size + (R.T 6).size) : R.ok := by
  refine ⟨hx.1, hx.2, fun k => ?_, hN⟩
  by_cases h : k < 2 ∨ 6 < k
  · rw [(hT k).2 h]; decide
  · have : k = 2 ∨ k = 3 ∨ k = 4 ∨ k = 5 ∨ k = 6 := by omega
    rcases this with rfl | rfl | rfl | rfl | rfl <;> omega


theorem three {w : World} (A B C : Array Value) (ta tb tc : TypeId) : Blk (((w.alloc (.cells A ta)).alloc (.cells B tb)).alloc (.cells C tc)) (w.heap.size + 1) B tb ∧ Blk (((w.alloc (.cells A ta)).alloc (.cells B tb)).alloc (.cells C tc)) (w.heap.size + 2) C tc ∧ Below w.heap.size w (((w.alloc (.cells A ta)).alloc (.cells B tb)).alloc (.cells C tc)) := by
  have e1 : (w.alloc (.cells A ta)).heap.size = w.heap.size + 1 := by simp
  have e2 : ((w.alloc (.cells A ta)).alloc (.cells B tb)).heap.size = w.heap.size + 2 := by simp
  refine ⟨?_, ?_, ?_⟩
  · have h := Blk.new (w.alloc (.cells A ta)) B tb
    rw [e1] at h
    exact h.below ((Below.refl _ _).alloc (Nat.le_refl _) _)
  · have h := Blk.new ((w.alloc (.cells A ta)).alloc (.cells B tb)) C tc
    rw [e2] at h
    exact h
  · have h1 := (Below.refl w.heap.size w).alloc (Nat.le_refl _) (.cells A ta)
    have h2 := h1.alloc h1.size (.cells B tb)
    exact h2.alloc h2.size _

def fldA : Array Value := #[.int .i64 4, .int .i64 5, .int .i64 6, .int .i64 7, .int .i64 8, .int .i64 11, .int .i64 12]
def numA (R : RawV) : Array Value := #[.int .i64 (R.N 7), .int .i64 (R.N 8), .int .i64 (R.N 9), .int .i64 (R.N 10), .int .i64 (R.N 11), .int .i64 (R.N 12), .int .i64 (R.N 13)]

set_option maxHeartbeats 8000000 in
set_option maxRecDepth 20000 in
theorem walk (R : RawV) (wide : Bool) (w : World) (hx : 0 ≤ R.x ∧ R.x ≤ 255) (hN : ∀ k, -9223372036854775808 ≤ R.N k ∧ R.N k ≤ 9223372036854775807) (hT : ∀ k, (R.T k).size ≤ 140737488351232 ∧ (k < 2 ∨ 6 < k → (R.T k).size = 0)) :
    Calls Try.prog 6 #[.agg R.arr, .bool wide] w fun e w' => e = .returned (.bool true) ∧ Below w.heap.size w w' := by
  have hb0 := (Below.refl w.heap.size w).alloc (Nat.le_refl _) (.cells R.arr 25)
  have hA : R.arr = #[.int .i64 R.m, .int .u8 R.x, .string (R.T 2), .string (R.T 3), .string (R.T 4), .string (R.T 5), .string (R.T 6), .int .i64 (R.N 7), .int .i64 (R.N 8), .int .i64 (R.N 9), .int .i64 (R.N 10), .int .i64 (R.N 11), .int .i64 (R.N 12), .int .i64 (R.N 13)] := rfl
  have z2 := (hT 2).1
  have z3 := (hT 3).1
  have z4 := (hT 4).1
  have z5 := (hT 5).1
  have z6 := (hT 6).1
  by_cases hs : 3000 < (R.T 2).size + (R.T 3).size + (R.T 4).size + (R.T 5).size + (R.T 6).size
  · rw [hA] at hb0 ⊢
    clear hA hT hN hx
    have hs' : (3000 : Int) < ((R.T 2).size : Int) + ((R.T 3).size : Int) + ((R.T 4).size : Int) + ((R.T 5).size : Int) + ((R.T 6).size : Int) := by omega
    clear hs
    go_enter Try.func6, Try.ntmps6
    go_wp2_with (go_at_call 7; refine (alive_any _).mono ?_; rintro e w1 ⟨rfl, hb1⟩; obtain ⟨y0, y1, y2, y3, y4, y5, y6, y7, y8, y9, y10, y11, y12, y13⟩ := cells14 hb1; have hacc := hb0.trans (hb1.mono hb0.size))
    all_goals go_ret
    all_goals exact ⟨rfl, hacc⟩
  · have hok := raw_ok hx hN hT hs
    have hmk := fun w => make_any w R hok wide true
    have hs' : ¬ (3000 : Int) < ((R.T 2).size : Int) + ((R.T 3).size : Int) + ((R.T 4).size : Int) + ((R.T 5).size : Int) + ((R.T 6).size : Int) := by omega
    clear hs
    rw [hA] at hb0 hmk ⊢
    by_cases hC : makeC R wide true = 0
    · have hM := hid (made hok wide hC)
      rw [hC] at hmk
      clear hC hT hx hN hok hA
      generalize makeL R wide true = l at *
      have hget := hM.out.get
      have hchk := hM.out.chk
      have hflg : flagB (l.getD 156 0) = true := by rw [hM.out.flag]; exact hM.out.isf
      obtain ⟨n4, n5, n6, n7, n8, n11, n12⟩ := hM.out.nums
      have hm3 : R.m = 0 ∨ R.m = 1 ∨ R.m = 2 := by have := hM.out.isMk; omega
      have hlen := hid hM.out.len
      clear hM
      rcases hm3 with em | em | em
      · have q0 : (R.m != 0) = false := by rw [em]; rfl
        have q1 : (R.m == 1) = false := by rw [em]; rfl
        replace hget : Hid (rawE l = #[.int .i64 R.m, .int .u8 R.x, .string (R.T 2), .string (R.T 3), .string ⟨#[]⟩, .string ⟨#[]⟩, .string ⟨#[]⟩, .int .i64 0, .int .i64 0, .int .i64 0, .int .i64 0, .int .i64 0, .int .i64 0, .int .i64 0]) := hid (by rw [hget, em]; rfl)
        replace n4 := hid n4
        replace n5 := hid n5
        replace n6 := hid n6
        replace n7 := hid n7
        replace n8 := hid n8
        replace n11 : Hid (numR l 11 rowsD = (0, 0)) := hid (by rw [n11, if_pos em])
        replace n12 : Hid (numR l 12 rowsD = (0, 0)) := hid (by rw [n12, if_pos em])
        clear em
        have hcat : (⟨#[]⟩ : ByteArray) ++ (⟨#[]⟩ : ByteArray) = ⟨#[]⟩ := rfl
        have hcz : (⟨#[]⟩ : ByteArray).size = 0 := rfl
        go_enter Try.func6, Try.ntmps6
        go_wp2_with (first
          | (go_at_call 7; refine (alive_any _).mono ?_; rintro e w1 ⟨rfl, hb1⟩; obtain ⟨y0, y1, y2, y3, y4, y5, y6, y7, y8, y9, y10, y11, y12, y13⟩ := cells14 hb1; have hacc := hb0.trans (hb1.mono hb0.size))
          | (go_at_call 18; refine (hmk _).mono ?_; rintro e w2 ⟨a, m, c, rfl, hby, hb2⟩; replace y0 := cell_later hb2 y0; replace y1 := cell_later hb2 y1; replace y2 := cell_later hb2 y2; replace y3 := cell_later hb2 y3; replace y4 := cell_later hb2 y4; replace y5 := cell_later hb2 y5; replace y6 := cell_later hb2 y6; replace y7 := cell_later hb2 y7; replace y8 := cell_later hb2 y8; replace y9 := cell_later hb2 y9; replace y10 := cell_later hb2 y10; replace y11 := cell_later hb2 y11; replace y12 := cell_later hb2 y12; replace y13 := cell_later hb2 y13; replace hacc := hacc.trans (hb2.mono hacc.size); clear hb2; (have hm5 : m = 512 := (by have := hby.1; rw [hlen.out] at this; exact this.symm)); subst hm5; obtain ⟨bb, oo, rfl⟩ := hby.some_of (by omega))
          | (go_at_call 8; refine (get_good hby rfl hchk hflg).mono ?_; rw [hget.out]; rintro e w3 ⟨rfl, hb3⟩; replace y0 := cell_later hb3 y0; replace y1 := cell_later hb3 y1; replace y2 := cell_later hb3 y2; replace y3 := cell_later hb3 y3; replace y4 := cell_later hb3 y4; replace y5 := cell_later hb3 y5; replace y6 := cell_later hb3 y6; replace y7 := cell_later hb3 y7; replace y8 := cell_later hb3 y8; replace y9 := cell_later hb3 y9; replace y10 := cell_later hb3 y10; replace y11 := cell_later hb3 y11; replace y12 := cell_later hb3 y12; replace y13 := cell_later hb3 y13; replace hby := hby.below hb3; replace hacc := hacc.trans (hb3.mono hacc.size); clear hb3; have hfr := (Below.refl w3.heap.size w3).alloc (Nat.le_refl _) (.cells #[.int .i64 R.m, .int .u8 R.x, .string (R.T 2), .string (R.T 3), .string ⟨#[]⟩, .string ⟨#[]⟩, .string ⟨#[]⟩, .int .i64 0, .int .i64 0, .int .i64 0, .int .i64 0, .int .i64 0, .int .i64 0, .int .i64 0] 25); replace y0 := cell_later hfr y0; replace y1 := cell_later hfr y1; replace y2 := cell_later hfr y2; replace y3 := cell_later hfr y3; replace y4 := cell_later hfr y4; replace y5 := cell_later hfr y5; replace y6 := cell_later hfr y6; replace y7 := cell_later hfr y7; replace y8 := cell_later hfr y8; replace y9 := cell_later hfr y9; replace y10 := cell_later hfr y10; replace y11 := cell_later hfr y11; replace y12 := cell_later hfr y12; replace y13 := cell_later hfr y13; clear hfr))
        obtain ⟨hL, hF, hb5⟩ := three (w := w3) #[.int .i64 R.m, .int .u8 R.x, .string (R.T 2), .string (R.T 3), .string ⟨#[]⟩, .string ⟨#[]⟩, .string ⟨#[]⟩, .int .i64 0, .int .i64 0, .int .i64 0, .int .i64 0, .int .i64 0, .int .i64 0, .int .i64 0] (numA R) fldA 25 2 3
        have hbw := hacc.trans (hb5.mono hacc.size)
        have hbyw := hby.below hb5
        clear hb5 hby hacc y0 y1 y2 y3 y4 y5 y6 y7 y8 y9 y10 y11 y12 y13 hmk hget hchk hflg hcat hb0
        generalize hg : w3.heap.size = g at *
        clear hg
        unfold numA fldA at hL hF hbw hbyw
        go_loopw [12] (fun i wr => ∃ (k : Nat), k ≤ 7 ∧ i = .int .i64 k ∧ Below w.heap.size w wr ∧ Blk wr (g + 1) (numA R) 2 ∧ Blk wr (g + 2) fldA 3 ∧ Bys wr (some ⟨bb, oo, none⟩) 512 c l) (fun i _ => 7 - (intOf i).toNat)
        case atStart => exact ⟨0, by omega, rfl, hbw, hL, hF, hbyw⟩
        case round =>
          clear hL hF hbw hbyw
          obtain ⟨k, hk, rfl, hbr, hL, hF, hbyr⟩ := hrel
          by_cases hlt : k < 7
          · have hk7 : k = 0 ∨ k = 1 ∨ k = 2 ∨ k = 3 ∨ k = 4 ∨ k = 5 ∨ k = 6 := by omega
            clear hlt hk
            rcases hk7 with rfl | rfl | rfl | rfl | rfl | rfl | rfl
            · have cF := hF.cell 0
              change _ = some (Value.int .i64 4) at cF
              have cL := hL.cell 0
              change _ = some (Value.int .i64 (R.N 7)) at cL
              have hnu := number_ok hbyr rfl 4
              rw [n4.out] at hnu
              go_wp2_with (go_at_call 15; refine hnu.mono ?_; rintro e w6 ⟨rfl, hb6⟩; replace cL := cell_later hb6 cL; replace cF := cell_later hb6 cF)
              go_roundw
              case rel => exact ⟨0 + 1, by omega, by go_num, hbr.trans (hb6.mono hbr.size), hL.below hb6, hF.below hb6, hbyr.below hb6⟩
              case measure => simp [intOf]
            · have cF := hF.cell 1
              change _ = some (Value.int .i64 5) at cF
              have cL := hL.cell 1
              change _ = some (Value.int .i64 (R.N 8)) at cL
              have hnu := number_ok hbyr rfl 5
              rw [n5.out] at hnu
              go_wp2_with (go_at_call 15; refine hnu.mono ?_; rintro e w6 ⟨rfl, hb6⟩; replace cL := cell_later hb6 cL; replace cF := cell_later hb6 cF)
              go_roundw
              case rel => exact ⟨1 + 1, by omega, by go_num, hbr.trans (hb6.mono hbr.size), hL.below hb6, hF.below hb6, hbyr.below hb6⟩
              case measure => simp [intOf]
            · have cF := hF.cell 2
              change _ = some (Value.int .i64 6) at cF
              have cL := hL.cell 2
              change _ = some (Value.int .i64 (R.N 9)) at cL
              have hnu := number_ok hbyr rfl 6
              rw [n6.out] at hnu
              go_wp2_with (go_at_call 15; refine hnu.mono ?_; rintro e w6 ⟨rfl, hb6⟩; replace cL := cell_later hb6 cL; replace cF := cell_later hb6 cF)
              go_roundw
              case rel => exact ⟨2 + 1, by omega, by go_num, hbr.trans (hb6.mono hbr.size), hL.below hb6, hF.below hb6, hbyr.below hb6⟩
              case measure => simp [intOf]
            · have cF := hF.cell 3
              change _ = some (Value.int .i64 7) at cF
              have cL := hL.cell 3
              change _ = some (Value.int .i64 (R.N 10)) at cL
              have hnu := number_ok hbyr rfl 7
              rw [n7.out] at hnu
              go_wp2_with (go_at_call 15; refine hnu.mono ?_; rintro e w6 ⟨rfl, hb6⟩; replace cL := cell_later hb6 cL; replace cF := cell_later hb6 cF)
              go_roundw
              case rel => exact ⟨3 + 1, by omega, by go_num, hbr.trans (hb6.mono hbr.size), hL.below hb6, hF.below hb6, hbyr.below hb6⟩
              case measure => simp [intOf]
            · have cF := hF.cell 4
              change _ = some (Value.int .i64 8) at cF
              have cL := hL.cell 4
              change _ = some (Value.int .i64 (R.N 11)) at cL
              have hnu := number_ok hbyr rfl 8
              rw [n8.out] at hnu
              go_wp2_with (go_at_call 15; refine hnu.mono ?_; rintro e w6 ⟨rfl, hb6⟩; replace cL := cell_later hb6 cL; replace cF := cell_later hb6 cF)
              go_roundw
              case rel => exact ⟨4 + 1, by omega, by go_num, hbr.trans (hb6.mono hbr.size), hL.below hb6, hF.below hb6, hbyr.below hb6⟩
              case measure => simp [intOf]
            · have cF := hF.cell 5
              change _ = some (Value.int .i64 11) at cF
              have cL := hL.cell 5
              change _ = some (Value.int .i64 (R.N 12)) at cL
              have hnu := number_ok hbyr rfl 11
              rw [n11.out] at hnu
              by_cases hnz : R.N 12 = 0
              · have hne : ((0 : Int) != R.N 12) = false := by rw [hnz]; rfl
                clear hnz
                go_wp2_with (go_at_call 15; refine hnu.mono ?_; rintro e w6 ⟨rfl, hb6⟩; replace cL := cell_later hb6 cL; replace cF := cell_later hb6 cF)
                go_roundw
                case rel => exact ⟨5 + 1, by omega, by go_num, hbr.trans (hb6.mono hbr.size), hL.below hb6, hF.below hb6, hbyr.below hb6⟩
                case measure => simp [intOf]
              · have hne : ((0 : Int) != R.N 12) = true := by simp; omega
                clear hnz
                go_wp2_with (go_at_call 15; refine hnu.mono ?_; rintro e w6 ⟨rfl, hb6⟩; replace cL := cell_later hb6 cL; replace cF := cell_later hb6 cF)
                go_roundw
                case rel => exact ⟨5 + 1, by omega, by go_num, hbr.trans (hb6.mono hbr.size), hL.below hb6, hF.below hb6, hbyr.below hb6⟩
                case measure => simp [intOf]
            · have cF := hF.cell 6
              change _ = some (Value.int .i64 12) at cF
              have cL := hL.cell 6
              change _ = some (Value.int .i64 (R.N 13)) at cL
              have hnu := number_ok hbyr rfl 12
              rw [n12.out] at hnu
              by_cases hnz : R.N 13 = 0
              · have hne : ((0 : Int) != R.N 13) = false := by rw [hnz]; rfl
                clear hnz
                go_wp2_with (go_at_call 15; refine hnu.mono ?_; rintro e w6 ⟨rfl, hb6⟩; replace cL := cell_later hb6 cL; replace cF := cell_later hb6 cF)
                go_roundw
                case rel => exact ⟨6 + 1, by omega, by go_num, hbr.trans (hb6.mono hbr.size), hL.below hb6, hF.below hb6, hbyr.below hb6⟩
                case measure => simp [intOf]
              · have hne : ((0 : Int) != R.N 13) = true := by simp; omega
                clear hnz
                go_wp2_with (go_at_call 15; refine hnu.mono ?_; rintro e w6 ⟨rfl, hb6⟩; replace cL := cell_later hb6 cL; replace cF := cell_later hb6 cF)
                go_roundw
                case rel => exact ⟨6 + 1, by omega, by go_num, hbr.trans (hb6.mono hbr.size), hL.below hb6, hF.below hb6, hbyr.below hb6⟩
                case measure => simp [intOf]
          · obtain rfl : k = 7 := by omega
            clear hlt hk
            go_wp2
            all_goals go_ret
            all_goals exact ⟨rfl, hbr⟩
      · have q0 : (R.m != 0) = true := by rw [em]; rfl
        have q1 : (R.m == 1) = true := by rw [em]; rfl
        replace hget : Hid (rawE l = #[.int .i64 R.m, .int .u8 R.x, .string (R.T 2), .string (R.T 3), .string (R.T 4), .string (R.T 5), .string (R.T 6), .int .i64 0, .int .i64 0, .int .i64 0, .int .i64 0, .int .i64 0, .int .i64 0, .int .i64 0]) := hid (by rw [hget, em]; rfl)
        replace n4 := hid n4
        replace n5 := hid n5
        replace n6 := hid n6
        replace n7 := hid n7
        replace n8 := hid n8
        replace n11 : Hid (numR l 11 rowsD = (R.N 12, 0)) := hid (by rw [n11, if_neg (by omega)])
        replace n12 : Hid (numR l 12 rowsD = (R.N 13, 0)) := hid (by rw [n12, if_neg (by omega)])
        clear em
        have hcat : (⟨#[]⟩ : ByteArray) ++ (⟨#[]⟩ : ByteArray) = ⟨#[]⟩ := rfl
        have hcz : (⟨#[]⟩ : ByteArray).size = 0 := rfl
        go_enter Try.func6, Try.ntmps6
        go_wp2_with (first
          | (go_at_call 7; refine (alive_any _).mono ?_; rintro e w1 ⟨rfl, hb1⟩; obtain ⟨y0, y1, y2, y3, y4, y5, y6, y7, y8, y9, y10, y11, y12, y13⟩ := cells14 hb1; have hacc := hb0.trans (hb1.mono hb0.size))
          | (go_at_call 18; refine (hmk _).mono ?_; rintro e w2 ⟨a, m, c, rfl, hby, hb2⟩; replace y0 := cell_later hb2 y0; replace y1 := cell_later hb2 y1; replace y2 := cell_later hb2 y2; replace y3 := cell_later hb2 y3; replace y4 := cell_later hb2 y4; replace y5 := cell_later hb2 y5; replace y6 := cell_later hb2 y6; replace y7 := cell_later hb2 y7; replace y8 := cell_later hb2 y8; replace y9 := cell_later hb2 y9; replace y10 := cell_later hb2 y10; replace y11 := cell_later hb2 y11; replace y12 := cell_later hb2 y12; replace y13 := cell_later hb2 y13; replace hacc := hacc.trans (hb2.mono hacc.size); clear hb2; (have hm5 : m = 512 := (by have := hby.1; rw [hlen.out] at this; exact this.symm)); subst hm5; obtain ⟨bb, oo, rfl⟩ := hby.some_of (by omega))
          | (go_at_call 8; refine (get_good hby rfl hchk hflg).mono ?_; rw [hget.out]; rintro e w3 ⟨rfl, hb3⟩; replace y0 := cell_later hb3 y0; replace y1 := cell_later hb3 y1; replace y2 := cell_later hb3 y2; replace y3 := cell_later hb3 y3; replace y4 := cell_later hb3 y4; replace y5 := cell_later hb3 y5; replace y6 := cell_later hb3 y6; replace y7 := cell_later hb3 y7; replace y8 := cell_later hb3 y8; replace y9 := cell_later hb3 y9; replace y10 := cell_later hb3 y10; replace y11 := cell_later hb3 y11; replace y12 := cell_later hb3 y12; replace y13 := cell_later hb3 y13; replace hby := hby.below hb3; replace hacc := hacc.trans (hb3.mono hacc.size); clear hb3; have hfr := (Below.refl w3.heap.size w3).alloc (Nat.le_refl _) (.cells #[.int .i64 R.m, .int .u8 R.x, .string (R.T 2), .string (R.T 3), .string (R.T 4), .string (R.T 5), .string (R.T 6), .int .i64 0, .int .i64 0, .int .i64 0, .int .i64 0, .int .i64 0, .int .i64 0, .int .i64 0] 25); replace y0 := cell_later hfr y0; replace y1 := cell_later hfr y1; replace y2 := cell_later hfr y2; replace y3 := cell_later hfr y3; replace y4 := cell_later hfr y4; replace y5 := cell_later hfr y5; replace y6 := cell_later hfr y6; replace y7 := cell_later hfr y7; replace y8 := cell_later hfr y8; replace y9 := cell_later hfr y9; replace y10 := cell_later hfr y10; replace y11 := cell_later hfr y11; replace y12 := cell_later hfr y12; replace y13 := cell_later hfr y13; clear hfr))
        obtain ⟨hL, hF, hb5⟩ := three (w := w3) #[.int .i64 R.m, .int .u8 R.x, .string (R.T 2), .string (R.T 3), .string (R.T 4), .string (R.T 5), .string (R.T 6), .int .i64 0, .int .i64 0, .int .i64 0, .int .i64 0, .int .i64 0, .int .i64 0, .int .i64 0] (numA R) fldA 25 2 3
        have hbw := hacc.trans (hb5.mono hacc.size)
        have hbyw := hby.below hb5
        clear hb5 hby hacc y0 y1 y2 y3 y4 y5 y6 y7 y8 y9 y10 y11 y12 y13 hmk hget hchk hflg hcat hb0
        generalize hg : w3.heap.size = g at *
        clear hg
        unfold numA fldA at hL hF hbw hbyw
        go_loopw [12] (fun i wr => ∃ (k : Nat), k ≤ 7 ∧ i = .int .i64 k ∧ Below w.heap.size w wr ∧ Blk wr (g + 1) (numA R) 2 ∧ Blk wr (g + 2) fldA 3 ∧ Bys wr (some ⟨bb, oo, none⟩) 512 c l) (fun i _ => 7 - (intOf i).toNat)
        case atStart => exact ⟨0, by omega, rfl, hbw, hL, hF, hbyw⟩
        case round =>
          clear hL hF hbw hbyw
          obtain ⟨k, hk, rfl, hbr, hL, hF, hbyr⟩ := hrel
          by_cases hlt : k < 7
          · have hk7 : k = 0 ∨ k = 1 ∨ k = 2 ∨ k = 3 ∨ k = 4 ∨ k = 5 ∨ k = 6 := by omega
            clear hlt hk
            rcases hk7 with rfl | rfl | rfl | rfl | rfl | rfl | rfl
            · have cF := hF.cell 0
              change _ = some (Value.int .i64 4) at cF
              have cL := hL.cell 0
              change _ = some (Value.int .i64 (R.N 7)) at cL
              have hnu := number_ok hbyr rfl 4
              rw [n4.out] at hnu
              go_wp2_with (go_at_call 15; refine hnu.mono ?_; rintro e w6 ⟨rfl, hb6⟩; replace cL := cell_later hb6 cL; replace cF := cell_later hb6 cF)
              go_roundw
              case rel => exact ⟨0 + 1, by omega, by go_num, hbr.trans (hb6.mono hbr.size), hL.below hb6, hF.below hb6, hbyr.below hb6⟩
              case measure => simp [intOf]
            · have cF := hF.cell 1
              change _ = some (Value.int .i64 5) at cF
              have cL := hL.cell 1
              change _ = some (Value.int .i64 (R.N 8)) at cL
              have hnu := number_ok hbyr rfl 5
              rw [n5.out] at hnu
              go_wp2_with (go_at_call 15; refine hnu.mono ?_; rintro e w6 ⟨rfl, hb6⟩; replace cL := cell_later hb6 cL; replace cF := cell_later hb6 cF)
              go_roundw
              case rel => exact ⟨1 + 1, by omega, by go_num, hbr.trans (hb6.mono hbr.size), hL.below hb6, hF.below hb6, hbyr.below hb6⟩
              case measure => simp [intOf]
            · have cF := hF.cell 2
              change _ = some (Value.int .i64 6) at cF
              have cL := hL.cell 2
              change _ = some (Value.int .i64 (R.N 9)) at cL
              have hnu := number_ok hbyr rfl 6
              rw [n6.out] at hnu
              go_wp2_with (go_at_call 15; refine hnu.mono ?_; rintro e w6 ⟨rfl, hb6⟩; replace cL := cell_later hb6 cL; replace cF := cell_later hb6 cF)
              go_roundw
              case rel => exact ⟨2 + 1, by omega, by go_num, hbr.trans (hb6.mono hbr.size), hL.below hb6, hF.below hb6, hbyr.below hb6⟩
              case measure => simp [intOf]
            · have cF := hF.cell 3
              change _ = some (Value.int .i64 7) at cF
              have cL := hL.cell 3
              change _ = some (Value.int .i64 (R.N 10)) at cL
              have hnu := number_ok hbyr rfl 7
              rw [n7.out] at hnu
              go_wp2_with (go_at_call 15; refine hnu.mono ?_; rintro e w6 ⟨rfl, hb6⟩; replace cL := cell_later hb6 cL; replace cF := cell_later hb6 cF)
              go_roundw
              case rel => exact ⟨3 + 1, by omega, by go_num, hbr.trans (hb6.mono hbr.size), hL.below hb6, hF.below hb6, hbyr.below hb6⟩
              case measure => simp [intOf]
            · have cF := hF.cell 4
              change _ = some (Value.int .i64 8) at cF
              have cL := hL.cell 4
              change _ = some (Value.int .i64 (R.N 11)) at cL
              have hnu := number_ok hbyr rfl 8
              rw [n8.out] at hnu
              go_wp2_with (go_at_call 15; refine hnu.mono ?_; rintro e w6 ⟨rfl, hb6⟩; replace cL := cell_later hb6 cL; replace cF := cell_later hb6 cF)
              go_roundw
              case rel => exact ⟨4 + 1, by omega, by go_num, hbr.trans (hb6.mono hbr.size), hL.below hb6, hF.below hb6, hbyr.below hb6⟩
              case measure => simp [intOf]
            · have cF := hF.cell 5
              change _ = some (Value.int .i64 11) at cF
              have cL := hL.cell 5
              change _ = some (Value.int .i64 (R.N 12)) at cL
              have hnu := number_ok hbyr rfl 11
              rw [n11.out] at hnu
              go_wp2_with (go_at_call 15; refine hnu.mono ?_; rintro e w6 ⟨rfl, hb6⟩; replace cL := cell_later hb6 cL; replace cF := cell_later hb6 cF)
              go_roundw
              case rel => exact ⟨5 + 1, by omega, by go_num, hbr.trans (hb6.mono hbr.size), hL.below hb6, hF.below hb6, hbyr.below hb6⟩
              case measure => simp [intOf]
            · have cF := hF.cell 6
              change _ = some (Value.int .i64 12) at cF
              have cL := hL.cell 6
              change _ = some (Value.int .i64 (R.N 13)) at cL
              have hnu := number_ok hbyr rfl 12
              rw [n12.out] at hnu
              go_wp2_with (go_at_call 15; refine hnu.mono ?_; rintro e w6 ⟨rfl, hb6⟩; replace cL := cell_later hb6 cL; replace cF := cell_later hb6 cF)
              go_roundw
              case rel => exact ⟨6 + 1, by omega, by go_num, hbr.trans (hb6.mono hbr.size), hL.below hb6, hF.below hb6, hbyr.below hb6⟩
              case measure => simp [intOf]
          · obtain rfl : k = 7 := by omega
            clear hlt hk
            go_wp2
            all_goals go_ret
            all_goals exact ⟨rfl, hbr⟩
      · have q0 : (R.m != 0) = true := by rw [em]; rfl
        have q1 : (R.m == 1) = false := by rw [em]; rfl
        replace hget : Hid (rawE l = #[.int .i64 R.m, .int .u8 R.x, .string (R.T 2), .string (R.T 3), .string ⟨#[]⟩, .string (R.T 5), .string (R.T 6), .int .i64 0, .int .i64 0, .int .i64 0, .int .i64 0, .int .i64 0, .int .i64 0, .int .i64 0]) := hid (by rw [hget, em]; rfl)
        replace n4 := hid n4
        replace n5 := hid n5
        replace n6 := hid n6
        replace n7 := hid n7
        replace n8 := hid n8
        replace n11 : Hid (numR l 11 rowsD = (R.N 12, 0)) := hid (by rw [n11, if_neg (by omega)])
        replace n12 : Hid (numR l 12 rowsD = (R.N 13, 0)) := hid (by rw [n12, if_neg (by omega)])
        clear em
        have hcat : (⟨#[]⟩ : ByteArray) ++ (⟨#[]⟩ : ByteArray) = ⟨#[]⟩ := rfl
        have hcz : (⟨#[]⟩ : ByteArray).size = 0 := rfl
        go_enter Try.func6, Try.ntmps6
        go_wp2_with (first
          | (go_at_call 7; refine (alive_any _).mono ?_; rintro e w1 ⟨rfl, hb1⟩; obtain ⟨y0, y1, y2, y3, y4, y5, y6, y7, y8, y9, y10, y11, y12, y13⟩ := cells14 hb1; have hacc := hb0.trans (hb1.mono hb0.size))
          | (go_at_call 18; refine (hmk _).mono ?_; rintro e w2 ⟨a, m, c, rfl, hby, hb2⟩; replace y0 := cell_later hb2 y0; replace y1 := cell_later hb2 y1; replace y2 := cell_later hb2 y2; replace y3 := cell_later hb2 y3; replace y4 := cell_later hb2 y4; replace y5 := cell_later hb2 y5; replace y6 := cell_later hb2 y6; replace y7 := cell_later hb2 y7; replace y8 := cell_later hb2 y8; replace y9 := cell_later hb2 y9; replace y10 := cell_later hb2 y10; replace y11 := cell_later hb2 y11; replace y12 := cell_later hb2 y12; replace y13 := cell_later hb2 y13; replace hacc := hacc.trans (hb2.mono hacc.size); clear hb2; (have hm5 : m = 512 := (by have := hby.1; rw [hlen.out] at this; exact this.symm)); subst hm5; obtain ⟨bb, oo, rfl⟩ := hby.some_of (by omega))
          | (go_at_call 8; refine (get_good hby rfl hchk hflg).mono ?_; rw [hget.out]; rintro e w3 ⟨rfl, hb3⟩; replace y0 := cell_later hb3 y0; replace y1 := cell_later hb3 y1; replace y2 := cell_later hb3 y2; replace y3 := cell_later hb3 y3; replace y4 := cell_later hb3 y4; replace y5 := cell_later hb3 y5; replace y6 := cell_later hb3 y6; replace y7 := cell_later hb3 y7; replace y8 := cell_later hb3 y8; replace y9 := cell_later hb3 y9; replace y10 := cell_later hb3 y10; replace y11 := cell_later hb3 y11; replace y12 := cell_later hb3 y12; replace y13 := cell_later hb3 y13; replace hby := hby.below hb3; replace hacc := hacc.trans (hb3.mono hacc.size); clear hb3; have hfr := (Below.refl w3.heap.size w3).alloc (Nat.le_refl _) (.cells #[.int .i64 R.m, .int .u8 R.x, .string (R.T 2), .string (R.T 3), .string ⟨#[]⟩, .string (R.T 5), .string (R.T 6), .int .i64 0, .int .i64 0, .int .i64 0, .int .i64 0, .int .i64 0, .int .i64 0, .int .i64 0] 25); replace y0 := cell_later hfr y0; replace y1 := cell_later hfr y1; replace y2 := cell_later hfr y2; replace y3 := cell_later hfr y3; replace y4 := cell_later hfr y4; replace y5 := cell_later hfr y5; replace y6 := cell_later hfr y6; replace y7 := cell_later hfr y7; replace y8 := cell_later hfr y8; replace y9 := cell_later hfr y9; replace y10 := cell_later hfr y10; replace y11 := cell_later hfr y11; replace y12 := cell_later hfr y12; replace y13 := cell_later hfr y13; clear hfr))
        obtain ⟨hL, hF, hb5⟩ := three (w := w3) #[.int .i64 R.m, .int .u8 R.x, .string (R.T 2), .string (R.T 3), .string ⟨#[]⟩, .string (R.T 5), .string (R.T 6), .int .i64 0, .int .i64 0, .int .i64 0, .int .i64 0, .int .i64 0, .int .i64 0, .int .i64 0] (numA R) fldA 25 2 3
        have hbw := hacc.trans (hb5.mono hacc.size)
        have hbyw := hby.below hb5
        clear hb5 hby hacc y0 y1 y2 y3 y4 y5 y6 y7 y8 y9 y10 y11 y12 y13 hmk hget hchk hflg hcat hb0
        generalize hg : w3.heap.size = g at *
        clear hg
        unfold numA fldA at hL hF hbw hbyw
        go_loopw [12] (fun i wr => ∃ (k : Nat), k ≤ 7 ∧ i = .int .i64 k ∧ Below w.heap.size w wr ∧ Blk wr (g + 1) (numA R) 2 ∧ Blk wr (g + 2) fldA 3 ∧ Bys wr (some ⟨bb, oo, none⟩) 512 c l) (fun i _ => 7 - (intOf i).toNat)
        case atStart => exact ⟨0, by omega, rfl, hbw, hL, hF, hbyw⟩
        case round =>
          clear hL hF hbw hbyw
          obtain ⟨k, hk, rfl, hbr, hL, hF, hbyr⟩ := hrel
          by_cases hlt : k < 7
          · have hk7 : k = 0 ∨ k = 1 ∨ k = 2 ∨ k = 3 ∨ k = 4 ∨ k = 5 ∨ k = 6 := by omega
            clear hlt hk
            rcases hk7 with rfl | rfl | rfl | rfl | rfl | rfl | rfl
            · have cF := hF.cell 0
              change _ = some (Value.int .i64 4) at cF
              have cL := hL.cell 0
              change _ = some (Value.int .i64 (R.N 7)) at cL
              have hnu := number_ok hbyr rfl 4
              rw [n4.out] at hnu
              go_wp2_with (go_at_call 15; refine hnu.mono ?_; rintro e w6 ⟨rfl, hb6⟩; replace cL := cell_later hb6 cL; replace cF := cell_later hb6 cF)
              go_roundw
              case rel => exact ⟨0 + 1, by omega, by go_num, hbr.trans (hb6.mono hbr.size), hL.below hb6, hF.below hb6, hbyr.below hb6⟩
              case measure => simp [intOf]
            · have cF := hF.cell 1
              change _ = some (Value.int .i64 5) at cF
              have cL := hL.cell 1
              change _ = some (Value.int .i64 (R.N 8)) at cL
              have hnu := number_ok hbyr rfl 5
              rw [n5.out] at hnu
              go_wp2_with (go_at_call 15; refine hnu.mono ?_; rintro e w6 ⟨rfl, hb6⟩; replace cL := cell_later hb6 cL; replace cF := cell_later hb6 cF)
              go_roundw
              case rel => exact ⟨1 + 1, by omega, by go_num, hbr.trans (hb6.mono hbr.size), hL.below hb6, hF.below hb6, hbyr.below hb6⟩
              case measure => simp [intOf]
            · have cF := hF.cell 2
              change _ = some (Value.int .i64 6) at cF
              have cL := hL.cell 2
              change _ = some (Value.int .i64 (R.N 9)) at cL
              have hnu := number_ok hbyr rfl 6
              rw [n6.out] at hnu
              go_wp2_with (go_at_call 15; refine hnu.mono ?_; rintro e w6 ⟨rfl, hb6⟩; replace cL := cell_later hb6 cL; replace cF := cell_later hb6 cF)
              go_roundw
              case rel => exact ⟨2 + 1, by omega, by go_num, hbr.trans (hb6.mono hbr.size), hL.below hb6, hF.below hb6, hbyr.below hb6⟩
              case measure => simp [intOf]
            · have cF := hF.cell 3
              change _ = some (Value.int .i64 7) at cF
              have cL := hL.cell 3
              change _ = some (Value.int .i64 (R.N 10)) at cL
              have hnu := number_ok hbyr rfl 7
              rw [n7.out] at hnu
              go_wp2_with (go_at_call 15; refine hnu.mono ?_; rintro e w6 ⟨rfl, hb6⟩; replace cL := cell_later hb6 cL; replace cF := cell_later hb6 cF)
              go_roundw
              case rel => exact ⟨3 + 1, by omega, by go_num, hbr.trans (hb6.mono hbr.size), hL.below hb6, hF.below hb6, hbyr.below hb6⟩
              case measure => simp [intOf]
            · have cF := hF.cell 4
              change _ = some (Value.int .i64 8) at cF
              have cL := hL.cell 4
              change _ = some (Value.int .i64 (R.N 11)) at cL
              have hnu := number_ok hbyr rfl 8
              rw [n8.out] at hnu
              go_wp2_with (go_at_call 15; refine hnu.mono ?_; rintro e w6 ⟨rfl, hb6⟩; replace cL := cell_later hb6 cL; replace cF := cell_later hb6 cF)
              go_roundw
              case rel => exact ⟨4 + 1, by omega, by go_num, hbr.trans (hb6.mono hbr.size), hL.below hb6, hF.below hb6, hbyr.below hb6⟩
              case measure => simp [intOf]
            · have cF := hF.cell 5
              change _ = some (Value.int .i64 11) at cF
              have cL := hL.cell 5
              change _ = some (Value.int .i64 (R.N 12)) at cL
              have hnu := number_ok hbyr rfl 11
              rw [n11.out] at hnu
              go_wp2_with (go_at_call 15; refine hnu.mono ?_; rintro e w6 ⟨rfl, hb6⟩; replace cL := cell_later hb6 cL; replace cF := cell_later hb6 cF)
              go_roundw
              case rel => exact ⟨5 + 1, by omega, by go_num, hbr.trans (hb6.mono hbr.size), hL.below hb6, hF.below hb6, hbyr.below hb6⟩
              case measure => simp [intOf]
            · have cF := hF.cell 6
              change _ = some (Value.int .i64 12) at cF
              have cL := hL.cell 6
              change _ = some (Value.int .i64 (R.N 13)) at cL
              have hnu := number_ok hbyr rfl 12
              rw [n12.out] at hnu
              go_wp2_with (go_at_call 15; refine hnu.mono ?_; rintro e w6 ⟨rfl, hb6⟩; replace cL := cell_later hb6 cL; replace cF := cell_later hb6 cF)
              go_roundw
              case rel => exact ⟨6 + 1, by omega, by go_num, hbr.trans (hb6.mono hbr.size), hL.below hb6, hF.below hb6, hbyr.below hb6⟩
              case measure => simp [intOf]
          · obtain rfl : k = 7 := by omega
            clear hlt hk
            go_wp2
            all_goals go_ret
            all_goals exact ⟨rfl, hbr⟩
    · have hl : makeL R wide true = [] := by unfold makeL; rw [if_neg hC]
      rw [hl] at hmk
      obtain ⟨hC0, hC1⟩ := make_range (R := R) wide true
      have hC2 : (makeC R wide true != 0) = true := by simpa using hC
      generalize makeC R wide true = C at *
      clear hT hx hN hok hA hC
      go_enter Try.func6, Try.ntmps6
      go_wp2_with (first
        | (go_at_call 7; refine (alive_any _).mono ?_; rintro e w1 ⟨rfl, hb1⟩; obtain ⟨y0, y1, y2, y3, y4, y5, y6, y7, y8, y9, y10, y11, y12, y13⟩ := cells14 hb1; have hacc := hb0.trans (hb1.mono hb0.size))
        | (go_at_call 18; refine (hmk _).mono ?_; rintro e w2 ⟨a, m, c, rfl, hby, hb2⟩; replace hacc := hacc.trans (hb2.mono hacc.size); (have hm0 : m = 0 := hby.1.symm); subst hm0))
      all_goals go_ret
      all_goals exact ⟨rfl, hacc⟩

set_option maxRecDepth 100000 in
theorem lifted (os : Os) (started : os.Started) (H : Type) (enc : TypeId × Value → H) :
    ReturnsInHanded {} Try.checked os 6 .any (Rows.headBackSpec.pre6 enc Try.prog Try.f6 Rows.headBackRow.domain false) (Rows.headBackSpec.post enc Try.prog Try.f6 false true false false) := by
  refine returnsInHanded_of_change_sized (C := Try.checked) own started (by kernel_rfl) Try.func6
    (ChangeSpec.witness6 (enc := enc) (C := Try.checked) false ⟨#[], #[.agg #[.int .i64 0, .int .u8 0, .string ⟨#[]⟩, .string ⟨#[]⟩, .string ⟨#[]⟩, .string ⟨#[]⟩, .string ⟨#[]⟩, .int .i64 0, .int .i64 0, .int .i64 0, .int .i64 0, .int .i64 0, .int .i64 0, .int .i64 0], .bool false], []⟩ 8 (by kernel_rfl) (by kernel_rfl) (by kernel_rfl) (by kernel_rfl)) ?_
  intro W base args ds gs before hval0 hW hcnd hsz0 _
  have hval : ∀ (j : Nat) t v, Try.f6.params[j]? = some t → args[j]? = some v → Value.okWide Try.prog W .any base t v := hval0
  have hsz : (DataW.weightsEach Try.prog (Try.f6.params.toList ++ Rows.headBackSpec.plain.varTypes Try.prog) (ds ++ gs)).all (· ≤ reachBytes) = true := hsz0
  have hW' := hW
  obtain ⟨p, q, hA0, hV, rfl, hfz, hnd⟩ := hW
  have hA : DataW.TrodAll enc Try.prog W 0 (fun _ => true) true Try.f6.params.toList args.toList ds p := hA0
  rw [Try.params6] at hA hval hsz
  obtain ⟨v0, vs0, d0, ds0, p0, q0, hargs, rfl, rfl, h0, r0⟩ := trodAll_cons hA
  obtain ⟨v1, vs1, d1, ds1, p1, q1, rfl, rfl, rfl, h1, r1⟩ := trodAll_cons r0
  obtain ⟨rfl, rfl, rfl⟩ := trodAll_nil r1
  obtain rfl : args = #[v0, v1] := by cases args; simp_all
  obtain ⟨rfl, rfl⟩ := trodVars_none hV
  have k0 := h0
  have lt0 : ∀ x ∈ p0, x.block < W.heap.size := by obtain ⟨m, hm⟩ := k0; exact DataW.trod_lt m _ _ _ hm
  obtain ⟨R, rfl, hx, hN, hT⟩ := open_raw (hval 0 25 v0 rfl rfl) h0
  obtain ⟨a1, rfl, rfl, rfl⟩ := open_bool Try.underlying4 (hval 1 4 v1 rfl rfl) h1
  have hT' : ∀ k, (R.T k).size ≤ 140737488351232 ∧ (k < 2 ∨ 6 < k → (R.T k).size = 0) := by
    intro k
    rcases hT k with h | ⟨h, k1, k2⟩
    · exact ⟨by omega, fun _ => h⟩
    · have : (R.T k).size ≤ reachBytes := of_decide_eq_true (List.all_eq_true.1 hsz _ (DataW.weights_mem_each (j := 0) (t := 25) (d := d0) rfl rfl _ h))
      unfold reachBytes at this
      exact ⟨by omega, fun h => by omega⟩
  clear hA0 hval0 hsz0
  refine (walk R a1 W hx hN hT').mono fun e W' ⟨he, bel⟩ => ?_
  subst he
  exact ⟨_, rfl, _, _, _, [], _, [], hW', trodAll_mk1 (shut_bool Try.underlying4 _), (trodAll_cons_mk (Below.trod laidOut (by kernel_rfl) (of_decide_eq_true (by kernel_rfl)) k0 bel lt0) (trodAll_cons_mk (shut_bool Try.underlying4 _) trodAll_mk0)), rfl, bel.frame _, fun h => by cases h⟩

theorem over : Rows.headBackRow.holds Try.pinned (OpenSpec.ofChange Rows.headBackSpec) :=
  OpenClaim.holds_of_wide 6 Try.f6 rfl rfl rfl rfl rfl rfl rfl ⟨rfl, rfl, rfl, rfl, rfl⟩ rfl rfl rfl rfl rfl (by kernel_rfl) Try.func6 (by kernel_rfl)
    (of_decide_eq_true (by kernel_rfl)) (by unfold Func.isWrapper; first | (rw [if_pos (by decide +kernel)]; kernel_rfl) | (rw [if_neg (by decide +kernel)]; exact ⟨rfl, rfl⟩))
    (fun os started H enc _ => lifted os started H enc)

theorem proved : Rows.HeadBackSaid := over
end Go.Proofs.Ytgjbopbpekocpaa.headBack
