/-
  A KEY'S VALUE AMONG PAIRS (over.Get); AND WHAT FOLLOWS OF IT. Conditions: those that each part names.
-/
import Derived.Test.YtkocnbdakfhpaaaGreatDoorOva
import Derived.Test.YtkocnbdakfhpaaaGreatDoorSmp
import Derived.Test.YtkocnbdakfhpaaaGreatDoorRgt
import Derived.Test.YtkocnbdakfhpaaaGreatDoorBak
import Derived.BigQuiet
import Derived.BigRegion
import Derived.Test.YtkocnbdakfhpaaaGreatDoorLive
import Derived.Test.YtkocnbdakfhpaaaGreatDoorFwb
import Derived.Deep.CutBlock
import Derived.Deep.DeepCutAuto
import Derived.Laws.AppendOwnNone
import Derived.Test.YtkocnbdakfhpaaaGreatDoorRrg
import Derived.Test.YtkocnbdakfhpaaaGreatDoorOpn
/-
  A KEY'S VALUE AMONG PAIRS (over.Get). Conditions: none.
-/
namespace Go.Proofs.YtkocnbdakfhpaaaGreatDoor
open Go.ChangeShapes Go.WideShapes Go.ChangeAt Go.RowKit Go.Lib
set_option linter.unusedVariables false
set_option linter.unusedSimpArgs false
set_option maxRecDepth 20000

def getV (o : Option ByteArray) : ByteArray := match o with | some v => v | none => ⟨#[]⟩

set_option maxHeartbeats 4000000 in
theorem oget_ok {w : World} {a : Option Addr} {n c : Nat} {l : PL} (h : Pys w a n c l) (key : ByteArray) :
    Calls Tryz.prog 20 #[.slice a n c, .string key] w fun e w' => e = .returned (.tuple #[.string (getV (getK l key)), .bool (getK l key).isSome]) ∧ Below w.heap.size w w' := by
  have hm1 := h.2.1
  have hm2 := h.2.2.1
  obtain ⟨q, hq⟩ : ∃ q, q = getK l key := ⟨_, rfl⟩
  rw [← hq]
  have hl := hid h.1
  replace hq := hid hq
  go_enter Tryz.func20, Tryz.ntmps20
  go_wp2
  go_loopw [10] (fun x wr => ∃ k : Nat, x = .int .i64 k ∧ k ≤ n ∧ Below w.heap.size w wr ∧ Hid (q = getK (l.drop k) key)) (fun x _ => n - (RowKit.intOf x).toNat)
  case atStart => exact ⟨0, rfl, by omega, Below.refl _ _, hid hq.out⟩
  case round =>
    obtain ⟨k, rfl, hk, hb, hr⟩ := hrel
    by_cases hlt : k < n
    · obtain ⟨b, off, rfl, hc⟩ := h.some_of (by omega)
      obtain ⟨ky, vl, hmem, hd, c0, c1⟩ := (hc.below hb).at k (by rw [hl.out]; exact hlt)
      have hkI : (k : Int) < (n : Int) := by omega
      have hbn := hb.alloc hb.size (.cells #[.string ky, .string vl] 23)
      by_cases he : ky = key
      · have E : q = some vl := by rw [hr.out, hd.out, getK, if_pos he]
        have hee : (ky.toList == key.toList) = true := by rw [he]; simp
        subst E
        clear hr hd hmem he hq
        go_wp2
        all_goals go_ret2
        all_goals exact ⟨rfl, hbn⟩
      · have E := hid (by rw [hr.out, hd.out, getK, if_neg he] : q = getK (l.drop (k + 1)) key)
        have hee : (ky.toList == key.toList) = false := by
          cases hh : (ky.toList == key.toList)
          · rfl
          · exact absurd (str_beq.1 hh) he
        clear hr hd hmem he
        go_wp2
        go_roundw
        case rel => exact ⟨k + 1, by go_num, by omega, hbn, E⟩
        case measure => simp [RowKit.intOf]; omega
    · obtain rfl : k = n := by omega
      have E : q = none := by rw [hr.out, List.drop_eq_nil_iff.mpr (by rw [hl.out]; exact Nat.le_refl _)]; rfl
      have hkI : ¬ (k : Int) < (k : Int) := by omega
      subst E
      clear hr hq
      go_wp2
      all_goals go_ret2
      all_goals exact ⟨rfl, hb⟩

end Go.Proofs.YtkocnbdakfhpaaaGreatDoor

/-
  WHETHER PAIRS ARE AN OVERLAY (over.Right). Conditions: how many bytes the texts have; what the listed variables hold.
-/
namespace Go.Proofs.YtkocnbdakfhpaaaGreatDoor
open Go.ChangeShapes Go.WideShapes Go.ChangeAt Go.RowKit Go.Lib
set_option linter.unusedVariables false
set_option linter.unusedSimpArgs false
set_option maxRecDepth 20000

theorem str_geq {P : Program} (w : World) (t : TypeId) (a b : ByteArray) : (binOp .geq t (.string a) (.string b)).run P w = .ok (.bool (!decide (kc a b < 0))) w := by
  rw [← less_kc]
  simp [binOp, Op.stringOp]

/-- is it an overlay, behind a key -/
def ovB : Option ByteArray → PL → Bool
  | _, [] => true
  | o, p :: t => (match o with | some k => decide (kc k p.1 < 0) | none => true) && (decide (p.2.size ≠ 0) && rightP (bs p.1) (bs p.2)) && ovB (some p.1) t

theorem ovB_cons (o : Option ByteArray) (p : ByteArray × ByteArray) (t : PL) : ovB o (p :: t) = ((match o with | some k => decide (kc k p.1 < 0) | none => true) && (decide (p.2.size ≠ 0) && rightP (bs p.1) (bs p.2)) && ovB (some p.1) t) := by cases o <;> rfl

theorem ovB_some : ∀ (l : PL) (k : ByteArray), ovB (some k) l = true ↔ (∀ q ∈ l, kc k q.1 < 0) ∧ Srt l ∧ Ful l ∧ Rgt l
  | [], k => by
    unfold ovB
    exact ⟨fun _ => ⟨fun q hq => (by cases hq), Srt.nil, fun q hq => (by cases hq), fun q hq => (by cases hq)⟩, fun _ => rfl⟩
  | p :: t, k => by
    rw [ovB]
    simp only [Bool.and_eq_true, decide_eq_true_eq]
    rw [ovB_some t p.1]
    constructor
    · rintro ⟨⟨h1, h2, h3⟩, h4, h5, h6, h7⟩
      refine ⟨?_, List.pairwise_cons.2 ⟨h4, h5⟩, ?_, ?_⟩
      · intro q hq
        rcases List.mem_cons.1 hq with e | e
        · rw [e]; exact h1
        · exact kc_trans h1 (h4 q e)
      · intro q hq
        rcases List.mem_cons.1 hq with e | e
        · rw [e]; exact h2
        · exact h6 q e
      · intro q hq
        rcases List.mem_cons.1 hq with e | e
        · rw [e]; exact h3
        · exact h7 q e
    · rintro ⟨h1, h2, h3, h4⟩
      exact ⟨⟨h1 p (List.mem_cons_self ..), h3 p (List.mem_cons_self ..), h4 p (List.mem_cons_self ..)⟩, h2.head, h2.tail, fun q hq => h3 q (List.mem_cons_of_mem _ hq), fun q hq => h4 q (List.mem_cons_of_mem _ hq)⟩
theorem ovB_iff (l : PL) : ovB none l = true ↔ Srt l ∧ Ful l ∧ Rgt l := by
  cases l with
  | nil => exact ⟨fun _ => ⟨Srt.nil, fun q hq => (by cases hq), fun q hq => (by cases hq)⟩, fun _ => rfl⟩
  | cons p t =>
    rw [ovB]
    simp only [Bool.and_eq_true, decide_eq_true_eq, true_and]
    rw [ovB_some t p.1]
    constructor
    · rintro ⟨⟨h2, h3⟩, h4, h5, h6, h7⟩
      refine ⟨List.pairwise_cons.2 ⟨h4, h5⟩, ?_, ?_⟩
      · intro q hq
        rcases List.mem_cons.1 hq with e | e
        · rw [e]; exact h2
        · exact h6 q e
      · intro q hq
        rcases List.mem_cons.1 hq with e | e
        · rw [e]; exact h3
        · exact h7 q e
    · rintro ⟨h2, h3, h4⟩
      exact ⟨⟨h3 p (List.mem_cons_self ..), h4 p (List.mem_cons_self ..)⟩, h2.head, h2.tail, fun q hq => h3 q (List.mem_cons_of_mem _ hq), fun q hq => h4 q (List.mem_cons_of_mem _ hq)⟩

theorem drop_getp {l : PL} {i : Nat} {q : ByteArray × ByteArray} {t : PL} (h : l.drop i = q :: t) : l[i]? = some q := by
  have := congrArg List.head? h
  rwa [List.head?_drop, List.head?_cons] at this

/-- the key ahead -/
def preK (l : PL) (k : Nat) : Option ByteArray := if k = 0 then none else some (l.getD (k - 1) (⟨#[]⟩, ⟨#[]⟩)).1

set_option maxHeartbeats 8000000 in
theorem oright_ok {w : World} {a : Option Addr} {n c : Nat} {l : PL} (h : Pys w a n c l) (hz : Sml l) (hL : Laid w) :
    Calls Tryz.prog 24 #[.slice a n c] w fun e w' => e = .returned (.bool (ovB none l)) ∧ Below w.heap.size w w' := by
  have hm1 := h.2.1
  have hm2 := h.2.2.1
  obtain ⟨q, hq⟩ : ∃ q, q = ovB none l := ⟨_, rfl⟩
  rw [← hq]
  have hl := hid h.1
  have hz' := hid hz
  replace hq := hid hq
  clear hz
  go_enter Tryz.func24, Tryz.ntmps24
  go_wp2
  go_loopw [7] (fun x wr => ∃ k : Nat, x = .int .i64 k ∧ k ≤ n ∧ Below w.heap.size w wr ∧ Hid (q = ovB (preK l k) (l.drop k))) (fun x _ => n - (RowKit.intOf x).toNat)
  case atStart => exact ⟨0, rfl, by omega, Below.refl _ _, hid hq.out⟩
  case round =>
    obtain ⟨k, rfl, hk, hb, hr⟩ := hrel
    by_cases hlt : k < n
    · obtain ⟨b, off, rfl, hc⟩ := h.some_of (by omega)
      obtain ⟨ky, vl, hmem, hd, c0, c1⟩ := (hc.below hb).at k (by rw [hl.out]; exact hlt)
      have hkI : (k : Int) < (n : Int) := by omega
      have hfr := (Below.refl wr.heap.size wr).alloc (Nat.le_refl _) (.cells #[.string ky, .string vl] 23)
      have hbn := hb.trans (hfr.mono hb.size)
      obtain ⟨z1, z2⟩ := hz'.out _ hmem
      simp only at z1 z2
      have hri := right_ok ky vl (by omega) (by omega)
      obtain ⟨T, hT⟩ : ∃ T : Bool, T = (match preK l k with | some x => decide (kc x ky < 0) | none => true) := ⟨_, rfl⟩
      have hst := hid (by rw [hr.out, hd.out, ovB_cons, ← hT] : q = (T && (decide (vl.size ≠ 0) && rightP (bs ky) (bs vl)) && ovB (some ky) (l.drop (k + 1))))
      have hnx : preK l (k + 1) = some ky := by
        unfold preK
        rw [if_neg (by omega), Nat.add_sub_cancel, List.getD_eq_getElem?_getD, drop_getp hd.out]; rfl
      clear hr
      cases T
      · have E : q = false := by rw [hst.out]; rfl
        by_cases hk0 : k = 0
        · rw [hk0] at hT; exact absurd hT (by simp [preK])
        · obtain ⟨kp, vp, hmem2, hd2, p0, p1⟩ := (hc.below hbn).at (k - 1) (by rw [hl.out]; omega)
          have hpk : preK l k = some kp := by unfold preK; rw [if_neg hk0, List.getD_eq_getElem?_getD, drop_getp hd2.out]; rfl
          rw [hpk] at hT
          have hls := fun (w : World) => str_geq (P := Tryz.prog) w 9 kp ky
          have hT' : decide (kc kp ky < 0) = false := hT.symm
          rw [hT'] at hls
          clear hT'
          have hkp : (0 : Int) < (k : Int) := by omega
          have hkN : 0 < k := by omega
          have hkd : decide (0 < k) = true := decide_eq_true hkN
          have hkm : (k : Int) - 1 = ((k - 1 : Nat) : Int) := by omega
          have hkm1 : (0 : Int) ≤ (k : Int) - 1 := by omega
          have hkm2 : (k : Int) - 1 < (n : Int) := by omega
          have hkm3 : k - 1 < n := by omega
          have hkm4 : (1 : Int) ≤ (k : Int) := by omega
          have hkm5 : 1 ≤ k := by omega
          have hkmn : ((k : Int) - 1).toNat = k - 1 := by omega
          subst E
          clear hst hnx hpk hT hd hd2 hmem hmem2 hq
          have hne : Nonempty (After (wr.alloc (.cells #[.string ky, .string vl] 23))) := ⟨⟨_, Below.refl _ _⟩⟩
          have gp : ∀ p : After (wr.alloc (.cells #[.string ky, .string vl] 23)), p.out.cell? ⟨b, off + (k - 1) * 2, none⟩ = some (.string kp) := fun p => cell_later p.bel p0
          have gk : ∀ p : After (wr.alloc (.cells #[.string ky, .string vl] 23)), p.out.cell? ⟨wr.heap.size, 0, none⟩ = some (.string ky) := fun p => cell_later p.bel (new_two wr (.string ky) (.string vl) 23).1
          go_wp2
          refine wp_region_after (by kernel_rfl) (by kernel_rfl) ?_
          repeat (go_big_quiet_step (fail))
          refine wpQuiet_nil ?_
          intro wq hw'
          obtain ⟨⟨x, hwq⟩, hx⟩ := hw'
          simp only at hx
          subst hx
          go_wp2
          go_ret
          exact ⟨rfl, hbn.trans (hwq.mono hbn.size)⟩
      · have E2 : q = ((decide (vl.size ≠ 0) && rightP (bs ky) (bs vl)) && ovB (some ky) (l.drop (k + 1))) := by rw [hst.out]; rfl
        by_cases hk0 : k = 0
        · subst hk0
          rw [Nat.zero_mul, Nat.add_zero] at c0 c1
          clear hT
          have hne : Nonempty (After (wr.alloc (.cells #[.string ky, .string vl] 23))) := ⟨⟨_, Below.refl _ _⟩⟩
          go_wp2
          refine wp_region_after (by kernel_rfl) (by kernel_rfl) ?_
          repeat (go_big_quiet_step (fail))
          refine wpQuiet_nil ?_
          intro wq hw'
          obtain ⟨⟨x, hwq⟩, hx⟩ := hw'
          simp only at hx
          subst hx
          have hbq := hbn.trans (hwq.mono hbn.size)
          obtain ⟨c2, c3⟩ := two_cells hwq
          by_cases hv0 : vl.size = 0
          · have E : q = false := by rw [E2, decide_eq_false (fun h => h hv0)]; rfl
            have hvz : vl.toList.isEmpty = true := by rw [is_nil vl, decide_eq_true (by rw [← List.length_eq_zero_iff, bs_len]; exact hv0)]
            subst E
            clear hst E2 hnx hq hd hmem hv0
            go_wp2
            all_goals go_ret
            all_goals exact ⟨rfl, hbq⟩
          · have hvz : vl.toList.isEmpty = false := by rw [is_nil vl, decide_eq_false (by rw [← List.length_eq_zero_iff, bs_len]; exact hv0)]
            have hrq := hri wq (hL.below hbq)
            cases hR : rightP (bs ky) (bs vl)
            · have E : q = false := by rw [E2, hR]; simp
              rw [hR] at hrq
              subst E
              clear hst E2 hnx hq hd hmem hv0 hR
              go_wp2_with (go_at_call 9; refine hrq.mono ?_; rintro e w3 ⟨rfl, hb3⟩)
              all_goals go_ret
              all_goals exact ⟨rfl, hbq.trans (hb3.mono hbq.size)⟩
            · have E := hid (by rw [E2, hR, hnx, decide_eq_true (show vl.size ≠ 0 from hv0)]; rfl : q = ovB (preK l (0 + 1)) (l.drop (0 + 1)))
              rw [hR] at hrq
              clear hst E2 hnx hd hmem hv0 hR
              go_wp2_with (go_at_call 9; refine hrq.mono ?_; rintro e w3 ⟨rfl, hb3⟩)
              go_roundw
              case rel => exact ⟨0 + 1, by go_num, by omega, hbq.trans (hb3.mono hbq.size), E⟩
              case measure => simp [RowKit.intOf]; omega
        · obtain ⟨kp, vp, hmem2, hd2, p0, p1⟩ := (hc.below hbn).at (k - 1) (by rw [hl.out]; omega)
          have hpk : preK l k = some kp := by unfold preK; rw [if_neg hk0, List.getD_eq_getElem?_getD, drop_getp hd2.out]; rfl
          rw [hpk] at hT
          have hls := fun (w : World) => str_geq (P := Tryz.prog) w 9 kp ky
          have hT' : decide (kc kp ky < 0) = true := hT.symm
          rw [hT'] at hls
          clear hT'
          have hkp : (0 : Int) < (k : Int) := by omega
          have hkN : 0 < k := by omega
          have hkd : decide (0 < k) = true := decide_eq_true hkN
          have hkm : (k : Int) - 1 = ((k - 1 : Nat) : Int) := by omega
          have hkm1 : (0 : Int) ≤ (k : Int) - 1 := by omega
          have hkm2 : (k : Int) - 1 < (n : Int) := by omega
          have hkm3 : k - 1 < n := by omega
          have hkm4 : (1 : Int) ≤ (k : Int) := by omega
          have hkm5 : 1 ≤ k := by omega
          have hkmn : ((k : Int) - 1).toNat = k - 1 := by omega
          clear hpk hT hd2 hmem2
          have hne : Nonempty (After (wr.alloc (.cells #[.string ky, .string vl] 23))) := ⟨⟨_, Below.refl _ _⟩⟩
          have gp : ∀ p : After (wr.alloc (.cells #[.string ky, .string vl] 23)), p.out.cell? ⟨b, off + (k - 1) * 2, none⟩ = some (.string kp) := fun p => cell_later p.bel p0
          have gk : ∀ p : After (wr.alloc (.cells #[.string ky, .string vl] 23)), p.out.cell? ⟨wr.heap.size, 0, none⟩ = some (.string ky) := fun p => cell_later p.bel (new_two wr (.string ky) (.string vl) 23).1
          go_wp2
          refine wp_region_after (by kernel_rfl) (by kernel_rfl) ?_
          repeat (go_big_quiet_step (fail))
          refine wpQuiet_nil ?_
          intro wq hw'
          obtain ⟨⟨x, hwq⟩, hx⟩ := hw'
          simp only at hx
          subst hx
          have hbq := hbn.trans (hwq.mono hbn.size)
          obtain ⟨c2, c3⟩ := two_cells hwq
          clear gp gk hls p0 p1
          by_cases hv0 : vl.size = 0
          · have E : q = false := by rw [E2, decide_eq_false (fun h => h hv0)]; rfl
            have hvz : vl.toList.isEmpty = true := by rw [is_nil vl, decide_eq_true (by rw [← List.length_eq_zero_iff, bs_len]; exact hv0)]
            subst E
            clear hst E2 hnx hq hd hmem hv0
            go_wp2
            all_goals go_ret
            all_goals exact ⟨rfl, hbq⟩
          · have hvz : vl.toList.isEmpty = false := by rw [is_nil vl, decide_eq_false (by rw [← List.length_eq_zero_iff, bs_len]; exact hv0)]
            have hrq := hri wq (hL.below hbq)
            cases hR : rightP (bs ky) (bs vl)
            · have E : q = false := by rw [E2, hR]; simp
              rw [hR] at hrq
              subst E
              clear hst E2 hnx hq hd hmem hv0 hR
              go_wp2_with (go_at_call 9; refine hrq.mono ?_; rintro e w3 ⟨rfl, hb3⟩)
              all_goals go_ret
              all_goals exact ⟨rfl, hbq.trans (hb3.mono hbq.size)⟩
            · have E := hid (by rw [E2, hR, hnx, decide_eq_true (show vl.size ≠ 0 from hv0)]; rfl : q = ovB (preK l (k + 1)) (l.drop (k + 1)))
              rw [hR] at hrq
              clear hst E2 hnx hd hmem hv0 hR
              go_wp2_with (go_at_call 9; refine hrq.mono ?_; rintro e w3 ⟨rfl, hb3⟩)
              go_roundw
              case rel => exact ⟨k + 1, by go_num, by omega, hbq.trans (hb3.mono hbq.size), E⟩
              case measure => simp [RowKit.intOf]; omega
    · obtain rfl : k = n := by omega
      have E : q = true := by rw [hr.out, List.drop_eq_nil_iff.mpr (by rw [hl.out]; exact Nat.le_refl _)]; cases preK l k <;> rfl
      have hkI : ¬ (k : Int) < (k : Int) := by omega
      subst E
      clear hr hq
      go_wp2
      go_ret
      exact ⟨rfl, hb⟩

end Go.Proofs.YtkocnbdakfhpaaaGreatDoor

/-
  THE CHAPTER's EXAMPLE OF OVERLAYS, as the statements ask for it: it holds. Conditions: what the listed variables hold.
-/
namespace Go.Proofs.YtkocnbdakfhpaaaGreatDoor
open Go.ChangeShapes Go.WideShapes Go.ChangeAt Go.RowKit Go.Lib
set_option linter.unusedVariables false
set_option linter.unusedSimpArgs false
set_option maxRecDepth 20000

set_option maxHeartbeats 2000000 in
theorem say_path (v : ByteArray) {w : World} {g : Nat} {H : Array Value} (hH : Blk w g H 46) (hs : H.size = 14) :
    Calls Tryz.prog 46 #[.pointer (some ⟨g, 0, none⟩), .agg #[.string ⟨#[112, 97, 116, 104]⟩, .string v]] w fun e w' => e = .returned (.tuple #[]) ∧ Blk w' g (H.setIfInBounds 1 (.string v)) 46 ∧ (∀ B, B ≤ g → Below B w w') ∧ ∀ k, k ≠ g → k < w.heap.size → w'.heap[k]? = w.heap[k]? := by
  have hlt := hH.lt
  have hA : Blk (w.alloc (.cells #[.string ⟨#[112, 97, 116, 104]⟩, .string v] 23)) g H 46 := hH.below ((Below.refl w.heap.size w).alloc (Nat.le_refl _) _)
  have y1 := hA.free 1
  obtain ⟨u, x1⟩ : ∃ u, (w.alloc (.cells #[.string ⟨#[112, 97, 116, 104]⟩, .string v] 23)).cell? ⟨g, 1, none⟩ = some u := ⟨_, (hA.cell 1).trans (Array.getElem?_eq_getElem (by omega))⟩
  have hS := (hH.set (i := 1) (.string v)).below ((Below.refl _ (w.setCell ⟨g, 1, none⟩ (.string v))).alloc (Nat.le_refl _) (.cells #[.string ⟨#[112, 97, 116, 104]⟩, .string v] 23))
  have hbel : ∀ B, B ≤ g → Below B w ((w.setCell ⟨g, 1, none⟩ (.string v)).alloc (.cells #[.string ⟨#[112, 97, 116, 104]⟩, .string v] 23)) := fun B hB => ((Below.refl B w).setCell hB _).alloc (by simp; omega) _
  have hoth : ∀ k, k ≠ g → k < w.heap.size → ((w.setCell ⟨g, 1, none⟩ (.string v)).alloc (.cells #[.string ⟨#[112, 97, 116, 104]⟩, .string v] 23)).heap[k]? = w.heap[k]? := fun k hk hkl => by
    rw [Below.heap_alloc _ _ k (by simpa using hkl), Below.heap_setCell w ⟨g, 1, none⟩ _ k hk]
  clear hH hA hs
  go_enter Tryz.func46, Tryz.ntmps46
  go_wp2
  exact bodyPost_end (v := .tuple #[]) (by simp [results, Tryz.results46]) rfl ⟨rfl, hS, hbel, hoth⟩

theorem blk14 {w : World} {g : Nat} {t : TypeId} {h0 h1 h2 h3 h4 h5 h6 h7 h8 h9 h10 h11 h12 h13 : Value} (h : Blk w g #[h0, h1, h2, h3, h4, h5, h6, h7, h8, h9, h10, h11, h12, h13] t) :
    w.cell? ⟨g, 0, none⟩ = some h0 ∧ w.cell? ⟨g, 1, none⟩ = some h1 ∧ w.cell? ⟨g, 2, none⟩ = some h2 ∧ w.cell? ⟨g, 3, none⟩ = some h3 ∧ w.cell? ⟨g, 4, none⟩ = some h4 ∧ w.cell? ⟨g, 5, none⟩ = some h5 ∧ w.cell? ⟨g, 6, none⟩ = some h6 ∧ w.cell? ⟨g, 7, none⟩ = some h7 ∧ w.cell? ⟨g, 8, none⟩ = some h8 ∧ w.cell? ⟨g, 9, none⟩ = some h9 ∧ w.cell? ⟨g, 10, none⟩ = some h10 ∧ w.cell? ⟨g, 11, none⟩ = some h11 ∧ w.cell? ⟨g, 12, none⟩ = some h12 ∧ w.cell? ⟨g, 13, none⟩ = some h13 := by
  refine ⟨h.cell 0, h.cell 1, h.cell 2, h.cell 3, h.cell 4, h.cell 5, h.cell 6, h.cell 7, h.cell 8, h.cell 9, h.cell 10, h.cell 11, h.cell 12, h.cell 13⟩
theorem free14 {w : World} {g : Nat} {t : TypeId} {cs : Array Value} (h : Blk w g cs t) :
    w.frozen? ⟨g, 0, none⟩ = false ∧ w.frozen? ⟨g, 1, none⟩ = false ∧ w.frozen? ⟨g, 2, none⟩ = false ∧ w.frozen? ⟨g, 3, none⟩ = false ∧ w.frozen? ⟨g, 4, none⟩ = false ∧ w.frozen? ⟨g, 5, none⟩ = false ∧ w.frozen? ⟨g, 6, none⟩ = false ∧ w.frozen? ⟨g, 7, none⟩ = false ∧ w.frozen? ⟨g, 8, none⟩ = false ∧ w.frozen? ⟨g, 9, none⟩ = false ∧ w.frozen? ⟨g, 10, none⟩ = false ∧ w.frozen? ⟨g, 11, none⟩ = false ∧ w.frozen? ⟨g, 12, none⟩ = false ∧ w.frozen? ⟨g, 13, none⟩ = false := ⟨h.free 0, h.free 1, h.free 2, h.free 3, h.free 4, h.free 5, h.free 6, h.free 7, h.free 8, h.free 9, h.free 10, h.free 11, h.free 12, h.free 13⟩

theorem fill14 {w : World} {g : Nat} {t : TypeId} {z0 z1 z2 z3 z4 z5 z6 z7 z8 z9 z10 z11 z12 z13 : Value} (h : Blk w g #[z0, z1, z2, z3, z4, z5, z6, z7, z8, z9, z10, z11, z12, z13] t) (v0 v1 v2 v3 v4 v5 v6 v7 v8 v9 v10 v11 v12 v13 : Value) :
    Blk ((((((((((((((w.setCell ⟨g, 0, none⟩ v0).setCell ⟨g, 1, none⟩ v1).setCell ⟨g, 2, none⟩ v2).setCell ⟨g, 3, none⟩ v3).setCell ⟨g, 4, none⟩ v4).setCell ⟨g, 5, none⟩ v5).setCell ⟨g, 6, none⟩ v6).setCell ⟨g, 7, none⟩ v7).setCell ⟨g, 8, none⟩ v8).setCell ⟨g, 9, none⟩ v9).setCell ⟨g, 10, none⟩ v10).setCell ⟨g, 11, none⟩ v11).setCell ⟨g, 12, none⟩ v12).setCell ⟨g, 13, none⟩ v13) g #[v0, v1, v2, v3, v4, v5, v6, v7, v8, v9, v10, v11, v12, v13] t := by
  have k0 : Blk (w.setCell ⟨g, 0, none⟩ v0) g #[v0, z1, z2, z3, z4, z5, z6, z7, z8, z9, z10, z11, z12, z13] t := h.set (i := 0) v0
  have k1 : Blk ((w.setCell ⟨g, 0, none⟩ v0).setCell ⟨g, 1, none⟩ v1) g #[v0, v1, z2, z3, z4, z5, z6, z7, z8, z9, z10, z11, z12, z13] t := k0.set (i := 1) v1
  have k2 : Blk (((w.setCell ⟨g, 0, none⟩ v0).setCell ⟨g, 1, none⟩ v1).setCell ⟨g, 2, none⟩ v2) g #[v0, v1, v2, z3, z4, z5, z6, z7, z8, z9, z10, z11, z12, z13] t := k1.set (i := 2) v2
  have k3 : Blk ((((w.setCell ⟨g, 0, none⟩ v0).setCell ⟨g, 1, none⟩ v1).setCell ⟨g, 2, none⟩ v2).setCell ⟨g, 3, none⟩ v3) g #[v0, v1, v2, v3, z4, z5, z6, z7, z8, z9, z10, z11, z12, z13] t := k2.set (i := 3) v3
  have k4 : Blk (((((w.setCell ⟨g, 0, none⟩ v0).setCell ⟨g, 1, none⟩ v1).setCell ⟨g, 2, none⟩ v2).setCell ⟨g, 3, none⟩ v3).setCell ⟨g, 4, none⟩ v4) g #[v0, v1, v2, v3, v4, z5, z6, z7, z8, z9, z10, z11, z12, z13] t := k3.set (i := 4) v4
  have k5 : Blk ((((((w.setCell ⟨g, 0, none⟩ v0).setCell ⟨g, 1, none⟩ v1).setCell ⟨g, 2, none⟩ v2).setCell ⟨g, 3, none⟩ v3).setCell ⟨g, 4, none⟩ v4).setCell ⟨g, 5, none⟩ v5) g #[v0, v1, v2, v3, v4, v5, z6, z7, z8, z9, z10, z11, z12, z13] t := k4.set (i := 5) v5
  have k6 : Blk (((((((w.setCell ⟨g, 0, none⟩ v0).setCell ⟨g, 1, none⟩ v1).setCell ⟨g, 2, none⟩ v2).setCell ⟨g, 3, none⟩ v3).setCell ⟨g, 4, none⟩ v4).setCell ⟨g, 5, none⟩ v5).setCell ⟨g, 6, none⟩ v6) g #[v0, v1, v2, v3, v4, v5, v6, z7, z8, z9, z10, z11, z12, z13] t := k5.set (i := 6) v6
  have k7 : Blk ((((((((w.setCell ⟨g, 0, none⟩ v0).setCell ⟨g, 1, none⟩ v1).setCell ⟨g, 2, none⟩ v2).setCell ⟨g, 3, none⟩ v3).setCell ⟨g, 4, none⟩ v4).setCell ⟨g, 5, none⟩ v5).setCell ⟨g, 6, none⟩ v6).setCell ⟨g, 7, none⟩ v7) g #[v0, v1, v2, v3, v4, v5, v6, v7, z8, z9, z10, z11, z12, z13] t := k6.set (i := 7) v7
  have k8 : Blk (((((((((w.setCell ⟨g, 0, none⟩ v0).setCell ⟨g, 1, none⟩ v1).setCell ⟨g, 2, none⟩ v2).setCell ⟨g, 3, none⟩ v3).setCell ⟨g, 4, none⟩ v4).setCell ⟨g, 5, none⟩ v5).setCell ⟨g, 6, none⟩ v6).setCell ⟨g, 7, none⟩ v7).setCell ⟨g, 8, none⟩ v8) g #[v0, v1, v2, v3, v4, v5, v6, v7, v8, z9, z10, z11, z12, z13] t := k7.set (i := 8) v8
  have k9 : Blk ((((((((((w.setCell ⟨g, 0, none⟩ v0).setCell ⟨g, 1, none⟩ v1).setCell ⟨g, 2, none⟩ v2).setCell ⟨g, 3, none⟩ v3).setCell ⟨g, 4, none⟩ v4).setCell ⟨g, 5, none⟩ v5).setCell ⟨g, 6, none⟩ v6).setCell ⟨g, 7, none⟩ v7).setCell ⟨g, 8, none⟩ v8).setCell ⟨g, 9, none⟩ v9) g #[v0, v1, v2, v3, v4, v5, v6, v7, v8, v9, z10, z11, z12, z13] t := k8.set (i := 9) v9
  have k10 : Blk (((((((((((w.setCell ⟨g, 0, none⟩ v0).setCell ⟨g, 1, none⟩ v1).setCell ⟨g, 2, none⟩ v2).setCell ⟨g, 3, none⟩ v3).setCell ⟨g, 4, none⟩ v4).setCell ⟨g, 5, none⟩ v5).setCell ⟨g, 6, none⟩ v6).setCell ⟨g, 7, none⟩ v7).setCell ⟨g, 8, none⟩ v8).setCell ⟨g, 9, none⟩ v9).setCell ⟨g, 10, none⟩ v10) g #[v0, v1, v2, v3, v4, v5, v6, v7, v8, v9, v10, z11, z12, z13] t := k9.set (i := 10) v10
  have k11 : Blk ((((((((((((w.setCell ⟨g, 0, none⟩ v0).setCell ⟨g, 1, none⟩ v1).setCell ⟨g, 2, none⟩ v2).setCell ⟨g, 3, none⟩ v3).setCell ⟨g, 4, none⟩ v4).setCell ⟨g, 5, none⟩ v5).setCell ⟨g, 6, none⟩ v6).setCell ⟨g, 7, none⟩ v7).setCell ⟨g, 8, none⟩ v8).setCell ⟨g, 9, none⟩ v9).setCell ⟨g, 10, none⟩ v10).setCell ⟨g, 11, none⟩ v11) g #[v0, v1, v2, v3, v4, v5, v6, v7, v8, v9, v10, v11, z12, z13] t := k10.set (i := 11) v11
  have k12 : Blk (((((((((((((w.setCell ⟨g, 0, none⟩ v0).setCell ⟨g, 1, none⟩ v1).setCell ⟨g, 2, none⟩ v2).setCell ⟨g, 3, none⟩ v3).setCell ⟨g, 4, none⟩ v4).setCell ⟨g, 5, none⟩ v5).setCell ⟨g, 6, none⟩ v6).setCell ⟨g, 7, none⟩ v7).setCell ⟨g, 8, none⟩ v8).setCell ⟨g, 9, none⟩ v9).setCell ⟨g, 10, none⟩ v10).setCell ⟨g, 11, none⟩ v11).setCell ⟨g, 12, none⟩ v12) g #[v0, v1, v2, v3, v4, v5, v6, v7, v8, v9, v10, v11, v12, z13] t := k11.set (i := 12) v12
  have k13 : Blk ((((((((((((((w.setCell ⟨g, 0, none⟩ v0).setCell ⟨g, 1, none⟩ v1).setCell ⟨g, 2, none⟩ v2).setCell ⟨g, 3, none⟩ v3).setCell ⟨g, 4, none⟩ v4).setCell ⟨g, 5, none⟩ v5).setCell ⟨g, 6, none⟩ v6).setCell ⟨g, 7, none⟩ v7).setCell ⟨g, 8, none⟩ v8).setCell ⟨g, 9, none⟩ v9).setCell ⟨g, 10, none⟩ v10).setCell ⟨g, 11, none⟩ v11).setCell ⟨g, 12, none⟩ v12).setCell ⟨g, 13, none⟩ v13) g #[v0, v1, v2, v3, v4, v5, v6, v7, v8, v9, v10, v11, v12, v13] t := k12.set (i := 13) v13
  exact k13
theorem fill14_below {B : Nat} {a w : World} {g : Nat} (h : Below B a w) (hg : B ≤ g) (v0 v1 v2 v3 v4 v5 v6 v7 v8 v9 v10 v11 v12 v13 : Value) : Below B a ((((((((((((((w.setCell ⟨g, 0, none⟩ v0).setCell ⟨g, 1, none⟩ v1).setCell ⟨g, 2, none⟩ v2).setCell ⟨g, 3, none⟩ v3).setCell ⟨g, 4, none⟩ v4).setCell ⟨g, 5, none⟩ v5).setCell ⟨g, 6, none⟩ v6).setCell ⟨g, 7, none⟩ v7).setCell ⟨g, 8, none⟩ v8).setCell ⟨g, 9, none⟩ v9).setCell ⟨g, 10, none⟩ v10).setCell ⟨g, 11, none⟩ v11).setCell ⟨g, 12, none⟩ v12).setCell ⟨g, 13, none⟩ v13) := ((((((((((((((h.setCell (p := ⟨g, 0, none⟩) hg v0).setCell (p := ⟨g, 1, none⟩) hg v1).setCell (p := ⟨g, 2, none⟩) hg v2).setCell (p := ⟨g, 3, none⟩) hg v3).setCell (p := ⟨g, 4, none⟩) hg v4).setCell (p := ⟨g, 5, none⟩) hg v5).setCell (p := ⟨g, 6, none⟩) hg v6).setCell (p := ⟨g, 7, none⟩) hg v7).setCell (p := ⟨g, 8, none⟩) hg v8).setCell (p := ⟨g, 9, none⟩) hg v9).setCell (p := ⟨g, 10, none⟩) hg v10).setCell (p := ⟨g, 11, none⟩) hg v11).setCell (p := ⟨g, 12, none⟩) hg v12).setCell (p := ⟨g, 13, none⟩) hg v13)

theorem ex_ov : ovB none [((⟨#[112, 97, 116, 104]⟩ : ByteArray), (⟨#[97]⟩ : ByteArray))] = true := by decide +kernel

set_option maxHeartbeats 8000000 in
theorem apply_path {w : World} {b c : Nat} (hp : Pys w (some ⟨b, 0, none⟩) 1 c [(⟨#[112, 97, 116, 104]⟩, ⟨#[97]⟩)]) (hL : Laid w) (a0 : Int) (s1 s2 : ByteArray) (a3 a4 a5 a6 a7 a8 : Int) (s9 s10 : ByteArray) (a11 a12 : Int) (xa : Option Addr) (xn xc : Nat) :
    Calls Tryz.prog 27 #[.agg #[.int .i64 a0, .string s1, .string s2, .int .i64 a3, .int .i64 a4, .int .i64 a5, .int .i64 a6, .int .i64 a7, .int .i64 a8, .string s9, .string s10, .int .i64 a11, .int .i64 a12, .slice xa xn xc], .slice (some ⟨b, 0, none⟩) 1 c] w fun e w' => e = .returned (.tuple #[.agg #[.int .i64 a0, .string ⟨#[97]⟩, .string s2, .int .i64 a3, .int .i64 a4, .int .i64 a5, .int .i64 a6, .int .i64 a7, .int .i64 a8, .string s9, .string s10, .int .i64 a11, .int .i64 a12, .slice none 0 0], .int .u8 0]) ∧ Below w.heap.size w w' := by
  have hb0 := ((Below.refl w.heap.size w).alloc (Nat.le_refl _) (.cells #[.int .i64 a0, .string s1, .string s2, .int .i64 a3, .int .i64 a4, .int .i64 a5, .int .i64 a6, .int .i64 a7, .int .i64 a8, .string s9, .string s10, .int .i64 a11, .int .i64 a12, .slice xa xn xc] 46))
  have hb1 := hb0.alloc hb0.size (.cells #[.int .i64 0, .string ⟨#[]⟩, .string ⟨#[]⟩, .int .i64 0, .int .i64 0, .int .i64 0, .int .i64 0, .int .i64 0, .int .i64 0, .string ⟨#[]⟩, .string ⟨#[]⟩, .int .i64 0, .int .i64 0, .slice none 0 0] 46)
  have hA : Blk ((w.alloc (.cells #[.int .i64 a0, .string s1, .string s2, .int .i64 a3, .int .i64 a4, .int .i64 a5, .int .i64 a6, .int .i64 a7, .int .i64 a8, .string s9, .string s10, .int .i64 a11, .int .i64 a12, .slice xa xn xc] 46)).alloc (.cells #[.int .i64 0, .string ⟨#[]⟩, .string ⟨#[]⟩, .int .i64 0, .int .i64 0, .int .i64 0, .int .i64 0, .int .i64 0, .int .i64 0, .string ⟨#[]⟩, .string ⟨#[]⟩, .int .i64 0, .int .i64 0, .slice none 0 0] 46)) w.heap.size #[.int .i64 a0, .string s1, .string s2, .int .i64 a3, .int .i64 a4, .int .i64 a5, .int .i64 a6, .int .i64 a7, .int .i64 a8, .string s9, .string s10, .int .i64 a11, .int .i64 a12, .slice xa xn xc] 46 := (Blk.new w _ _).below ((Below.refl _ _).alloc (Nat.le_refl _) _)
  have hZ : Blk ((w.alloc (.cells #[.int .i64 a0, .string s1, .string s2, .int .i64 a3, .int .i64 a4, .int .i64 a5, .int .i64 a6, .int .i64 a7, .int .i64 a8, .string s9, .string s10, .int .i64 a11, .int .i64 a12, .slice xa xn xc] 46)).alloc (.cells #[.int .i64 0, .string ⟨#[]⟩, .string ⟨#[]⟩, .int .i64 0, .int .i64 0, .int .i64 0, .int .i64 0, .int .i64 0, .int .i64 0, .string ⟨#[]⟩, .string ⟨#[]⟩, .int .i64 0, .int .i64 0, .slice none 0 0] 46)) (w.heap.size + 1) #[.int .i64 0, .string ⟨#[]⟩, .string ⟨#[]⟩, .int .i64 0, .int .i64 0, .int .i64 0, .int .i64 0, .int .i64 0, .int .i64 0, .string ⟨#[]⟩, .string ⟨#[]⟩, .int .i64 0, .int .i64 0, .slice none 0 0] 46 := by
    have := Blk.new (w.alloc (.cells #[.int .i64 a0, .string s1, .string s2, .int .i64 a3, .int .i64 a4, .int .i64 a5, .int .i64 a6, .int .i64 a7, .int .i64 a8, .string s9, .string s10, .int .i64 a11, .int .i64 a12, .slice xa xn xc] 46)) #[.int .i64 0, .string ⟨#[]⟩, .string ⟨#[]⟩, .int .i64 0, .int .i64 0, .int .i64 0, .int .i64 0, .int .i64 0, .int .i64 0, .string ⟨#[]⟩, .string ⟨#[]⟩, .int .i64 0, .int .i64 0, .slice none 0 0] 46
    rwa [show (w.alloc (.cells #[.int .i64 a0, .string s1, .string s2, .int .i64 a3, .int .i64 a4, .int .i64 a5, .int .i64 a6, .int .i64 a7, .int .i64 a8, .string s9, .string s10, .int .i64 a11, .int .i64 a12, .slice xa xn xc] 46)).heap.size = w.heap.size + 1 by simp] at this
  have hri := oright_ok (hp.below hb1) (by intro p hp; simp at hp; subst hp; exact ⟨by decide, by decide⟩) (hL.below hb1)
  rw [ex_ov] at hri
  go_enter Tryz.func27, Tryz.ntmps27
  go_wp2_with (go_at_call 24; refine hri.mono ?_; rintro e w1 ⟨rfl, hw1⟩; have hA1 := hA.below hw1; have hZ1 := hZ.below hw1; have hacc := hb1.trans (hw1.mono hb1.size); have y13 := hA1.free 13; (have x13 : w1.cell? ⟨w.heap.size, 13, none⟩ = some (.slice xa xn xc) := hA1.cell 13))
  have hA2 : Blk (w1.setCell ⟨w.heap.size, 13, none⟩ (.slice none 0 0)) w.heap.size #[.int .i64 a0, .string s1, .string s2, .int .i64 a3, .int .i64 a4, .int .i64 a5, .int .i64 a6, .int .i64 a7, .int .i64 a8, .string s9, .string s10, .int .i64 a11, .int .i64 a12, .slice none 0 0] 46 := hA1.set (i := 13) (.slice none 0 0)
  have hZ2 : Blk (w1.setCell ⟨w.heap.size, 13, none⟩ (.slice none 0 0)) (w.heap.size + 1) #[.int .i64 0, .string ⟨#[]⟩, .string ⟨#[]⟩, .int .i64 0, .int .i64 0, .int .i64 0, .int .i64 0, .int .i64 0, .int .i64 0, .string ⟨#[]⟩, .string ⟨#[]⟩, .int .i64 0, .int .i64 0, .slice none 0 0] 46 := by
    unfold Blk
    rw [Below.heap_setCell w1 ⟨w.heap.size, 13, none⟩ _ (w.heap.size + 1) (by simp)]
    exact hZ1
  have hac2 := hacc.setCell (p := ⟨w.heap.size, 13, none⟩) (Nat.le_refl _) (.slice none 0 0)
  have hpc := hp.below hac2
  obtain ⟨-, hc1, hc2, ⟨hx, -⟩ | ⟨-, b', off', hbo, hc⟩⟩ := hpc
  · cases hx
  simp only [Option.some.injEq, Addr.mk.injEq, and_true] at hbo
  obtain ⟨rfl, rfl⟩ := hbo
  obtain ⟨c0, c1⟩ := hc 0 (by decide)
  (have c0' : (w1.setCell ⟨w.heap.size, 13, none⟩ (.slice none 0 0)).cell? ⟨b, 0, none⟩ = some (.string ⟨#[112, 97, 116, 104]⟩) := c0)
  (have c1' : (w1.setCell ⟨w.heap.size, 13, none⟩ (.slice none 0 0)).cell? ⟨b, 1, none⟩ = some (.string ⟨#[97]⟩) := c1)
  have hfr := (Below.refl _ (w1.setCell ⟨w.heap.size, 13, none⟩ (.slice none 0 0))).alloc (Nat.le_refl _) (.cells #[.string ⟨#[112, 97, 116, 104]⟩, .string ⟨#[97]⟩] 23)
  have hsay := say_path ⟨#[97]⟩ (hA2.below hfr) rfl
  have hac3 := hac2.alloc hac2.size (.cells #[.string ⟨#[112, 97, 116, 104]⟩, .string ⟨#[97]⟩] 23)
  have hsz := hac2.size
  have hl2 : w.heap.size + 1 < ((w1.setCell ⟨w.heap.size, 13, none⟩ (.slice none 0 0)).alloc (.cells #[.string ⟨#[112, 97, 116, 104]⟩, .string ⟨#[97]⟩] 23)).heap.size := by have := (hZ2.below hfr).lt; exact this
  clear c0 c1 hc hA1 hZ1 hA hZ y13 x13
  refine wp_loop_rounds 2 ?_
  rw [rounds_succ]
  go_wp2_with (go_at_call 46; refine hsay.mono ?_; rintro e w3 ⟨rfl, hA3', hbel3, hoth3⟩; (have hA3 : Blk w3 w.heap.size #[.int .i64 a0, .string ⟨#[97]⟩, .string s2, .int .i64 a3, .int .i64 a4, .int .i64 a5, .int .i64 a6, .int .i64 a7, .int .i64 a8, .string s9, .string s10, .int .i64 a11, .int .i64 a12, .slice none 0 0] 46 := hA3'); (have hZ3 : Blk w3 (w.heap.size + 1) #[.int .i64 0, .string ⟨#[]⟩, .string ⟨#[]⟩, .int .i64 0, .int .i64 0, .int .i64 0, .int .i64 0, .int .i64 0, .int .i64 0, .string ⟨#[]⟩, .string ⟨#[]⟩, .int .i64 0, .int .i64 0, .slice none 0 0] 46 := by (unfold Blk; rw [hoth3 _ (by omega) hl2]; exact hZ2.below hfr)); obtain ⟨b0, b1, b2, b3, b4, b5, b6, b7, b8, b9, b10, b11, b12, b13⟩ := blk14 hA3; obtain ⟨z0, z1, z2, z3, z4, z5, z6, z7, z8, z9, z10, z11, z12, z13⟩ := blk14 hZ3; obtain ⟨f0, f1, f2, f3, f4, f5, f6, f7, f8, f9, f10, f11, f12, f13⟩ := free14 hZ3; have hac4 := hac3.trans (hbel3 _ (Nat.le_refl _)))
  rw [rounds_succ]
  go_wp2
  have hF := fill14 hZ3 (.int .i64 a0) (.string ⟨#[97]⟩) (.string s2) (.int .i64 a3) (.int .i64 a4) (.int .i64 a5) (.int .i64 a6) (.int .i64 a7) (.int .i64 a8) (.string s9) (.string s10) (.int .i64 a11) (.int .i64 a12) (.slice none 0 0)
  have hB4 := fill14_below hac4 (Nat.le_succ w.heap.size) (.int .i64 a0) (.string ⟨#[97]⟩) (.string s2) (.int .i64 a3) (.int .i64 a4) (.int .i64 a5) (.int .i64 a6) (.int .i64 a7) (.int .i64 a8) (.string s9) (.string s10) (.int .i64 a11) (.int .i64 a12) (.slice none 0 0)
  obtain ⟨g0, g1, g2, g3, g4, g5, g6, g7, g8, g9, g10, g11, g12, g13⟩ := blk14 hF
  clear hF z0 z1 z2 z3 z4 z5 z6 z7 z8 z9 z10 z11 z12 z13 b0 b1 b2 b3 b4 b5 b6 b7 b8 b9 b10 b11 b12 b13 f0 f1 f2 f3 f4 f5 f6 f7 f8 f9 f10 f11 f12 f13
  refine bodyPost_ret (v := .tuple #[.agg #[.int .i64 a0, .string ⟨#[97]⟩, .string s2, .int .i64 a3, .int .i64 a4, .int .i64 a5, .int .i64 a6, .int .i64 a7, .int .i64 a8, .string s9, .string s10, .int .i64 a11, .int .i64 a12, .slice none 0 0], .int .u8 0]) ?_ rfl ⟨rfl, hB4⟩
  clear hB4
  generalize (World.setCell (World.setCell (World.setCell (World.setCell (World.setCell (World.setCell (World.setCell (World.setCell (World.setCell (World.setCell (World.setCell (World.setCell (World.setCell (World.setCell w3 ⟨w.heap.size + 1, 0, none⟩ (.int .i64 a0)) ⟨w.heap.size + 1, 1, none⟩ (.string ⟨#[97]⟩)) ⟨w.heap.size + 1, 2, none⟩ (.string s2)) ⟨w.heap.size + 1, 3, none⟩ (.int .i64 a3)) ⟨w.heap.size + 1, 4, none⟩ (.int .i64 a4)) ⟨w.heap.size + 1, 5, none⟩ (.int .i64 a5)) ⟨w.heap.size + 1, 6, none⟩ (.int .i64 a6)) ⟨w.heap.size + 1, 7, none⟩ (.int .i64 a7)) ⟨w.heap.size + 1, 8, none⟩ (.int .i64 a8)) ⟨w.heap.size + 1, 9, none⟩ (.string s9)) ⟨w.heap.size + 1, 10, none⟩ (.string s10)) ⟨w.heap.size + 1, 11, none⟩ (.int .i64 a11)) ⟨w.heap.size + 1, 12, none⟩ (.int .i64 a12)) ⟨w.heap.size + 1, 13, none⟩ (.slice none 0 0)) = W4 at g0 g1 g2 g3 g4 g5 g6 g7 g8 g9 g10 g11 g12 g13 ⊢
  simp [results, Tryz.results27, go_sem, g0, g1, g2, g3, g4, g5, g6, g7, g8, g9, g10, g11, g12, g13]

theorem ex_lay : layL (layL [] [((⟨#[112, 97, 116, 104]⟩ : ByteArray), (⟨#[97]⟩ : ByteArray))]) [((⟨#[112, 97, 116, 104]⟩ : ByteArray), (⟨#[]⟩ : ByteArray))] = [] := by decide +kernel

set_option maxHeartbeats 4000000 in
theorem alive8_ok (w : World) (hL : Laid w) : Calls Tryz.prog 18 #[] w fun e w' => e = .returned (.bool true) ∧ Below w.heap.size w w' := by
  have hb0 := (Below.refl w.heap.size w).alloc (Nat.le_refl _) (.cells #[.string ⟨#[112, 97, 116, 104]⟩, .string ⟨#[97]⟩] 23)
  have hpy := one_pys w ⟨#[112, 97, 116, 104]⟩ ⟨#[97]⟩
  have hap := apply_path hpy (hL.below hb0) 0 ⟨#[98]⟩ ⟨#[]⟩ 0 0 0 0 0 0 ⟨#[]⟩ ⟨#[]⟩ 0 0 none 0 0
  go_enter Tryz.func18, Tryz.ntmps18
  go_wp2_with (first
    | (go_at_call 27; refine hap.mono ?_; rintro e w1 ⟨rfl, hb1⟩; have hacc := hb0.trans (hb1.mono hb0.size); have hpy1 := hpy.below hb1; have hbh := (Below.refl w1.heap.size w1).alloc (Nat.le_refl _) (.cells #[.int .i64 0, .string ⟨#[97]⟩, .string ⟨#[]⟩, .int .i64 0, .int .i64 0, .int .i64 0, .int .i64 0, .int .i64 0, .int .i64 0, .string ⟨#[]⟩, .string ⟨#[]⟩, .int .i64 0, .int .i64 0, .slice none 0 0] 46); have hpy2 := hpy1.below hbh; have hbp := (Below.refl _ (w1.alloc (.cells #[.int .i64 0, .string ⟨#[97]⟩, .string ⟨#[]⟩, .int .i64 0, .int .i64 0, .int .i64 0, .int .i64 0, .int .i64 0, .int .i64 0, .string ⟨#[]⟩, .string ⟨#[]⟩, .int .i64 0, .int .i64 0, .slice none 0 0] 46))).alloc (Nat.le_refl _) (.cells #[.string ⟨#[112, 97, 116, 104]⟩, .string ⟨#[]⟩] 23); have hpy3 := hpy2.below hbp; have hly := laytwo_ok hpy3 (one_pys (w1.alloc (.cells #[.int .i64 0, .string ⟨#[97]⟩, .string ⟨#[]⟩, .int .i64 0, .int .i64 0, .int .i64 0, .int .i64 0, .int .i64 0, .int .i64 0, .string ⟨#[]⟩, .string ⟨#[]⟩, .int .i64 0, .int .i64 0, .slice none 0 0] 46)) ⟨#[112, 97, 116, 104]⟩ ⟨#[]⟩) (by omega) (by omega); rw [ex_lay, show (w1.alloc (.cells #[.int .i64 0, .string ⟨#[97]⟩, .string ⟨#[]⟩, .int .i64 0, .int .i64 0, .int .i64 0, .int .i64 0, .int .i64 0, .int .i64 0, .string ⟨#[]⟩, .string ⟨#[]⟩, .int .i64 0, .int .i64 0, .slice none 0 0] 46)).heap.size = w1.heap.size + 1 by simp] at hly; have hH := (Blk.new w1 #[.int .i64 0, .string ⟨#[97]⟩, .string ⟨#[]⟩, .int .i64 0, .int .i64 0, .int .i64 0, .int .i64 0, .int .i64 0, .int .i64 0, .string ⟨#[]⟩, .string ⟨#[]⟩, .int .i64 0, .int .i64 0, .slice none 0 0] 46).below hbp; have hac3 := (hacc.alloc hacc.size (.cells #[.int .i64 0, .string ⟨#[97]⟩, .string ⟨#[]⟩, .int .i64 0, .int .i64 0, .int .i64 0, .int .i64 0, .int .i64 0, .int .i64 0, .string ⟨#[]⟩, .string ⟨#[]⟩, .int .i64 0, .int .i64 0, .slice none 0 0] 46)); replace hac3 := hac3.alloc hac3.size (.cells #[.string ⟨#[112, 97, 116, 104]⟩, .string ⟨#[]⟩] 23))
    | (go_at_call 22; refine hly.mono ?_; rintro e w2 ⟨a2, m2, c2, rfl, hp2, hb2⟩; obtain rfl : m2 = 0 := hp2.1.symm; have hH2 := hH.below hb2; (have x1 : w2.cell? ⟨w1.heap.size, 1, none⟩ = some (.string ⟨#[97]⟩) := hH2.cell 1); have hfin := hac3.trans (hb2.mono hac3.size)))
  all_goals go_ret
  all_goals exact ⟨rfl, hfin⟩

end Go.Proofs.YtkocnbdakfhpaaaGreatDoor

/-
  WHAT FOLLOWS OF OVERLAYS, on lists: what is laid is an overlay; laying the same once more changes nothing; pairs of other keys stay. No condition.
-/
namespace Go.Proofs.YtkocnbdakfhpaaaGreatDoor
open Go.ChangeShapes Go.WideShapes Go.ChangeAt Go.RowKit Go.Lib
set_option linter.unusedVariables false
set_option linter.unusedSimpArgs false
set_option maxRecDepth 20000

theorem Ful.nil : Ful [] := fun q hq => by cases hq
theorem get_mem : ∀ (l : PL) (k v : ByteArray), getK l k = some v → (k, v) ∈ l
  | [], k, v, h => by cases h
  | q :: t, k, v, h => by
    rw [getK] at h
    split at h
    · rename_i e
      have : q.2 = v := Option.some.inj h
      rw [← e, ← this]
      exact List.mem_cons_self ..
    · exact List.mem_cons_of_mem _ (get_mem t k v h)
theorem get_of_mem : ∀ (l : PL) (k v : ByteArray), Srt l → (k, v) ∈ l → getK l k = some v
  | q :: t, k, v, hs, h => by
    rw [getK]
    rcases List.mem_cons.1 h with e | e
    · rw [← e, if_pos rfl]
    · have := hs.head (k, v) e
      rw [if_neg (kc_ne this)]
      exact get_of_mem t k v hs.tail e
theorem last_get : ∀ (l : PL) (k : ByteArray), Srt l → lastK l k = getK l k
  | [], k, _ => rfl
  | q :: t, k, hs => by
    rw [lastK, last_get t k hs.tail, getK]
    by_cases h : q.1 = k
    · rw [get_none t k (fun r hr => by rw [← h]; exact hs.head r hr), if_pos h]
    · rw [if_neg h, if_neg h]
      cases getK t k <;> rfl
theorem last_none : ∀ (l : PL) (k : ByteArray), getK l k = none → lastK l k = none
  | [], k, _ => rfl
  | q :: t, k, h => by
    rw [getK] at h
    split at h
    · cases h
    · rename_i e
      rw [lastK, last_none t k h, if_neg e]

/-- an overlay, laid over nothing, is itself -/
theorem lay_self (x : PL) (hs : Srt x) (hf : Ful x) : layL [] x = x := by
  refine srt_ext _ _ (layL_srt x [] Srt.nil) hs fun k => ?_
  rw [get_layL x [] k Srt.nil, last_get x k hs]
  cases h : getK x k with
  | none => rfl
  | some v => simp only; rw [if_neg (hf (k, v) (get_mem x k v h))]
/-- laying the same once more changes nothing -/
theorem lay_twice (l more : PL) (hs : Srt l) : layL (layL l more) more = layL l more := by
  have h1 := layL_srt more l hs
  refine srt_ext _ _ (layL_srt more _ h1) h1 fun k => ?_
  rw [get_layL more _ k h1, get_layL more l k hs]
  cases lastK more k <;> rfl
/-- pairs of other keys stay -/
theorem lay_stays (l more : PL) (hs : Srt l) (k v : ByteArray) (hm : (k, v) ∈ l) (hn : getK more k = none) : getK (layL l more) k = some v := by
  rw [get_layL more l k hs, last_none more k hn]
  exact get_of_mem l k v hs hm
theorem layL_mem : ∀ (ps l : PL) (q : ByteArray × ByteArray), q ∈ layL l ps → q ∈ l ∨ q ∈ ps
  | [], l, q, h => .inl h
  | p :: t, l, q, h => by
    rcases layL_mem t (layP l p) q h with e | e
    · rcases lay_mem l p q e with e | ⟨e, _⟩
      · exact .inl e
      · exact .inr (by rw [e]; exact List.mem_cons_self ..)
    · exact .inr (List.mem_cons_of_mem _ e)

/-- are all right? -/
def rgB (l : PL) : Bool := l.all fun p => rightP (bs p.1) (bs p.2)
theorem rgB_iff (l : PL) : rgB l = true ↔ Rgt l := by unfold rgB Rgt; rw [List.all_eq_true]
theorem rgB_drop {l : PL} {i : Nat} {k v : ByteArray} (h : l.drop i = (k, v) :: l.drop (i + 1)) : rgB (l.drop i) = (rightP (bs k) (bs v) && rgB (l.drop (i + 1))) := by rw [h]; rfl

end Go.Proofs.YtkocnbdakfhpaaaGreatDoor

/-
  WHETHER THE PAIRS ARE FEW. Conditions: how many bytes their texts may have together.
-/
namespace Go.Proofs.YtkocnbdakfhpaaaGreatDoor
open Go.ChangeShapes Go.WideShapes Go.ChangeAt Go.RowKit Go.Lib
set_option linter.unusedVariables false
set_option linter.unusedSimpArgs false
set_option maxRecDepth 20000

set_option maxHeartbeats 4000000 in
theorem few8_ok {w : World} {a : Option Addr} {n c : Nat} {l : List (ByteArray × ByteArray)} (h : Pys w a n c l) (ht : totN l ≤ 4611686018427387904) :
    Calls Tryz.prog 19 #[.slice a n c] w fun e w' => e = .returned (.bool (decide (n ≤ 40 ∧ totN l ≤ 3000))) ∧ Below w.heap.size w w' := by
  obtain ⟨hl, hlc, hm, ⟨rfl, rfl⟩ | ⟨h0, b, off, rfl, hc⟩⟩ := h
  · go_enter Tryz.func19, Tryz.ntmps19
    go_wp2
    refine wp_loop_rounds 1 ?_
    rw [rounds_succ]
    go_wp2
    go_ret
    exact ⟨rfl, Below.refl _ _⟩
  · obtain ⟨T, hT⟩ : ∃ T, T = totN l := ⟨_, rfl⟩
    rw [← hT] at ht ⊢
    have hl' := hid hl
    have hT' := hid hT
    clear hl hT
    go_enter Tryz.func19, Tryz.ntmps19
    go_wp2
    go_loopw [3, 4] (fun y x wr => ∃ (s k : Nat), y = .int .i64 s ∧ x = .int .i64 k ∧ Below w.heap.size w wr ∧ k ≤ n ∧ s ≤ T ∧ Hid (s + totN (l.drop k) = T)) (fun _ x _ => n - (RowKit.intOf x).toNat)
    case atStart => exact ⟨0, 0, rfl, rfl, Below.refl _ _, by omega, by omega, hid (by rw [hT'.out]; simp)⟩
    case round =>
      obtain ⟨s, k, rfl, rfl, hb, hk, hs, hr⟩ := hrel
      by_cases hlt : k < n
      · obtain ⟨ky, vl, hmem, hd, c0, c1⟩ := (hc.below hb).at k (by rw [hl'.out]; exact hlt)
        have hkI : (k : Int) < (n : Int) := by omega
        have E := hid (by have := hr.out; rw [hd.out, totN] at this; simp only at this; omega : s + ky.size + vl.size + totN (l.drop (k + 1)) = T)
        have hb1 : s + ky.size + vl.size ≤ T := by have := E.out; omega
        clear hr hd hmem
        go_wp2
        go_region
        go_wp2
        go_roundw
        case rel => exact ⟨s + ky.size + vl.size, k + 1, by go_num, by go_num, hb.drew, by omega, hb1, E⟩
        case measure => simp [RowKit.intOf]; omega
      · obtain rfl : k = n := by omega
        have E : s = T := by have := hr.out; rw [List.drop_eq_nil_iff.mpr (by rw [hl'.out]; exact Nat.le_refl _), totN] at this; omega
        subst E
        clear hr hT'
        by_cases g1 : k ≤ 40
        · by_cases g2 : s ≤ 3000
          · have i1 : (k : Int) ≤ 40 := by omega
            have i2 : (s : Int) ≤ 3000 := by omega
            go_wp2
            all_goals go_ret
            all_goals exact ⟨by simp [g1, g2], hb⟩
          · have i1 : (k : Int) ≤ 40 := by omega
            have i2 : ¬ (s : Int) ≤ 3000 := by omega
            go_wp2
            all_goals go_ret
            all_goals exact ⟨by simp [g1, g2], hb⟩
        · have i1 : ¬ (k : Int) ≤ 40 := by omega
          go_wp2
          all_goals go_ret
          all_goals exact ⟨by simp [g1], hb⟩

set_option maxHeartbeats 4000000 in
theorem few8_big {w : World} {a : Option Addr} {n c : Nat} {l : List (ByteArray × ByteArray)} (h : Pys w a n c l) (hn : 40 < n) :
    Calls Tryz.prog 19 #[.slice a n c] w fun e w' => e = .returned (.bool false) ∧ Below w.heap.size w w' := by
  obtain ⟨hl, hlc, hm, ⟨rfl, rfl⟩ | ⟨h0, b, off, rfl, hc⟩⟩ := h
  · omega
  · have hl' := hid hl
    clear hl
    go_enter Tryz.func19, Tryz.ntmps19
    go_wp2
    go_loopw [3, 4] (fun y x wr => ∃ (s : Int) (k : Nat), y = .int .i64 s ∧ x = .int .i64 k ∧ Below w.heap.size w wr ∧ k ≤ n) (fun _ x _ => n - (RowKit.intOf x).toNat)
    case atStart => exact ⟨0, 0, rfl, rfl, Below.refl _ _, by omega⟩
    case round =>
      obtain ⟨s, k, rfl, rfl, hb, hk⟩ := hrel
      by_cases hlt : k < n
      · obtain ⟨ky, vl, hmem, hd, c0, c1⟩ := (hc.below hb).at k (by rw [hl'.out]; exact hlt)
        have hkI : (k : Int) < (n : Int) := by omega
        clear hd hmem
        go_wp2
        go_region
        go_wp2
        go_roundw
        case rel => exact ⟨_, k + 1, rfl, by go_num, hb.drew, by omega⟩
        case measure => simp [RowKit.intOf]; omega
      · obtain rfl : k = n := by omega
        have i1 : ¬ (k : Int) ≤ 40 := by omega
        go_wp2
        all_goals go_ret
        all_goals exact ⟨rfl, hb⟩

theorem few8_all {w : World} {a : Option Addr} {n c : Nat} {l : List (ByteArray × ByteArray)} (h : Pys w a n c l) (hs : ∀ p ∈ l, p.1.size ≤ 140737488351232 ∧ p.2.size ≤ 140737488351232) :
    Calls Tryz.prog 19 #[.slice a n c] w fun e w' => e = .returned (.bool (decide (n ≤ 40 ∧ totN l ≤ 3000))) ∧ Below w.heap.size w w' := by
  by_cases hn : n ≤ 40
  · refine few8_ok h ?_
    have := tot_le 140737488351232 l hs
    have h1 := h.1
    omega
  · refine (few8_big h (by omega)).mono fun e w' ⟨h1, h2⟩ => ⟨?_, h2⟩
    rw [h1, decide_eq_false (by omega)]

end Go.Proofs.YtkocnbdakfhpaaaGreatDoor

/-
  THE DOCUMENT's WAY OF LAYING PAIRS, on lists: again and again the least key that is greater than the one ahead. No condition.
-/
namespace Go.Proofs.YtkocnbdakfhpaaaGreatDoor
open Go.ChangeShapes Go.WideShapes Go.ChangeAt Go.RowKit Go.Lib
set_option linter.unusedVariables false
set_option linter.unusedSimpArgs false
set_option maxRecDepth 20000

theorem layL_cat (a l m : PL) : layL (layL a l) m = layL a (l ++ m) := by unfold layL; rw [List.foldl_append]

/-- is a key behind the one ahead? -/
def gtK (f : Bool) (a k : ByteArray) : Bool := f || decide (kc a k < 0)
/-- is a key less than the least one so far? -/
def lsK (c : Option ByteArray) (k : ByteArray) : Bool := match c with | none => true | some m => decide (kc k m < 0)
/-- the least one so far -/
def upK (f : Bool) (a : ByteArray) (c : Option ByteArray) (k : ByteArray) : Option ByteArray :=
  if gtK f a k && lsK c k then some k else c
def mnK (f : Bool) (a : ByteArray) (c : Option ByteArray) (l : PL) : Option ByteArray := l.foldl (fun c q => upK f a c q.1) c

theorem mnK_cons (f : Bool) (a : ByteArray) (c : Option ByteArray) (q : ByteArray × ByteArray) (t : PL) : mnK f a c (q :: t) = mnK f a (upK f a c q.1) t := rfl
theorem kc_le_trans {a b c : ByteArray} (h1 : ¬ kc b a < 0) (h2 : ¬ kc c b < 0) : ¬ kc c a < 0 := fun h => by
  by_cases e : a = b
  · rw [← e] at h2; exact h2 h
  · have h3 : kc a b < 0 := kc_tri h1 (fun x => e x.symm)
    exact h2 (kc_trans h h3)

theorem mnK_spec (f : Bool) (a : ByteArray) : ∀ (l : PL) (c : Option ByteArray), (∀ m, c = some m → gtK f a m = true) →
    (match mnK f a c l with
     | none => c = none ∧ ∀ q ∈ l, gtK f a q.1 = false
     | some m => gtK f a m = true ∧ (c = some m ∨ ∃ q ∈ l, q.1 = m) ∧ (∀ q ∈ l, gtK f a q.1 = true → ¬ kc q.1 m < 0) ∧ ∀ m', c = some m' → ¬ kc m' m < 0)
  | [], c, hc => by
    cases c with
    | none =>
      show (none : Option ByteArray) = none ∧ ∀ q ∈ ([] : PL), gtK f a q.1 = false
      exact ⟨rfl, fun q hq => (by cases hq)⟩
    | some m =>
      show gtK f a m = true ∧ (some m = some m ∨ ∃ q ∈ ([] : PL), q.1 = m) ∧ (∀ q ∈ ([] : PL), gtK f a q.1 = true → ¬ kc q.1 m < 0) ∧ ∀ m', some m = some m' → ¬ kc m' m < 0
      exact ⟨hc m rfl, .inl rfl, fun q hq => (by cases hq), fun m' h => (by cases h; rw [kc_self]; omega)⟩
  | q :: t, c, hc => by
    rw [mnK_cons]
    by_cases hu : (gtK f a q.1 && lsK c q.1) = true
    · have e : upK f a c q.1 = some q.1 := by unfold upK; rw [if_pos hu]
      rw [Bool.and_eq_true] at hu
      have ih := mnK_spec f a t (some q.1) (fun m hm => by cases hm; exact hu.1)
      rw [e]
      cases hm : mnK f a (some q.1) t with
      | none => rw [hm] at ih; exact absurd ih.1 (by simp)
      | some m =>
        rw [hm] at ih
        simp only at ih ⊢
        obtain ⟨i1, i2, i3, i4⟩ := ih
        refine ⟨i1, ?_, ?_, ?_⟩
        · rcases i2 with h | ⟨r, hr, h⟩
          · exact .inr ⟨q, List.mem_cons_self .., by cases h; rfl⟩
          · exact .inr ⟨r, List.mem_cons_of_mem _ hr, h⟩
        · intro r hr hg
          rcases List.mem_cons.1 hr with h | h
          · rw [h]; exact i4 q.1 rfl
          · exact i3 r h hg
        · intro m' hm'
          subst hm'
          have h1 : kc q.1 m' < 0 := of_decide_eq_true hu.2
          have h2 := i4 q.1 rfl
          exact kc_le_trans h2 (fun h => by have := kc_trans h h1; rw [kc_self] at this; omega)
    · have e : upK f a c q.1 = c := by unfold upK; rw [if_neg hu]
      have ih := mnK_spec f a t c hc
      rw [e]
      cases hm : mnK f a c t with
      | none =>
        rw [hm] at ih
        simp only at ih ⊢
        obtain ⟨rfl, i2⟩ := ih
        refine ⟨rfl, fun r hr => ?_⟩
        rcases List.mem_cons.1 hr with h | h
        · rw [h]; cases hg : gtK f a q.1
          · rfl
          · rw [hg] at hu; exact absurd rfl hu
        · exact i2 r h
      | some m =>
        rw [hm] at ih
        simp only at ih ⊢
        obtain ⟨i1, i2, i3, i4⟩ := ih
        refine ⟨i1, ?_, ?_, i4⟩
        · rcases i2 with h | ⟨r, hr, h⟩
          · exact .inl h
          · exact .inr ⟨r, List.mem_cons_of_mem _ hr, h⟩
        · intro r hr hg
          rcases List.mem_cons.1 hr with h | h
          · rw [h] at hg ⊢
            cases c with
            | none => rw [hg] at hu; exact absurd rfl hu
            | some m' =>
              rw [hg] at hu
              have h1 : ¬ kc q.1 m' < 0 := fun x => hu (by simp [lsK, x])
              exact kc_le_trans (i4 m' rfl) h1
          · exact i3 r h hg

theorem get_filter (f : ByteArray → Bool) : ∀ (l : PL) (k : ByteArray), getK (l.filter fun q => f q.1) k = if f k then getK l k else none
  | [], k => by simp [getK]
  | q :: t, k => by
    have ih := get_filter f t k
    rw [List.filter_cons]
    by_cases hq : f q.1 = true
    · rw [if_pos hq, getK, getK, ih]
      by_cases e : q.1 = k
      · rw [if_pos e, if_pos e, ← e, if_pos hq]
      · rw [if_neg e, if_neg e]
    · rw [if_neg hq, ih, getK]
      by_cases e : q.1 = k
      · rw [← e, if_neg hq, if_neg hq]
      · rw [if_neg e]
theorem get_append : ∀ (a b : PL) (k : ByteArray), getK (a ++ b) k = match getK a k with | some v => some v | none => getK b k
  | [], b, k => rfl
  | q :: t, b, k => by
    rw [List.cons_append, getK, getK, get_append t b k]
    split <;> rfl

/-- what is told of an overlay up to a key -/
def prefK (f : Bool) (a : ByteArray) (R : PL) : PL := R.filter fun q => !gtK f a q.1
theorem pref_first (a : ByteArray) (R : PL) : prefK true a R = [] := by unfold prefK gtK; simp
theorem srt_filter (f : ByteArray × ByteArray → Bool) (R : PL) (h : Srt R) : Srt (R.filter f) := List.Pairwise.sublist List.filter_sublist h

/-- one key further -/
theorem pref_step (all : PL) (f : Bool) (a m : ByteArray) (hm : mnK f a none all = some m) :
    prefK false m (layL [] all) = prefK f a (layL [] all) ++ (match lastK all m with | some v => if v.size = 0 then [] else [(m, v)] | none => []) := by
  have hsp := mnK_spec f a all none (fun _ h => by cases h)
  rw [hm] at hsp
  simp only at hsp
  obtain ⟨s1, s2, s3, -⟩ := hsp
  have hR : Srt (layL [] all) := layL_srt all [] Srt.nil
  have hget := fun k => get_layL all [] k Srt.nil
  have hle : ∀ k, kc k m < 0 → gtK f a k = true → lastK all k = none := fun k hk hg => by
    cases h : lastK all k with
    | none => rfl
    | some v =>
      have : getK all k ≠ none := fun e => by rw [last_none all k e] at h; cases h
      cases h2 : getK all k with
      | none => exact absurd h2 this
      | some v2 =>
        have := get_mem all k v2 h2
        exact absurd hk (s3 (k, v2) this hg)
  have hT : ∀ k, getK (match lastK all m with | some v => if v.size = 0 then [] else [(m, v)] | none => []) k = if m = k then getK (layL [] all) k else none := fun k => by
    by_cases e : m = k
    · subst e
      rw [if_pos rfl, hget m]
      cases lastK all m with
      | none => rfl
      | some v =>
        simp only
        by_cases h0 : v.size = 0
        · rw [if_pos h0, if_pos h0]; rfl
        · rw [if_neg h0, if_neg h0, getK, if_pos rfl]
    · rw [if_neg e]
      cases lastK all m with
      | none => rfl
      | some v =>
        simp only
        by_cases h0 : v.size = 0
        · rw [if_pos h0]; rfl
        · rw [if_neg h0, getK, if_neg e]; rfl
  refine srt_ext _ _ (srt_filter _ _ hR) ?_ fun k => ?_
  · refine List.pairwise_append.2 ⟨srt_filter _ _ hR, ?_, ?_⟩
    · cases lastK all m with
      | none => exact Srt.nil
      | some v => simp only; split; exact Srt.nil; exact List.pairwise_singleton ..
    · intro x hx y hy
      have hxg : gtK f a x.1 = false := by
        have := (List.mem_filter.1 hx).2
        simpa using this
      have hym : y.1 = m := by
        cases h : lastK all m with
        | none => rw [h] at hy; cases hy
        | some v =>
          rw [h] at hy
          simp only at hy
          split at hy
          · cases hy
          · rw [List.mem_singleton.1 hy]
      rw [hym]
      unfold gtK at hxg s1
      cases f
      · simp only [Bool.false_or] at hxg s1
        have h1 : ¬ kc a x.1 < 0 := of_decide_eq_false hxg
        have h2 : kc a m < 0 := of_decide_eq_true s1
        by_cases e : a = x.1
        · rw [← e]; exact h2
        · exact kc_trans (kc_tri h1 e) h2
      · simp at hxg
  · rw [get_append]
    unfold prefK
    rw [get_filter (fun x => !gtK false m x), get_filter (fun x => !gtK f a x), hT]
    cases hg : gtK f a k
    · -- not behind the one ahead
      have hkm : gtK false m k = false := by
        unfold gtK at hg s1 ⊢
        cases f
        · simp only [Bool.false_or] at hg s1 ⊢
          have h1 : ¬ kc a k < 0 := of_decide_eq_false hg
          have h2 : kc a m < 0 := of_decide_eq_true s1
          exact decide_eq_false fun h3 => h1 (kc_trans h2 h3)
        · simp at hg
      rw [hkm]
      simp only [Bool.not_false, if_true]
      cases hx : getK (layL [] all) k with
      | some v => rfl
      | none => simp only; split <;> rfl
    · simp only [Bool.not_true, Bool.false_eq_true, if_false]
      by_cases e : m = k
      · subst e
        have : gtK false m m = false := by unfold gtK; rw [kc_self]; rfl
        rw [this, if_pos rfl]; rfl
      · rw [if_neg e]
        by_cases hlt : kc m k < 0
        · have : gtK false m k = true := by unfold gtK; rw [decide_eq_true hlt]; rfl
          rw [this]; rfl
        · have hkm : kc k m < 0 := kc_tri hlt e
          have : gtK false m k = false := by unfold gtK; rw [decide_eq_false hlt]; rfl
          rw [this, hget k, hle k hkm hg]; rfl

theorem pref_end (all : PL) (f : Bool) (a : ByteArray) (h : mnK f a none all = none) : prefK f a (layL [] all) = layL [] all := by
  have hsp := mnK_spec f a all none (fun _ h => by cases h)
  rw [h] at hsp
  simp only at hsp
  unfold prefK
  refine List.filter_eq_self.2 fun q hq => ?_
  rcases layL_mem all [] q hq with e | e
  · cases e
  · rw [hsp.2 q e]; rfl

/-- how many keys are behind the one ahead -/
def remK (all : PL) (f : Bool) (a : ByteArray) : Nat := (all.filter fun q => gtK f a q.1).length
theorem rem_less (all : PL) (f : Bool) (a m : ByteArray) (hm : mnK f a none all = some m) : remK all false m < remK all f a := by
  have hsp := mnK_spec f a all none (fun _ h => by cases h)
  rw [hm] at hsp
  simp only at hsp
  obtain ⟨s1, s2, s3, -⟩ := hsp
  obtain ⟨q, hq, hqm⟩ : ∃ q ∈ all, q.1 = m := by
    rcases s2 with h | h
    · cases h
    · exact h
  have himp : ∀ x : ByteArray × ByteArray, gtK false m x.1 = true → gtK f a x.1 = true := fun x hx => by
    unfold gtK at hx s1 ⊢
    cases f
    · simp only [Bool.false_or] at hx s1 ⊢
      exact decide_eq_true (kc_trans (of_decide_eq_true s1) (of_decide_eq_true hx))
    · rfl
  have hnm : gtK false m q.1 = false := by rw [hqm]; unfold gtK; rw [kc_self]; rfl
  have hgm : gtK f a q.1 = true := by rw [hqm]; exact s1
  have key : ∀ l : PL, (l.filter fun x => gtK false m x.1).length ≤ (l.filter fun x => gtK f a x.1).length ∧ (q ∈ l → (l.filter fun x => gtK false m x.1).length < (l.filter fun x => gtK f a x.1).length) := by
    intro l
    induction l with
    | nil => exact ⟨Nat.le_refl _, fun h => by cases h⟩
    | cons y t ih =>
      rw [List.filter_cons, List.filter_cons]
      by_cases h1 : gtK false m y.1 = true
      · rw [if_pos h1, if_pos (himp y h1), List.length_cons, List.length_cons]
        refine ⟨by omega, fun h => ?_⟩
        rcases List.mem_cons.1 h with e | e
        · rw [e] at hnm; rw [hnm] at h1; cases h1
        · have := ih.2 e; omega
      · rw [if_neg h1]
        by_cases h2 : gtK f a y.1 = true
        · rw [if_pos h2, List.length_cons]
          exact ⟨by omega, fun _ => by omega⟩
        · rw [if_neg h2]
          refine ⟨ih.1, fun h => ?_⟩
          rcases List.mem_cons.1 h with e | e
          · rw [e] at hgm; exact absurd hgm h2
          · exact ih.2 e
  exact (key all).2 hq

end Go.Proofs.YtkocnbdakfhpaaaGreatDoor

/-
  THE DOCUMENT's LAST VALUE OF A KEY, ITS LAYING OF PAIRS, AND THE BYTES OF PAIRS. Conditions: how many pairs there are, and how many bytes they have.
-/
namespace Go.Proofs.YtkocnbdakfhpaaaGreatDoor
open Go.ChangeShapes Go.WideShapes Go.ChangeAt Go.RowKit Go.Lib
set_option linter.unusedVariables false
set_option linter.unusedSimpArgs false
set_option maxRecDepth 20000

def lastV (o : Option ByteArray) : ByteArray := match o with | some v => v | none => ⟨#[]⟩
def lastB (o : Option ByteArray) : Bool := match o with | some v => decide (v.size ≠ 0) | none => false

theorem last_take_succ (l : PL) (i : Nat) (p : ByteArray × ByteArray) (h : l[i]? = some p) (k : ByteArray) : lastK (l.take (i + 1)) k = if p.1 = k then some p.2 else lastK (l.take i) k := by
  have key : ∀ (a : PL), lastK (a ++ [p]) k = if p.1 = k then some p.2 else lastK a k := by
    intro a
    induction a with
    | nil =>
      show (match lastK [] k with | some v => some v | none => if p.1 = k then some p.2 else none) = _
      rfl
    | cons q t ih =>
      rw [List.cons_append, lastK, ih, lastK]
      by_cases e : p.1 = k
      · rw [if_pos e, if_pos e]
      · rw [if_neg e, if_neg e]
  rw [List.take_add_one, h]
  exact key _

set_option maxHeartbeats 4000000 in
theorem rlast_ok {w : World} {a : Option Addr} {n c : Nat} {l : PL} (h : Pys w a n c l) (hn : n ≤ 1000000) (key : ByteArray) :
    Calls Tryz.prog 45 #[.slice a n c, .string key] w fun e w' => e = .returned (.tuple #[.string (lastV (lastK l key)), .bool (lastB (lastK l key))]) ∧ Below w.heap.size w w' := by
  have hm1 := h.2.1
  have hm2 := h.2.2.1
  obtain ⟨q, hq⟩ : ∃ q, q = lastK l key := ⟨_, rfl⟩
  rw [← hq]
  have hl := hid h.1
  have hq0 := hid (by rw [hq, List.take_of_length_le (by rw [h.1]; exact Nat.le_refl _)] : q = lastK (l.take n) key)
  clear hq
  go_enter Tryz.func45, Tryz.ntmps45
  go_wp2
  go_loopw [6] (fun x wr => ∃ k : Nat, x = .int .i64 ((k : Int) - 1) ∧ k ≤ n ∧ wr = w ∧ Hid (q = lastK (l.take k) key)) (fun x _ => ((RowKit.intOf x) + 1).toNat)
  case atStart => exact ⟨n, by go_num, Nat.le_refl _, rfl, hq0⟩
  case round =>
    obtain ⟨k, rfl, hk, hw0, hr⟩ := hrel
    obtain rfl := hw0.symm
    cases k with
    | zero =>
      have E : q = none := by rw [hr.out]; rfl
      subst E
      clear hr hq0
      go_wp2
      all_goals go_ret2
      all_goals exact ⟨rfl, Below.refl _ _⟩
    | succ k =>
      obtain ⟨b, off, rfl, hc⟩ := h.some_of (by omega)
      obtain ⟨ky, vl, hmem, hd, c0, c1⟩ := hc.at k (by rw [hl.out]; omega)
      have hkE : ((k + 1 : Nat) : Int) - 1 = (k : Int) := by omega
      have hkI : (k : Int) < (n : Int) := by omega
      have hls := last_take_succ l k (ky, vl) (drop_getp hd.out) key
      simp only at hls
      by_cases he : ky = key
      · have E : q = some vl := by rw [hr.out, hls, if_pos he]
        have hee : (ky.toList == key.toList) = true := by rw [he]; simp
        subst E
        clear hr hd hmem he hq0 hls
        by_cases hv : vl.size = 0
        · have hvz : vl.toList.isEmpty = true := by rw [is_nil vl, decide_eq_true (by rw [← List.length_eq_zero_iff, bs_len]; exact hv)]
          have hlb : Hid (lastB (some vl) = false) := hid (decide_eq_false (fun h => h hv))
          clear hv
          rw [hkE]
          go_wp2
          go_region
          all_goals go_wp2
          all_goals go_ret2
          all_goals exact ⟨by rw [hlb.out]; rfl, (Below.refl _ _).drew⟩
        · have hvz : vl.toList.isEmpty = false := by rw [is_nil vl, decide_eq_false (by rw [← List.length_eq_zero_iff, bs_len]; exact hv)]
          have hlb : Hid (lastB (some vl) = true) := hid (decide_eq_true hv)
          clear hv
          rw [hkE]
          go_wp2
          go_region
          all_goals go_wp2
          all_goals go_ret2
          all_goals exact ⟨by rw [hlb.out]; rfl, (Below.refl _ _).drew⟩
      · have E := hid (by rw [hr.out, hls, if_neg he] : q = lastK (l.take k) key)
        have hee : (ky.toList == key.toList) = false := by
          cases hh : (ky.toList == key.toList)
          · rfl
          · exact absurd (str_beq.1 hh) he
        clear hr hd hmem he hls
        rw [hkE]
        go_wp2
        go_roundw
        case rel => exact ⟨k, by go_num, by omega, by first | rfl | trivial, E⟩
        case measure => (simp [RowKit.intOf]) <;> omega

set_option maxHeartbeats 4000000 in
theorem obytes_ok {w : World} {a : Option Addr} {n c : Nat} {l : PL} (h : Pys w a n c l) (ht : totN l ≤ 4611686018427387904) :
    Calls Tryz.prog 26 #[.slice a n c] w fun e w' => e = .returned (.int .i64 (totN l)) ∧ Below w.heap.size w w' := by
  have hm1 := h.2.1
  have hm2 := h.2.2.1
  have hl := hid h.1
  obtain ⟨T, hT⟩ : ∃ T, T = totN l := ⟨_, rfl⟩
  rw [← hT] at ht ⊢
  replace hT := hid hT
  go_enter Tryz.func26, Tryz.ntmps26
  go_wp2
  go_loopw [3, 8] (fun y x wr => ∃ (s k : Nat), y = .int .i64 s ∧ x = .int .i64 k ∧ Below w.heap.size w wr ∧ k ≤ n ∧ s ≤ T ∧ Hid (s + totN (l.drop k) = T)) (fun _ x _ => n - (RowKit.intOf x).toNat)
  case atStart => exact ⟨0, 0, rfl, rfl, Below.refl _ _, by omega, by omega, hid (by rw [hT.out]; simp)⟩
  case round =>
    obtain ⟨s, k, rfl, rfl, hb, hk, hs, hr⟩ := hrel
    by_cases hlt : k < n
    · obtain ⟨b, off, rfl, hc⟩ := h.some_of (by omega)
      obtain ⟨ky, vl, hmem, hd, c0, c1⟩ := (hc.below hb).at k (by rw [hl.out]; exact hlt)
      have hkI : (k : Int) < (n : Int) := by omega
      have E := hid (by have := hr.out; rw [hd.out, totN] at this; simp only at this; omega : s + ky.size + vl.size + totN (l.drop (k + 1)) = T)
      have hb1 : s + ky.size + vl.size ≤ T := by have := E.out; omega
      have hbn := hb.alloc hb.size (.cells #[.string ky, .string vl] 23)
      have hw1 : IntKind.i64.wrap ((ky.size : Int) + (vl.size : Int)) = (ky.size : Int) + (vl.size : Int) := by rw [IntKind.wrap_i64]; omega
      have hw2 : IntKind.i64.wrap ((s : Int) + ((ky.size : Int) + (vl.size : Int))) = (s : Int) + ((ky.size : Int) + (vl.size : Int)) := by rw [IntKind.wrap_i64]; omega
      clear hr hd hmem
      go_wp2
      go_roundw
      case rel => exact ⟨s + ky.size + vl.size, k + 1, by go_num, by go_num, hbn, by omega, hb1, E⟩
      case measure => simp [RowKit.intOf]; omega
    · obtain rfl : k = n := by omega
      have E : s = T := by have := hr.out; rw [List.drop_eq_nil_iff.mpr (by rw [hl.out]; exact Nat.le_refl _), totN] at this; omega
      have hkI : ¬ (k : Int) < (k : Int) := by omega
      subst E
      clear hr hT
      go_wp2
      go_ret
      exact ⟨rfl, hb⟩

end Go.Proofs.YtkocnbdakfhpaaaGreatDoor

/-
  THE DOCUMENT's LAYING OF PAIRS. Conditions: how many pairs there are.
-/
namespace Go.Proofs.YtkocnbdakfhpaaaGreatDoor
open Go.ChangeShapes Go.WideShapes Go.ChangeAt Go.RowKit Go.Lib
set_option linter.unusedVariables false
set_option linter.unusedSimpArgs false
set_option maxRecDepth 20000

theorem str_lss {P : Program} (w : World) (t : TypeId) (a b : ByteArray) : (binOp .lss t (.string a) (.string b)).run P w = .ok (.bool (decide (kc a b < 0))) w := by
  rw [← less_kc]
  simp [binOp, Op.stringOp]
theorem str_gtr {P : Program} (w : World) (t : TypeId) (a b : ByteArray) : (binOp .gtr t (.string a) (.string b)).run P w = .ok (.bool (decide (kc b a < 0))) w := by
  have h : (!(Op.bytesLess a.toList b.toList || a.toList == b.toList)) = decide (kc b a < 0) := by
    rw [less_kc]
    by_cases h1 : kc a b < 0
    · have h2 : ¬ kc b a < 0 := fun h => by have := kc_trans h1 h; rw [kc_self] at this; omega
      rw [decide_eq_true h1, decide_eq_false h2]; rfl
    · rw [decide_eq_false h1]
      by_cases e : a = b
      · subst e
        rw [kc_self]; simp
      · rw [decide_eq_true (kc_tri h1 e)]
        have : (a.toList == b.toList) = false := by
          cases hh : (a.toList == b.toList)
          · rfl
          · exact absurd (str_beq.1 hh) e
        rw [this]; rfl
  rw [← h]
  simp [binOp, Op.stringOp]

theorem pys_news' {w : World} {x : Addr} {n c : Nat} {l : PL} (h : Pys w (some x) n c l) : ∀ j u, (pcs2 l)[j]? = some u → w.cell? (x.add j) = some u := by
  obtain ⟨hl, hlc, hm, ⟨rfl, rfl⟩ | ⟨h0, b, off, e, hc⟩⟩ := h
  · intro j u hj; simp [pcs2] at hj
  · intro j u hj
    simp only [Option.some.injEq] at e
    subst e
    have hjl : j < l.length * 2 := by have := (List.getElem?_eq_some_iff.1 hj).1; rwa [pcs2_len] at this
    obtain ⟨p1, p2⟩ := pcs2_at l (j / 2) (by omega)
    obtain ⟨c1, c2⟩ := hc (j / 2) (by omega)
    rw [Addr.add_lit]
    rcases Nat.mod_two_eq_zero_or_one j with e | e
    · have hj2 : j / 2 * 2 = j := by omega
      rw [hj2] at p1 c1
      rw [c1, ← p1, hj]
    · have hj2 : j / 2 * 2 + 1 = j := by omega
      rw [hj2] at p2
      rw [show off + j / 2 * 2 + 1 = off + j by omega] at c2
      rw [c2, ← p2, hj]

def boolV (v : Value) : Bool := match v with | .bool b => b | _ => false
def txtV (v : Value) : ByteArray := match v with | .string s => s | _ => ⟨#[]⟩

set_option maxHeartbeats 8000000 in
theorem rlay_ok {w : World} {a a' : Option Addr} {n c n' c' : Nat} {l more : PL} (hP : Pys w a n c l) (hQ : Pys w a' n' c' more) (hn : n ≤ 1000) (hn' : n' ≤ 1000) (hnl : a = none → n = 0 ∧ c = 0) (hnl' : a' = none → n' = 0 ∧ c' = 0) :
    Calls Tryz.prog 23 #[.slice a n c, .slice a' n' c'] w fun e w' => ∃ a2 m c2, e = .returned (.slice a2 m c2) ∧ Pys w' a2 m c2 (layL [] (l ++ more)) ∧ Below w.heap.size w w' := by
  obtain ⟨i0, hi0, hz0, hz1, hz2⟩ := info_parts infoPair
  obtain ⟨all, hall⟩ : ∃ all, all = l ++ more := ⟨_, rfl⟩
  rw [← hall]
  obtain ⟨RR, hRR⟩ : ∃ RR, RR = layL [] all := ⟨_, rfl⟩
  rw [← hRR]
  replace hall := hid hall
  replace hRR := hid hRR
  have hpc := hP.2.1
  have hpm := hP.2.2.1
  have hqc := hQ.2.1
  have hqm := hQ.2.2.1
  have hln := hid hP.1
  have hqn := hid hQ.1
  have hlit := World.ownsRow_lit (base := w.heap.size) (e := 23) (size := 2) w #[] 0 (Nat.le_refl _) (by unfold maxLen; omega) rfl
  have hbl := (Below.refl w.heap.size w).alloc (Nat.le_refl _) (.cells #[] 23)
  go_enter Tryz.func23, Tryz.ntmps23
  go_upto_region 1 with fail
  go_cut [5] (fun v wc => ∃ aw nw cw, v = .slice aw nw cw ∧ Pys wc aw nw cw all ∧ Below w.heap.size w wc)
  case first =>
    cases a with
    | none =>
      obtain ⟨rfl, rfl⟩ := hnl rfl
      have hl0 : l = [] := by have := hln.out; simpa using this
      cases a' with
      | none =>
        obtain ⟨rfl, rfl⟩ := hnl' rfl
        have hm0 : more = [] := by have := hqn.out; simpa using this
        go_wp2
        go_meet
        case rel => exact ⟨_, _, _, rfl, by rw [hall.out, hl0, hm0]; exact ⟨rfl, Nat.le_refl _, by omega, .inl ⟨rfl, rfl⟩⟩, hbl⟩
      | some ad' =>
        have hnw := pys_news' (hQ.below hbl)
        go_wp2_with (at_builtin; refine wpList_append_own (P := Tryz.prog) _ rfl (.tmp 17) (.tmp 18) 26 rfl w.heap.size 23 i0 (.agg #[.string ⟨#[]⟩, .string ⟨#[]⟩]) 2 32 Tryz.underlying26 hi0 hz0 hz1 hz2 rfl (by decide) _ _ _ rfl hlit ad' n' c' (pcs2 more) rfl (by rw [pcs2_len, hqn.out]) hnw (pcs2_one more) (by unfold maxLen; omega) (by omega) hbl.size ?_; intro v' wA hown' hgrow' _; rw [Nat.zero_add, List.nil_append] at hown'; obtain ⟨aw, cw, rfl, hpw⟩ := own_pys hown' hqn.out; have hacA := hbl.grown hgrow' hbl.size (fun g hg => (hlit.lt g hg).1))
        go_meet
        case rel => exact ⟨_, _, _, rfl, by rw [hall.out, hl0, List.nil_append]; exact hpw, hacA⟩
    | some ad =>
      have hnw := pys_news' (hP.below hbl)
      cases a' with
      | none =>
        obtain ⟨rfl, rfl⟩ := hnl' rfl
        have hm0 : more = [] := by have := hqn.out; simpa using this
        go_wp2_with (first
          | (at_builtin; refine wpList_append_own (P := Tryz.prog) _ rfl (.tmp 15) (.tmp 16) 26 rfl w.heap.size 23 i0 (.agg #[.string ⟨#[]⟩, .string ⟨#[]⟩]) 2 32 Tryz.underlying26 hi0 hz0 hz1 hz2 rfl (by decide) _ _ _ rfl hlit ad n c (pcs2 l) rfl (by rw [pcs2_len, hln.out]) hnw (pcs2_one l) (by unfold maxLen; omega) (by omega) hbl.size ?_; intro v' wA hown' hgrow' _; rw [Nat.zero_add, List.nil_append] at hown'; have hacA := hbl.grown hgrow' hbl.size (fun g hg => (hlit.lt g hg).1))
          | (at_builtin; refine wpList_append_own_none (P := Tryz.prog) rfl (.tmp 17) (.tmp 18) 26 rfl w.heap.size 23 i0 2 Tryz.underlying26 hi0 _ _ _ rfl hown' rfl ?_; obtain ⟨aw, cw, hvw, hpw⟩ := own_pys hown' hln.out))
        go_meet
        case rel => exact ⟨_, _, _, rfl, by rw [hall.out, hm0, List.append_nil]; exact hpw, hacA⟩
      | some ad' =>
        go_wp2_with (first
          | (at_builtin; refine wpList_append_own (P := Tryz.prog) _ rfl (.tmp 15) (.tmp 16) 26 rfl w.heap.size 23 i0 (.agg #[.string ⟨#[]⟩, .string ⟨#[]⟩]) 2 32 Tryz.underlying26 hi0 hz0 hz1 hz2 rfl (by decide) _ _ _ rfl hlit ad n c (pcs2 l) rfl (by rw [pcs2_len, hln.out]) hnw (pcs2_one l) (by unfold maxLen; omega) (by omega) hbl.size ?_; intro v' wA hown' hgrow' _; rw [Nat.zero_add, List.nil_append] at hown'; have hacA := hbl.grown hgrow' hbl.size (fun g hg => (hlit.lt g hg).1); have hnw2 := pys_news' (hQ.below hacA))
          | (at_builtin; refine wpList_append_own (P := Tryz.prog) _ rfl (.tmp 17) (.tmp 18) 26 rfl w.heap.size 23 i0 (.agg #[.string ⟨#[]⟩, .string ⟨#[]⟩]) 2 32 Tryz.underlying26 hi0 hz0 hz1 hz2 rfl (by decide) _ _ _ rfl hown' ad' n' c' (pcs2 more) rfl (by rw [pcs2_len, hqn.out]) hnw2 (pcs2_one more) (by unfold maxLen; omega) (by omega) hacA.size ?_; intro v'' wB hown'' hgrow'' _; rw [← pcs2_cat] at hown''; obtain ⟨aw, cw, rfl, hpw⟩ := own_pys hown'' (by rw [List.length_append, hln.out, hqn.out]); have hacB := hacA.grown hgrow'' hacA.size (fun g hg => (hown'.lt g hg).1)))
        go_meet
        case rel => exact ⟨_, _, _, rfl, by rw [hall.out]; exact hpw, hacB⟩
  case rest =>
    obtain ⟨aw, nw, cw, rfl, hW, hacc⟩ := hcut
    have hnw : nw ≤ 2000 := by have := hW.1; rw [hall.out, List.length_append, hln.out, hqn.out] at this; omega
    have hwc := hW.2.1
    have hwm := hW.2.2.1
    have hwn := hid hW.1
    have hRlen : RR.length ≤ nw := by have := layL_len all []; rw [← hRR.out, hwn.out] at this; simpa using this
    have h00 := hid (by rw [pref_first] : ([] : PL) = prefK true ⟨#[]⟩ RR)
    have hown0 := World.ownsRow_nil wc wc.heap.size 23 2
    clear hlit hbl hpc hpm hqc hqm
    go_wp2
    go_loopw [6, 7, 8] (fun y6 y7 y8 wr => ∃ (o : Value) (ah : ByteArray) (f : Bool) (acc : PL), y6 = o ∧ y7 = .string ah ∧ y8 = .bool f ∧ wr.ownsRow wc.heap.size 23 2 o acc.length (pcs2 acc) ∧ acc.length ≤ 2000 ∧ Below wc.heap.size wc wr ∧ Hid (acc = prefK f ah RR)) (fun _ y7 y8 _ => remK all (boolV y8) (txtV y7))
    case atStart => exact ⟨_, ⟨#[]⟩, true, [], rfl, rfl, rfl, hown0, by simp, Below.refl _ _, h00⟩
    case round =>
      obtain ⟨o, ah, f, acc, rfl, rfl, rfl, hown, hal, hb, hacc2⟩ := hrel
      have hWr := hW.below hb
      go_upto_block 2 with fail
      go_cut [9, 10] (fun y z wd => wd = wr ∧ ∃ mo : Option ByteArray, y = .string (lastV mo) ∧ z = .bool mo.isSome ∧ Hid (mo = mnK f ah none all))
      case first =>
        go_wp2
        go_loopw [9, 10, 11] (fun y z x w1 => ∃ (i : Nat) (mo : Option ByteArray), y = .string (lastV mo) ∧ z = .bool mo.isSome ∧ x = .int .i64 i ∧ i ≤ nw ∧ w1 = wr ∧ Hid (mnK f ah none all = mnK f ah mo (all.drop i))) (fun _ _ x _ => nw - (RowKit.intOf x).toNat)
        case atStart => exact ⟨0, none, rfl, rfl, rfl, by omega, rfl, hid (by simp)⟩
        case round =>
          obtain ⟨i, mo, rfl, rfl, rfl, hi, hw1, hr⟩ := hrel
          obtain rfl := hw1.symm
          by_cases hlt : i < nw
          · obtain ⟨b, off, hae, hc⟩ := hWr.some_of (by omega)
            subst hae
            obtain ⟨ky, vl, hmem, hd, c0, c1⟩ := hc.at i (by rw [hwn.out]; exact hlt)
            have hiI : (i : Int) < (nw : Int) := by omega
            have hgt := fun (w : World) => str_gtr (P := Tryz.prog) w 9 ky ah
            have hup := hid (by rw [hr.out, hd.out, mnK_cons] : mnK f ah none all = mnK f ah (upK f ah mo ky) (all.drop (i + 1)))
            clear hr hd hmem
            cases hG : gtK f ah ky
            · -- not behind
              have hf0 : f = false := by unfold gtK at hG; cases f; rfl; simp at hG
              subst hf0
              have hkc : decide (kc ah ky < 0) = false := by simpa [gtK] using hG
              rw [hkc] at hgt
              have E := hid (by rw [hup.out]; unfold upK; rw [hG]; rfl : mnK false ah none all = mnK false ah mo (all.drop (i + 1)))
              clear hup hG hkc
              go_wp2
              go_roundw
              case rel => exact ⟨i + 1, mo, rfl, rfl, by go_num, by omega, by first | rfl | trivial, E⟩
              case measure => simp [RowKit.intOf]; omega
            · have hfk : f = true ∨ (f = false ∧ decide (kc ah ky < 0) = true) := by
                unfold gtK at hG
                cases f
                · exact .inr ⟨rfl, by simpa using hG⟩
                · exact .inl rfl
              cases mo with
              | none =>
                have E := hid (by rw [hup.out]; unfold upK; rw [hG]; rfl : mnK f ah none all = mnK f ah (some ky) (all.drop (i + 1)))
                clear hup hG
                rcases hfk with rfl | ⟨rfl, hkc⟩
                · go_wp2
                  go_roundw
                  case rel => exact ⟨i + 1, some ky, rfl, rfl, by go_num, by omega, by first | rfl | trivial, E⟩
                  case measure => simp [RowKit.intOf]; omega
                · rw [hkc] at hgt
                  clear hkc
                  go_wp2
                  go_roundw
                  case rel => exact ⟨i + 1, some ky, rfl, rfl, by go_num, by omega, by first | rfl | trivial, E⟩
                  case measure => simp [RowKit.intOf]; omega
              | some m =>
                have hls := less_kc ky m
                have hlv : lastV (some m) = m := rfl
                rw [hlv]
                cases hk2 : decide (kc ky m < 0)
                · have E := hid (by rw [hup.out]; unfold upK lsK; rw [hG]; simp only [hk2]; rfl : mnK f ah none all = mnK f ah (some m) (all.drop (i + 1)))
                  rw [hk2] at hls
                  clear hup hG hk2 hlv
                  rcases hfk with rfl | ⟨rfl, hkc⟩
                  · go_wp2
                    go_roundw
                    case rel => exact ⟨i + 1, some m, rfl, rfl, by go_num, by omega, by first | rfl | trivial, E⟩
                    case measure => simp [RowKit.intOf]; omega
                  · rw [hkc] at hgt
                    clear hkc
                    go_wp2
                    go_roundw
                    case rel => exact ⟨i + 1, some m, rfl, rfl, by go_num, by omega, by first | rfl | trivial, E⟩
                    case measure => simp [RowKit.intOf]; omega
                · have E := hid (by rw [hup.out]; unfold upK lsK; rw [hG]; simp only [hk2]; rfl : mnK f ah none all = mnK f ah (some ky) (all.drop (i + 1)))
                  rw [hk2] at hls
                  clear hup hG hk2 hlv
                  rcases hfk with rfl | ⟨rfl, hkc⟩
                  · go_wp2
                    go_roundw
                    case rel => exact ⟨i + 1, some ky, rfl, rfl, by go_num, by omega, by first | rfl | trivial, E⟩
                    case measure => simp [RowKit.intOf]; omega
                  · rw [hkc] at hgt
                    clear hkc
                    go_wp2
                    go_roundw
                    case rel => exact ⟨i + 1, some ky, rfl, rfl, by go_num, by omega, by first | rfl | trivial, E⟩
                    case measure => simp [RowKit.intOf]; omega
          · obtain rfl : i = nw := by omega
            have hiI : ¬ (i : Int) < (i : Int) := by omega
            have E := hid (by rw [hr.out, show all.drop i = [] from List.drop_eq_nil_iff.mpr (by rw [hwn.out]; exact Nat.le_refl _)]; rfl : mnK f ah none all = mo)
            clear hr
            go_wp2
            go_meet
            case rel => exact ⟨rfl, mo, rfl, rfl, hid E.out.symm⟩
      case rest =>
        obtain ⟨hwd, mo, rfl, rfl, hmo⟩ := hcut
        obtain rfl := hwd.symm
        cases mo with
        | none =>
          have E : acc = RR := by rw [hacc2.out, hRR.out]; exact pref_end all f ah hmo.out.symm
          obtain ⟨ao, co, hvo, hpo⟩ := own_pys hown rfl
          subst hvo
          have hac9 := hacc.trans (hb.mono hacc.size)
          clear hacc2 hmo hown hRR
          subst E
          go_wp2
          all_goals go_ret
          all_goals exact ⟨_, _, _, rfl, hpo, hac9⟩
        | some m =>
          have hla := rlast_ok hWr (by omega) m
          have hps := pref_step all f ah m hmo.out.symm
          rw [← hRR.out, ← hacc2.out] at hps
          have hrl := hid (rem_less all f ah m hmo.out.symm)
          have hpl : (prefK false m RR).length ≤ 2000 := by have := List.length_filter_le (fun q : ByteArray × ByteArray => !gtK false m q.1) RR; unfold prefK; omega
          have hlv : lastV (some m) = m := rfl
          rw [hlv]
          clear hmo hacc2 hlv
          by_cases hap : ∃ v, lastK all m = some v ∧ v.size ≠ 0
          · obtain ⟨v, hlk, hv0⟩ := hap
            rw [hlk] at hps hla
            simp only at hps
            rw [if_neg hv0] at hps
            rw [show lastV (some v) = v from rfl, show lastB (some v) = true from decide_eq_true hv0] at hla
            have E := hid hps.symm
            have hpl2 : acc.length + 1 ≤ 2000 := by rw [hps, List.length_append] at hpl; simpa using hpl
            clear hps hlk hv0 hpl
            go_wp2_with (first
              | (go_at_call 45; refine hla.mono ?_; rintro e w5 ⟨rfl, hb5⟩; have how := own_below hb5 hown; have hbn := hb.trans (hb5.mono hb.size); have hbA := hbn.alloc hbn.size (.cells #[.string m, .string v] 23))
              | (at_builtin; refine wpList_append_own (P := Tryz.prog) _ rfl (.tmp 57) (.tmp 61) 26 rfl wc.heap.size 23 i0 (.agg #[.string ⟨#[]⟩, .string ⟨#[]⟩]) 2 32 Tryz.underlying26 hi0 hz0 hz1 hz2 rfl (by decide) _ _ _ rfl (how.alloc _) ⟨w5.heap.size, 0, none⟩ 1 1 [.string m, .string v] rfl rfl (pair_new w5 m v) (by intro z hz; simp at hz; rcases hz with rfl | rfl <;> rfl) (by unfold maxLen; omega) (by omega) hbA.size ?_; intro v' w6 hown' hgrow' _))
            go_roundw
            case rel =>
              refine ⟨_, m, false, acc ++ [(m, v)], rfl, rfl, rfl, ?_, by rw [List.length_append, List.length_cons, List.length_nil]; exact hpl2, ?_, E⟩
              · rw [pcs2_app, List.length_append]; exact hown'
              · exact hbA.grown hgrow' hbA.size (fun g hg => (how.lt g hg).1)
            case measure => exact hrl.out
          · have hps2 : prefK false m RR = acc := by
              rw [hps]
              cases hlk : lastK all m with
              | none => simp
              | some v =>
                have : v.size = 0 := Decidable.byContradiction fun h => hap ⟨v, hlk, h⟩
                simp only; rw [if_pos this]; simp
            have hlb : lastB (lastK all m) = false := by
              cases hlk : lastK all m with
              | none => rfl
              | some v =>
                have : v.size = 0 := Decidable.byContradiction fun h => hap ⟨v, hlk, h⟩
                exact decide_eq_false (fun h => h this)
            rw [hlb] at hla
            generalize lastV (lastK all m) = LV at *
            have E := hid hps2.symm
            clear hps hps2 hlb hap hpl
            go_wp2_with (go_at_call 45; refine hla.mono ?_; rintro e w5 ⟨rfl, hb5⟩; have how := own_below hb5 hown; have hbn := hb.trans (hb5.mono hb.size))
            go_roundw
            case rel => exact ⟨_, m, false, acc, rfl, rfl, rfl, how, hal, hbn, E⟩
            case measure => exact hrl.out

end Go.Proofs.YtkocnbdakfhpaaaGreatDoor

/-
  THE DOCUMENT's WORD ON WHETHER PAIRS ARE AN OVERLAY. Conditions: how many pairs there are, and how many bytes they have.
-/
namespace Go.Proofs.YtkocnbdakfhpaaaGreatDoor
open Go.ChangeShapes Go.WideShapes Go.ChangeAt Go.RowKit Go.Lib
set_option linter.unusedVariables false
set_option linter.unusedSimpArgs false
set_option maxRecDepth 20000

theorem ov_lay (l : PL) : ovB none l = (rgB l && decide (layL [] (l ++ []) = l)) := by
  rw [List.append_nil, Bool.eq_iff_iff, ovB_iff, Bool.and_eq_true, rgB_iff, decide_eq_true_eq]
  constructor
  · rintro ⟨h1, h2, h3⟩
    exact ⟨h3, lay_self l h1 h2⟩
  · rintro ⟨h3, h⟩
    refine ⟨?_, ?_, h3⟩
    · rw [← h]; exact layL_srt l [] Srt.nil
    · rw [← h]; exact layL_ful l [] Ful.nil

set_option maxHeartbeats 4000000 in
theorem rright8_ok {w : World} {a : Option Addr} {n c : Nat} {l : PL} (h : Pys w a n c l) (hz : Sml l) (hn : n ≤ 1000) (hnl : a = none → n = 0 ∧ c = 0) :
    Calls Tryz.prog 25 #[.slice a n c] w fun e w' => e = .returned (.bool (ovB none l)) ∧ Below w.heap.size w w' := by
  have hm1 := h.2.1
  have hm2 := h.2.2.1
  rw [ov_lay l]
  obtain ⟨R, hR⟩ : ∃ R, R = layL [] (l ++ []) := ⟨_, rfl⟩
  have hnil := fun (w' : World) => (⟨rfl, Nat.le_refl _, by omega, .inl ⟨rfl, rfl⟩⟩ : Pys w' none 0 0 [])
  have hly := fun w' (hb : Below w.heap.size w w') => rlay_ok (h.below hb) (hnil w') hn (by omega) hnl (fun _ => ⟨rfl, rfl⟩)
  rw [← hR] at hly ⊢
  have hl := hid h.1
  have hz' := hid hz
  clear hR hz
  obtain ⟨Q, hQ⟩ : ∃ Q, Q = rgB l := ⟨_, rfl⟩
  rw [← hQ]
  have hQ0 := hid (by rw [hQ, List.drop_zero] : Q = rgB (l.drop 0))
  clear hQ
  go_enter Tryz.func25, Tryz.ntmps25
  go_wp2
  go_loopw [3] (fun x wr => ∃ k : Nat, x = .int .i64 k ∧ k ≤ n ∧ Below w.heap.size w wr ∧ Hid (Q = rgB (l.drop k))) (fun x _ => n - (RowKit.intOf x).toNat)
  case atStart => exact ⟨0, rfl, by omega, Below.refl _ _, hQ0⟩
  case round =>
    obtain ⟨k, rfl, hk, hb, hr⟩ := hrel
    by_cases hlt : k < n
    · obtain ⟨b, off, rfl, hc⟩ := h.some_of (by omega)
      obtain ⟨ky, vl, hmem, hd, c0, c1⟩ := (hc.below hb).at k (by rw [hl.out]; exact hlt)
      obtain ⟨z1, z2⟩ := hz'.out _ hmem
      simp only at z1 z2
      have hkI : (k : Int) < (n : Int) := by omega
      have hrr := rr_ok ky vl z1 z2 wr
      have hrk := rgB_drop hd.out
      cases hRt : rightP (bs ky) (bs vl)
      · have E : Q = false := by rw [hr.out, hrk, hRt]; rfl
        rw [hRt] at hrr
        subst E
        clear hr hd hmem hrk hRt hQ0
        go_wp2_with (go_at_call 10; refine hrr.mono ?_; rintro e w1 ⟨rfl, hb1⟩)
        all_goals go_ret
        all_goals exact ⟨rfl, hb.trans (hb1.mono hb.size)⟩
      · have E := hid (by rw [hr.out, hrk, hRt]; rfl : Q = rgB (l.drop (k + 1)))
        rw [hRt] at hrr
        clear hr hd hmem hrk hRt
        go_wp2_with (go_at_call 10; refine hrr.mono ?_; rintro e w1 ⟨rfl, hb1⟩)
        go_roundw
        case rel => exact ⟨k + 1, by go_num, by omega, hb.trans (hb1.mono hb.size), E⟩
        case measure => simp [RowKit.intOf]; omega
    · obtain rfl : k = n := by omega
      have E : Q = true := by rw [hr.out, List.drop_eq_nil_iff.mpr (by rw [hl.out]; exact Nat.le_refl _)]; rfl
      have hkI : ¬ (k : Int) < (k : Int) := by omega
      subst E
      clear hr hQ0
      go_wp2_with (first
        | (go_at_call 23; refine (hly _ hb).mono ?_; rintro e w1 ⟨a2, m2, c2, rfl, hp2, hb1⟩; replace hb := hb.trans (hb1.mono hb.size))
        | (go_at_call 21; refine (same_ok hp2 (h.below hb)).mono ?_; rintro e w2 ⟨rfl, hb2⟩; replace hb := hb.trans (hb2.mono hb.size)))
      all_goals go_ret
      all_goals exact ⟨rfl, hb⟩

end Go.Proofs.YtkocnbdakfhpaaaGreatDoor

/-
  THE WALK OF OverLays: it answers true at all pairs and keys. Conditions: a text has no more bytes than a machine reaches; what the listed variables hold.
-/
namespace Go.Proofs.YtkocnbdakfhpaaaGreatDoor
open Go.ChangeShapes Go.WideShapes Go.ChangeAt Go.RowKit Go.Lib
set_option linter.unusedVariables false
set_option linter.unusedSimpArgs false
set_option maxRecDepth 20000

/-- the first one, or else the other -/
def orK (mo g : Option ByteArray) : Option ByteArray := match mo with | some v => some v | none => g

set_option maxHeartbeats 16000000 in
theorem lays_walk {w : World} {a a' : Option Addr} {n c n' c' : Nat} {l more : PL} (hP : Pys w a n c l) (hz : ∀ q ∈ l, q.1.size ≤ 140737488351232 ∧ q.2.size ≤ 140737488351232) (hQ : Pys w a' n' c' more) (hz' : ∀ q ∈ more, q.1.size ≤ 140737488351232 ∧ q.2.size ≤ 140737488351232) (hnl : a = none → n = 0 ∧ c = 0) (hnl' : a' = none → n' = 0 ∧ c' = 0) (key : ByteArray) (hL : Laid w) :
    Calls Tryz.prog 5 #[.slice a n c, .slice a' n' c', .string key] w fun e w' => e = .returned (.bool true) ∧ Below w.heap.size w w' := by
  have hal := alive8_ok w hL
  have hfw := fun w' (hb : Below w.heap.size w w') => few8_all (hP.below hb) hz
  have hfw2 := fun w' (hb : Below w.heap.size w w') => few8_all (hQ.below hb) hz'
  have hpc := hP.2.1
  have hpm := hP.2.2.1
  have hqc := hQ.2.1
  have hqm := hQ.2.2.1
  by_cases hf : n ≤ 40 ∧ totN l ≤ 3000
  · rw [decide_eq_true hf] at hfw
    by_cases hg : n' ≤ 40 ∧ totN more ≤ 3000
    · rw [decide_eq_true hg] at hfw2
      have hS : Sml l := fun p hp => by have := tot_mem l p hp; omega
      have hl1 := fun w' (hb : Below w.heap.size w w') => laytwo_ok (hP.below hb) (hQ.below hb) (by omega) (by omega)
      have hl2 := fun w' (hb : Below w.heap.size w w') => rlay_ok (hP.below hb) (hQ.below hb) (by omega) (by omega) hnl hnl'
      rw [layL_cat] at hl1
      have hor := fun w' (hb : Below w.heap.size w w') => oright_ok (hP.below hb) hS (hL.below hb)
      have hrr := fun w' (hb : Below w.heap.size w w') => rright8_ok (hP.below hb) hS (by omega) hnl
      have hby := fun w' (hb : Below w.heap.size w w') => obytes_ok (hP.below hb) (by omega)
      have hgt := fun w' (hb : Below w.heap.size w w') => oget_ok (hP.below hb) key
      obtain ⟨X, hX⟩ : ∃ X, X = layL [] (l ++ more) := ⟨_, rfl⟩
      obtain ⟨G, hG⟩ : ∃ G, G = getK l key := ⟨_, rfl⟩
      obtain ⟨T, hT⟩ : ∃ T, T = totN l := ⟨_, rfl⟩
      rw [← hX] at hl1 hl2
      rw [← hG] at hgt
      rw [← hT] at hby hf
      generalize ovB none l = OB at *
      have hln := hid hP.1
      have hG0 := hid (by rw [hG, List.drop_zero]; rfl : G = orK (none) (getK (l.drop 0) key))
      have hT0 := hid (by rw [hT, List.drop_zero, Nat.zero_add] : 0 + totN (l.drop 0) = T)
      have hOO : (OB == OB) = true := by simp
      have hTT : ((T : Int) == (T : Int)) = true := by simp
      have hXX : decide (X = X) = true := by simp
      clear hX hG hT hS
      go_enter Tryz.func5, Tryz.ntmps5
      go_wp2_with (first
          | (go_at_call 18; refine hal.mono ?_; rintro e w1 ⟨rfl, hacc⟩; clear hal)
          | (go_at_call 19; refine (hfw _ hacc).mono ?_; rintro e w2 ⟨rfl, hb2⟩; replace hacc := hacc.trans (hb2.mono hacc.size); clear hfw hb2)
          | (go_at_call 19; refine (hfw2 _ hacc).mono ?_; rintro e w3 ⟨rfl, hb3⟩; replace hacc := hacc.trans (hb3.mono hacc.size); clear hfw2 hb3))
      go_loopw [7, 8, 9, 10] (fun y z u x wr => ∃ (s k : Nat) (mo : Option ByteArray), y = .int .i64 s ∧ z = .string (getV mo) ∧ u = .bool mo.isSome ∧ x = .int .i64 k ∧ k ≤ n ∧ s ≤ T ∧ Below w.heap.size w wr ∧ Hid (s + totN (l.drop k) = T) ∧ Hid (G = orK mo (getK (l.drop k) key))) (fun _ _ _ x _ => n - (RowKit.intOf x).toNat)
      case atStart => exact ⟨0, 0, none, rfl, rfl, rfl, rfl, by omega, by omega, hacc, hT0, hG0⟩
      case round =>
        obtain ⟨s, k, mo, rfl, rfl, rfl, rfl, hk, hs, hb, hr, hmo⟩ := hrel
        by_cases hlt : k < n
        · obtain ⟨b, off, rfl, hc⟩ := hP.some_of (by omega)
          obtain ⟨ky, vl, hmem, hd, c0, c1⟩ := (hc.below hb).at k (by rw [hln.out]; exact hlt)
          have hkI : (k : Int) < (n : Int) := by omega
          have E := hid (by have := hr.out; rw [hd.out, totN] at this; simp only at this; omega : s + (ky.size + vl.size) + totN (l.drop (k + 1)) = T)
          have hb1 : s + (ky.size + vl.size) ≤ T := by have := E.out; omega
          have hgk : getK (l.drop k) key = if ky = key then some vl else getK (l.drop (k + 1)) key := by rw [hd.out, getK]
          clear hr hd hmem
          by_cases he : ky = key
          · have hee : (ky.toList == key.toList) = true := by rw [he]; simp
            rw [if_pos he] at hgk
            clear he
            cases mo with
            | none =>
              have E2 := hid (by rw [hmo.out]; exact hgk : G = orK (some vl) (getK (l.drop (k + 1)) key))
              clear hgk hmo
              go_wp2
              go_region
              all_goals go_wp2
              go_roundw
              case rel => exact ⟨s + (ky.size + vl.size), k + 1, some vl, by go_num, rfl, rfl, by go_num, by omega, hb1, hb.drew, E, E2⟩
              case measure => simp [RowKit.intOf]; omega
            | some v =>
              have E2 := hid (by rw [hmo.out]; rfl : G = orK (some v) (getK (l.drop (k + 1)) key))
              clear hgk hmo
              go_wp2
              go_region
              all_goals go_wp2
              go_roundw
              case rel => exact ⟨s + (ky.size + vl.size), k + 1, some v, by go_num, rfl, rfl, by go_num, by omega, hb1, hb.drew, E, E2⟩
              case measure => simp [RowKit.intOf]; omega
          · have hee : (ky.toList == key.toList) = false := by
              cases hh : (ky.toList == key.toList)
              · rfl
              · exact absurd (str_beq.1 hh) he
            rw [if_neg he] at hgk
            have E2 := hid (by rw [hmo.out, hgk] : G = orK mo (getK (l.drop (k + 1)) key))
            clear hgk hmo he
            go_wp2
            go_region
            all_goals go_wp2
            go_roundw
            case rel => exact ⟨s + (ky.size + vl.size), k + 1, mo, by go_num, rfl, rfl, by go_num, by omega, hb1, hb.drew, E, E2⟩
            case measure => simp [RowKit.intOf]; omega
        · obtain rfl : k = n := by omega
          have hd0 : l.drop k = [] := List.drop_eq_nil_iff.mpr (by rw [hln.out]; exact Nat.le_refl _)
          have hsT : s = T := by have := hr.out; rw [hd0, totN] at this; omega
          have hGm : G = mo := by rw [hmo.out, hd0]; cases mo <;> rfl
          have hkI : ¬ (k : Int) < (k : Int) := by omega
          subst hsT hGm
          clear hr hmo hd0 hacc hT0 hG0
          have hVV : ((getV G).toList == (getV G).toList) = true := by simp
          have hSS : (G.isSome == G.isSome) = true := by simp
          generalize getV G = GV at *
          generalize G.isSome = GS at *
          go_wp2_with (first
            | (go_at_call 20; refine (hgt _ hb).mono ?_; rintro e w4 ⟨rfl, hb4⟩; replace hb := hb.trans (hb4.mono hb.size); clear hgt hb4)
            | (go_at_call 22; refine (hl1 _ hb).mono ?_; rintro e w5 ⟨a5, m5, c5, rfl, hp5, hb5⟩; replace hb := hb.trans (hb5.mono hb.size); clear hl1 hb5)
            | (go_at_call 23; refine (hl2 _ hb).mono ?_; rintro e w6 ⟨a6, m6, c6, rfl, hp6, hb6⟩; replace hp5 := hp5.below hb6; replace hb := hb.trans (hb6.mono hb.size); clear hl2 hb6)
            | (go_at_call 21; refine (same_ok hp5 hp6).mono ?_; rintro e w7 ⟨rfl, hb7⟩; replace hb := hb.trans (hb7.mono hb.size); clear hp5 hp6 hb7)
            | (go_at_call 24; refine (hor _ hb).mono ?_; rintro e w8 ⟨rfl, hb8⟩; replace hb := hb.trans (hb8.mono hb.size); clear hor hb8)
            | (go_at_call 25; refine (hrr _ hb).mono ?_; rintro e w9 ⟨rfl, hb9⟩; replace hb := hb.trans (hb9.mono hb.size); clear hrr hb9)
            | (go_at_call 26; refine (hby _ hb).mono ?_; rintro e w10 ⟨rfl, hb10⟩; replace hb := hb.trans (hb10.mono hb.size); clear hby hb10))
          all_goals go_ret
          all_goals exact ⟨by simp, hb⟩
    · rw [decide_eq_false hg] at hfw2
      go_enter Tryz.func5, Tryz.ntmps5
      go_wp2_with (first
          | (go_at_call 18; refine hal.mono ?_; rintro e w1 ⟨rfl, hacc⟩; clear hal)
          | (go_at_call 19; refine (hfw _ hacc).mono ?_; rintro e w2 ⟨rfl, hb2⟩; replace hacc := hacc.trans (hb2.mono hacc.size); clear hfw hb2)
          | (go_at_call 19; refine (hfw2 _ hacc).mono ?_; rintro e w3 ⟨rfl, hb3⟩; replace hacc := hacc.trans (hb3.mono hacc.size); clear hfw2 hb3))
      all_goals go_ret
      all_goals exact ⟨rfl, hacc⟩
  · rw [decide_eq_false hf] at hfw
    go_enter Tryz.func5, Tryz.ntmps5
    go_wp2_with (first
        | (go_at_call 18; refine hal.mono ?_; rintro e w1 ⟨rfl, hacc⟩; clear hal)
        | (go_at_call 19; refine (hfw _ hacc).mono ?_; rintro e w2 ⟨rfl, hb2⟩; replace hacc := hacc.trans (hb2.mono hacc.size); clear hfw hb2))
    all_goals go_ret
    all_goals exact ⟨rfl, hacc⟩

end Go.Proofs.YtkocnbdakfhpaaaGreatDoor

/-
  A SLICE OF PAIRS THAT IS HANDED IN WITHOUT MEMORY IS NIL. Conditions: none.
-/
namespace Go.Proofs.YtkocnbdakfhpaaaGreatDoor
open Go.ChangeShapes Go.WideShapes Go.ChangeAt Go.RowKit Go.Lib Go.Deep

theorem pairs_nil {H : Type} {enc : TypeId × Value → H} {W : World} {fuel : Nat} {a : Option Addr} {n c : Nat} {d : DataW H} {p : List MemPlace}
    (hf : DataW.trod enc Tryz.prog W 0 (fun _ => true) true fuel 26 [.slice a n c] = some (d, p)) : a = none → n = 0 ∧ c = 0 := by
  rcases open_slice_pairs Tryz.underlying26 Tryz.underlying23 cellsPair rfl rfl cellsStr cellsStr hf with ⟨hcs, hx⟩ | ⟨a', len, cap, m, k, V0, V1, D0, D1, P0, P1, hcs, _⟩
  · simp only [List.cons.injEq, and_true, Value.slice.injEq] at hcs
    exact fun _ => ⟨hcs.2.1, hcs.2.2⟩
  · simp only [List.cons.injEq, and_true, Value.slice.injEq] at hcs
    intro h
    rw [h] at hcs
    cases hcs.1

end Go.Proofs.YtkocnbdakfhpaaaGreatDoor
