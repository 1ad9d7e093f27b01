/-
  A KEY'S VALUE AMONG PAIRS (over.Get); AND WHAT FOLLOWS OF IT. Conditions: those that each part names.
-/
import Derived.Test.YtkocnbdakfhpaaaDoorOva
import Derived.Test.YtkocnbdakfhpaaaDoorSmp
import Derived.Test.YtkocnbdakfhpaaaDoorRgt
import Derived.Test.YtkocnbdakfhpaaaDoorBak
import Derived.BigQuiet
import Derived.BigRegion
import Derived.Test.YtkocnbdakfhpaaaDoorLive
import Derived.Test.YtkocnbdakfhpaaaDoorFwb
import Derived.Test.YtkocnbdakfhpaaaDoorRrg
import Derived.Laws.AppendOwnNone
import Derived.Test.YtkocnbdakfhpaaaDoorOpn
/-
  A KEY'S VALUE AMONG PAIRS (over.Get). Conditions: none.
-/
namespace Go.Proofs.YtkocnbdakfhpaaaDoor
open Go.ChangeShapes Go.WideShapes Go.ChangeAt Go.RowKit Go.Lib
set_option linter.unusedVariables false
set_option linter.unusedSimpArgs false
set_option maxRecDepth 20000

def getV (o : Option ByteArray) : ByteArray := match o with | some v => v | none => ⟨#[]⟩

set_option maxHeartbeats 4000000 in
theorem oget_ok {w : World} {a : Option Addr} {n c : Nat} {l : PL} (h : Pys w a n c l) (key : ByteArray) :
    Calls Tryd.prog 18 #[.slice a n c, .string key] w fun e w' => e = .returned (.tuple #[.string (getV (getK l key)), .bool (getK l key).isSome]) ∧ Below w.heap.size w w' := by
  have hm1 := h.2.1
  have hm2 := h.2.2.1
  obtain ⟨q, hq⟩ : ∃ q, q = getK l key := ⟨_, rfl⟩
  rw [← hq]
  have hl := hid h.1
  replace hq := hid hq
  go_enter Tryd.func18, Tryd.ntmps18
  go_wp2
  go_loopw [10] (fun x wr => ∃ k : Nat, x = .int .i64 k ∧ k ≤ n ∧ Below w.heap.size w wr ∧ Hid (q = getK (l.drop k) key)) (fun x _ => n - (RowKit.intOf x).toNat)
  case atStart => exact ⟨0, rfl, by omega, Below.refl _ _, hid hq.out⟩
  case round =>
    obtain ⟨k, rfl, hk, hb, hr⟩ := hrel
    by_cases hlt : k < n
    · obtain ⟨b, off, rfl, hc⟩ := h.some_of (by omega)
      obtain ⟨ky, vl, hmem, hd, c0, c1⟩ := (hc.below hb).at k (by rw [hl.out]; exact hlt)
      have hkI : (k : Int) < (n : Int) := by omega
      have hbn := hb.alloc hb.size (.cells #[.string ky, .string vl] 37)
      by_cases he : ky = key
      · have E : q = some vl := by rw [hr.out, hd.out, getK, if_pos he]
        have hee : (ky.toList == key.toList) = true := by rw [he]; simp
        subst E
        clear hr hd hmem he hq
        go_wp2
        all_goals go_ret2
        all_goals exact ⟨rfl, hbn⟩
      · have E := hid (by rw [hr.out, hd.out, getK, if_neg he] : q = getK (l.drop (k + 1)) key)
        have hee : (ky.toList == key.toList) = false := by
          cases hh : (ky.toList == key.toList)
          · rfl
          · exact absurd (str_beq.1 hh) he
        clear hr hd hmem he
        go_wp2
        go_roundw
        case rel => exact ⟨k + 1, by go_num, by omega, hbn, E⟩
        case measure => simp [RowKit.intOf]; omega
    · obtain rfl : k = n := by omega
      have E : q = none := by rw [hr.out, List.drop_eq_nil_iff.mpr (by rw [hl.out]; exact Nat.le_refl _)]; rfl
      have hkI : ¬ (k : Int) < (k : Int) := by omega
      subst E
      clear hr hq
      go_wp2
      all_goals go_ret2
      all_goals exact ⟨rfl, hb⟩

end Go.Proofs.YtkocnbdakfhpaaaDoor

/-
  WHETHER PAIRS ARE AN OVERLAY (over.Right). Conditions: how many bytes the texts have; what the listed variables hold.
-/
namespace Go.Proofs.YtkocnbdakfhpaaaDoor
open Go.ChangeShapes Go.WideShapes Go.ChangeAt Go.RowKit Go.Lib
set_option linter.unusedVariables false
set_option linter.unusedSimpArgs false
set_option maxRecDepth 20000

theorem str_geq {P : Program} (w : World) (t : TypeId) (a b : ByteArray) : (binOp .geq t (.string a) (.string b)).run P w = .ok (.bool (!decide (kc a b < 0))) w := by
  rw [← less_kc]
  simp [binOp, Op.stringOp]

/-- is it an overlay, behind a key -/
def ovB : Option ByteArray → PL → Bool
  | _, [] => true
  | o, p :: t => (match o with | some k => decide (kc k p.1 < 0) | none => true) && (decide (p.2.size ≠ 0) && rightP (bs p.1) (bs p.2)) && ovB (some p.1) t

theorem ovB_cons (o : Option ByteArray) (p : ByteArray × ByteArray) (t : PL) : ovB o (p :: t) = ((match o with | some k => decide (kc k p.1 < 0) | none => true) && (decide (p.2.size ≠ 0) && rightP (bs p.1) (bs p.2)) && ovB (some p.1) t) := by cases o <;> rfl

theorem ovB_some : ∀ (l : PL) (k : ByteArray), ovB (some k) l = true ↔ (∀ q ∈ l, kc k q.1 < 0) ∧ Srt l ∧ Ful l ∧ Rgt l
  | [], k => by
    unfold ovB
    exact ⟨fun _ => ⟨fun q hq => (by cases hq), Srt.nil, fun q hq => (by cases hq), fun q hq => (by cases hq)⟩, fun _ => rfl⟩
  | p :: t, k => by
    rw [ovB]
    simp only [Bool.and_eq_true, decide_eq_true_eq]
    rw [ovB_some t p.1]
    constructor
    · rintro ⟨⟨h1, h2, h3⟩, h4, h5, h6, h7⟩
      refine ⟨?_, List.pairwise_cons.2 ⟨h4, h5⟩, ?_, ?_⟩
      · intro q hq
        rcases List.mem_cons.1 hq with e | e
        · rw [e]; exact h1
        · exact kc_trans h1 (h4 q e)
      · intro q hq
        rcases List.mem_cons.1 hq with e | e
        · rw [e]; exact h2
        · exact h6 q e
      · intro q hq
        rcases List.mem_cons.1 hq with e | e
        · rw [e]; exact h3
        · exact h7 q e
    · rintro ⟨h1, h2, h3, h4⟩
      exact ⟨⟨h1 p (List.mem_cons_self ..), h3 p (List.mem_cons_self ..), h4 p (List.mem_cons_self ..)⟩, h2.head, h2.tail, fun q hq => h3 q (List.mem_cons_of_mem _ hq), fun q hq => h4 q (List.mem_cons_of_mem _ hq)⟩
theorem ovB_iff (l : PL) : ovB none l = true ↔ Srt l ∧ Ful l ∧ Rgt l := by
  cases l with
  | nil => exact ⟨fun _ => ⟨Srt.nil, fun q hq => (by cases hq), fun q hq => (by cases hq)⟩, fun _ => rfl⟩
  | cons p t =>
    rw [ovB]
    simp only [Bool.and_eq_true, decide_eq_true_eq, true_and]
    rw [ovB_some t p.1]
    constructor
    · rintro ⟨⟨h2, h3⟩, h4, h5, h6, h7⟩
      refine ⟨List.pairwise_cons.2 ⟨h4, h5⟩, ?_, ?_⟩
      · intro q hq
        rcases List.mem_cons.1 hq with e | e
        · rw [e]; exact h2
        · exact h6 q e
      · intro q hq
        rcases List.mem_cons.1 hq with e | e
        · rw [e]; exact h3
        · exact h7 q e
    · rintro ⟨h2, h3, h4⟩
      exact ⟨⟨h3 p (List.mem_cons_self ..), h4 p (List.mem_cons_self ..)⟩, h2.head, h2.tail, fun q hq => h3 q (List.mem_cons_of_mem _ hq), fun q hq => h4 q (List.mem_cons_of_mem _ hq)⟩

theorem drop_getp {l : PL} {i : Nat} {q : ByteArray × ByteArray} {t : PL} (h : l.drop i = q :: t) : l[i]? = some q := by
  have := congrArg List.head? h
  rwa [List.head?_drop, List.head?_cons] at this

/-- the key ahead -/
def preK (l : PL) (k : Nat) : Option ByteArray := if k = 0 then none else some (l.getD (k - 1) (⟨#[]⟩, ⟨#[]⟩)).1

set_option maxHeartbeats 8000000 in
theorem oright_ok {w : World} {a : Option Addr} {n c : Nat} {l : PL} (h : Pys w a n c l) (hz : Sml l) (hL : Laid w) :
    Calls Tryd.prog 17 #[.slice a n c] w fun e w' => e = .returned (.bool (ovB none l)) ∧ Below w.heap.size w w' := by
  have hm1 := h.2.1
  have hm2 := h.2.2.1
  obtain ⟨q, hq⟩ : ∃ q, q = ovB none l := ⟨_, rfl⟩
  rw [← hq]
  have hl := hid h.1
  have hz' := hid hz
  replace hq := hid hq
  clear hz
  go_enter Tryd.func17, Tryd.ntmps17
  go_wp2
  go_loopw [7] (fun x wr => ∃ k : Nat, x = .int .i64 k ∧ k ≤ n ∧ Below w.heap.size w wr ∧ Hid (q = ovB (preK l k) (l.drop k))) (fun x _ => n - (RowKit.intOf x).toNat)
  case atStart => exact ⟨0, rfl, by omega, Below.refl _ _, hid hq.out⟩
  case round =>
    obtain ⟨k, rfl, hk, hb, hr⟩ := hrel
    by_cases hlt : k < n
    · obtain ⟨b, off, rfl, hc⟩ := h.some_of (by omega)
      obtain ⟨ky, vl, hmem, hd, c0, c1⟩ := (hc.below hb).at k (by rw [hl.out]; exact hlt)
      have hkI : (k : Int) < (n : Int) := by omega
      have hfr := (Below.refl wr.heap.size wr).alloc (Nat.le_refl _) (.cells #[.string ky, .string vl] 37)
      have hbn := hb.trans (hfr.mono hb.size)
      obtain ⟨z1, z2⟩ := hz'.out _ hmem
      simp only at z1 z2
      have hri := right_ok ky vl (by omega) (by omega)
      obtain ⟨T, hT⟩ : ∃ T : Bool, T = (match preK l k with | some x => decide (kc x ky < 0) | none => true) := ⟨_, rfl⟩
      have hst := hid (by rw [hr.out, hd.out, ovB_cons, ← hT] : q = (T && (decide (vl.size ≠ 0) && rightP (bs ky) (bs vl)) && ovB (some ky) (l.drop (k + 1))))
      have hnx : preK l (k + 1) = some ky := by
        unfold preK
        rw [if_neg (by omega), Nat.add_sub_cancel, List.getD_eq_getElem?_getD, drop_getp hd.out]; rfl
      clear hr
      cases T
      · have E : q = false := by rw [hst.out]; rfl
        by_cases hk0 : k = 0
        · rw [hk0] at hT; exact absurd hT (by simp [preK])
        · obtain ⟨kp, vp, hmem2, hd2, p0, p1⟩ := (hc.below hbn).at (k - 1) (by rw [hl.out]; omega)
          have hpk : preK l k = some kp := by unfold preK; rw [if_neg hk0, List.getD_eq_getElem?_getD, drop_getp hd2.out]; rfl
          rw [hpk] at hT
          have hls := fun (w : World) => str_geq (P := Tryd.prog) w 9 kp ky
          have hT' : decide (kc kp ky < 0) = false := hT.symm
          rw [hT'] at hls
          clear hT'
          have hkp : (0 : Int) < (k : Int) := by omega
          have hkN : 0 < k := by omega
          have hkd : decide (0 < k) = true := decide_eq_true hkN
          have hkm : (k : Int) - 1 = ((k - 1 : Nat) : Int) := by omega
          have hkm1 : (0 : Int) ≤ (k : Int) - 1 := by omega
          have hkm2 : (k : Int) - 1 < (n : Int) := by omega
          have hkm3 : k - 1 < n := by omega
          have hkm4 : (1 : Int) ≤ (k : Int) := by omega
          have hkm5 : 1 ≤ k := by omega
          have hkmn : ((k : Int) - 1).toNat = k - 1 := by omega
          subst E
          clear hst hnx hpk hT hd hd2 hmem hmem2 hq
          have hne : Nonempty (After (wr.alloc (.cells #[.string ky, .string vl] 37))) := ⟨⟨_, Below.refl _ _⟩⟩
          have gp : ∀ p : After (wr.alloc (.cells #[.string ky, .string vl] 37)), p.out.cell? ⟨b, off + (k - 1) * 2, none⟩ = some (.string kp) := fun p => cell_later p.bel p0
          have gk : ∀ p : After (wr.alloc (.cells #[.string ky, .string vl] 37)), p.out.cell? ⟨wr.heap.size, 0, none⟩ = some (.string ky) := fun p => cell_later p.bel (new_two wr (.string ky) (.string vl) 37).1
          go_wp2
          refine wp_region_after (by kernel_rfl) (by kernel_rfl) ?_
          repeat (go_big_quiet_step (fail))
          refine wpQuiet_nil ?_
          intro wq hw'
          obtain ⟨⟨x, hwq⟩, hx⟩ := hw'
          simp only at hx
          subst hx
          go_wp2
          go_ret
          exact ⟨rfl, hbn.trans (hwq.mono hbn.size)⟩
      · have E2 : q = ((decide (vl.size ≠ 0) && rightP (bs ky) (bs vl)) && ovB (some ky) (l.drop (k + 1))) := by rw [hst.out]; rfl
        by_cases hk0 : k = 0
        · subst hk0
          rw [Nat.zero_mul, Nat.add_zero] at c0 c1
          clear hT
          have hne : Nonempty (After (wr.alloc (.cells #[.string ky, .string vl] 37))) := ⟨⟨_, Below.refl _ _⟩⟩
          go_wp2
          refine wp_region_after (by kernel_rfl) (by kernel_rfl) ?_
          repeat (go_big_quiet_step (fail))
          refine wpQuiet_nil ?_
          intro wq hw'
          obtain ⟨⟨x, hwq⟩, hx⟩ := hw'
          simp only at hx
          subst hx
          have hbq := hbn.trans (hwq.mono hbn.size)
          obtain ⟨c2, c3⟩ := two_cells hwq
          by_cases hv0 : vl.size = 0
          · have E : q = false := by rw [E2, decide_eq_false (fun h => h hv0)]; rfl
            have hvz : vl.toList.isEmpty = true := by rw [is_nil vl, decide_eq_true (by rw [← List.length_eq_zero_iff, bs_len]; exact hv0)]
            subst E
            clear hst E2 hnx hq hd hmem hv0
            go_wp2
            all_goals go_ret
            all_goals exact ⟨rfl, hbq⟩
          · have hvz : vl.toList.isEmpty = false := by rw [is_nil vl, decide_eq_false (by rw [← List.length_eq_zero_iff, bs_len]; exact hv0)]
            have hrq := hri wq (hL.below hbq)
            cases hR : rightP (bs ky) (bs vl)
            · have E : q = false := by rw [E2, hR]; simp
              rw [hR] at hrq
              subst E
              clear hst E2 hnx hq hd hmem hv0 hR
              go_wp2_with (go_at_call 21; refine hrq.mono ?_; rintro e w3 ⟨rfl, hb3⟩)
              all_goals go_ret
              all_goals exact ⟨rfl, hbq.trans (hb3.mono hbq.size)⟩
            · have E := hid (by rw [E2, hR, hnx, decide_eq_true (show vl.size ≠ 0 from hv0)]; rfl : q = ovB (preK l (0 + 1)) (l.drop (0 + 1)))
              rw [hR] at hrq
              clear hst E2 hnx hd hmem hv0 hR
              go_wp2_with (go_at_call 21; refine hrq.mono ?_; rintro e w3 ⟨rfl, hb3⟩)
              go_roundw
              case rel => exact ⟨0 + 1, by go_num, by omega, hbq.trans (hb3.mono hbq.size), E⟩
              case measure => simp [RowKit.intOf]; omega
        · obtain ⟨kp, vp, hmem2, hd2, p0, p1⟩ := (hc.below hbn).at (k - 1) (by rw [hl.out]; omega)
          have hpk : preK l k = some kp := by unfold preK; rw [if_neg hk0, List.getD_eq_getElem?_getD, drop_getp hd2.out]; rfl
          rw [hpk] at hT
          have hls := fun (w : World) => str_geq (P := Tryd.prog) w 9 kp ky
          have hT' : decide (kc kp ky < 0) = true := hT.symm
          rw [hT'] at hls
          clear hT'
          have hkp : (0 : Int) < (k : Int) := by omega
          have hkN : 0 < k := by omega
          have hkd : decide (0 < k) = true := decide_eq_true hkN
          have hkm : (k : Int) - 1 = ((k - 1 : Nat) : Int) := by omega
          have hkm1 : (0 : Int) ≤ (k : Int) - 1 := by omega
          have hkm2 : (k : Int) - 1 < (n : Int) := by omega
          have hkm3 : k - 1 < n := by omega
          have hkm4 : (1 : Int) ≤ (k : Int) := by omega
          have hkm5 : 1 ≤ k := by omega
          have hkmn : ((k : Int) - 1).toNat = k - 1 := by omega
          clear hpk hT hd2 hmem2
          have hne : Nonempty (After (wr.alloc (.cells #[.string ky, .string vl] 37))) := ⟨⟨_, Below.refl _ _⟩⟩
          have gp : ∀ p : After (wr.alloc (.cells #[.string ky, .string vl] 37)), p.out.cell? ⟨b, off + (k - 1) * 2, none⟩ = some (.string kp) := fun p => cell_later p.bel p0
          have gk : ∀ p : After (wr.alloc (.cells #[.string ky, .string vl] 37)), p.out.cell? ⟨wr.heap.size, 0, none⟩ = some (.string ky) := fun p => cell_later p.bel (new_two wr (.string ky) (.string vl) 37).1
          go_wp2
          refine wp_region_after (by kernel_rfl) (by kernel_rfl) ?_
          repeat (go_big_quiet_step (fail))
          refine wpQuiet_nil ?_
          intro wq hw'
          obtain ⟨⟨x, hwq⟩, hx⟩ := hw'
          simp only at hx
          subst hx
          have hbq := hbn.trans (hwq.mono hbn.size)
          obtain ⟨c2, c3⟩ := two_cells hwq
          clear gp gk hls p0 p1
          by_cases hv0 : vl.size = 0
          · have E : q = false := by rw [E2, decide_eq_false (fun h => h hv0)]; rfl
            have hvz : vl.toList.isEmpty = true := by rw [is_nil vl, decide_eq_true (by rw [← List.length_eq_zero_iff, bs_len]; exact hv0)]
            subst E
            clear hst E2 hnx hq hd hmem hv0
            go_wp2
            all_goals go_ret
            all_goals exact ⟨rfl, hbq⟩
          · have hvz : vl.toList.isEmpty = false := by rw [is_nil vl, decide_eq_false (by rw [← List.length_eq_zero_iff, bs_len]; exact hv0)]
            have hrq := hri wq (hL.below hbq)
            cases hR : rightP (bs ky) (bs vl)
            · have E : q = false := by rw [E2, hR]; simp
              rw [hR] at hrq
              subst E
              clear hst E2 hnx hq hd hmem hv0 hR
              go_wp2_with (go_at_call 21; refine hrq.mono ?_; rintro e w3 ⟨rfl, hb3⟩)
              all_goals go_ret
              all_goals exact ⟨rfl, hbq.trans (hb3.mono hbq.size)⟩
            · have E := hid (by rw [E2, hR, hnx, decide_eq_true (show vl.size ≠ 0 from hv0)]; rfl : q = ovB (preK l (k + 1)) (l.drop (k + 1)))
              rw [hR] at hrq
              clear hst E2 hnx hd hmem hv0 hR
              go_wp2_with (go_at_call 21; refine hrq.mono ?_; rintro e w3 ⟨rfl, hb3⟩)
              go_roundw
              case rel => exact ⟨k + 1, by go_num, by omega, hbq.trans (hb3.mono hbq.size), E⟩
              case measure => simp [RowKit.intOf]; omega
    · obtain rfl : k = n := by omega
      have E : q = true := by rw [hr.out, List.drop_eq_nil_iff.mpr (by rw [hl.out]; exact Nat.le_refl _)]; cases preK l k <;> rfl
      have hkI : ¬ (k : Int) < (k : Int) := by omega
      subst E
      clear hr hq
      go_wp2
      go_ret
      exact ⟨rfl, hb⟩

end Go.Proofs.YtkocnbdakfhpaaaDoor

/-
  THE CHAPTER's EXAMPLE OF OVERLAYS, as the statements ask for it: it holds. Conditions: what the listed variables hold.
-/
namespace Go.Proofs.YtkocnbdakfhpaaaDoor
open Go.ChangeShapes Go.WideShapes Go.ChangeAt Go.RowKit Go.Lib
set_option linter.unusedVariables false
set_option linter.unusedSimpArgs false
set_option maxRecDepth 20000

set_option maxHeartbeats 2000000 in
theorem say_path (v : ByteArray) {w : World} {g : Nat} {H : Array Value} (hH : Blk w g H 52) (hs : H.size = 14) :
    Calls Tryd.prog 39 #[.pointer (some ⟨g, 0, none⟩), .agg #[.string ⟨#[112, 97, 116, 104]⟩, .string v]] w fun e w' => e = .returned (.tuple #[]) ∧ Blk w' g (H.setIfInBounds 1 (.string v)) 52 ∧ (∀ B, B ≤ g → Below B w w') ∧ ∀ k, k ≠ g → k < w.heap.size → w'.heap[k]? = w.heap[k]? := by
  have hlt := hH.lt
  have hA : Blk (w.alloc (.cells #[.string ⟨#[112, 97, 116, 104]⟩, .string v] 37)) g H 52 := hH.below ((Below.refl w.heap.size w).alloc (Nat.le_refl _) _)
  have y1 := hA.free 1
  obtain ⟨u, x1⟩ : ∃ u, (w.alloc (.cells #[.string ⟨#[112, 97, 116, 104]⟩, .string v] 37)).cell? ⟨g, 1, none⟩ = some u := ⟨_, (hA.cell 1).trans (Array.getElem?_eq_getElem (by omega))⟩
  have hS := (hH.set (i := 1) (.string v)).below ((Below.refl _ (w.setCell ⟨g, 1, none⟩ (.string v))).alloc (Nat.le_refl _) (.cells #[.string ⟨#[112, 97, 116, 104]⟩, .string v] 37))
  have hbel : ∀ B, B ≤ g → Below B w ((w.setCell ⟨g, 1, none⟩ (.string v)).alloc (.cells #[.string ⟨#[112, 97, 116, 104]⟩, .string v] 37)) := fun B hB => ((Below.refl B w).setCell hB _).alloc (by simp; omega) _
  have hoth : ∀ k, k ≠ g → k < w.heap.size → ((w.setCell ⟨g, 1, none⟩ (.string v)).alloc (.cells #[.string ⟨#[112, 97, 116, 104]⟩, .string v] 37)).heap[k]? = w.heap[k]? := fun k hk hkl => by
    rw [Below.heap_alloc _ _ k (by simpa using hkl), Below.heap_setCell w ⟨g, 1, none⟩ _ k hk]
  clear hH hA hs
  go_enter Tryd.func39, Tryd.ntmps39
  go_wp2
  exact bodyPost_end (v := .tuple #[]) (by simp [results, Tryd.results39]) rfl ⟨rfl, hS, hbel, hoth⟩

theorem blk14 {w : World} {g : Nat} {t : TypeId} {h0 h1 h2 h3 h4 h5 h6 h7 h8 h9 h10 h11 h12 h13 : Value} (h : Blk w g #[h0, h1, h2, h3, h4, h5, h6, h7, h8, h9, h10, h11, h12, h13] t) :
    w.cell? ⟨g, 0, none⟩ = some h0 ∧ w.cell? ⟨g, 1, none⟩ = some h1 ∧ w.cell? ⟨g, 2, none⟩ = some h2 ∧ w.cell? ⟨g, 3, none⟩ = some h3 ∧ w.cell? ⟨g, 4, none⟩ = some h4 ∧ w.cell? ⟨g, 5, none⟩ = some h5 ∧ w.cell? ⟨g, 6, none⟩ = some h6 ∧ w.cell? ⟨g, 7, none⟩ = some h7 ∧ w.cell? ⟨g, 8, none⟩ = some h8 ∧ w.cell? ⟨g, 9, none⟩ = some h9 ∧ w.cell? ⟨g, 10, none⟩ = some h10 ∧ w.cell? ⟨g, 11, none⟩ = some h11 ∧ w.cell? ⟨g, 12, none⟩ = some h12 ∧ w.cell? ⟨g, 13, none⟩ = some h13 := by
  refine ⟨h.cell 0, h.cell 1, h.cell 2, h.cell 3, h.cell 4, h.cell 5, h.cell 6, h.cell 7, h.cell 8, h.cell 9, h.cell 10, h.cell 11, h.cell 12, h.cell 13⟩
theorem free14 {w : World} {g : Nat} {t : TypeId} {cs : Array Value} (h : Blk w g cs t) :
    w.frozen? ⟨g, 0, none⟩ = false ∧ w.frozen? ⟨g, 1, none⟩ = false ∧ w.frozen? ⟨g, 2, none⟩ = false ∧ w.frozen? ⟨g, 3, none⟩ = false ∧ w.frozen? ⟨g, 4, none⟩ = false ∧ w.frozen? ⟨g, 5, none⟩ = false ∧ w.frozen? ⟨g, 6, none⟩ = false ∧ w.frozen? ⟨g, 7, none⟩ = false ∧ w.frozen? ⟨g, 8, none⟩ = false ∧ w.frozen? ⟨g, 9, none⟩ = false ∧ w.frozen? ⟨g, 10, none⟩ = false ∧ w.frozen? ⟨g, 11, none⟩ = false ∧ w.frozen? ⟨g, 12, none⟩ = false ∧ w.frozen? ⟨g, 13, none⟩ = false := ⟨h.free 0, h.free 1, h.free 2, h.free 3, h.free 4, h.free 5, h.free 6, h.free 7, h.free 8, h.free 9, h.free 10, h.free 11, h.free 12, h.free 13⟩

theorem fill14 {w : World} {g : Nat} {t : TypeId} {z0 z1 z2 z3 z4 z5 z6 z7 z8 z9 z10 z11 z12 z13 : Value} (h : Blk w g #[z0, z1, z2, z3, z4, z5, z6, z7, z8, z9, z10, z11, z12, z13] t) (v0 v1 v2 v3 v4 v5 v6 v7 v8 v9 v10 v11 v12 v13 : Value) :
    Blk ((((((((((((((w.setCell ⟨g, 0, none⟩ v0).setCell ⟨g, 1, none⟩ v1).setCell ⟨g, 2, none⟩ v2).setCell ⟨g, 3, none⟩ v3).setCell ⟨g, 4, none⟩ v4).setCell ⟨g, 5, none⟩ v5).setCell ⟨g, 6, none⟩ v6).setCell ⟨g, 7, none⟩ v7).setCell ⟨g, 8, none⟩ v8).setCell ⟨g, 9, none⟩ v9).setCell ⟨g, 10, none⟩ v10).setCell ⟨g, 11, none⟩ v11).setCell ⟨g, 12, none⟩ v12).setCell ⟨g, 13, none⟩ v13) g #[v0, v1, v2, v3, v4, v5, v6, v7, v8, v9, v10, v11, v12, v13] t := by
  have k0 : Blk (w.setCell ⟨g, 0, none⟩ v0) g #[v0, z1, z2, z3, z4, z5, z6, z7, z8, z9, z10, z11, z12, z13] t := h.set (i := 0) v0
  have k1 : Blk ((w.setCell ⟨g, 0, none⟩ v0).setCell ⟨g, 1, none⟩ v1) g #[v0, v1, z2, z3, z4, z5, z6, z7, z8, z9, z10, z11, z12, z13] t := k0.set (i := 1) v1
  have k2 : Blk (((w.setCell ⟨g, 0, none⟩ v0).setCell ⟨g, 1, none⟩ v1).setCell ⟨g, 2, none⟩ v2) g #[v0, v1, v2, z3, z4, z5, z6, z7, z8, z9, z10, z11, z12, z13] t := k1.set (i := 2) v2
  have k3 : Blk ((((w.setCell ⟨g, 0, none⟩ v0).setCell ⟨g, 1, none⟩ v1).setCell ⟨g, 2, none⟩ v2).setCell ⟨g, 3, none⟩ v3) g #[v0, v1, v2, v3, z4, z5, z6, z7, z8, z9, z10, z11, z12, z13] t := k2.set (i := 3) v3
  have k4 : Blk (((((w.setCell ⟨g, 0, none⟩ v0).setCell ⟨g, 1, none⟩ v1).setCell ⟨g, 2, none⟩ v2).setCell ⟨g, 3, none⟩ v3).setCell ⟨g, 4, none⟩ v4) g #[v0, v1, v2, v3, v4, z5, z6, z7, z8, z9, z10, z11, z12, z13] t := k3.set (i := 4) v4
  have k5 : Blk ((((((w.setCell ⟨g, 0, none⟩ v0).setCell ⟨g, 1, none⟩ v1).setCell ⟨g, 2, none⟩ v2).setCell ⟨g, 3, none⟩ v3).setCell ⟨g, 4, none⟩ v4).setCell ⟨g, 5, none⟩ v5) g #[v0, v1, v2, v3, v4, v5, z6, z7, z8, z9, z10, z11, z12, z13] t := k4.set (i := 5) v5
  have k6 : Blk (((((((w.setCell ⟨g, 0, none⟩ v0).setCell ⟨g, 1, none⟩ v1).setCell ⟨g, 2, none⟩ v2).setCell ⟨g, 3, none⟩ v3).setCell ⟨g, 4, none⟩ v4).setCell ⟨g, 5, none⟩ v5).setCell ⟨g, 6, none⟩ v6) g #[v0, v1, v2, v3, v4, v5, v6, z7, z8, z9, z10, z11, z12, z13] t := k5.set (i := 6) v6
  have k7 : Blk ((((((((w.setCell ⟨g, 0, none⟩ v0).setCell ⟨g, 1, none⟩ v1).setCell ⟨g, 2, none⟩ v2).setCell ⟨g, 3, none⟩ v3).setCell ⟨g, 4, none⟩ v4).setCell ⟨g, 5, none⟩ v5).setCell ⟨g, 6, none⟩ v6).setCell ⟨g, 7, none⟩ v7) g #[v0, v1, v2, v3, v4, v5, v6, v7, z8, z9, z10, z11, z12, z13] t := k6.set (i := 7) v7
  have k8 : Blk (((((((((w.setCell ⟨g, 0, none⟩ v0).setCell ⟨g, 1, none⟩ v1).setCell ⟨g, 2, none⟩ v2).setCell ⟨g, 3, none⟩ v3).setCell ⟨g, 4, none⟩ v4).setCell ⟨g, 5, none⟩ v5).setCell ⟨g, 6, none⟩ v6).setCell ⟨g, 7, none⟩ v7).setCell ⟨g, 8, none⟩ v8) g #[v0, v1, v2, v3, v4, v5, v6, v7, v8, z9, z10, z11, z12, z13] t := k7.set (i := 8) v8
  have k9 : Blk ((((((((((w.setCell ⟨g, 0, none⟩ v0).setCell ⟨g, 1, none⟩ v1).setCell ⟨g, 2, none⟩ v2).setCell ⟨g, 3, none⟩ v3).setCell ⟨g, 4, none⟩ v4).setCell ⟨g, 5, none⟩ v5).setCell ⟨g, 6, none⟩ v6).setCell ⟨g, 7, none⟩ v7).setCell ⟨g, 8, none⟩ v8).setCell ⟨g, 9, none⟩ v9) g #[v0, v1, v2, v3, v4, v5, v6, v7, v8, v9, z10, z11, z12, z13] t := k8.set (i := 9) v9
  have k10 : Blk (((((((((((w.setCell ⟨g, 0, none⟩ v0).setCell ⟨g, 1, none⟩ v1).setCell ⟨g, 2, none⟩ v2).setCell ⟨g, 3, none⟩ v3).setCell ⟨g, 4, none⟩ v4).setCell ⟨g, 5, none⟩ v5).setCell ⟨g, 6, none⟩ v6).setCell ⟨g, 7, none⟩ v7).setCell ⟨g, 8, none⟩ v8).setCell ⟨g, 9, none⟩ v9).setCell ⟨g, 10, none⟩ v10) g #[v0, v1, v2, v3, v4, v5, v6, v7, v8, v9, v10, z11, z12, z13] t := k9.set (i := 10) v10
  have k11 : Blk ((((((((((((w.setCell ⟨g, 0, none⟩ v0).setCell ⟨g, 1, none⟩ v1).setCell ⟨g, 2, none⟩ v2).setCell ⟨g, 3, none⟩ v3).setCell ⟨g, 4, none⟩ v4).setCell ⟨g, 5, none⟩ v5).setCell ⟨g, 6, none⟩ v6).setCell ⟨g, 7, none⟩ v7).setCell ⟨g, 8, none⟩ v8).setCell ⟨g, 9, none⟩ v9).setCell ⟨g, 10, none⟩ v10).setCell ⟨g, 11, none⟩ v11) g #[v0, v1, v2, v3, v4, v5, v6, v7, v8, v9, v10, v11, z12, z13] t := k10.set (i := 11) v11
  have k12 : Blk (((((((((((((w.setCell ⟨g, 0, none⟩ v0).setCell ⟨g, 1, none⟩ v1).setCell ⟨g, 2, none⟩ v2).setCell ⟨g, 3, none⟩ v3).setCell ⟨g, 4, none⟩ v4).setCell ⟨g, 5, none⟩ v5).setCell ⟨g, 6, none⟩ v6).setCell ⟨g, 7, none⟩ v7).setCell ⟨g, 8, none⟩ v8).setCell ⟨g, 9, none⟩ v9).setCell ⟨g, 10, none⟩ v10).setCell ⟨g, 11, none⟩ v11).setCell ⟨g, 12, none⟩ v12) g #[v0, v1, v2, v3, v4, v5, v6, v7, v8, v9, v10, v11, v12, z13] t := k11.set (i := 12) v12
  have k13 : Blk ((((((((((((((w.setCell ⟨g, 0, none⟩ v0).setCell ⟨g, 1, none⟩ v1).setCell ⟨g, 2, none⟩ v2).setCell ⟨g, 3, none⟩ v3).setCell ⟨g, 4, none⟩ v4).setCell ⟨g, 5, none⟩ v5).setCell ⟨g, 6, none⟩ v6).setCell ⟨g, 7, none⟩ v7).setCell ⟨g, 8, none⟩ v8).setCell ⟨g, 9, none⟩ v9).setCell ⟨g, 10, none⟩ v10).setCell ⟨g, 11, none⟩ v11).setCell ⟨g, 12, none⟩ v12).setCell ⟨g, 13, none⟩ v13) g #[v0, v1, v2, v3, v4, v5, v6, v7, v8, v9, v10, v11, v12, v13] t := k12.set (i := 13) v13
  exact k13
theorem fill14_below {B : Nat} {a w : World} {g : Nat} (h : Below B a w) (hg : B ≤ g) (v0 v1 v2 v3 v4 v5 v6 v7 v8 v9 v10 v11 v12 v13 : Value) : Below B a ((((((((((((((w.setCell ⟨g, 0, none⟩ v0).setCell ⟨g, 1, none⟩ v1).setCell ⟨g, 2, none⟩ v2).setCell ⟨g, 3, none⟩ v3).setCell ⟨g, 4, none⟩ v4).setCell ⟨g, 5, none⟩ v5).setCell ⟨g, 6, none⟩ v6).setCell ⟨g, 7, none⟩ v7).setCell ⟨g, 8, none⟩ v8).setCell ⟨g, 9, none⟩ v9).setCell ⟨g, 10, none⟩ v10).setCell ⟨g, 11, none⟩ v11).setCell ⟨g, 12, none⟩ v12).setCell ⟨g, 13, none⟩ v13) := ((((((((((((((h.setCell (p := ⟨g, 0, none⟩) hg v0).setCell (p := ⟨g, 1, none⟩) hg v1).setCell (p := ⟨g, 2, none⟩) hg v2).setCell (p := ⟨g, 3, none⟩) hg v3).setCell (p := ⟨g, 4, none⟩) hg v4).setCell (p := ⟨g, 5, none⟩) hg v5).setCell (p := ⟨g, 6, none⟩) hg v6).setCell (p := ⟨g, 7, none⟩) hg v7).setCell (p := ⟨g, 8, none⟩) hg v8).setCell (p := ⟨g, 9, none⟩) hg v9).setCell (p := ⟨g, 10, none⟩) hg v10).setCell (p := ⟨g, 11, none⟩) hg v11).setCell (p := ⟨g, 12, none⟩) hg v12).setCell (p := ⟨g, 13, none⟩) hg v13)

theorem ex_ov : ovB none [((⟨#[112, 97, 116, 104]⟩ : ByteArray), (⟨#[97]⟩ : ByteArray))] = true := by decide +kernel

set_option maxHeartbeats 8000000 in
theorem apply_path {w : World} {b c : Nat} (hp : Pys w (some ⟨b, 0, none⟩) 1 c [(⟨#[112, 97, 116, 104]⟩, ⟨#[97]⟩)]) (hL : Laid w) (a0 : Int) (s1 s2 : ByteArray) (a3 a4 a5 a6 a7 a8 : Int) (s9 s10 : ByteArray) (a11 a12 : Int) (xa : Option Addr) (xn xc : Nat) :
    Calls Tryd.prog 24 #[.agg #[.int .i64 a0, .string s1, .string s2, .int .i64 a3, .int .i64 a4, .int .i64 a5, .int .i64 a6, .int .i64 a7, .int .i64 a8, .string s9, .string s10, .int .i64 a11, .int .i64 a12, .slice xa xn xc], .slice (some ⟨b, 0, none⟩) 1 c] w fun e w' => e = .returned (.tuple #[.agg #[.int .i64 a0, .string ⟨#[97]⟩, .string s2, .int .i64 a3, .int .i64 a4, .int .i64 a5, .int .i64 a6, .int .i64 a7, .int .i64 a8, .string s9, .string s10, .int .i64 a11, .int .i64 a12, .slice none 0 0], .int .u8 0]) ∧ Below w.heap.size w w' := by
  have hb0 := ((Below.refl w.heap.size w).alloc (Nat.le_refl _) (.cells #[.int .i64 a0, .string s1, .string s2, .int .i64 a3, .int .i64 a4, .int .i64 a5, .int .i64 a6, .int .i64 a7, .int .i64 a8, .string s9, .string s10, .int .i64 a11, .int .i64 a12, .slice xa xn xc] 52))
  have hb1 := hb0.alloc hb0.size (.cells #[.int .i64 0, .string ⟨#[]⟩, .string ⟨#[]⟩, .int .i64 0, .int .i64 0, .int .i64 0, .int .i64 0, .int .i64 0, .int .i64 0, .string ⟨#[]⟩, .string ⟨#[]⟩, .int .i64 0, .int .i64 0, .slice none 0 0] 52)
  have hA : Blk ((w.alloc (.cells #[.int .i64 a0, .string s1, .string s2, .int .i64 a3, .int .i64 a4, .int .i64 a5, .int .i64 a6, .int .i64 a7, .int .i64 a8, .string s9, .string s10, .int .i64 a11, .int .i64 a12, .slice xa xn xc] 52)).alloc (.cells #[.int .i64 0, .string ⟨#[]⟩, .string ⟨#[]⟩, .int .i64 0, .int .i64 0, .int .i64 0, .int .i64 0, .int .i64 0, .int .i64 0, .string ⟨#[]⟩, .string ⟨#[]⟩, .int .i64 0, .int .i64 0, .slice none 0 0] 52)) w.heap.size #[.int .i64 a0, .string s1, .string s2, .int .i64 a3, .int .i64 a4, .int .i64 a5, .int .i64 a6, .int .i64 a7, .int .i64 a8, .string s9, .string s10, .int .i64 a11, .int .i64 a12, .slice xa xn xc] 52 := (Blk.new w _ _).below ((Below.refl _ _).alloc (Nat.le_refl _) _)
  have hZ : Blk ((w.alloc (.cells #[.int .i64 a0, .string s1, .string s2, .int .i64 a3, .int .i64 a4, .int .i64 a5, .int .i64 a6, .int .i64 a7, .int .i64 a8, .string s9, .string s10, .int .i64 a11, .int .i64 a12, .slice xa xn xc] 52)).alloc (.cells #[.int .i64 0, .string ⟨#[]⟩, .string ⟨#[]⟩, .int .i64 0, .int .i64 0, .int .i64 0, .int .i64 0, .int .i64 0, .int .i64 0, .string ⟨#[]⟩, .string ⟨#[]⟩, .int .i64 0, .int .i64 0, .slice none 0 0] 52)) (w.heap.size + 1) #[.int .i64 0, .string ⟨#[]⟩, .string ⟨#[]⟩, .int .i64 0, .int .i64 0, .int .i64 0, .int .i64 0, .int .i64 0, .int .i64 0, .string ⟨#[]⟩, .string ⟨#[]⟩, .int .i64 0, .int .i64 0, .slice none 0 0] 52 := by
    have := Blk.new (w.alloc (.cells #[.int .i64 a0, .string s1, .string s2, .int .i64 a3, .int .i64 a4, .int .i64 a5, .int .i64 a6, .int .i64 a7, .int .i64 a8, .string s9, .string s10, .int .i64 a11, .int .i64 a12, .slice xa xn xc] 52)) #[.int .i64 0, .string ⟨#[]⟩, .string ⟨#[]⟩, .int .i64 0, .int .i64 0, .int .i64 0, .int .i64 0, .int .i64 0, .int .i64 0, .string ⟨#[]⟩, .string ⟨#[]⟩, .int .i64 0, .int .i64 0, .slice none 0 0] 52
    rwa [show (w.alloc (.cells #[.int .i64 a0, .string s1, .string s2, .int .i64 a3, .int .i64 a4, .int .i64 a5, .int .i64 a6, .int .i64 a7, .int .i64 a8, .string s9, .string s10, .int .i64 a11, .int .i64 a12, .slice xa xn xc] 52)).heap.size = w.heap.size + 1 by simp] at this
  have hri := oright_ok (hp.below hb1) (by intro p hp; simp at hp; subst hp; exact ⟨by decide, by decide⟩) (hL.below hb1)
  rw [ex_ov] at hri
  go_enter Tryd.func24, Tryd.ntmps24
  go_wp2_with (go_at_call 17; refine hri.mono ?_; rintro e w1 ⟨rfl, hw1⟩; have hA1 := hA.below hw1; have hZ1 := hZ.below hw1; have hacc := hb1.trans (hw1.mono hb1.size); have y13 := hA1.free 13; (have x13 : w1.cell? ⟨w.heap.size, 13, none⟩ = some (.slice xa xn xc) := hA1.cell 13))
  have hA2 : Blk (w1.setCell ⟨w.heap.size, 13, none⟩ (.slice none 0 0)) w.heap.size #[.int .i64 a0, .string s1, .string s2, .int .i64 a3, .int .i64 a4, .int .i64 a5, .int .i64 a6, .int .i64 a7, .int .i64 a8, .string s9, .string s10, .int .i64 a11, .int .i64 a12, .slice none 0 0] 52 := hA1.set (i := 13) (.slice none 0 0)
  have hZ2 : Blk (w1.setCell ⟨w.heap.size, 13, none⟩ (.slice none 0 0)) (w.heap.size + 1) #[.int .i64 0, .string ⟨#[]⟩, .string ⟨#[]⟩, .int .i64 0, .int .i64 0, .int .i64 0, .int .i64 0, .int .i64 0, .int .i64 0, .string ⟨#[]⟩, .string ⟨#[]⟩, .int .i64 0, .int .i64 0, .slice none 0 0] 52 := by
    unfold Blk
    rw [Below.heap_setCell w1 ⟨w.heap.size, 13, none⟩ _ (w.heap.size + 1) (by simp)]
    exact hZ1
  have hac2 := hacc.setCell (p := ⟨w.heap.size, 13, none⟩) (Nat.le_refl _) (.slice none 0 0)
  have hpc := hp.below hac2
  obtain ⟨-, hc1, hc2, ⟨hx, -⟩ | ⟨-, b', off', hbo, hc⟩⟩ := hpc
  · cases hx
  simp only [Option.some.injEq, Addr.mk.injEq, and_true] at hbo
  obtain ⟨rfl, rfl⟩ := hbo
  obtain ⟨c0, c1⟩ := hc 0 (by decide)
  (have c0' : (w1.setCell ⟨w.heap.size, 13, none⟩ (.slice none 0 0)).cell? ⟨b, 0, none⟩ = some (.string ⟨#[112, 97, 116, 104]⟩) := c0)
  (have c1' : (w1.setCell ⟨w.heap.size, 13, none⟩ (.slice none 0 0)).cell? ⟨b, 1, none⟩ = some (.string ⟨#[97]⟩) := c1)
  have hfr := (Below.refl _ (w1.setCell ⟨w.heap.size, 13, none⟩ (.slice none 0 0))).alloc (Nat.le_refl _) (.cells #[.string ⟨#[112, 97, 116, 104]⟩, .string ⟨#[97]⟩] 37)
  have hsay := say_path ⟨#[97]⟩ (hA2.below hfr) rfl
  have hac3 := hac2.alloc hac2.size (.cells #[.string ⟨#[112, 97, 116, 104]⟩, .string ⟨#[97]⟩] 37)
  have hsz := hac2.size
  have hl2 : w.heap.size + 1 < ((w1.setCell ⟨w.heap.size, 13, none⟩ (.slice none 0 0)).alloc (.cells #[.string ⟨#[112, 97, 116, 104]⟩, .string ⟨#[97]⟩] 37)).heap.size := by have := (hZ2.below hfr).lt; exact this
  clear c0 c1 hc hA1 hZ1 hA hZ y13 x13
  refine wp_loop_rounds 2 ?_
  rw [rounds_succ]
  go_wp2_with (go_at_call 39; refine hsay.mono ?_; rintro e w3 ⟨rfl, hA3', hbel3, hoth3⟩; (have hA3 : Blk w3 w.heap.size #[.int .i64 a0, .string ⟨#[97]⟩, .string s2, .int .i64 a3, .int .i64 a4, .int .i64 a5, .int .i64 a6, .int .i64 a7, .int .i64 a8, .string s9, .string s10, .int .i64 a11, .int .i64 a12, .slice none 0 0] 52 := hA3'); (have hZ3 : Blk w3 (w.heap.size + 1) #[.int .i64 0, .string ⟨#[]⟩, .string ⟨#[]⟩, .int .i64 0, .int .i64 0, .int .i64 0, .int .i64 0, .int .i64 0, .int .i64 0, .string ⟨#[]⟩, .string ⟨#[]⟩, .int .i64 0, .int .i64 0, .slice none 0 0] 52 := by (unfold Blk; rw [hoth3 _ (by omega) hl2]; exact hZ2.below hfr)); obtain ⟨b0, b1, b2, b3, b4, b5, b6, b7, b8, b9, b10, b11, b12, b13⟩ := blk14 hA3; obtain ⟨z0, z1, z2, z3, z4, z5, z6, z7, z8, z9, z10, z11, z12, z13⟩ := blk14 hZ3; obtain ⟨f0, f1, f2, f3, f4, f5, f6, f7, f8, f9, f10, f11, f12, f13⟩ := free14 hZ3; have hac4 := hac3.trans (hbel3 _ (Nat.le_refl _)))
  rw [rounds_succ]
  go_wp2
  have hF := fill14 hZ3 (.int .i64 a0) (.string ⟨#[97]⟩) (.string s2) (.int .i64 a3) (.int .i64 a4) (.int .i64 a5) (.int .i64 a6) (.int .i64 a7) (.int .i64 a8) (.string s9) (.string s10) (.int .i64 a11) (.int .i64 a12) (.slice none 0 0)
  have hB4 := fill14_below hac4 (Nat.le_succ w.heap.size) (.int .i64 a0) (.string ⟨#[97]⟩) (.string s2) (.int .i64 a3) (.int .i64 a4) (.int .i64 a5) (.int .i64 a6) (.int .i64 a7) (.int .i64 a8) (.string s9) (.string s10) (.int .i64 a11) (.int .i64 a12) (.slice none 0 0)
  obtain ⟨g0, g1, g2, g3, g4, g5, g6, g7, g8, g9, g10, g11, g12, g13⟩ := blk14 hF
  clear hF z0 z1 z2 z3 z4 z5 z6 z7 z8 z9 z10 z11 z12 z13 b0 b1 b2 b3 b4 b5 b6 b7 b8 b9 b10 b11 b12 b13 f0 f1 f2 f3 f4 f5 f6 f7 f8 f9 f10 f11 f12 f13
  refine bodyPost_ret (v := .tuple #[.agg #[.int .i64 a0, .string ⟨#[97]⟩, .string s2, .int .i64 a3, .int .i64 a4, .int .i64 a5, .int .i64 a6, .int .i64 a7, .int .i64 a8, .string s9, .string s10, .int .i64 a11, .int .i64 a12, .slice none 0 0], .int .u8 0]) ?_ rfl ⟨rfl, hB4⟩
  clear hB4
  generalize (World.setCell (World.setCell (World.setCell (World.setCell (World.setCell (World.setCell (World.setCell (World.setCell (World.setCell (World.setCell (World.setCell (World.setCell (World.setCell (World.setCell w3 ⟨w.heap.size + 1, 0, none⟩ (.int .i64 a0)) ⟨w.heap.size + 1, 1, none⟩ (.string ⟨#[97]⟩)) ⟨w.heap.size + 1, 2, none⟩ (.string s2)) ⟨w.heap.size + 1, 3, none⟩ (.int .i64 a3)) ⟨w.heap.size + 1, 4, none⟩ (.int .i64 a4)) ⟨w.heap.size + 1, 5, none⟩ (.int .i64 a5)) ⟨w.heap.size + 1, 6, none⟩ (.int .i64 a6)) ⟨w.heap.size + 1, 7, none⟩ (.int .i64 a7)) ⟨w.heap.size + 1, 8, none⟩ (.int .i64 a8)) ⟨w.heap.size + 1, 9, none⟩ (.string s9)) ⟨w.heap.size + 1, 10, none⟩ (.string s10)) ⟨w.heap.size + 1, 11, none⟩ (.int .i64 a11)) ⟨w.heap.size + 1, 12, none⟩ (.int .i64 a12)) ⟨w.heap.size + 1, 13, none⟩ (.slice none 0 0)) = W4 at g0 g1 g2 g3 g4 g5 g6 g7 g8 g9 g10 g11 g12 g13 ⊢
  simp [results, Tryd.results24, go_sem, g0, g1, g2, g3, g4, g5, g6, g7, g8, g9, g10, g11, g12, g13]

theorem ex_lay : layL (layL [] [((⟨#[112, 97, 116, 104]⟩ : ByteArray), (⟨#[97]⟩ : ByteArray))]) [((⟨#[112, 97, 116, 104]⟩ : ByteArray), (⟨#[]⟩ : ByteArray))] = [] := by decide +kernel

set_option maxHeartbeats 4000000 in
theorem alive8_ok (w : World) (hL : Laid w) : Calls Tryd.prog 13 #[] w fun e w' => e = .returned (.bool true) ∧ Below w.heap.size w w' := by
  have hb0 := (Below.refl w.heap.size w).alloc (Nat.le_refl _) (.cells #[.string ⟨#[112, 97, 116, 104]⟩, .string ⟨#[97]⟩] 37)
  have hpy := one_pys w ⟨#[112, 97, 116, 104]⟩ ⟨#[97]⟩
  have hap := apply_path hpy (hL.below hb0) 0 ⟨#[98]⟩ ⟨#[]⟩ 0 0 0 0 0 0 ⟨#[]⟩ ⟨#[]⟩ 0 0 none 0 0
  go_enter Tryd.func13, Tryd.ntmps13
  go_wp2_with (first
    | (go_at_call 24; refine hap.mono ?_; rintro e w1 ⟨rfl, hb1⟩; have hacc := hb0.trans (hb1.mono hb0.size); have hpy1 := hpy.below hb1; have hbh := (Below.refl w1.heap.size w1).alloc (Nat.le_refl _) (.cells #[.int .i64 0, .string ⟨#[97]⟩, .string ⟨#[]⟩, .int .i64 0, .int .i64 0, .int .i64 0, .int .i64 0, .int .i64 0, .int .i64 0, .string ⟨#[]⟩, .string ⟨#[]⟩, .int .i64 0, .int .i64 0, .slice none 0 0] 52); have hpy2 := hpy1.below hbh; have hbp := (Below.refl _ (w1.alloc (.cells #[.int .i64 0, .string ⟨#[97]⟩, .string ⟨#[]⟩, .int .i64 0, .int .i64 0, .int .i64 0, .int .i64 0, .int .i64 0, .int .i64 0, .string ⟨#[]⟩, .string ⟨#[]⟩, .int .i64 0, .int .i64 0, .slice none 0 0] 52))).alloc (Nat.le_refl _) (.cells #[.string ⟨#[112, 97, 116, 104]⟩, .string ⟨#[]⟩] 37); have hpy3 := hpy2.below hbp; have hly := laytwo_ok hpy3 (one_pys (w1.alloc (.cells #[.int .i64 0, .string ⟨#[97]⟩, .string ⟨#[]⟩, .int .i64 0, .int .i64 0, .int .i64 0, .int .i64 0, .int .i64 0, .int .i64 0, .string ⟨#[]⟩, .string ⟨#[]⟩, .int .i64 0, .int .i64 0, .slice none 0 0] 52)) ⟨#[112, 97, 116, 104]⟩ ⟨#[]⟩) (by omega) (by omega); rw [ex_lay, show (w1.alloc (.cells #[.int .i64 0, .string ⟨#[97]⟩, .string ⟨#[]⟩, .int .i64 0, .int .i64 0, .int .i64 0, .int .i64 0, .int .i64 0, .int .i64 0, .string ⟨#[]⟩, .string ⟨#[]⟩, .int .i64 0, .int .i64 0, .slice none 0 0] 52)).heap.size = w1.heap.size + 1 by simp] at hly; have hH := (Blk.new w1 #[.int .i64 0, .string ⟨#[97]⟩, .string ⟨#[]⟩, .int .i64 0, .int .i64 0, .int .i64 0, .int .i64 0, .int .i64 0, .int .i64 0, .string ⟨#[]⟩, .string ⟨#[]⟩, .int .i64 0, .int .i64 0, .slice none 0 0] 52).below hbp; have hac3 := (hacc.alloc hacc.size (.cells #[.int .i64 0, .string ⟨#[97]⟩, .string ⟨#[]⟩, .int .i64 0, .int .i64 0, .int .i64 0, .int .i64 0, .int .i64 0, .int .i64 0, .string ⟨#[]⟩, .string ⟨#[]⟩, .int .i64 0, .int .i64 0, .slice none 0 0] 52)); replace hac3 := hac3.alloc hac3.size (.cells #[.string ⟨#[112, 97, 116, 104]⟩, .string ⟨#[]⟩] 37))
    | (go_at_call 15; refine hly.mono ?_; rintro e w2 ⟨a2, m2, c2, rfl, hp2, hb2⟩; obtain rfl : m2 = 0 := hp2.1.symm; have hH2 := hH.below hb2; (have x1 : w2.cell? ⟨w1.heap.size, 1, none⟩ = some (.string ⟨#[97]⟩) := hH2.cell 1); have hfin := hac3.trans (hb2.mono hac3.size)))
  all_goals go_ret
  all_goals exact ⟨rfl, hfin⟩

end Go.Proofs.YtkocnbdakfhpaaaDoor

/-
  WHAT FOLLOWS OF OVERLAYS, on lists: what is laid is an overlay; laying the same once more changes nothing; pairs of other keys stay. No condition.
-/
namespace Go.Proofs.YtkocnbdakfhpaaaDoor
open Go.ChangeShapes Go.WideShapes Go.ChangeAt Go.RowKit Go.Lib
set_option linter.unusedVariables false
set_option linter.unusedSimpArgs false
set_option maxRecDepth 20000

theorem Ful.nil : Ful [] := fun q hq => by cases hq
theorem get_mem : ∀ (l : PL) (k v : ByteArray), getK l k = some v → (k, v) ∈ l
  | [], k, v, h => by cases h
  | q :: t, k, v, h => by
    rw [getK] at h
    split at h
    · rename_i e
      have : q.2 = v := Option.some.inj h
      rw [← e, ← this]
      exact List.mem_cons_self ..
    · exact List.mem_cons_of_mem _ (get_mem t k v h)
theorem get_of_mem : ∀ (l : PL) (k v : ByteArray), Srt l → (k, v) ∈ l → getK l k = some v
  | q :: t, k, v, hs, h => by
    rw [getK]
    rcases List.mem_cons.1 h with e | e
    · rw [← e, if_pos rfl]
    · have := hs.head (k, v) e
      rw [if_neg (kc_ne this)]
      exact get_of_mem t k v hs.tail e
theorem last_get : ∀ (l : PL) (k : ByteArray), Srt l → lastK l k = getK l k
  | [], k, _ => rfl
  | q :: t, k, hs => by
    rw [lastK, last_get t k hs.tail, getK]
    by_cases h : q.1 = k
    · rw [get_none t k (fun r hr => by rw [← h]; exact hs.head r hr), if_pos h]
    · rw [if_neg h, if_neg h]
      cases getK t k <;> rfl
theorem last_none : ∀ (l : PL) (k : ByteArray), getK l k = none → lastK l k = none
  | [], k, _ => rfl
  | q :: t, k, h => by
    rw [getK] at h
    split at h
    · cases h
    · rename_i e
      rw [lastK, last_none t k h, if_neg e]

/-- an overlay, laid over nothing, is itself -/
theorem lay_self (x : PL) (hs : Srt x) (hf : Ful x) : layL [] x = x := by
  refine srt_ext _ _ (layL_srt x [] Srt.nil) hs fun k => ?_
  rw [get_layL x [] k Srt.nil, last_get x k hs]
  cases h : getK x k with
  | none => rfl
  | some v => simp only; rw [if_neg (hf (k, v) (get_mem x k v h))]
/-- laying the same once more changes nothing -/
theorem lay_twice (l more : PL) (hs : Srt l) : layL (layL l more) more = layL l more := by
  have h1 := layL_srt more l hs
  refine srt_ext _ _ (layL_srt more _ h1) h1 fun k => ?_
  rw [get_layL more _ k h1, get_layL more l k hs]
  cases lastK more k <;> rfl
/-- pairs of other keys stay -/
theorem lay_stays (l more : PL) (hs : Srt l) (k v : ByteArray) (hm : (k, v) ∈ l) (hn : getK more k = none) : getK (layL l more) k = some v := by
  rw [get_layL more l k hs, last_none more k hn]
  exact get_of_mem l k v hs hm
theorem layL_mem : ∀ (ps l : PL) (q : ByteArray × ByteArray), q ∈ layL l ps → q ∈ l ∨ q ∈ ps
  | [], l, q, h => .inl h
  | p :: t, l, q, h => by
    rcases layL_mem t (layP l p) q h with e | e
    · rcases lay_mem l p q e with e | ⟨e, _⟩
      · exact .inl e
      · exact .inr (by rw [e]; exact List.mem_cons_self ..)
    · exact .inr (List.mem_cons_of_mem _ e)

/-- are all right? -/
def rgB (l : PL) : Bool := l.all fun p => rightP (bs p.1) (bs p.2)
theorem rgB_iff (l : PL) : rgB l = true ↔ Rgt l := by unfold rgB Rgt; rw [List.all_eq_true]
theorem rgB_drop {l : PL} {i : Nat} {k v : ByteArray} (h : l.drop i = (k, v) :: l.drop (i + 1)) : rgB (l.drop i) = (rightP (bs k) (bs v) && rgB (l.drop (i + 1))) := by rw [h]; rfl

end Go.Proofs.YtkocnbdakfhpaaaDoor

/-
  WHETHER THE PAIRS ARE FEW. Conditions: how many bytes their texts may have together.
-/
namespace Go.Proofs.YtkocnbdakfhpaaaDoor
open Go.ChangeShapes Go.WideShapes Go.ChangeAt Go.RowKit Go.Lib
set_option linter.unusedVariables false
set_option linter.unusedSimpArgs false
set_option maxRecDepth 20000

set_option maxHeartbeats 4000000 in
theorem few8_ok {w : World} {a : Option Addr} {n c : Nat} {l : List (ByteArray × ByteArray)} (h : Pys w a n c l) (ht : totN l ≤ 4611686018427387904) :
    Calls Tryd.prog 14 #[.slice a n c] w fun e w' => e = .returned (.bool (decide (n ≤ 40 ∧ totN l ≤ 3000))) ∧ Below w.heap.size w w' := by
  obtain ⟨hl, hlc, hm, ⟨rfl, rfl⟩ | ⟨h0, b, off, rfl, hc⟩⟩ := h
  · go_enter Tryd.func14, Tryd.ntmps14
    go_wp2
    refine wp_loop_rounds 1 ?_
    rw [rounds_succ]
    go_wp2
    go_ret
    exact ⟨rfl, Below.refl _ _⟩
  · obtain ⟨T, hT⟩ : ∃ T, T = totN l := ⟨_, rfl⟩
    rw [← hT] at ht ⊢
    have hl' := hid hl
    have hT' := hid hT
    clear hl hT
    go_enter Tryd.func14, Tryd.ntmps14
    go_wp2
    go_loopw [3, 4] (fun y x wr => ∃ (s k : Nat), y = .int .i64 s ∧ x = .int .i64 k ∧ Below w.heap.size w wr ∧ k ≤ n ∧ s ≤ T ∧ Hid (s + totN (l.drop k) = T)) (fun _ x _ => n - (RowKit.intOf x).toNat)
    case atStart => exact ⟨0, 0, rfl, rfl, Below.refl _ _, by omega, by omega, hid (by rw [hT'.out]; simp)⟩
    case round =>
      obtain ⟨s, k, rfl, rfl, hb, hk, hs, hr⟩ := hrel
      by_cases hlt : k < n
      · obtain ⟨ky, vl, hmem, hd, c0, c1⟩ := (hc.below hb).at k (by rw [hl'.out]; exact hlt)
        have hkI : (k : Int) < (n : Int) := by omega
        have E := hid (by have := hr.out; rw [hd.out, totN] at this; simp only at this; omega : s + ky.size + vl.size + totN (l.drop (k + 1)) = T)
        have hb1 : s + ky.size + vl.size ≤ T := by have := E.out; omega
        clear hr hd hmem
        go_wp2
        go_region
        go_wp2
        go_roundw
        case rel => exact ⟨s + ky.size + vl.size, k + 1, by go_num, by go_num, hb.drew, by omega, hb1, E⟩
        case measure => simp [RowKit.intOf]; omega
      · obtain rfl : k = n := by omega
        have E : s = T := by have := hr.out; rw [List.drop_eq_nil_iff.mpr (by rw [hl'.out]; exact Nat.le_refl _), totN] at this; omega
        subst E
        clear hr hT'
        by_cases g1 : k ≤ 40
        · by_cases g2 : s ≤ 3000
          · have i1 : (k : Int) ≤ 40 := by omega
            have i2 : (s : Int) ≤ 3000 := by omega
            go_wp2
            all_goals go_ret
            all_goals exact ⟨by simp [g1, g2], hb⟩
          · have i1 : (k : Int) ≤ 40 := by omega
            have i2 : ¬ (s : Int) ≤ 3000 := by omega
            go_wp2
            all_goals go_ret
            all_goals exact ⟨by simp [g1, g2], hb⟩
        · have i1 : ¬ (k : Int) ≤ 40 := by omega
          go_wp2
          all_goals go_ret
          all_goals exact ⟨by simp [g1], hb⟩

set_option maxHeartbeats 4000000 in
theorem few8_big {w : World} {a : Option Addr} {n c : Nat} {l : List (ByteArray × ByteArray)} (h : Pys w a n c l) (hn : 40 < n) :
    Calls Tryd.prog 14 #[.slice a n c] w fun e w' => e = .returned (.bool false) ∧ Below w.heap.size w w' := by
  obtain ⟨hl, hlc, hm, ⟨rfl, rfl⟩ | ⟨h0, b, off, rfl, hc⟩⟩ := h
  · omega
  · have hl' := hid hl
    clear hl
    go_enter Tryd.func14, Tryd.ntmps14
    go_wp2
    go_loopw [3, 4] (fun y x wr => ∃ (s : Int) (k : Nat), y = .int .i64 s ∧ x = .int .i64 k ∧ Below w.heap.size w wr ∧ k ≤ n) (fun _ x _ => n - (RowKit.intOf x).toNat)
    case atStart => exact ⟨0, 0, rfl, rfl, Below.refl _ _, by omega⟩
    case round =>
      obtain ⟨s, k, rfl, rfl, hb, hk⟩ := hrel
      by_cases hlt : k < n
      · obtain ⟨ky, vl, hmem, hd, c0, c1⟩ := (hc.below hb).at k (by rw [hl'.out]; exact hlt)
        have hkI : (k : Int) < (n : Int) := by omega
        clear hd hmem
        go_wp2
        go_region
        go_wp2
        go_roundw
        case rel => exact ⟨_, k + 1, rfl, by go_num, hb.drew, by omega⟩
        case measure => simp [RowKit.intOf]; omega
      · obtain rfl : k = n := by omega
        have i1 : ¬ (k : Int) ≤ 40 := by omega
        go_wp2
        all_goals go_ret
        all_goals exact ⟨rfl, hb⟩

theorem few8_all {w : World} {a : Option Addr} {n c : Nat} {l : List (ByteArray × ByteArray)} (h : Pys w a n c l) (hs : ∀ p ∈ l, p.1.size ≤ 140737488351232 ∧ p.2.size ≤ 140737488351232) :
    Calls Tryd.prog 14 #[.slice a n c] w fun e w' => e = .returned (.bool (decide (n ≤ 40 ∧ totN l ≤ 3000))) ∧ Below w.heap.size w w' := by
  by_cases hn : n ≤ 40
  · refine few8_ok h ?_
    have := tot_le 140737488351232 l hs
    have h1 := h.1
    omega
  · refine (few8_big h (by omega)).mono fun e w' ⟨h1, h2⟩ => ⟨?_, h2⟩
    rw [h1, decide_eq_false (by omega)]

end Go.Proofs.YtkocnbdakfhpaaaDoor

/-
  THE WALK OF OverAgain: it answers true at all pairs. Conditions: a text has no more bytes than a machine reaches; what the listed variables hold.
-/
namespace Go.Proofs.YtkocnbdakfhpaaaDoor
open Go.ChangeShapes Go.WideShapes Go.ChangeAt Go.RowKit Go.Lib
set_option linter.unusedVariables false
set_option linter.unusedSimpArgs false
set_option maxRecDepth 20000

theorem pys_news {w : World} {x : Addr} {n c : Nat} {l : PL} (h : Pys w (some x) n c l) : ∀ j u, (pcs2 l)[j]? = some u → w.cell? (x.add j) = some u := by
  obtain ⟨hl, hlc, hm, ⟨rfl, rfl⟩ | ⟨h0, b, off, e, hc⟩⟩ := h
  · intro j u hj; simp [pcs2] at hj
  · intro j u hj
    simp only [Option.some.injEq] at e
    subst e
    have hjl : j < l.length * 2 := by have := (List.getElem?_eq_some_iff.1 hj).1; rwa [pcs2_len] at this
    obtain ⟨p1, p2⟩ := pcs2_at l (j / 2) (by omega)
    obtain ⟨c1, c2⟩ := hc (j / 2) (by omega)
    rw [Addr.add_lit]
    rcases Nat.mod_two_eq_zero_or_one j with e | e
    · have hj2 : j / 2 * 2 = j := by omega
      rw [hj2] at p1 c1
      rw [c1, ← p1, hj]
    · have hj2 : j / 2 * 2 + 1 = j := by omega
      rw [hj2] at p2
      rw [show off + j / 2 * 2 + 1 = off + j by omega] at c2
      rw [c2, ← p2, hj]

set_option maxHeartbeats 16000000 in
theorem again_walk {w : World} {a a' : Option Addr} {n c n' c' : Nat} {l more : PL} (hP : Pys w a n c l) (hz : ∀ q ∈ l, q.1.size ≤ 140737488351232 ∧ q.2.size ≤ 140737488351232) (hQ : Pys w a' n' c' more) (hz' : ∀ q ∈ more, q.1.size ≤ 140737488351232 ∧ q.2.size ≤ 140737488351232) (hnl : a = none → n = 0 ∧ c = 0) (hL : Laid w) :
    Calls Tryd.prog 5 #[.slice a n c, .slice a' n' c'] w fun e w' => e = .returned (.bool true) ∧ Below w.heap.size w w' := by
  have hal := alive8_ok w hL
  have hfw := fun w' (hb : Below w.heap.size w w') => few8_all (hP.below hb) hz
  have hfw2 := fun w' (hb : Below w.heap.size w w') => few8_all (hQ.below hb) hz'
  have hpc := hP.2.1
  have hpm := hP.2.2.1
  have hqc := hQ.2.1
  have hqm := hQ.2.2.1
  by_cases hf : n ≤ 40 ∧ totN l ≤ 3000
  · rw [decide_eq_true hf] at hfw
    by_cases hg : n' ≤ 40 ∧ totN more ≤ 3000
    · rw [decide_eq_true hg] at hfw2
      have hS : Sml l := fun p hp => by have := tot_mem l p hp; omega
      have hS' : Sml more := fun p hp => by have := tot_mem more p hp; omega
      obtain ⟨L, hLe⟩ : ∃ L, L = layL [] l := ⟨_, rfl⟩
      obtain ⟨X, hXe⟩ : ∃ X, X = layL L more := ⟨_, rfl⟩
      have hLs : Srt L := by rw [hLe]; exact layL_srt l [] Srt.nil
      have hLf : Ful L := by rw [hLe]; exact layL_ful l [] Ful.nil
      have hXs : Srt X := by rw [hXe]; exact layL_srt more L hLs
      have hXf : Ful X := by rw [hXe]; exact layL_ful more L hLf
      have hXX : layL [] X = X := lay_self X hXs hXf
      have hXm : layL X more = X := by rw [hXe]; exact lay_twice L more hLs
      have hLlen : L.length ≤ 40 := by have := layL_len l []; have h2 := hP.1; rw [hLe]; simp at this; omega
      have hXlen : X.length ≤ 80 := by have := layL_len more L; have h2 := hQ.1; rw [hXe]; omega
      have hLmem : ∀ q ∈ L, q ∈ l := fun q hq => by
        rw [hLe] at hq
        rcases layL_mem l [] q hq with e | e
        · cases e
        · exact e
      have hXmem : ∀ q ∈ X, q ∈ l ∨ q ∈ more := fun q hq => by
        rw [hXe] at hq
        rcases layL_mem more L q hq with e | e
        · exact .inl (hLmem q e)
        · exact .inr e
      have hXS : Sml X := fun q hq => by
        rcases hXmem q hq with e | e
        · exact hS q e
        · exact hS' q e
      have hXR : rgB l = true → rgB more = true → ovB none X = true := fun h1 h2 => (ovB_iff X).2 ⟨hXs, hXf, fun q hq => by
        rcases hXmem q hq with e | e
        · exact (rgB_iff l).1 h1 q e
        · exact (rgB_iff more).1 h2 q e⟩
      have hst : ∀ q ∈ L, getK more q.1 = none → getK X q.1 = some q.2 := fun q hq h => by rw [hXe]; exact lay_stays L more hLs q.1 q.2 hq h
      have hl1 := fun w' (hb : Below w.heap.size w w') => laytwo_ok (hP.below hb) (hQ.below hb) (by omega) (by omega)
      rw [← hLe, ← hXe] at hl1
      have hl2 := fun (w' : World) (ax nx cx) (hb : Below w.heap.size w w') (hx : Pys w' ax nx cx X) => laytwo_ok hx (hQ.below hb) (by have := hx.1; omega) (by omega)
      rw [hXX, hXm] at hl2
      have hnil := fun (w' : World) => (⟨rfl, Nat.le_refl _, by omega, .inl ⟨rfl, rfl⟩⟩ : Pys w' none 0 0 [])
      have hl3 := fun (w' : World) (ax nx cx) (hx : Pys w' ax nx cx X) => laytwo_ok hx (hnil w') (by have := hx.1; omega) (by omega)
      have e3 : layL (layL [] X) [] = X := by rw [hXX]; rfl
      rw [e3] at hl3
      have hl4 := fun w' (hb : Below w.heap.size w w') => laytwo_ok (hP.below hb) (hnil w') (by omega) (by omega)
      have e4 : layL (layL [] l) [] = L := by rw [← hLe]; rfl
      rw [e4] at hl4
      have hor := fun (w' : World) (ax nx cx) (hb : Below w.heap.size w w') (hx : Pys w' ax nx cx X) => oright_ok hx hXS (hL.below hb)
      obtain ⟨i0, hi0, hz0, hz1, hz2⟩ := info_parts infoPair
      have hln := hid hP.1
      have hqn := hid hQ.1
      have hSl := hid hS
      have hSm := hid hS'
      have hXRh := hid hXR
      have hsth := hid hst
      clear hS hS' hLe hXe hLs hLf hXs hXf hXX hXm hLmem hXmem hXS hXR hst e3 e4
      generalize ovB none X = OB at *
      cases a with
      | none =>
        obtain ⟨rfl, rfl⟩ := hnl rfl
        have hl0 : Hid (l = []) := hid (by have := hln.out; simpa using this)
        go_enter Tryd.func5, Tryd.ntmps5
        go_wp2_with (first
            | (go_at_call 13; refine hal.mono ?_; rintro e w1 ⟨rfl, hacc⟩; clear hal)
            | (go_at_call 14; refine (hfw _ hacc).mono ?_; rintro e w2 ⟨rfl, hb2⟩; replace hacc := hacc.trans (hb2.mono hacc.size); clear hfw hb2)
            | (go_at_call 14; refine (hfw2 _ hacc).mono ?_; rintro e w3 ⟨rfl, hb3⟩; replace hacc := hacc.trans (hb3.mono hacc.size); clear hfw2 hb3; have hlit := World.ownsRow_lit (base := w.heap.size) (e := 37) (size := 2) w3 #[] 0 hacc.size (by unfold maxLen; omega) rfl; have hbl := hacc.alloc hacc.size (.cells #[] 37); (have hpw : Pys (w3.alloc (.cells #[] 37)) (some ⟨w3.heap.size, 0, none⟩) 0 0 l := by (rw [hl0.out]; exact ⟨rfl, Nat.le_refl _, by omega, .inl ⟨rfl, rfl⟩⟩)); clear hacc hlit; have hacc := hbl; clear hbl)
            | (go_at_call 15; refine (hl1 _ hacc).mono ?_; rintro e w4 ⟨ax, nx, cx, rfl, hx, hb4⟩; replace hpw := hpw.below hb4; replace hacc := hacc.trans (hb4.mono hacc.size); clear hl1 hb4)
            | (go_at_call 15; refine (hl2 _ _ _ _ hacc hx).mono ?_; rintro e w5 ⟨ay, ny, cy, rfl, hy, hb5⟩; replace hpw := hpw.below hb5; replace hx := hx.below hb5; replace hacc := hacc.trans (hb5.mono hacc.size); clear hl2 hb5)
            | (go_at_call 9; refine (same_ok hx hy).mono ?_; rintro e w6 ⟨rfl, hb6⟩; replace hpw := hpw.below hb6; replace hx := hx.below hb6; replace hacc := hacc.trans (hb6.mono hacc.size); clear hy hb6)
            | (go_at_call 15; refine (hl3 _ _ _ _ hx).mono ?_; rintro e w7 ⟨az, nz, cz, rfl, hzz, hb7⟩; replace hpw := hpw.below hb7; replace hx := hx.below hb7; replace hacc := hacc.trans (hb7.mono hacc.size); clear hl3 hb7)
            | (go_at_call 9; refine (same_ok hzz hx).mono ?_; rintro e w8 ⟨rfl, hb8⟩; replace hpw := hpw.below hb8; replace hx := hx.below hb8; replace hacc := hacc.trans (hb8.mono hacc.size); clear hzz hb8)
            | (go_at_call 9; refine (same_ok hpw (hP.below hacc)).mono ?_; rintro e w9 ⟨rfl, hb9⟩; replace hx := hx.below hb9; replace hacc := hacc.trans (hb9.mono hacc.size); clear hpw hb9))
        go_loopw [8, 9] (fun y x wr => ∃ (b : Bool) (k : Nat), y = .bool b ∧ x = .int .i64 k ∧ k ≤ 0 ∧ Below w9.heap.size w9 wr ∧ Hid (rgB l = (b && rgB (l.drop k)))) (fun _ x _ => 0 - (RowKit.intOf x).toNat)
        case atStart => exact ⟨true, 0, rfl, rfl, by omega, Below.refl _ _, hid (by simp)⟩
        case round =>
          obtain ⟨b, k, rfl, rfl, hk, hb, hr⟩ := hrel
          have hac1 := hacc.trans (hb.mono hacc.size)
          by_cases hlt : k < 0
          · omega
          · obtain rfl : k = 0 := by omega
            have hkI : ¬ ((0 : Nat) : Int) < ((0 : Nat) : Int) := by omega
            have hbE := hid (by rw [hr.out, show l.drop 0 = [] from List.drop_eq_nil_iff.mpr (by rw [hln.out]; exact Nat.le_refl _)]; simp [rgB] : rgB l = b)
            replace hx := hx.below hb
            clear hr
            go_wp2
            generalize wr = wu at *
            go_loopw [8, 10] (fun y x wt => ∃ (d : Bool) (k : Nat), y = .bool d ∧ x = .int .i64 k ∧ k ≤ n' ∧ Below wu.heap.size wu wt ∧ Hid ((b && rgB more) = (d && rgB (more.drop k)))) (fun _ x _ => n' - (RowKit.intOf x).toNat)
            case atStart => exact ⟨b, 0, rfl, rfl, by omega, Below.refl _ _, hid (by simp)⟩
            case round =>
              obtain ⟨d, k2, rfl, rfl, hk2, hb2, hr2⟩ := hrel
              have hac2 := hac1.trans (hb2.mono hac1.size)
              by_cases hlt2 : k2 < n'
              · obtain ⟨bb2, oo2, hae2, hc2⟩ := hQ.some_of (by omega)
                subst hae2
                obtain ⟨ky, vl, hmem, hd, x0, x1⟩ := (hc2.below hac2).at k2 (by rw [hqn.out]; exact hlt2)
                obtain ⟨z1, z2⟩ := hSm.out _ hmem
                simp only at z1 z2
                have hkI2 : (k2 : Int) < (n' : Int) := by omega
                have hrk := rgB_drop hd.out
                cases d
                · have E := hid (by rw [hr2.out]; rfl : (b && rgB more) = (false && rgB (more.drop (k2 + 1))))
                  clear hr2 hd hmem hrk
                  go_wp2
                  go_roundw
                  case rel => exact ⟨false, k2 + 1, rfl, by go_num, by omega, hb2, E⟩
                  case measure => simp [RowKit.intOf]; omega
                · have hrr := rr_ok ky vl z1 z2 wr
                  have E := hid (by rw [hr2.out, hrk]; rfl : (b && rgB more) = (rightP (bs ky) (bs vl) && rgB (more.drop (k2 + 1))))
                  generalize rightP (bs ky) (bs vl) = R at *
                  clear hr2 hd hmem hrk
                  go_wp2_with (go_at_call 16; refine hrr.mono ?_; rintro e wb ⟨rfl, hbb⟩)
                  go_roundw
                  case rel => exact ⟨R, k2 + 1, rfl, by go_num, by omega, hb2.trans (hbb.mono hb2.size), E⟩
                  case measure => simp [RowKit.intOf]; omega
              · obtain rfl : k2 = n' := by omega
                have hkI2 : ¬ (k2 : Int) < (k2 : Int) := by omega
                have hdE := hid (by rw [hr2.out, show more.drop k2 = [] from List.drop_eq_nil_iff.mpr (by rw [hqn.out]; exact Nat.le_refl _)]; simp [rgB] : (b && rgB more) = d)
                have hOB : d = true → OB = true := fun e => by
                  have h1 := hdE.out
                  rw [e, Bool.and_eq_true] at h1
                  exact hXRh.out (by rw [hbE.out]; exact h1.1) h1.2
                replace hx := hx.below hb2
                clear hr2 hdE hbE
                cases d
                · clear hOB
                  go_wp2_with (go_at_call 15; refine (hl4 _ hac2).mono ?_; rintro e wL ⟨aL, nL, cL, rfl, hpL, hbL⟩; replace hx := hx.below hbL; have hac3 := hac2.trans (hbL.mono hac2.size))
                  go_loopw [12] (fun x wt => ∃ k : Nat, x = .int .i64 k ∧ k ≤ nL ∧ Below wL.heap.size wL wt) (fun x _ => nL - (RowKit.intOf x).toNat)
                  case atStart => exact ⟨0, rfl, by omega, Below.refl _ _⟩
                  case round =>
                    obtain ⟨k3, rfl, hk3, hb3⟩ := hrel
                    have hac4 := hac3.trans (hb3.mono hac3.size)
                    by_cases hlt3 : k3 < nL
                    · obtain ⟨bL, oL, hae3, hcL⟩ := hpL.some_of (by omega)
                      subst hae3
                      have hm5 := hpL.1
                      have hm6 := hpL.2.1
                      have hm7 := hpL.2.2.1
                      obtain ⟨ky, vl, hmem, hd, x0, x1⟩ := (hcL.below hb3).at k3 (by rw [hm5]; exact hlt3)
                      have hkI3 : (k3 : Int) < (nL : Int) := by omega
                      have hg1 := oget_ok (hQ.below hac4) ky
                      have hstq := hsth.out _ hmem
                      simp only at hstq
                      replace hm5 := hid hm5
                      cases hgm : getK more ky with
                      | some v =>
                        rw [hgm] at hg1
                        clear hstq hgm hd hmem
                        go_wp2_with (go_at_call 18; refine hg1.mono ?_; rintro e wb ⟨rfl, hbb⟩)
                        go_roundw
                        case rel => exact ⟨k3 + 1, by go_num, by omega, hb3.trans (hbb.mono hb3.size)⟩
                        case measure => simp [RowKit.intOf]; omega
                      | none =>
                        have hgx := hstq hgm
                        rw [hgm] at hg1
                        have hg2 := fun w' (hbb : Below wr.heap.size wr w') => oget_ok ((hx.below hb3).below hbb) ky
                        rw [hgx, show getV (some vl) = vl from rfl] at hg2
                        have hvv : (vl.toList != vl.toList) = false := by simp
                        clear hstq hgm hgx hd hmem
                        go_wp2_with (first
                          | (go_at_call 18; refine hg1.mono ?_; rintro e wb ⟨rfl, hbb⟩; have y0 := cell_later hbb x0; have y1 := cell_later hbb x1; clear hg1)
                          | (go_at_call 18; refine (hg2 _ hbb).mono ?_; rintro e wc ⟨rfl, hbc⟩; have z0 := cell_later hbc y0; have z1 := cell_later hbc y1))
                        go_roundw
                        case rel => exact ⟨k3 + 1, by go_num, by omega, hb3.trans ((hbb.trans (hbc.mono hbb.size)).mono hb3.size)⟩
                        case measure => simp [RowKit.intOf]; omega
                    · obtain rfl : k3 = nL := by omega
                      have hkI3 : ¬ (k3 : Int) < (k3 : Int) := by omega
                      go_wp2
                      all_goals go_ret
                      all_goals exact ⟨rfl, hac4⟩
                · have hOBt := hOB rfl
                  subst hOBt
                  clear hOB
                  go_wp2_with (first
                    | (go_at_call 17; refine (hor _ _ _ _ hac2 hx).mono ?_; rintro e wo ⟨rfl, hbo⟩; replace hx := hx.below hbo; replace hac2 := hac2.trans (hbo.mono hac2.size))
                    | (go_at_call 15; refine (hl4 _ hac2).mono ?_; rintro e wL ⟨aL, nL, cL, rfl, hpL, hbL⟩; replace hx := hx.below hbL; have hac3 := hac2.trans (hbL.mono hac2.size)))
                  go_loopw [12] (fun x wt => ∃ k : Nat, x = .int .i64 k ∧ k ≤ nL ∧ Below wL.heap.size wL wt) (fun x _ => nL - (RowKit.intOf x).toNat)
                  case atStart => exact ⟨0, rfl, by omega, Below.refl _ _⟩
                  case round =>
                    obtain ⟨k3, rfl, hk3, hb3⟩ := hrel
                    have hac4 := hac3.trans (hb3.mono hac3.size)
                    by_cases hlt3 : k3 < nL
                    · obtain ⟨bL, oL, hae3, hcL⟩ := hpL.some_of (by omega)
                      subst hae3
                      have hm5 := hpL.1
                      have hm6 := hpL.2.1
                      have hm7 := hpL.2.2.1
                      obtain ⟨ky, vl, hmem, hd, x0, x1⟩ := (hcL.below hb3).at k3 (by rw [hm5]; exact hlt3)
                      have hkI3 : (k3 : Int) < (nL : Int) := by omega
                      have hg1 := oget_ok (hQ.below hac4) ky
                      have hstq := hsth.out _ hmem
                      simp only at hstq
                      replace hm5 := hid hm5
                      cases hgm : getK more ky with
                      | some v =>
                        rw [hgm] at hg1
                        clear hstq hgm hd hmem
                        go_wp2_with (go_at_call 18; refine hg1.mono ?_; rintro e wb ⟨rfl, hbb⟩)
                        go_roundw
                        case rel => exact ⟨k3 + 1, by go_num, by omega, hb3.trans (hbb.mono hb3.size)⟩
                        case measure => simp [RowKit.intOf]; omega
                      | none =>
                        have hgx := hstq hgm
                        rw [hgm] at hg1
                        have hg2 := fun w' (hbb : Below wr.heap.size wr w') => oget_ok ((hx.below hb3).below hbb) ky
                        rw [hgx, show getV (some vl) = vl from rfl] at hg2
                        have hvv : (vl.toList != vl.toList) = false := by simp
                        clear hstq hgm hgx hd hmem
                        go_wp2_with (first
                          | (go_at_call 18; refine hg1.mono ?_; rintro e wb ⟨rfl, hbb⟩; have y0 := cell_later hbb x0; have y1 := cell_later hbb x1; clear hg1)
                          | (go_at_call 18; refine (hg2 _ hbb).mono ?_; rintro e wc ⟨rfl, hbc⟩; have z0 := cell_later hbc y0; have z1 := cell_later hbc y1))
                        go_roundw
                        case rel => exact ⟨k3 + 1, by go_num, by omega, hb3.trans ((hbb.trans (hbc.mono hbb.size)).mono hb3.size)⟩
                        case measure => simp [RowKit.intOf]; omega
                    · obtain rfl : k3 = nL := by omega
                      have hkI3 : ¬ (k3 : Int) < (k3 : Int) := by omega
                      go_wp2
                      all_goals go_ret
                      all_goals exact ⟨rfl, hac4⟩
      | some ad =>
        go_enter Tryd.func5, Tryd.ntmps5
        go_wp2_with (first
            | (go_at_call 13; refine hal.mono ?_; rintro e w1 ⟨rfl, hacc⟩; clear hal)
            | (go_at_call 14; refine (hfw _ hacc).mono ?_; rintro e w2 ⟨rfl, hb2⟩; replace hacc := hacc.trans (hb2.mono hacc.size); clear hfw hb2)
            | (go_at_call 14; refine (hfw2 _ hacc).mono ?_; rintro e w3 ⟨rfl, hb3⟩; replace hacc := hacc.trans (hb3.mono hacc.size); clear hfw2 hb3; have hlit := World.ownsRow_lit (base := w.heap.size) (e := 37) (size := 2) w3 #[] 0 hacc.size (by unfold maxLen; omega) rfl; have hbl := hacc.alloc hacc.size (.cells #[] 37); have hPl := hP.below hbl)
            | (at_builtin; refine wpList_append_own (P := Tryd.prog) _ rfl (.tmp 27) (.tmp 28) 24 rfl w.heap.size 37 i0 (.agg #[.string ⟨#[]⟩, .string ⟨#[]⟩]) 2 32 Tryd.underlying24 hi0 hz0 hz1 hz2 rfl (by decide) _ _ _ rfl hlit ad n c (pcs2 l) rfl (by rw [pcs2_len, hln.out]) (pys_news hPl) (pcs2_one l) (by unfold maxLen; omega) (by omega) hbl.size ?_; intro v' wA hown' hgrow' _; rw [Nat.zero_add, List.nil_append] at hown'; obtain ⟨aw, cw, rfl, hpw⟩ := own_pys hown' hln.out; have hacA := hbl.grown hgrow' hbl.size (fun g hg => (hlit.lt g hg).1); clear hacc hown' hgrow' hlit hbl hPl; have hacc := hacA; clear hacA)
            | (go_at_call 15; refine (hl1 _ hacc).mono ?_; rintro e w4 ⟨ax, nx, cx, rfl, hx, hb4⟩; replace hpw := hpw.below hb4; replace hacc := hacc.trans (hb4.mono hacc.size); clear hl1 hb4)
            | (go_at_call 15; refine (hl2 _ _ _ _ hacc hx).mono ?_; rintro e w5 ⟨ay, ny, cy, rfl, hy, hb5⟩; replace hpw := hpw.below hb5; replace hx := hx.below hb5; replace hacc := hacc.trans (hb5.mono hacc.size); clear hl2 hb5)
            | (go_at_call 9; refine (same_ok hx hy).mono ?_; rintro e w6 ⟨rfl, hb6⟩; replace hpw := hpw.below hb6; replace hx := hx.below hb6; replace hacc := hacc.trans (hb6.mono hacc.size); clear hy hb6)
            | (go_at_call 15; refine (hl3 _ _ _ _ hx).mono ?_; rintro e w7 ⟨az, nz, cz, rfl, hzz, hb7⟩; replace hpw := hpw.below hb7; replace hx := hx.below hb7; replace hacc := hacc.trans (hb7.mono hacc.size); clear hl3 hb7)
            | (go_at_call 9; refine (same_ok hzz hx).mono ?_; rintro e w8 ⟨rfl, hb8⟩; replace hpw := hpw.below hb8; replace hx := hx.below hb8; replace hacc := hacc.trans (hb8.mono hacc.size); clear hzz hb8)
            | (go_at_call 9; refine (same_ok hpw (hP.below hacc)).mono ?_; rintro e w9 ⟨rfl, hb9⟩; replace hx := hx.below hb9; replace hacc := hacc.trans (hb9.mono hacc.size); clear hpw hb9))
        go_loopw [8, 9] (fun y x wr => ∃ (b : Bool) (k : Nat), y = .bool b ∧ x = .int .i64 k ∧ k ≤ n ∧ Below w9.heap.size w9 wr ∧ Hid (rgB l = (b && rgB (l.drop k)))) (fun _ x _ => n - (RowKit.intOf x).toNat)
        case atStart => exact ⟨true, 0, rfl, rfl, by omega, Below.refl _ _, hid (by simp)⟩
        case round =>
          obtain ⟨b, k, rfl, rfl, hk, hb, hr⟩ := hrel
          have hac1 := hacc.trans (hb.mono hacc.size)
          by_cases hlt : k < n
          · obtain ⟨bb, oo, hae, hc1⟩ := hP.some_of (by omega)
            simp only [Option.some.injEq] at hae
            subst hae
            obtain ⟨ky, vl, hmem, hd, x0, x1⟩ := (hc1.below hac1).at k (by rw [hln.out]; exact hlt)
            obtain ⟨z1, z2⟩ := hSl.out _ hmem
            simp only at z1 z2
            have hkI : (k : Int) < (n : Int) := by omega
            have hrk := rgB_drop hd.out
            cases b
            · have E := hid (by rw [hr.out]; rfl : rgB l = (false && rgB (l.drop (k + 1))))
              clear hr hd hmem hrk
              go_wp2
              go_roundw
              case rel => exact ⟨false, k + 1, rfl, by go_num, by omega, hb, E⟩
              case measure => simp [RowKit.intOf]; omega
            · have hrr := rr_ok ky vl z1 z2 wr
              have E := hid (by rw [hr.out, hrk]; rfl : rgB l = (rightP (bs ky) (bs vl) && rgB (l.drop (k + 1))))
              generalize rightP (bs ky) (bs vl) = R at *
              clear hr hd hmem hrk
              go_wp2_with (go_at_call 16; refine hrr.mono ?_; rintro e wb ⟨rfl, hbb⟩)
              go_roundw
              case rel => exact ⟨R, k + 1, rfl, by go_num, by omega, hb.trans (hbb.mono hb.size), E⟩
              case measure => simp [RowKit.intOf]; omega
          · obtain rfl : k = n := by omega
            have hkI : ¬ (k : Int) < (k : Int) := by omega
            have hbE := hid (by rw [hr.out, show l.drop k = [] from List.drop_eq_nil_iff.mpr (by rw [hln.out]; exact Nat.le_refl _)]; simp [rgB] : rgB l = b)
            replace hx := hx.below hb
            clear hr
            go_wp2
            generalize wr = wu at *
            go_loopw [8, 10] (fun y x wt => ∃ (d : Bool) (k : Nat), y = .bool d ∧ x = .int .i64 k ∧ k ≤ n' ∧ Below wu.heap.size wu wt ∧ Hid ((b && rgB more) = (d && rgB (more.drop k)))) (fun _ x _ => n' - (RowKit.intOf x).toNat)
            case atStart => exact ⟨b, 0, rfl, rfl, by omega, Below.refl _ _, hid (by simp)⟩
            case round =>
              obtain ⟨d, k2, rfl, rfl, hk2, hb2, hr2⟩ := hrel
              have hac2 := hac1.trans (hb2.mono hac1.size)
              by_cases hlt2 : k2 < n'
              · obtain ⟨bb2, oo2, hae2, hc2⟩ := hQ.some_of (by omega)
                subst hae2
                obtain ⟨ky, vl, hmem, hd, x0, x1⟩ := (hc2.below hac2).at k2 (by rw [hqn.out]; exact hlt2)
                obtain ⟨z1, z2⟩ := hSm.out _ hmem
                simp only at z1 z2
                have hkI2 : (k2 : Int) < (n' : Int) := by omega
                have hrk := rgB_drop hd.out
                cases d
                · have E := hid (by rw [hr2.out]; rfl : (b && rgB more) = (false && rgB (more.drop (k2 + 1))))
                  clear hr2 hd hmem hrk
                  go_wp2
                  go_roundw
                  case rel => exact ⟨false, k2 + 1, rfl, by go_num, by omega, hb2, E⟩
                  case measure => simp [RowKit.intOf]; omega
                · have hrr := rr_ok ky vl z1 z2 wr
                  have E := hid (by rw [hr2.out, hrk]; rfl : (b && rgB more) = (rightP (bs ky) (bs vl) && rgB (more.drop (k2 + 1))))
                  generalize rightP (bs ky) (bs vl) = R at *
                  clear hr2 hd hmem hrk
                  go_wp2_with (go_at_call 16; refine hrr.mono ?_; rintro e wb ⟨rfl, hbb⟩)
                  go_roundw
                  case rel => exact ⟨R, k2 + 1, rfl, by go_num, by omega, hb2.trans (hbb.mono hb2.size), E⟩
                  case measure => simp [RowKit.intOf]; omega
              · obtain rfl : k2 = n' := by omega
                have hkI2 : ¬ (k2 : Int) < (k2 : Int) := by omega
                have hdE := hid (by rw [hr2.out, show more.drop k2 = [] from List.drop_eq_nil_iff.mpr (by rw [hqn.out]; exact Nat.le_refl _)]; simp [rgB] : (b && rgB more) = d)
                have hOB : d = true → OB = true := fun e => by
                  have h1 := hdE.out
                  rw [e, Bool.and_eq_true] at h1
                  exact hXRh.out (by rw [hbE.out]; exact h1.1) h1.2
                replace hx := hx.below hb2
                clear hr2 hdE hbE
                cases d
                · clear hOB
                  go_wp2_with (go_at_call 15; refine (hl4 _ hac2).mono ?_; rintro e wL ⟨aL, nL, cL, rfl, hpL, hbL⟩; replace hx := hx.below hbL; have hac3 := hac2.trans (hbL.mono hac2.size))
                  go_loopw [12] (fun x wt => ∃ k : Nat, x = .int .i64 k ∧ k ≤ nL ∧ Below wL.heap.size wL wt) (fun x _ => nL - (RowKit.intOf x).toNat)
                  case atStart => exact ⟨0, rfl, by omega, Below.refl _ _⟩
                  case round =>
                    obtain ⟨k3, rfl, hk3, hb3⟩ := hrel
                    have hac4 := hac3.trans (hb3.mono hac3.size)
                    by_cases hlt3 : k3 < nL
                    · obtain ⟨bL, oL, hae3, hcL⟩ := hpL.some_of (by omega)
                      subst hae3
                      have hm5 := hpL.1
                      have hm6 := hpL.2.1
                      have hm7 := hpL.2.2.1
                      obtain ⟨ky, vl, hmem, hd, x0, x1⟩ := (hcL.below hb3).at k3 (by rw [hm5]; exact hlt3)
                      have hkI3 : (k3 : Int) < (nL : Int) := by omega
                      have hg1 := oget_ok (hQ.below hac4) ky
                      have hstq := hsth.out _ hmem
                      simp only at hstq
                      replace hm5 := hid hm5
                      cases hgm : getK more ky with
                      | some v =>
                        rw [hgm] at hg1
                        clear hstq hgm hd hmem
                        go_wp2_with (go_at_call 18; refine hg1.mono ?_; rintro e wb ⟨rfl, hbb⟩)
                        go_roundw
                        case rel => exact ⟨k3 + 1, by go_num, by omega, hb3.trans (hbb.mono hb3.size)⟩
                        case measure => simp [RowKit.intOf]; omega
                      | none =>
                        have hgx := hstq hgm
                        rw [hgm] at hg1
                        have hg2 := fun w' (hbb : Below wr.heap.size wr w') => oget_ok ((hx.below hb3).below hbb) ky
                        rw [hgx, show getV (some vl) = vl from rfl] at hg2
                        have hvv : (vl.toList != vl.toList) = false := by simp
                        clear hstq hgm hgx hd hmem
                        go_wp2_with (first
                          | (go_at_call 18; refine hg1.mono ?_; rintro e wb ⟨rfl, hbb⟩; have y0 := cell_later hbb x0; have y1 := cell_later hbb x1; clear hg1)
                          | (go_at_call 18; refine (hg2 _ hbb).mono ?_; rintro e wc ⟨rfl, hbc⟩; have z0 := cell_later hbc y0; have z1 := cell_later hbc y1))
                        go_roundw
                        case rel => exact ⟨k3 + 1, by go_num, by omega, hb3.trans ((hbb.trans (hbc.mono hbb.size)).mono hb3.size)⟩
                        case measure => simp [RowKit.intOf]; omega
                    · obtain rfl : k3 = nL := by omega
                      have hkI3 : ¬ (k3 : Int) < (k3 : Int) := by omega
                      go_wp2
                      all_goals go_ret
                      all_goals exact ⟨rfl, hac4⟩
                · have hOBt := hOB rfl
                  subst hOBt
                  clear hOB
                  go_wp2_with (first
                    | (go_at_call 17; refine (hor _ _ _ _ hac2 hx).mono ?_; rintro e wo ⟨rfl, hbo⟩; replace hx := hx.below hbo; replace hac2 := hac2.trans (hbo.mono hac2.size))
                    | (go_at_call 15; refine (hl4 _ hac2).mono ?_; rintro e wL ⟨aL, nL, cL, rfl, hpL, hbL⟩; replace hx := hx.below hbL; have hac3 := hac2.trans (hbL.mono hac2.size)))
                  go_loopw [12] (fun x wt => ∃ k : Nat, x = .int .i64 k ∧ k ≤ nL ∧ Below wL.heap.size wL wt) (fun x _ => nL - (RowKit.intOf x).toNat)
                  case atStart => exact ⟨0, rfl, by omega, Below.refl _ _⟩
                  case round =>
                    obtain ⟨k3, rfl, hk3, hb3⟩ := hrel
                    have hac4 := hac3.trans (hb3.mono hac3.size)
                    by_cases hlt3 : k3 < nL
                    · obtain ⟨bL, oL, hae3, hcL⟩ := hpL.some_of (by omega)
                      subst hae3
                      have hm5 := hpL.1
                      have hm6 := hpL.2.1
                      have hm7 := hpL.2.2.1
                      obtain ⟨ky, vl, hmem, hd, x0, x1⟩ := (hcL.below hb3).at k3 (by rw [hm5]; exact hlt3)
                      have hkI3 : (k3 : Int) < (nL : Int) := by omega
                      have hg1 := oget_ok (hQ.below hac4) ky
                      have hstq := hsth.out _ hmem
                      simp only at hstq
                      replace hm5 := hid hm5
                      cases hgm : getK more ky with
                      | some v =>
                        rw [hgm] at hg1
                        clear hstq hgm hd hmem
                        go_wp2_with (go_at_call 18; refine hg1.mono ?_; rintro e wb ⟨rfl, hbb⟩)
                        go_roundw
                        case rel => exact ⟨k3 + 1, by go_num, by omega, hb3.trans (hbb.mono hb3.size)⟩
                        case measure => simp [RowKit.intOf]; omega
                      | none =>
                        have hgx := hstq hgm
                        rw [hgm] at hg1
                        have hg2 := fun w' (hbb : Below wr.heap.size wr w') => oget_ok ((hx.below hb3).below hbb) ky
                        rw [hgx, show getV (some vl) = vl from rfl] at hg2
                        have hvv : (vl.toList != vl.toList) = false := by simp
                        clear hstq hgm hgx hd hmem
                        go_wp2_with (first
                          | (go_at_call 18; refine hg1.mono ?_; rintro e wb ⟨rfl, hbb⟩; have y0 := cell_later hbb x0; have y1 := cell_later hbb x1; clear hg1)
                          | (go_at_call 18; refine (hg2 _ hbb).mono ?_; rintro e wc ⟨rfl, hbc⟩; have z0 := cell_later hbc y0; have z1 := cell_later hbc y1))
                        go_roundw
                        case rel => exact ⟨k3 + 1, by go_num, by omega, hb3.trans ((hbb.trans (hbc.mono hbb.size)).mono hb3.size)⟩
                        case measure => simp [RowKit.intOf]; omega
                    · obtain rfl : k3 = nL := by omega
                      have hkI3 : ¬ (k3 : Int) < (k3 : Int) := by omega
                      go_wp2
                      all_goals go_ret
                      all_goals exact ⟨rfl, hac4⟩
    · rw [decide_eq_false hg] at hfw2
      go_enter Tryd.func5, Tryd.ntmps5
      go_wp2_with (first
          | (go_at_call 13; refine hal.mono ?_; rintro e w1 ⟨rfl, hacc⟩; clear hal)
          | (go_at_call 14; refine (hfw _ hacc).mono ?_; rintro e w2 ⟨rfl, hb2⟩; replace hacc := hacc.trans (hb2.mono hacc.size); clear hfw hb2)
          | (go_at_call 14; refine (hfw2 _ hacc).mono ?_; rintro e w3 ⟨rfl, hb3⟩; replace hacc := hacc.trans (hb3.mono hacc.size); clear hfw2 hb3))
      all_goals go_ret
      all_goals exact ⟨rfl, hacc⟩
  · rw [decide_eq_false hf] at hfw
    go_enter Tryd.func5, Tryd.ntmps5
    go_wp2_with (first
        | (go_at_call 13; refine hal.mono ?_; rintro e w1 ⟨rfl, hacc⟩; clear hal)
        | (go_at_call 14; refine (hfw _ hacc).mono ?_; rintro e w2 ⟨rfl, hb2⟩; replace hacc := hacc.trans (hb2.mono hacc.size); clear hfw hb2))
    all_goals go_ret
    all_goals exact ⟨rfl, hacc⟩

end Go.Proofs.YtkocnbdakfhpaaaDoor

/-
  A SLICE OF PAIRS THAT IS HANDED IN WITHOUT MEMORY IS NIL. Conditions: none.
-/
namespace Go.Proofs.YtkocnbdakfhpaaaDoor
open Go.ChangeShapes Go.WideShapes Go.ChangeAt Go.RowKit Go.Lib Go.Deep

theorem pairs_nil {H : Type} {enc : TypeId × Value → H} {W : World} {fuel : Nat} {a : Option Addr} {n c : Nat} {d : DataW H} {p : List MemPlace}
    (hf : DataW.trod enc Tryd.prog W 0 (fun _ => true) true fuel 24 [.slice a n c] = some (d, p)) : a = none → n = 0 ∧ c = 0 := by
  rcases open_slice_pairs Tryd.underlying24 Tryd.underlying37 cellsPair rfl rfl cellsStr cellsStr hf with ⟨hcs, hx⟩ | ⟨a', len, cap, m, k, V0, V1, D0, D1, P0, P1, hcs, _⟩
  · simp only [List.cons.injEq, and_true, Value.slice.injEq] at hcs
    exact fun _ => ⟨hcs.2.1, hcs.2.2⟩
  · simp only [List.cons.injEq, and_true, Value.slice.injEq] at hcs
    intro h
    rw [h] at hcs
    cases hcs.1

end Go.Proofs.YtkocnbdakfhpaaaDoor
