/-
  THE DOCUMENT's Wrong AND Right; item.Right; AND WHAT FOLLOWS OF IT. Conditions: those that each part names.
-/
import Derived.Test.YtlehomcodkbpmaaGreatDoorTd
import Derived.Deep.RegionWith
/-
  THE DOCUMENT's Wrong AND Right; item.Right. Conditions: how long the texts and lists may be; what the listed variables hold.
-/
namespace Go.Proofs.YtlehomcodkbpmaaGreatDoor
open Go.ChangeShapes Go.WideShapes Go.ChangeAt Go.RowKit Go.Lib
set_option linter.unusedVariables false
set_option linter.unusedSimpArgs false
set_option maxRecDepth 20000

/-- the array's answers from i on -/
theorem wrong_step (L : List Bool) (k : Nat) (hk : k < L.length) (b : Bool) (hb : L[k]? = some b) : wrongN (L.drop k) (k + 1) = if b = true then wrongN (L.drop (k + 1)) ((k + 1 : Nat) + 1) else (k + 1 : Nat) := by
  have e : L[k] = b := by rw [List.getElem?_eq_getElem hk] at hb; exact Option.some.inj hb
  rw [List.drop_eq_getElem_cons hk, e, wrongN]
  cases b
  · simp
  · simp

set_option maxHeartbeats 16000000 in
theorem rwrong_ok {w : World} {a : Option Addr} {n c : Nat} {l : PL} (h : Hd) (hp : Pys w a n c l) (hz : Sml l) (hn : n ≤ 1000) (hnl : a = none → n = 0 ∧ c = 0)
    (h1 : h.name.size ≤ 1000000) (h2 : h.link.size ≤ 1000000) (h3 : h.user.size ≤ 1000000) (h4 : h.group.size ≤ 1000000) :
    Calls Tryz.prog 9 #[.agg (h.cs (.slice a n c))] w fun e w' => e = .returned (.int .i64 (wrongH h l)) ∧ Below w.heap.size w w' := by
  have hb0 := below_alloc w (.cells (h.cs (.slice a n c)) 26)
  have hf := rfields_ok h (hp.below hb0) hz hn hnl h1 h2 h3 h4
  have hL : (fieldsR h l) = [kndR h.kind, fnameR h, flinkR h, decide (0 ≤ h.mode), decide (0 ≤ h.uid), decide (0 ≤ h.gid), numR h.size (h.kind == 1), decide (0 ≤ h.nano ∧ h.nano < 1000000000), txtR h.user, txtR h.group, numR h.major (devR h.kind), numR h.minor (devR h.kind), fextraR l] := rfl
  unfold wrongH
  generalize fieldsR h l = L at *
  generalize kndR h.kind = b1 at *
  generalize fnameR h = b2 at *
  generalize flinkR h = b3 at *
  generalize decide (0 ≤ h.mode) = b4 at *
  generalize decide (0 ≤ h.uid) = b5 at *
  generalize decide (0 ≤ h.gid) = b6 at *
  generalize numR h.size (h.kind == 1) = b7 at *
  generalize decide (0 ≤ h.nano ∧ h.nano < 1000000000) = b8 at *
  generalize txtR h.user = b9 at *
  generalize txtR h.group = b10 at *
  generalize numR h.major (devR h.kind) = b11 at *
  generalize numR h.minor (devR h.kind) = b12 at *
  generalize fextraR l = b13 at *
  have hlen : L.length = 13 := by rw [hL]; rfl
  have hget : ∀ k, k < 13 → ∃ b, L[k]? = some b ∧ (#[.bool false, .bool b1, .bool b2, .bool b3, .bool b4, .bool b5, .bool b6, .bool b7, .bool b8, .bool b9, .bool b10, .bool b11, .bool b12, .bool b13] : Array Value)[k + 1]? = some (.bool b) := by
    intro k hk
    rw [hL]
    rcases k with _ | _ | _ | _ | _ | _ | _ | _ | _ | _ | _ | _ | _ | k
    all_goals first | exact ⟨_, rfl, rfl⟩ | omega
  obtain ⟨q, hq⟩ : ∃ q, q = wrongN L 1 := ⟨_, rfl⟩
  rw [← hq]
  replace hq := hid hq
  clear hL hp hz hnl
  unfold Hd.cs at *
  go_enter Tryz.func9, Tryz.ntmps9
  go_wp2_with (go_at_call 28; refine hf.mono ?_; rintro e w1 ⟨rfl, hb1⟩)
  have hac := hb0.trans (hb1.mono (by simp))
  have hB : Blk (w1.alloc (.cells #[.bool false, .bool b1, .bool b2, .bool b3, .bool b4, .bool b5, .bool b6, .bool b7, .bool b8, .bool b9, .bool b10, .bool b11, .bool b12, .bool b13] 43)) w1.heap.size #[.bool false, .bool b1, .bool b2, .bool b3, .bool b4, .bool b5, .bool b6, .bool b7, .bool b8, .bool b9, .bool b10, .bool b11, .bool b12, .bool b13] 43 := heap_alloc_new _ _
  have hac2 := hac.trans ((below_alloc w1 (.cells #[.bool false, .bool b1, .bool b2, .bool b3, .bool b4, .bool b5, .bool b6, .bool b7, .bool b8, .bool b9, .bool b10, .bool b11, .bool b12, .bool b13] 43)).mono hac.size)
  generalize (w1.alloc (.cells #[.bool false, .bool b1, .bool b2, .bool b3, .bool b4, .bool b5, .bool b6, .bool b7, .bool b8, .bool b9, .bool b10, .bool b11, .bool b12, .bool b13] 43)) = W at *
  clear hf hb0 hb1 hac
  go_loopw [4] (fun x wr => ∃ k : Nat, x = .int .i64 (k + 1 : Nat) ∧ k ≤ 13 ∧ wr = W ∧ Hid (q = wrongN (L.drop k) (k + 1))) (fun x _ => 14 - (RowKit.intOf x).toNat)
  case atStart => exact ⟨0, rfl, by omega, rfl, hid (by rw [hq.out]; rfl)⟩
  case round =>
    obtain ⟨k, rfl, hk, rfl, hr⟩ := hrel
    by_cases hlt : k < 13
    · obtain ⟨b, hb, hc⟩ := hget k hlt
      have hcell := (hB.cell (k + 1)).trans hc
      have hst := wrong_step L k (by omega) b hb
      have hkI : ((k + 1 : Nat) : Int) < 14 := by omega
      cases b
      · have E := hid (by rw [hr.out, hst]; rfl : q = (k + 1 : Nat))
        clear hr hst hb hc hget hq
        go_wp2
        go_ret
        exact ⟨ret_int E.out.symm, hac2⟩
      · have E := hid (by rw [hr.out, hst]; rfl : q = wrongN (L.drop (k + 1)) ((k + 1 : Nat) + 1))
        clear hr hst hb hc hget hq
        go_wp2
        go_roundw
        case rel => exact ⟨k + 1, by go_num, by omega, by trivial, E⟩
        case measure => simp [RowKit.intOf]; omega
    · obtain rfl : k = 13 := by omega
      have E := hid (by rw [hr.out, List.drop_eq_nil_iff.mpr (by omega)]; rfl : q = 0)
      clear hr hq hget
      go_wp2
      go_ret
      exact ⟨ret_int E.out.symm, hac2⟩

/-- an item's cells -/
def Hd.it (h : Hd) (x y : Value) : Array Value := #[.int .i64 h.kind, .string h.name, .string h.link, .int .i64 h.mode, .int .i64 h.uid, .int .i64 h.gid, .int .i64 h.size, .int .i64 h.sec, .int .i64 h.nano, .string h.user, .string h.group, .int .i64 h.major, .int .i64 h.minor, x, y]
/-- is an item right? -/
def rightI (h : Hd) (l : PL) (m : Nat) : Bool := (wrongH h l == 0) && (h.size == (m : Int))

set_option maxHeartbeats 8000000 in
theorem iright_ok {w : World} {a d : Option Addr} {n c m f : Nat} {l : PL} (h : Hd) (hw : ∀ wr, Below w.heap.size w wr → Calls Tryz.prog 8 #[.agg (h.cs (.slice a n c))] wr fun e w' => e = .returned (.int .i64 (wrongH h l)) ∧ Below wr.heap.size wr w') (hm : m ≤ 9223372036854775807) :
    Calls Tryz.prog 10 #[.agg (h.it (.slice a n c) (.slice d m f))] w fun e w' => e = .returned (.bool (rightI h l m)) ∧ Below w.heap.size w w' := by
  have hb0 := below_alloc w (.cells (h.it (.slice a n c) (.slice d m f)) 29)
  have hB : Blk (w.alloc (.cells (h.it (.slice a n c) (.slice d m f)) 29)) w.heap.size (h.it (.slice a n c) (.slice d m f)) 29 := heap_alloc_new _ _
  have hc := hw _ hb0
  unfold rightI
  generalize wrongH h l = W at *
  clear hw
  unfold Hd.it at *
  unfold Hd.cs at hc
  cases e0 : (W == 0)
  · go_enter Tryz.func10, Tryz.ntmps10
    go_wp2_with (go_at_call 8; refine hc.mono ?_; rintro e w1 ⟨rfl, hb1⟩)
    go_ret
    exact ⟨rfl, hb0.trans (hb1.mono hb0.size)⟩
  · go_enter Tryz.func10, Tryz.ntmps10
    go_wp2_with (go_at_call 8; refine hc.mono ?_; rintro e w1 ⟨rfl, hb1⟩; (have k6 : w1.cell? ⟨w.heap.size, 6, none⟩ = some (.int .i64 h.size) := (hB.below hb1).cell 6); (have k14 : w1.cell? ⟨w.heap.size, 14, none⟩ = some (.slice d m f) := (hB.below hb1).cell 14))
    go_ret
    exact ⟨rfl, hb0.trans (hb1.mono hb0.size)⟩

set_option maxHeartbeats 8000000 in
theorem rright9_ok {w : World} {a d : Option Addr} {n c m f : Nat} {l : PL} (h : Hd) (hw : ∀ wr, Below w.heap.size w wr → Calls Tryz.prog 9 #[.agg (h.cs (.slice a n c))] wr fun e w' => e = .returned (.int .i64 (wrongH h l)) ∧ Below wr.heap.size wr w') (hm : m ≤ 9223372036854775807) :
    Calls Tryz.prog 11 #[.agg (h.it (.slice a n c) (.slice d m f))] w fun e w' => e = .returned (.bool (rightI h l m)) ∧ Below w.heap.size w w' := by
  have hb0 := below_alloc w (.cells (h.it (.slice a n c) (.slice d m f)) 29)
  have hB : Blk (w.alloc (.cells (h.it (.slice a n c) (.slice d m f)) 29)) w.heap.size (h.it (.slice a n c) (.slice d m f)) 29 := heap_alloc_new _ _
  have hc := hw _ hb0
  unfold rightI
  generalize wrongH h l = W at *
  clear hw
  unfold Hd.it at *
  unfold Hd.cs at hc
  cases e0 : (W == 0)
  · go_enter Tryz.func11, Tryz.ntmps11
    go_wp2_with (go_at_call 9; refine hc.mono ?_; rintro e w1 ⟨rfl, hb1⟩)
    go_ret
    exact ⟨rfl, hb0.trans (hb1.mono hb0.size)⟩
  · go_enter Tryz.func11, Tryz.ntmps11
    go_wp2_with (go_at_call 9; refine hc.mono ?_; rintro e w1 ⟨rfl, hb1⟩; (have k6 : w1.cell? ⟨w.heap.size, 6, none⟩ = some (.int .i64 h.size) := (hB.below hb1).cell 6); (have k14 : w1.cell? ⟨w.heap.size, 14, none⟩ = some (.slice d m f) := (hB.below hb1).cell 14))
    go_ret
    exact ⟨rfl, hb0.trans (hb1.mono hb0.size)⟩

end Go.Proofs.YtlehomcodkbpmaaGreatDoor

/-
  THE WALK OF ItemWrong. Conditions: how long the texts may be; what the listed variables hold.
-/
namespace Go.Proofs.YtlehomcodkbpmaaGreatDoor
open Go.ChangeShapes Go.WideShapes Go.ChangeAt Go.RowKit Go.Lib
set_option linter.unusedVariables false
set_option linter.unusedSimpArgs false
set_option maxRecDepth 20000

theorem it_cells {w : World} {g : Nat} {t : TypeId} {h : Hd} {x y : Value} (hB : Blk w g (h.it x y) t) :
    w.cell? ⟨g, 0, none⟩ = some (.int .i64 h.kind) ∧ w.cell? ⟨g, 1, none⟩ = some (.string h.name) ∧ w.cell? ⟨g, 2, none⟩ = some (.string h.link) ∧ w.cell? ⟨g, 3, none⟩ = some (.int .i64 h.mode) ∧ w.cell? ⟨g, 4, none⟩ = some (.int .i64 h.uid) ∧ w.cell? ⟨g, 5, none⟩ = some (.int .i64 h.gid) ∧ w.cell? ⟨g, 6, none⟩ = some (.int .i64 h.size) ∧
    w.cell? ⟨g, 7, none⟩ = some (.int .i64 h.sec) ∧ w.cell? ⟨g, 8, none⟩ = some (.int .i64 h.nano) ∧ w.cell? ⟨g, 9, none⟩ = some (.string h.user) ∧ w.cell? ⟨g, 10, none⟩ = some (.string h.group) ∧ w.cell? ⟨g, 11, none⟩ = some (.int .i64 h.major) ∧ w.cell? ⟨g, 12, none⟩ = some (.int .i64 h.minor) ∧ w.cell? ⟨g, 13, none⟩ = some x ∧ w.cell? ⟨g, 14, none⟩ = some y :=
  ⟨hB.cell 0, hB.cell 1, hB.cell 2, hB.cell 3, hB.cell 4, hB.cell 5, hB.cell 6, hB.cell 7, hB.cell 8, hB.cell 9, hB.cell 10, hB.cell 11, hB.cell 12, hB.cell 13, hB.cell 14⟩
theorem sts_cell {w : World} {g : Nat} {l : List ByteArray} (h : Sts w g l) (k : Nat) (f : ByteArray) (hk : l[k]? = some f) : w.cell? ⟨g, k, none⟩ = some (.string f) := by
  unfold Sts at h
  simp [World.cell?, h, hk]

set_option maxHeartbeats 16000000 in
theorem iwrong_walk {w : World} {a d : Option Addr} {n c m f : Nat} {l : PL} (h : Hd) (hp : Pys w a n c l) (hnl : a = none → n = 0 ∧ c = 0) (hz : ∀ p ∈ l, p.1.size ≤ 140737488351232 ∧ p.2.size ≤ 140737488351232)
    (h1 : h.name.size ≤ 140737488351232) (h2 : h.link.size ≤ 140737488351232) (h3 : h.user.size ≤ 140737488351232) (h4 : h.group.size ≤ 140737488351232) (hm : m ≤ 140737488351232) (hL : Laid w) :
    Calls Tryz.prog 3 #[.agg (h.it (.slice a n c) (.slice d m f))] w fun e w' => e = .returned (.bool true) ∧ Below w.heap.size w w' := by
  have hac := below_alloc w (.cells (h.it (.slice a n c) (.slice d m f)) 29)
  have hB : Blk (w.alloc (.cells (h.it (.slice a n c) (.slice d m f)) 29)) w.heap.size (h.it (.slice a n c) (.slice d m f)) 29 := heap_alloc_new _ _
  have hmn := fun (wr : World) (hb : Below w.heap.size w wr) => many_all h (hp.below hb) hz h1 h2 h3 h4
  by_cases hmm : 200000 < sumH h + totN l ∨ 40 < n
  · rw [decide_eq_true hmm] at hmn
    clear hmm hz hp hL
    unfold Hd.it at hB hac ⊢
    unfold Hd.cs at hmn
    go_enter Tryz.func3, Tryz.ntmps3
    go_wp2_with (first
      | (go_at_call 4; refine (alive_ok _).mono ?_; rintro e w1 ⟨rfl, hb1⟩; replace hB := hB.below hb1; replace hac := hac.trans (hb1.mono hac.size); clear hb1; obtain ⟨k0, k1, k2, k3, k4, k5, k6, k7, k8, k9, k10, k11, k12, k13, k14⟩ := it_cells (h := h) hB)
      | (go_at_call 5; refine (hmn _ hac).mono ?_; rintro e w2 ⟨rfl, hb2⟩; clear k0 k1 k2 k3 k4 k5 k6 k7 k8 k9 k10 k11 k12 k13 k14; replace hB := hB.below hb2; replace hac := hac.trans (hb2.mono hac.size); clear hb2; obtain ⟨k0, k1, k2, k3, k4, k5, k6, k7, k8, k9, k10, k11, k12, k13, k14⟩ := it_cells (h := h) hB))
    go_ret
    exact ⟨rfl, hac⟩
  · rw [decide_eq_false hmm] at hmn
    have hS : Sml l := fun p hp' => by have := mem_tot l p hp'; omega
    have hn40 : n ≤ 40 := by omega
    have hsum : h.name.size + h.link.size + h.user.size + h.group.size ≤ 200000 := by unfold sumH at hmm; omega
    by_cases hd : m ≤ 5000
    · have hdI : ¬ (5000 : Int) < (m : Int) := by omega
      have cW := fun (wr : World) (hb : Below w.heap.size w wr) => wrong_ok h (hp.below hb) hS (by omega) (hL.below hb)
      have cR := fun (wr : World) (hb : Below w.heap.size w wr) => rwrong_ok h (hp.below hb) hS (by omega) hnl (by omega) (by omega) (by omega) (by omega)
      have cI := fun (wr : World) (hb : Below w.heap.size w wr) => iright_ok (w := wr) (d := d) (m := m) (f := f) h (fun wx hx => cW wx (hb.trans (hx.mono hb.size))) (by omega)
      have cJ := fun (wr : World) (hb : Below w.heap.size w wr) => rright9_ok (w := wr) (d := d) (m := m) (f := f) h (fun wx hx => cR wx (hb.trans (hx.mono hb.size))) (by omega)
      have cF := fulls_ok h (.slice a n c) (by omega)
      have cG := rfulls_ok h (.slice a n c) (by omega)
      have hlen := hid (fulls_len h.kind h.name)
      generalize fulls h.kind h.name = L at *
      generalize wrongH h l = W at *
      generalize rightI h l m = Rt at *
      clear hmm hz hp hL hS hsum h1 h2 h3 h4
      unfold Hd.it at hB hac cI cJ ⊢
      unfold Hd.cs at hmn cW cR cF cG
      go_enter Tryz.func3, Tryz.ntmps3
      go_upto_region 5 with (first
        | (go_at_call 4; refine (alive_ok _).mono ?_; rintro e w1 ⟨rfl, hb1⟩; replace hB := hB.below hb1; replace hac := hac.trans (hb1.mono hac.size); clear hb1; obtain ⟨k0, k1, k2, k3, k4, k5, k6, k7, k8, k9, k10, k11, k12, k13, k14⟩ := it_cells (h := h) hB)
        | (go_at_call 5; refine (hmn _ hac).mono ?_; rintro e w2 ⟨rfl, hb2⟩; clear k0 k1 k2 k3 k4 k5 k6 k7 k8 k9 k10 k11 k12 k13 k14; replace hB := hB.below hb2; replace hac := hac.trans (hb2.mono hac.size); clear hb2; obtain ⟨k0, k1, k2, k3, k4, k5, k6, k7, k8, k9, k10, k11, k12, k13, k14⟩ := it_cells (h := h) hB))
      go_cut [3, 4] from 17 to 22 (fun p q wc => ∃ g g' k k', p = .slice (some ⟨g, 0, none⟩) k k ∧ q = .slice (some ⟨g', 0, none⟩) k' k' ∧ Hid (k = L.length) ∧ Hid (k' = L.length) ∧ Sts wc g L ∧ Sts wc g' L ∧ Blk wc w.heap.size (h.it (.slice a n c) (.slice d m f)) 29 ∧ Below w.heap.size w wc)
      case first =>
        clear cW cR cI cJ hmn
        go_region_with (first
          | (go_at_call 6; refine (cF _).mono ?_; rintro e w3 ⟨g, k, rfl, hk, hst, hb3⟩; replace hk := hid hk; (have hbx : Below w2.heap.size w2 w3 := by first | exact hb3 | exact (Below.refl _ _).drew.trans hb3); replace hB := hB.below hbx; replace hac := hac.trans (hbx.mono hac.size); clear hbx hb3 k0 k1 k2 k3 k4 k5 k6 k7 k8 k9 k10 k11 k12 k13 k14; obtain ⟨k0, k1, k2, k3, k4, k5, k6, k7, k8, k9, k10, k11, k12, k13, k14⟩ := it_cells (h := h) hB)
          | (go_at_call 7; refine (cG _).mono ?_; rintro e w4 ⟨g', k', rfl, hk', hst', hb4⟩; replace hk' := hid hk'; (have hbx : Below w3.heap.size w3 w4 := by first | exact hb4 | exact (Below.refl _ _).drew.trans hb4); replace hB := hB.below hbx; replace hac := hac.trans (hbx.mono hac.size); replace hst := hst.below hbx; clear hbx hb4))
        all_goals go_wp2
        all_goals go_meet
        all_goals first | exact ⟨g, g', k, k', rfl, rfl, hk, hk', hst, hst', hB, hac⟩ | (case rel => exact ⟨g, g', k, k', rfl, rfl, hk, hk', hst, hst', hB, hac⟩)
      case rest =>
        obtain ⟨g, g', k, k', rfl, rfl, hk, hk', hst, hst', hBc, hcc⟩ := hcut
        obtain rfl : k' = k := by rw [hk.out, hk'.out]
        have hkk : k' ≤ 2 := by rw [hk.out]; exact hlen.out.2
        clear hB hac cF cG hmn k0 k1 k2 k3 k4 k5 k6 k7 k8 k9 k10 k11 k12 k13 k14 hk'
        have hneq : ((k' : Int) != (k' : Int)) = false := by simp
        go_wp2
        go_loopw [5] (fun x wr => ∃ i : Nat, x = .int .i64 i ∧ i ≤ k' ∧ Below wc.heap.size wc wr) (fun x _ => k' - (RowKit.intOf x).toNat)
        case atStart => exact ⟨0, rfl, by omega, Below.refl _ _⟩
        case round =>
          obtain ⟨i, rfl, hi, hb⟩ := hrel
          by_cases hlt : i < k'
          · obtain ⟨s, hs⟩ : ∃ s, L[i]? = some s := ⟨L[i]'(by rw [← hk.out]; exact hlt), List.getElem?_eq_getElem (by rw [← hk.out]; exact hlt)⟩
            have s0 := sts_cell (hst.below hb) i s hs
            have s1 := sts_cell (hst'.below hb) i s hs
            have hiI : (i : Int) < (k' : Int) := by omega
            have hss : (s.toList != s.toList) = false := by simp
            clear hs hst hst' cW cR cI cJ
            go_wp2
            go_region
            go_wp2
            go_roundw
            case rel => exact ⟨i + 1, by go_num, by omega, hb.drew⟩
            case measure => simp [RowKit.intOf]; omega
          · obtain rfl : i = k' := by omega
            have hacr := hcc.trans (hb.mono hcc.size)
            have hBr := hBc.below hb
            have rW := fun p : After wr => cW p.out (hacr.trans (p.bel.mono hacr.size))
            have rR := fun p : After wr => cR p.out (hacr.trans (p.bel.mono hacr.size))
            have rI := fun p : After wr => cI p.out (hacr.trans (p.bel.mono hacr.size))
            have rJ := fun p : After wr => cJ p.out (hacr.trans (p.bel.mono hacr.size))
            have hWW : (W == W) = true := by simp
            have hRR : (Rt == Rt) = true := by simp
            have hne : Nonempty (After wr) := ⟨⟨_, Below.refl _ _⟩⟩
            have j0 : ∀ p : After wr, p.out.cell? ⟨w.heap.size, 0, none⟩ = some (.int .i64 h.kind) := fun p => (hBr.below p.bel).cell 0
            have j1 : ∀ p : After wr, p.out.cell? ⟨w.heap.size, 1, none⟩ = some (.string h.name) := fun p => (hBr.below p.bel).cell 1
            have j2 : ∀ p : After wr, p.out.cell? ⟨w.heap.size, 2, none⟩ = some (.string h.link) := fun p => (hBr.below p.bel).cell 2
            have j3 : ∀ p : After wr, p.out.cell? ⟨w.heap.size, 3, none⟩ = some (.int .i64 h.mode) := fun p => (hBr.below p.bel).cell 3
            have j4 : ∀ p : After wr, p.out.cell? ⟨w.heap.size, 4, none⟩ = some (.int .i64 h.uid) := fun p => (hBr.below p.bel).cell 4
            have j5 : ∀ p : After wr, p.out.cell? ⟨w.heap.size, 5, none⟩ = some (.int .i64 h.gid) := fun p => (hBr.below p.bel).cell 5
            have j6 : ∀ p : After wr, p.out.cell? ⟨w.heap.size, 6, none⟩ = some (.int .i64 h.size) := fun p => (hBr.below p.bel).cell 6
            have j7 : ∀ p : After wr, p.out.cell? ⟨w.heap.size, 7, none⟩ = some (.int .i64 h.sec) := fun p => (hBr.below p.bel).cell 7
            have j8 : ∀ p : After wr, p.out.cell? ⟨w.heap.size, 8, none⟩ = some (.int .i64 h.nano) := fun p => (hBr.below p.bel).cell 8
            have j9 : ∀ p : After wr, p.out.cell? ⟨w.heap.size, 9, none⟩ = some (.string h.user) := fun p => (hBr.below p.bel).cell 9
            have j10 : ∀ p : After wr, p.out.cell? ⟨w.heap.size, 10, none⟩ = some (.string h.group) := fun p => (hBr.below p.bel).cell 10
            have j11 : ∀ p : After wr, p.out.cell? ⟨w.heap.size, 11, none⟩ = some (.int .i64 h.major) := fun p => (hBr.below p.bel).cell 11
            have j12 : ∀ p : After wr, p.out.cell? ⟨w.heap.size, 12, none⟩ = some (.int .i64 h.minor) := fun p => (hBr.below p.bel).cell 12
            have j13 : ∀ p : After wr, p.out.cell? ⟨w.heap.size, 13, none⟩ = some (.slice a n c) := fun p => (hBr.below p.bel).cell 13
            have j14 : ∀ p : After wr, p.out.cell? ⟨w.heap.size, 14, none⟩ = some (.slice d m f) := fun p => (hBr.below p.bel).cell 14
            clear cW cR cI cJ hst hst' hBc hcc hBr hb
            go_wp2
            refine wp_region_after (by kernel_rfl) (by kernel_rfl) ?_
            repeat (go_big_quiet_step ((first
              | (go_at_call 8; exact after_below _ (rW _))
              | (go_at_call 9; exact after_below _ (rR _))
              | (go_at_call 10; exact after_below _ (rI _))
              | (go_at_call 11; exact after_below _ (rJ _)))))
            refine wpQuiet_nil ?_
            intro wq hw'
            obtain ⟨⟨z, hwq⟩, hx⟩ := hw'
            simp only at hx
            subst hx
            go_wp2
            go_ret
            exact ⟨rfl, hacr.trans (hwq.mono hacr.size)⟩
    · have hdI : (5000 : Int) < (m : Int) := by omega
      clear hmm hz hp hL hS hsum
      unfold Hd.it at hB hac ⊢
      unfold Hd.cs at hmn
      go_enter Tryz.func3, Tryz.ntmps3
      go_wp2_with (first
        | (go_at_call 4; refine (alive_ok _).mono ?_; rintro e w1 ⟨rfl, hb1⟩; replace hB := hB.below hb1; replace hac := hac.trans (hb1.mono hac.size); clear hb1; obtain ⟨k0, k1, k2, k3, k4, k5, k6, k7, k8, k9, k10, k11, k12, k13, k14⟩ := it_cells (h := h) hB)
        | (go_at_call 5; refine (hmn _ hac).mono ?_; rintro e w2 ⟨rfl, hb2⟩; clear k0 k1 k2 k3 k4 k5 k6 k7 k8 k9 k10 k11 k12 k13 k14; replace hB := hB.below hb2; replace hac := hac.trans (hb2.mono hac.size); clear hb2; obtain ⟨k0, k1, k2, k3, k4, k5, k6, k7, k8, k9, k10, k11, k12, k13, k14⟩ := it_cells (h := h) hB))
      go_ret
      exact ⟨rfl, hac⟩

end Go.Proofs.YtlehomcodkbpmaaGreatDoor
