/-
  over.Apply: WHAT AN OVERLAY SAYS OF A HEAD. Conditions: how many pairs there are, how many bytes their texts have; what the listed variables hold.
-/
import Derived.Test.YtkocnbdakfhpaaaGreatDoorSay
namespace Go.Proofs.YtkocnbdakfhpaaaGreatDoor
open Go.ChangeShapes Go.WideShapes Go.ChangeAt Go.RowKit Go.Lib
set_option linter.unusedVariables false
set_option linter.unusedSimpArgs false
set_option maxRecDepth 20000

theorem fill14_own {w : World} {B g : Nat} {e : TypeId} {size n : Nat} {x : Value} {xs : List Value} (how : w.ownsRow B e size x n xs) (hg : g < B) (v0 v1 v2 v3 v4 v5 v6 v7 v8 v9 v10 v11 v12 v13 : Value) : (World.setCell (World.setCell (World.setCell (World.setCell (World.setCell (World.setCell (World.setCell (World.setCell (World.setCell (World.setCell (World.setCell (World.setCell (World.setCell (World.setCell w ⟨g, 0, none⟩ v0) ⟨g, 1, none⟩ v1) ⟨g, 2, none⟩ v2) ⟨g, 3, none⟩ v3) ⟨g, 4, none⟩ v4) ⟨g, 5, none⟩ v5) ⟨g, 6, none⟩ v6) ⟨g, 7, none⟩ v7) ⟨g, 8, none⟩ v8) ⟨g, 9, none⟩ v9) ⟨g, 10, none⟩ v10) ⟨g, 11, none⟩ v11) ⟨g, 12, none⟩ v12) ⟨g, 13, none⟩ v13).ownsRow B e size x n xs := (ownsRow_setCell_below (a := ⟨g, 13, none⟩) (ownsRow_setCell_below (a := ⟨g, 12, none⟩) (ownsRow_setCell_below (a := ⟨g, 11, none⟩) (ownsRow_setCell_below (a := ⟨g, 10, none⟩) (ownsRow_setCell_below (a := ⟨g, 9, none⟩) (ownsRow_setCell_below (a := ⟨g, 8, none⟩) (ownsRow_setCell_below (a := ⟨g, 7, none⟩) (ownsRow_setCell_below (a := ⟨g, 6, none⟩) (ownsRow_setCell_below (a := ⟨g, 5, none⟩) (ownsRow_setCell_below (a := ⟨g, 4, none⟩) (ownsRow_setCell_below (a := ⟨g, 3, none⟩) (ownsRow_setCell_below (a := ⟨g, 2, none⟩) (ownsRow_setCell_below (a := ⟨g, 1, none⟩) (ownsRow_setCell_below (a := ⟨g, 0, none⟩) how hg v0) hg v1) hg v2) hg v3) hg v4) hg v5) hg v6) hg v7) hg v8) hg v9) hg v10) hg v11) hg v12) hg v13)

set_option maxHeartbeats 8000000 in
theorem apply_ok {w : World} {a : Option Addr} {n c : Nat} {l : PL} (hp : Pys w a n c l) (hz : Sml l) (hn : n ≤ 1000) (hL : Laid w) (hov : ovB none l = true) (h : Hd) (xa : Option Addr) (xn xc : Nat) :
    Calls Tryz.prog 27 #[.agg #[.int .i64 h.kind, .string h.name, .string h.link, .int .i64 h.mode, .int .i64 h.uid, .int .i64 h.gid, .int .i64 h.size, .int .i64 h.sec, .int .i64 h.nano, .string h.user, .string h.group, .int .i64 h.major, .int .i64 h.minor, .slice xa xn xc], .slice a n c] w fun e w' => ∃ a2 m2 c2, e = .returned (.tuple #[.agg ((appH l h).cs (.slice a2 m2 c2)), .int .u8 0]) ∧ Pys w' a2 m2 c2 (appE l []) ∧ Below w.heap.size w w' := by
  obtain ⟨R, hR⟩ : ∃ R, R = appH l h := ⟨_, rfl⟩
  obtain ⟨RE, hRE⟩ : ∃ RE, RE = appE l [] := ⟨_, rfl⟩
  rw [← hR, ← hRE]
  replace hR := hid hR
  replace hRE := hid hRE
  have hl := hid hp.1
  have hz' := hid hz
  have hpc := hp.2.1
  have hpm := hp.2.2.1
  have hb0 := (Below.refl w.heap.size w).alloc (Nat.le_refl _) (.cells #[.int .i64 h.kind, .string h.name, .string h.link, .int .i64 h.mode, .int .i64 h.uid, .int .i64 h.gid, .int .i64 h.size, .int .i64 h.sec, .int .i64 h.nano, .string h.user, .string h.group, .int .i64 h.major, .int .i64 h.minor, .slice xa xn xc] 46)
  have hb1 := hb0.alloc hb0.size (.cells #[.int .i64 0, .string ⟨#[]⟩, .string ⟨#[]⟩, .int .i64 0, .int .i64 0, .int .i64 0, .int .i64 0, .int .i64 0, .int .i64 0, .string ⟨#[]⟩, .string ⟨#[]⟩, .int .i64 0, .int .i64 0, .slice none 0 0] 46)
  have hA : Blk ((w.alloc (.cells #[.int .i64 h.kind, .string h.name, .string h.link, .int .i64 h.mode, .int .i64 h.uid, .int .i64 h.gid, .int .i64 h.size, .int .i64 h.sec, .int .i64 h.nano, .string h.user, .string h.group, .int .i64 h.major, .int .i64 h.minor, .slice xa xn xc] 46)).alloc (.cells #[.int .i64 0, .string ⟨#[]⟩, .string ⟨#[]⟩, .int .i64 0, .int .i64 0, .int .i64 0, .int .i64 0, .int .i64 0, .int .i64 0, .string ⟨#[]⟩, .string ⟨#[]⟩, .int .i64 0, .int .i64 0, .slice none 0 0] 46)) w.heap.size (h.cs (.slice xa xn xc)) 46 := (Blk.new w _ _).below ((Below.refl _ _).alloc (Nat.le_refl _) _)
  have hZ : Blk ((w.alloc (.cells #[.int .i64 h.kind, .string h.name, .string h.link, .int .i64 h.mode, .int .i64 h.uid, .int .i64 h.gid, .int .i64 h.size, .int .i64 h.sec, .int .i64 h.nano, .string h.user, .string h.group, .int .i64 h.major, .int .i64 h.minor, .slice xa xn xc] 46)).alloc (.cells #[.int .i64 0, .string ⟨#[]⟩, .string ⟨#[]⟩, .int .i64 0, .int .i64 0, .int .i64 0, .int .i64 0, .int .i64 0, .int .i64 0, .string ⟨#[]⟩, .string ⟨#[]⟩, .int .i64 0, .int .i64 0, .slice none 0 0] 46)) (w.heap.size + 1) #[.int .i64 0, .string ⟨#[]⟩, .string ⟨#[]⟩, .int .i64 0, .int .i64 0, .int .i64 0, .int .i64 0, .int .i64 0, .int .i64 0, .string ⟨#[]⟩, .string ⟨#[]⟩, .int .i64 0, .int .i64 0, .slice none 0 0] 46 := by
    have := Blk.new (w.alloc (.cells #[.int .i64 h.kind, .string h.name, .string h.link, .int .i64 h.mode, .int .i64 h.uid, .int .i64 h.gid, .int .i64 h.size, .int .i64 h.sec, .int .i64 h.nano, .string h.user, .string h.group, .int .i64 h.major, .int .i64 h.minor, .slice xa xn xc] 46)) #[.int .i64 0, .string ⟨#[]⟩, .string ⟨#[]⟩, .int .i64 0, .int .i64 0, .int .i64 0, .int .i64 0, .int .i64 0, .int .i64 0, .string ⟨#[]⟩, .string ⟨#[]⟩, .int .i64 0, .int .i64 0, .slice none 0 0] 46
    rwa [show (w.alloc (.cells #[.int .i64 h.kind, .string h.name, .string h.link, .int .i64 h.mode, .int .i64 h.uid, .int .i64 h.gid, .int .i64 h.size, .int .i64 h.sec, .int .i64 h.nano, .string h.user, .string h.group, .int .i64 h.major, .int .i64 h.minor, .slice xa xn xc] 46)).heap.size = w.heap.size + 1 by simp] at this
  have hri := oright_ok (hp.below hb1) hz (hL.below hb1)
  rw [hov] at hri
  clear hov hz
  go_enter Tryz.func27, Tryz.ntmps27
  go_wp2_with (go_at_call 24; refine hri.mono ?_; rintro e w1 ⟨rfl, hw1⟩; have hA1 := hA.below hw1; have hZ1 := hZ.below hw1; have hacc := hb1.trans (hw1.mono hb1.size); have y13 := hA1.free 13; (have x13 : w1.cell? ⟨w.heap.size, 13, none⟩ = some (.slice xa xn xc) := hA1.cell 13))
  have hA2 : Blk (w1.setCell ⟨w.heap.size, 13, none⟩ (.slice none 0 0)) w.heap.size (h.cs (.slice none 0 0)) 46 := hA1.set (i := 13) (.slice none 0 0)
  have hZ2 : Blk (w1.setCell ⟨w.heap.size, 13, none⟩ (.slice none 0 0)) (w.heap.size + 1) #[.int .i64 0, .string ⟨#[]⟩, .string ⟨#[]⟩, .int .i64 0, .int .i64 0, .int .i64 0, .int .i64 0, .int .i64 0, .int .i64 0, .string ⟨#[]⟩, .string ⟨#[]⟩, .int .i64 0, .int .i64 0, .slice none 0 0] 46 := by
    unfold Blk
    rw [Below.heap_setCell w1 ⟨w.heap.size, 13, none⟩ _ (w.heap.size + 1) (by simp)]
    exact hZ1
  have hac2 := hacc.setCell (p := ⟨w.heap.size, 13, none⟩) (Nat.le_refl _) (.slice none 0 0)
  have hown0 := World.ownsRow_nil (w1.setCell ⟨w.heap.size, 13, none⟩ (.slice none 0 0)) (w.heap.size + 2) 23 2
  clear hA hZ hA1 hZ1 y13 x13 hacc hw1 hri hb0 hb1
  go_loopw [15] (fun x wr => ∃ (k : Nat) (hd : Hd) (ext : PL) (xv : Value), x = .int .i64 k ∧ k ≤ n ∧ Blk wr w.heap.size (hd.cs xv) 46 ∧ wr.ownsRow (w.heap.size + 2) 23 2 xv ext.length (pcs2 ext) ∧ ext.length ≤ k ∧ Blk wr (w.heap.size + 1) #[.int .i64 0, .string ⟨#[]⟩, .string ⟨#[]⟩, .int .i64 0, .int .i64 0, .int .i64 0, .int .i64 0, .int .i64 0, .int .i64 0, .string ⟨#[]⟩, .string ⟨#[]⟩, .int .i64 0, .int .i64 0, .slice none 0 0] 46 ∧ Below w.heap.size w wr ∧ Hid (R = appH (l.drop k) hd) ∧ Hid (RE = appE (l.drop k) ext)) (fun x _ => n - (RowKit.intOf x).toNat)
  case atStart => exact ⟨0, h, [], _, rfl, by omega, hA2, hown0, by simp, hZ2, hac2, hid hR.out, hid hRE.out⟩
  case round =>
    obtain ⟨k, hd, ext, xv, rfl, hkn, hB, how, hel, hZr, hb, hr, hre⟩ := hrel
    clear hA2 hZ2 hac2 hown0
    have hzl := hZr.lt
    by_cases hlt : k < n
    · obtain ⟨b, off, rfl, hc⟩ := hp.some_of (by omega)
      obtain ⟨ky, vl, hmem, hdr, c0, c1⟩ := (hc.below hb).at k (by rw [hl.out]; exact hlt)
      have hkI : (k : Int) < (n : Int) := by omega
      have hfr := (Below.refl wr.heap.size wr).alloc (Nat.le_refl _) (.cells #[.string ky, .string vl] 23)
      obtain ⟨z1, z2⟩ := hz'.out _ hmem
      simp only at z1 z2
      have hbn := hb.trans (hfr.mono hb.size)
      have hsay := say_ok ky vl (by omega) (hL.below hbn) (by omega) (hB.below hfr) (by omega : w.heap.size < w.heap.size + 2) (by have := hfr.size; omega) (own_below hfr how)
      have E1 := hid (by rw [hr.out, hdr.out, appH] : R = appH (l.drop (k + 1)) (sayH ky vl hd))
      have E2 := hid (by rw [hre.out, hdr.out, appE] : RE = appE (l.drop (k + 1)) (sayE ky vl ext))
      have hsl := sayE_len ky vl ext
      have hzf := hZr.below hfr
      have hal := hfr.size
      clear hr hre hdr hmem
      go_wp2_with (go_at_call 46; refine hsay.mono ?_; rintro e w3 ⟨rfl, ⟨x', hB3, how3⟩, hbel3, hoth3⟩)
      go_roundw
      case rel => exact ⟨k + 1, sayH ky vl hd, sayE ky vl ext, x', by go_num, by omega, hB3, how3, by omega, by (unfold Blk; rw [hoth3 _ (by omega) (by omega)]; exact hzf), hbn.trans (hbel3 _ (Nat.le_refl _)), E1, E2⟩
      case measure => simp [RowKit.intOf]; omega
    · obtain rfl : k = n := by omega
      have hkI : ¬ (k : Int) < (k : Int) := by omega
      have hd0 : l.drop k = [] := List.drop_eq_nil_iff.mpr (by rw [hl.out]; exact Nat.le_refl _)
      have E1 : R = hd := by rw [hr.out, hd0]; rfl
      have E2 : RE = ext := by rw [hre.out, hd0]; rfl
      obtain ⟨aa, cc, hvo, -⟩ := own_pys how rfl
      subst hvo
      clear hr hre hd0 hR hRE
      subst E1 E2
      obtain ⟨b0, b1, b2, b3, b4, b5, b6, b7, b8, b9, b10, b11, b12, b13⟩ := blk14 hB
      obtain ⟨z0, z1, z2, z3, z4, z5, z6, z7, z8, z9, z10, z11, z12, z13⟩ := blk14 hZr
      obtain ⟨f0, f1, f2, f3, f4, f5, f6, f7, f8, f9, f10, f11, f12, f13⟩ := free14 hZr
      go_wp2
      have hF := fill14 hZr (.int .i64 R.kind) (.string R.name) (.string R.link) (.int .i64 R.mode) (.int .i64 R.uid) (.int .i64 R.gid) (.int .i64 R.size) (.int .i64 R.sec) (.int .i64 R.nano) (.string R.user) (.string R.group) (.int .i64 R.major) (.int .i64 R.minor) (.slice aa (List.length RE) cc)
      have hB4 := fill14_below hb (Nat.le_succ w.heap.size) (.int .i64 R.kind) (.string R.name) (.string R.link) (.int .i64 R.mode) (.int .i64 R.uid) (.int .i64 R.gid) (.int .i64 R.size) (.int .i64 R.sec) (.int .i64 R.nano) (.string R.user) (.string R.group) (.int .i64 R.major) (.int .i64 R.minor) (.slice aa (List.length RE) cc)
      have howF := fill14_own how (by omega : w.heap.size + 1 < w.heap.size + 2) (.int .i64 R.kind) (.string R.name) (.string R.link) (.int .i64 R.mode) (.int .i64 R.uid) (.int .i64 R.gid) (.int .i64 R.size) (.int .i64 R.sec) (.int .i64 R.nano) (.string R.user) (.string R.group) (.int .i64 R.major) (.int .i64 R.minor) (.slice aa (List.length RE) cc)
      obtain ⟨aa', cc', heq, hpF⟩ := own_pys howF rfl
      simp only [Value.slice.injEq, true_and] at heq
      obtain ⟨rfl, rfl⟩ := heq
      obtain ⟨g0, g1, g2, g3, g4, g5, g6, g7, g8, g9, g10, g11, g12, g13⟩ := blk14 hF
      clear hF b0 b1 b2 b3 b4 b5 b6 b7 b8 b9 b10 b11 b12 b13 z0 z1 z2 z3 z4 z5 z6 z7 z8 z9 z10 z11 z12 z13 f0 f1 f2 f3 f4 f5 f6 f7 f8 f9 f10 f11 f12 f13
      refine bodyPost_ret (v := .tuple #[.agg #[.int .i64 R.kind, .string R.name, .string R.link, .int .i64 R.mode, .int .i64 R.uid, .int .i64 R.gid, .int .i64 R.size, .int .i64 R.sec, .int .i64 R.nano, .string R.user, .string R.group, .int .i64 R.major, .int .i64 R.minor, .slice aa (List.length RE) cc], .int .u8 0]) ?_ rfl ⟨aa, _, cc, rfl, hpF, hB4⟩
      clear hB4 hpF howF
      generalize (World.setCell (World.setCell (World.setCell (World.setCell (World.setCell (World.setCell (World.setCell (World.setCell (World.setCell (World.setCell (World.setCell (World.setCell (World.setCell (World.setCell wr ⟨w.heap.size + 1, 0, none⟩ (.int .i64 R.kind)) ⟨w.heap.size + 1, 1, none⟩ (.string R.name)) ⟨w.heap.size + 1, 2, none⟩ (.string R.link)) ⟨w.heap.size + 1, 3, none⟩ (.int .i64 R.mode)) ⟨w.heap.size + 1, 4, none⟩ (.int .i64 R.uid)) ⟨w.heap.size + 1, 5, none⟩ (.int .i64 R.gid)) ⟨w.heap.size + 1, 6, none⟩ (.int .i64 R.size)) ⟨w.heap.size + 1, 7, none⟩ (.int .i64 R.sec)) ⟨w.heap.size + 1, 8, none⟩ (.int .i64 R.nano)) ⟨w.heap.size + 1, 9, none⟩ (.string R.user)) ⟨w.heap.size + 1, 10, none⟩ (.string R.group)) ⟨w.heap.size + 1, 11, none⟩ (.int .i64 R.major)) ⟨w.heap.size + 1, 12, none⟩ (.int .i64 R.minor)) ⟨w.heap.size + 1, 13, none⟩ (.slice aa (List.length RE) cc)) = W4 at g0 g1 g2 g3 g4 g5 g6 g7 g8 g9 g10 g11 g12 g13 ⊢
      simp [results, Tryz.results27, go_sem, g0, g1, g2, g3, g4, g5, g6, g7, g8, g9, g10, g11, g12, g13]

set_option maxHeartbeats 8000000 in
theorem apply_not {w : World} {a : Option Addr} {n c : Nat} {l : PL} (hp : Pys w a n c l) (hz : Sml l) (hL : Laid w) (hov : ovB none l = false) (h : Hd) (xa : Option Addr) (xn xc : Nat) :
    Calls Tryz.prog 27 #[.agg #[.int .i64 h.kind, .string h.name, .string h.link, .int .i64 h.mode, .int .i64 h.uid, .int .i64 h.gid, .int .i64 h.size, .int .i64 h.sec, .int .i64 h.nano, .string h.user, .string h.group, .int .i64 h.major, .int .i64 h.minor, .slice xa xn xc], .slice a n c] w fun e w' => e = .returned (.tuple #[.agg #[.int .i64 0, .string ⟨#[]⟩, .string ⟨#[]⟩, .int .i64 0, .int .i64 0, .int .i64 0, .int .i64 0, .int .i64 0, .int .i64 0, .string ⟨#[]⟩, .string ⟨#[]⟩, .int .i64 0, .int .i64 0, .slice none 0 0], .int .u8 15]) ∧ Below w.heap.size w w' := by
  have hb0 := (Below.refl w.heap.size w).alloc (Nat.le_refl _) (.cells #[.int .i64 h.kind, .string h.name, .string h.link, .int .i64 h.mode, .int .i64 h.uid, .int .i64 h.gid, .int .i64 h.size, .int .i64 h.sec, .int .i64 h.nano, .string h.user, .string h.group, .int .i64 h.major, .int .i64 h.minor, .slice xa xn xc] 46)
  have hb1 := hb0.alloc hb0.size (.cells #[.int .i64 0, .string ⟨#[]⟩, .string ⟨#[]⟩, .int .i64 0, .int .i64 0, .int .i64 0, .int .i64 0, .int .i64 0, .int .i64 0, .string ⟨#[]⟩, .string ⟨#[]⟩, .int .i64 0, .int .i64 0, .slice none 0 0] 46)
  have hZ : Blk ((w.alloc (.cells #[.int .i64 h.kind, .string h.name, .string h.link, .int .i64 h.mode, .int .i64 h.uid, .int .i64 h.gid, .int .i64 h.size, .int .i64 h.sec, .int .i64 h.nano, .string h.user, .string h.group, .int .i64 h.major, .int .i64 h.minor, .slice xa xn xc] 46)).alloc (.cells #[.int .i64 0, .string ⟨#[]⟩, .string ⟨#[]⟩, .int .i64 0, .int .i64 0, .int .i64 0, .int .i64 0, .int .i64 0, .int .i64 0, .string ⟨#[]⟩, .string ⟨#[]⟩, .int .i64 0, .int .i64 0, .slice none 0 0] 46)) (w.heap.size + 1) #[.int .i64 0, .string ⟨#[]⟩, .string ⟨#[]⟩, .int .i64 0, .int .i64 0, .int .i64 0, .int .i64 0, .int .i64 0, .int .i64 0, .string ⟨#[]⟩, .string ⟨#[]⟩, .int .i64 0, .int .i64 0, .slice none 0 0] 46 := by
    have := Blk.new (w.alloc (.cells #[.int .i64 h.kind, .string h.name, .string h.link, .int .i64 h.mode, .int .i64 h.uid, .int .i64 h.gid, .int .i64 h.size, .int .i64 h.sec, .int .i64 h.nano, .string h.user, .string h.group, .int .i64 h.major, .int .i64 h.minor, .slice xa xn xc] 46)) #[.int .i64 0, .string ⟨#[]⟩, .string ⟨#[]⟩, .int .i64 0, .int .i64 0, .int .i64 0, .int .i64 0, .int .i64 0, .int .i64 0, .string ⟨#[]⟩, .string ⟨#[]⟩, .int .i64 0, .int .i64 0, .slice none 0 0] 46
    rwa [show (w.alloc (.cells #[.int .i64 h.kind, .string h.name, .string h.link, .int .i64 h.mode, .int .i64 h.uid, .int .i64 h.gid, .int .i64 h.size, .int .i64 h.sec, .int .i64 h.nano, .string h.user, .string h.group, .int .i64 h.major, .int .i64 h.minor, .slice xa xn xc] 46)).heap.size = w.heap.size + 1 by simp] at this
  have hri := oright_ok (hp.below hb1) hz (hL.below hb1)
  rw [hov] at hri
  clear hov hz
  go_enter Tryz.func27, Tryz.ntmps27
  go_wp2_with (go_at_call 24; refine hri.mono ?_; rintro e w1 ⟨rfl, hw1⟩; have hZ1 := hZ.below hw1; have hacc := hb1.trans (hw1.mono hb1.size); obtain ⟨z0, z1, z2, z3, z4, z5, z6, z7, z8, z9, z10, z11, z12, z13⟩ := blk14 hZ1; obtain ⟨f0, f1, f2, f3, f4, f5, f6, f7, f8, f9, f10, f11, f12, f13⟩ := free14 hZ1)
  have hF := fill14 hZ1 (.int .i64 0) (.string ⟨#[]⟩) (.string ⟨#[]⟩) (.int .i64 0) (.int .i64 0) (.int .i64 0) (.int .i64 0) (.int .i64 0) (.int .i64 0) (.string ⟨#[]⟩) (.string ⟨#[]⟩) (.int .i64 0) (.int .i64 0) (.slice none 0 0)
  have hB4 := fill14_below hacc (Nat.le_succ w.heap.size) (.int .i64 0) (.string ⟨#[]⟩) (.string ⟨#[]⟩) (.int .i64 0) (.int .i64 0) (.int .i64 0) (.int .i64 0) (.int .i64 0) (.int .i64 0) (.string ⟨#[]⟩) (.string ⟨#[]⟩) (.int .i64 0) (.int .i64 0) (.slice none 0 0)
  obtain ⟨g0, g1, g2, g3, g4, g5, g6, g7, g8, g9, g10, g11, g12, g13⟩ := blk14 hF
  clear hF z0 z1 z2 z3 z4 z5 z6 z7 z8 z9 z10 z11 z12 z13 f0 f1 f2 f3 f4 f5 f6 f7 f8 f9 f10 f11 f12 f13
  refine bodyPost_ret (v := .tuple #[.agg #[.int .i64 0, .string ⟨#[]⟩, .string ⟨#[]⟩, .int .i64 0, .int .i64 0, .int .i64 0, .int .i64 0, .int .i64 0, .int .i64 0, .string ⟨#[]⟩, .string ⟨#[]⟩, .int .i64 0, .int .i64 0, .slice none 0 0], .int .u8 15]) ?_ rfl ⟨rfl, hB4⟩
  clear hB4
  generalize (World.setCell (World.setCell (World.setCell (World.setCell (World.setCell (World.setCell (World.setCell (World.setCell (World.setCell (World.setCell (World.setCell (World.setCell (World.setCell (World.setCell w1 ⟨w.heap.size + 1, 0, none⟩ (.int .i64 0)) ⟨w.heap.size + 1, 1, none⟩ (.string ⟨#[]⟩)) ⟨w.heap.size + 1, 2, none⟩ (.string ⟨#[]⟩)) ⟨w.heap.size + 1, 3, none⟩ (.int .i64 0)) ⟨w.heap.size + 1, 4, none⟩ (.int .i64 0)) ⟨w.heap.size + 1, 5, none⟩ (.int .i64 0)) ⟨w.heap.size + 1, 6, none⟩ (.int .i64 0)) ⟨w.heap.size + 1, 7, none⟩ (.int .i64 0)) ⟨w.heap.size + 1, 8, none⟩ (.int .i64 0)) ⟨w.heap.size + 1, 9, none⟩ (.string ⟨#[]⟩)) ⟨w.heap.size + 1, 10, none⟩ (.string ⟨#[]⟩)) ⟨w.heap.size + 1, 11, none⟩ (.int .i64 0)) ⟨w.heap.size + 1, 12, none⟩ (.int .i64 0)) ⟨w.heap.size + 1, 13, none⟩ (.slice none 0 0)) = W4 at g0 g1 g2 g3 g4 g5 g6 g7 g8 g9 g10 g11 g12 g13 ⊢
  simp [results, Tryz.results27, go_sem, g0, g1, g2, g3, g4, g5, g6, g7, g8, g9, g10, g11, g12, g13]

end Go.Proofs.YtkocnbdakfhpaaaGreatDoor
