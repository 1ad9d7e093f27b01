/-
  THE DOCUMENT's WORD ON WHAT AN OVERLAY SAYS OF A HEAD (oakumref08.Apply). Conditions: how many pairs there are, how many bytes their texts have.
-/
import Derived.Test.YtkocnbdakfhpaaaGreatDoorSay
namespace Go.Proofs.YtkocnbdakfhpaaaGreatDoor
open Go.ChangeShapes Go.WideShapes Go.ChangeAt Go.RowKit Go.Lib
set_option linter.unusedVariables false
set_option linter.unusedSimpArgs false
set_option maxRecDepth 20000

theorem fill14_ownR {w : World} {B g : Nat} {e : TypeId} {size n : Nat} {x : Value} {xs : List Value} (how : w.ownsRow B e size x n xs) (hg : g < B) (v0 v1 v2 v3 v4 v5 v6 v7 v8 v9 v10 v11 v12 v13 : Value) : (World.setCell (World.setCell (World.setCell (World.setCell (World.setCell (World.setCell (World.setCell (World.setCell (World.setCell (World.setCell (World.setCell (World.setCell (World.setCell (World.setCell w ⟨g, 0, none⟩ v0) ⟨g, 1, none⟩ v1) ⟨g, 2, none⟩ v2) ⟨g, 3, none⟩ v3) ⟨g, 4, none⟩ v4) ⟨g, 5, none⟩ v5) ⟨g, 6, none⟩ v6) ⟨g, 7, none⟩ v7) ⟨g, 8, none⟩ v8) ⟨g, 9, none⟩ v9) ⟨g, 10, none⟩ v10) ⟨g, 11, none⟩ v11) ⟨g, 12, none⟩ v12) ⟨g, 13, none⟩ v13).ownsRow B e size x n xs := (ownsRow_setCell_below (a := ⟨g, 13, none⟩) (ownsRow_setCell_below (a := ⟨g, 12, none⟩) (ownsRow_setCell_below (a := ⟨g, 11, none⟩) (ownsRow_setCell_below (a := ⟨g, 10, none⟩) (ownsRow_setCell_below (a := ⟨g, 9, none⟩) (ownsRow_setCell_below (a := ⟨g, 8, none⟩) (ownsRow_setCell_below (a := ⟨g, 7, none⟩) (ownsRow_setCell_below (a := ⟨g, 6, none⟩) (ownsRow_setCell_below (a := ⟨g, 5, none⟩) (ownsRow_setCell_below (a := ⟨g, 4, none⟩) (ownsRow_setCell_below (a := ⟨g, 3, none⟩) (ownsRow_setCell_below (a := ⟨g, 2, none⟩) (ownsRow_setCell_below (a := ⟨g, 1, none⟩) (ownsRow_setCell_below (a := ⟨g, 0, none⟩) how hg v0) hg v1) hg v2) hg v3) hg v4) hg v5) hg v6) hg v7) hg v8) hg v9) hg v10) hg v11) hg v12) hg v13)

set_option maxHeartbeats 16000000 in
theorem rapply_ok {w : World} {a : Option Addr} {n c : Nat} {l : PL} (hp : Pys w a n c l) (hz : Sml l) (hn : n ≤ 1000) (h : Hd) (xa : Option Addr) (xn xc : Nat) :
    Calls Tryz.prog 29 #[.agg #[.int .i64 h.kind, .string h.name, .string h.link, .int .i64 h.mode, .int .i64 h.uid, .int .i64 h.gid, .int .i64 h.size, .int .i64 h.sec, .int .i64 h.nano, .string h.user, .string h.group, .int .i64 h.major, .int .i64 h.minor, .slice xa xn xc], .slice a n c] w fun e w' => ∃ a2 m2 c2, e = .returned (.agg ((appH l h).cs (.slice a2 m2 c2))) ∧ Pys w' a2 m2 c2 (appE l []) ∧ Below w.heap.size w w' := by
  obtain ⟨R, hR⟩ : ∃ R, R = appH l h := ⟨_, rfl⟩
  obtain ⟨RE, hRE⟩ : ∃ RE, RE = appE l [] := ⟨_, rfl⟩
  rw [← hR, ← hRE]
  replace hR := hid hR
  replace hRE := hid hRE
  obtain ⟨i0, hi0, hz0, hz1, hz2⟩ := info_parts infoPair
  have hl := hid hp.1
  have hz' := hid hz
  have hpc := hp.2.1
  have hpm := hp.2.2.1
  have hb0 := (Below.refl w.heap.size w).alloc (Nat.le_refl _) (.cells #[.int .i64 h.kind, .string h.name, .string h.link, .int .i64 h.mode, .int .i64 h.uid, .int .i64 h.gid, .int .i64 h.size, .int .i64 h.sec, .int .i64 h.nano, .string h.user, .string h.group, .int .i64 h.major, .int .i64 h.minor, .slice xa xn xc] 46)
  have hb1 := hb0.alloc hb0.size (.cells #[.int .i64 0, .string ⟨#[]⟩, .string ⟨#[]⟩, .int .i64 0, .int .i64 0, .int .i64 0, .int .i64 0, .int .i64 0, .int .i64 0, .string ⟨#[]⟩, .string ⟨#[]⟩, .int .i64 0, .int .i64 0, .slice none 0 0] 46)
  have hZ : Blk ((w.alloc (.cells #[.int .i64 h.kind, .string h.name, .string h.link, .int .i64 h.mode, .int .i64 h.uid, .int .i64 h.gid, .int .i64 h.size, .int .i64 h.sec, .int .i64 h.nano, .string h.user, .string h.group, .int .i64 h.major, .int .i64 h.minor, .slice xa xn xc] 46)).alloc (.cells #[.int .i64 0, .string ⟨#[]⟩, .string ⟨#[]⟩, .int .i64 0, .int .i64 0, .int .i64 0, .int .i64 0, .int .i64 0, .int .i64 0, .string ⟨#[]⟩, .string ⟨#[]⟩, .int .i64 0, .int .i64 0, .slice none 0 0] 46)) (w.heap.size + 1) #[.int .i64 0, .string ⟨#[]⟩, .string ⟨#[]⟩, .int .i64 0, .int .i64 0, .int .i64 0, .int .i64 0, .int .i64 0, .int .i64 0, .string ⟨#[]⟩, .string ⟨#[]⟩, .int .i64 0, .int .i64 0, .slice none 0 0] 46 := by
    have := Blk.new (w.alloc (.cells #[.int .i64 h.kind, .string h.name, .string h.link, .int .i64 h.mode, .int .i64 h.uid, .int .i64 h.gid, .int .i64 h.size, .int .i64 h.sec, .int .i64 h.nano, .string h.user, .string h.group, .int .i64 h.major, .int .i64 h.minor, .slice xa xn xc] 46)) #[.int .i64 0, .string ⟨#[]⟩, .string ⟨#[]⟩, .int .i64 0, .int .i64 0, .int .i64 0, .int .i64 0, .int .i64 0, .int .i64 0, .string ⟨#[]⟩, .string ⟨#[]⟩, .int .i64 0, .int .i64 0, .slice none 0 0] 46
    rwa [show (w.alloc (.cells #[.int .i64 h.kind, .string h.name, .string h.link, .int .i64 h.mode, .int .i64 h.uid, .int .i64 h.gid, .int .i64 h.size, .int .i64 h.sec, .int .i64 h.nano, .string h.user, .string h.group, .int .i64 h.major, .int .i64 h.minor, .slice xa xn xc] 46)).heap.size = w.heap.size + 1 by simp] at this
  have hs2 : ((w.alloc (.cells #[.int .i64 h.kind, .string h.name, .string h.link, .int .i64 h.mode, .int .i64 h.uid, .int .i64 h.gid, .int .i64 h.size, .int .i64 h.sec, .int .i64 h.nano, .string h.user, .string h.group, .int .i64 h.major, .int .i64 h.minor, .slice xa xn xc] 46)).alloc (.cells #[.int .i64 0, .string ⟨#[]⟩, .string ⟨#[]⟩, .int .i64 0, .int .i64 0, .int .i64 0, .int .i64 0, .int .i64 0, .int .i64 0, .string ⟨#[]⟩, .string ⟨#[]⟩, .int .i64 0, .int .i64 0, .slice none 0 0] 46)).heap.size = w.heap.size + 2 := by simp
  have hb2 := hb1.alloc hb1.size (.cells #[.int .i64 h.kind, .string h.name, .string h.link, .int .i64 h.mode, .int .i64 h.uid, .int .i64 h.gid, .int .i64 h.size, .int .i64 h.sec, .int .i64 h.nano, .string h.user, .string h.group, .int .i64 h.major, .int .i64 h.minor, .slice xa xn xc] 46)
  have hb3 := hb1.alloc hb1.size (.cells #[.int .i64 h.kind, .string h.name, .string h.link, .int .i64 h.mode, .int .i64 h.uid, .int .i64 h.gid, .int .i64 h.size, .int .i64 h.sec, .int .i64 h.nano, .string h.user, .string h.group, .int .i64 h.major, .int .i64 h.minor, .slice none 0 0] 46)
  have hN : Blk (((w.alloc (.cells #[.int .i64 h.kind, .string h.name, .string h.link, .int .i64 h.mode, .int .i64 h.uid, .int .i64 h.gid, .int .i64 h.size, .int .i64 h.sec, .int .i64 h.nano, .string h.user, .string h.group, .int .i64 h.major, .int .i64 h.minor, .slice xa xn xc] 46)).alloc (.cells #[.int .i64 0, .string ⟨#[]⟩, .string ⟨#[]⟩, .int .i64 0, .int .i64 0, .int .i64 0, .int .i64 0, .int .i64 0, .int .i64 0, .string ⟨#[]⟩, .string ⟨#[]⟩, .int .i64 0, .int .i64 0, .slice none 0 0] 46)).alloc (.cells #[.int .i64 h.kind, .string h.name, .string h.link, .int .i64 h.mode, .int .i64 h.uid, .int .i64 h.gid, .int .i64 h.size, .int .i64 h.sec, .int .i64 h.nano, .string h.user, .string h.group, .int .i64 h.major, .int .i64 h.minor, .slice xa xn xc] 46)) (w.heap.size + 2) (h.cs (.slice xa xn xc)) 46 := by
    have := Blk.new ((w.alloc (.cells #[.int .i64 h.kind, .string h.name, .string h.link, .int .i64 h.mode, .int .i64 h.uid, .int .i64 h.gid, .int .i64 h.size, .int .i64 h.sec, .int .i64 h.nano, .string h.user, .string h.group, .int .i64 h.major, .int .i64 h.minor, .slice xa xn xc] 46)).alloc (.cells #[.int .i64 0, .string ⟨#[]⟩, .string ⟨#[]⟩, .int .i64 0, .int .i64 0, .int .i64 0, .int .i64 0, .int .i64 0, .int .i64 0, .string ⟨#[]⟩, .string ⟨#[]⟩, .int .i64 0, .int .i64 0, .slice none 0 0] 46)) #[.int .i64 h.kind, .string h.name, .string h.link, .int .i64 h.mode, .int .i64 h.uid, .int .i64 h.gid, .int .i64 h.size, .int .i64 h.sec, .int .i64 h.nano, .string h.user, .string h.group, .int .i64 h.major, .int .i64 h.minor, .slice xa xn xc] 46
    rwa [hs2] at this
  have hN2 : Blk ((((w.alloc (.cells #[.int .i64 h.kind, .string h.name, .string h.link, .int .i64 h.mode, .int .i64 h.uid, .int .i64 h.gid, .int .i64 h.size, .int .i64 h.sec, .int .i64 h.nano, .string h.user, .string h.group, .int .i64 h.major, .int .i64 h.minor, .slice xa xn xc] 46)).alloc (.cells #[.int .i64 0, .string ⟨#[]⟩, .string ⟨#[]⟩, .int .i64 0, .int .i64 0, .int .i64 0, .int .i64 0, .int .i64 0, .int .i64 0, .string ⟨#[]⟩, .string ⟨#[]⟩, .int .i64 0, .int .i64 0, .slice none 0 0] 46)).alloc (.cells #[.int .i64 h.kind, .string h.name, .string h.link, .int .i64 h.mode, .int .i64 h.uid, .int .i64 h.gid, .int .i64 h.size, .int .i64 h.sec, .int .i64 h.nano, .string h.user, .string h.group, .int .i64 h.major, .int .i64 h.minor, .slice xa xn xc] 46)).setCell ⟨w.heap.size + 2, 13, none⟩ (.slice none 0 0)) (w.heap.size + 2) (h.cs (.slice none 0 0)) 46 := hN.set (i := 13) _
  have hZ2 : Blk ((((w.alloc (.cells #[.int .i64 h.kind, .string h.name, .string h.link, .int .i64 h.mode, .int .i64 h.uid, .int .i64 h.gid, .int .i64 h.size, .int .i64 h.sec, .int .i64 h.nano, .string h.user, .string h.group, .int .i64 h.major, .int .i64 h.minor, .slice xa xn xc] 46)).alloc (.cells #[.int .i64 0, .string ⟨#[]⟩, .string ⟨#[]⟩, .int .i64 0, .int .i64 0, .int .i64 0, .int .i64 0, .int .i64 0, .int .i64 0, .string ⟨#[]⟩, .string ⟨#[]⟩, .int .i64 0, .int .i64 0, .slice none 0 0] 46)).alloc (.cells #[.int .i64 h.kind, .string h.name, .string h.link, .int .i64 h.mode, .int .i64 h.uid, .int .i64 h.gid, .int .i64 h.size, .int .i64 h.sec, .int .i64 h.nano, .string h.user, .string h.group, .int .i64 h.major, .int .i64 h.minor, .slice xa xn xc] 46)).setCell ⟨w.heap.size + 2, 13, none⟩ (.slice none 0 0)) (w.heap.size + 1) #[.int .i64 0, .string ⟨#[]⟩, .string ⟨#[]⟩, .int .i64 0, .int .i64 0, .int .i64 0, .int .i64 0, .int .i64 0, .int .i64 0, .string ⟨#[]⟩, .string ⟨#[]⟩, .int .i64 0, .int .i64 0, .slice none 0 0] 46 := by
    unfold Blk
    rw [Below.heap_setCell _ ⟨w.heap.size + 2, 13, none⟩ _ (w.heap.size + 1) (by simp)]
    exact hZ.below ((Below.refl _ _).alloc (Nat.le_refl _) _)
  have hac2 := hb2.setCell (p := ⟨w.heap.size + 2, 13, none⟩) (by simp) (.slice none 0 0)
  have hown0 := World.ownsRow_nil ((((w.alloc (.cells #[.int .i64 h.kind, .string h.name, .string h.link, .int .i64 h.mode, .int .i64 h.uid, .int .i64 h.gid, .int .i64 h.size, .int .i64 h.sec, .int .i64 h.nano, .string h.user, .string h.group, .int .i64 h.major, .int .i64 h.minor, .slice xa xn xc] 46)).alloc (.cells #[.int .i64 0, .string ⟨#[]⟩, .string ⟨#[]⟩, .int .i64 0, .int .i64 0, .int .i64 0, .int .i64 0, .int .i64 0, .int .i64 0, .string ⟨#[]⟩, .string ⟨#[]⟩, .int .i64 0, .int .i64 0, .slice none 0 0] 46)).alloc (.cells #[.int .i64 h.kind, .string h.name, .string h.link, .int .i64 h.mode, .int .i64 h.uid, .int .i64 h.gid, .int .i64 h.size, .int .i64 h.sec, .int .i64 h.nano, .string h.user, .string h.group, .int .i64 h.major, .int .i64 h.minor, .slice xa xn xc] 46)).setCell ⟨w.heap.size + 2, 13, none⟩ (.slice none 0 0)) (w.heap.size + 3) 23 2
  have hN3 : Blk (((w.alloc (.cells #[.int .i64 h.kind, .string h.name, .string h.link, .int .i64 h.mode, .int .i64 h.uid, .int .i64 h.gid, .int .i64 h.size, .int .i64 h.sec, .int .i64 h.nano, .string h.user, .string h.group, .int .i64 h.major, .int .i64 h.minor, .slice xa xn xc] 46)).alloc (.cells #[.int .i64 0, .string ⟨#[]⟩, .string ⟨#[]⟩, .int .i64 0, .int .i64 0, .int .i64 0, .int .i64 0, .int .i64 0, .int .i64 0, .string ⟨#[]⟩, .string ⟨#[]⟩, .int .i64 0, .int .i64 0, .slice none 0 0] 46)).alloc (.cells #[.int .i64 h.kind, .string h.name, .string h.link, .int .i64 h.mode, .int .i64 h.uid, .int .i64 h.gid, .int .i64 h.size, .int .i64 h.sec, .int .i64 h.nano, .string h.user, .string h.group, .int .i64 h.major, .int .i64 h.minor, .slice none 0 0] 46)) (w.heap.size + 2) (h.cs (.slice none 0 0)) 46 := by
    have := Blk.new ((w.alloc (.cells #[.int .i64 h.kind, .string h.name, .string h.link, .int .i64 h.mode, .int .i64 h.uid, .int .i64 h.gid, .int .i64 h.size, .int .i64 h.sec, .int .i64 h.nano, .string h.user, .string h.group, .int .i64 h.major, .int .i64 h.minor, .slice xa xn xc] 46)).alloc (.cells #[.int .i64 0, .string ⟨#[]⟩, .string ⟨#[]⟩, .int .i64 0, .int .i64 0, .int .i64 0, .int .i64 0, .int .i64 0, .int .i64 0, .string ⟨#[]⟩, .string ⟨#[]⟩, .int .i64 0, .int .i64 0, .slice none 0 0] 46)) #[.int .i64 h.kind, .string h.name, .string h.link, .int .i64 h.mode, .int .i64 h.uid, .int .i64 h.gid, .int .i64 h.size, .int .i64 h.sec, .int .i64 h.nano, .string h.user, .string h.group, .int .i64 h.major, .int .i64 h.minor, .slice none 0 0] 46
    rwa [hs2] at this
  have hZ3 : Blk (((w.alloc (.cells #[.int .i64 h.kind, .string h.name, .string h.link, .int .i64 h.mode, .int .i64 h.uid, .int .i64 h.gid, .int .i64 h.size, .int .i64 h.sec, .int .i64 h.nano, .string h.user, .string h.group, .int .i64 h.major, .int .i64 h.minor, .slice xa xn xc] 46)).alloc (.cells #[.int .i64 0, .string ⟨#[]⟩, .string ⟨#[]⟩, .int .i64 0, .int .i64 0, .int .i64 0, .int .i64 0, .int .i64 0, .int .i64 0, .string ⟨#[]⟩, .string ⟨#[]⟩, .int .i64 0, .int .i64 0, .slice none 0 0] 46)).alloc (.cells #[.int .i64 h.kind, .string h.name, .string h.link, .int .i64 h.mode, .int .i64 h.uid, .int .i64 h.gid, .int .i64 h.size, .int .i64 h.sec, .int .i64 h.nano, .string h.user, .string h.group, .int .i64 h.major, .int .i64 h.minor, .slice none 0 0] 46)) (w.heap.size + 1) #[.int .i64 0, .string ⟨#[]⟩, .string ⟨#[]⟩, .int .i64 0, .int .i64 0, .int .i64 0, .int .i64 0, .int .i64 0, .int .i64 0, .string ⟨#[]⟩, .string ⟨#[]⟩, .int .i64 0, .int .i64 0, .slice none 0 0] 46 := hZ.below ((Below.refl _ _).alloc (Nat.le_refl _) _)
  have hown3 := World.ownsRow_nil (((w.alloc (.cells #[.int .i64 h.kind, .string h.name, .string h.link, .int .i64 h.mode, .int .i64 h.uid, .int .i64 h.gid, .int .i64 h.size, .int .i64 h.sec, .int .i64 h.nano, .string h.user, .string h.group, .int .i64 h.major, .int .i64 h.minor, .slice xa xn xc] 46)).alloc (.cells #[.int .i64 0, .string ⟨#[]⟩, .string ⟨#[]⟩, .int .i64 0, .int .i64 0, .int .i64 0, .int .i64 0, .int .i64 0, .int .i64 0, .string ⟨#[]⟩, .string ⟨#[]⟩, .int .i64 0, .int .i64 0, .slice none 0 0] 46)).alloc (.cells #[.int .i64 h.kind, .string h.name, .string h.link, .int .i64 h.mode, .int .i64 h.uid, .int .i64 h.gid, .int .i64 h.size, .int .i64 h.sec, .int .i64 h.nano, .string h.user, .string h.group, .int .i64 h.major, .int .i64 h.minor, .slice none 0 0] 46)) (w.heap.size + 3) 23 2
  clear hZ hN hz hb0 hb1
  go_enter Tryz.func29, Tryz.ntmps29
  go_wp2
  go_loopw [6] (fun x wr => ∃ (k : Nat) (hd : Hd) (ext : PL) (xv : Value), x = .int .i64 k ∧ k ≤ n ∧ Blk wr (w.heap.size + 2) (hd.cs xv) 46 ∧ wr.ownsRow (w.heap.size + 3) 23 2 xv ext.length (pcs2 ext) ∧ ext.length ≤ k ∧ Blk wr (w.heap.size + 1) #[.int .i64 0, .string ⟨#[]⟩, .string ⟨#[]⟩, .int .i64 0, .int .i64 0, .int .i64 0, .int .i64 0, .int .i64 0, .int .i64 0, .string ⟨#[]⟩, .string ⟨#[]⟩, .int .i64 0, .int .i64 0, .slice none 0 0] 46 ∧ Below w.heap.size w wr ∧ Hid (R = appH (l.drop k) hd) ∧ Hid (RE = appE (l.drop k) ext)) (fun x _ => n - (RowKit.intOf x).toNat)
  case atStart => first | exact ⟨0, h, [], _, rfl, by omega, hN2, hown0, by simp, hZ2, hac2, hid hR.out, hid hRE.out⟩ | exact ⟨0, h, [], _, rfl, by omega, hN3, hown3, by simp, hZ3, hb3, hid hR.out, hid hRE.out⟩
  case round =>
    obtain ⟨k, hd, ext, xv, rfl, hkn, hB, how, hel, hZr, hb, hr, hre⟩ := hrel
    clear hN2 hZ2 hac2 hown0 hN3 hZ3 hown3 hb2 hb3 hs2
    have hzl := hB.lt
    by_cases hlt : k < n
    · obtain ⟨b, off, rfl, hc⟩ := hp.some_of (by omega)
      obtain ⟨ky, vl, hmem, hdr, c0, c1⟩ := (hc.below hb).at k (by rw [hl.out]; exact hlt)
      have hkI : (k : Int) < (n : Int) := by omega
      obtain ⟨z1, z2⟩ := hz'.out _ hmem
      simp only at z1 z2
      have E1 := hid (by rw [hr.out, hdr.out, appH] : R = appH (l.drop (k + 1)) (sayH ky vl hd))
      have E2 := hid (by rw [hre.out, hdr.out, appE] : RE = appE (l.drop (k + 1)) (sayE ky vl ext))
      have hsl := sayE_len ky vl ext
      obtain ⟨ob, hob⟩ : ∃ ob : Bool, ob = match nat63 (bs vl) with | some u => decide (u ≤ 9223372036854775807) | none => false := ⟨_, rfl⟩
      have hnu := rnumber_ok vl (by omega) wr (numL (bs vl)) ob rfl hob
      have hwh := which_ok ky wr
      clear hr hre hdr hmem hob
      by_cases k0 : bs ky = [112, 97, 116, 104]
      · have hk : whichK (bs ky) = 0 := by rw [k0]; decide
        rw [hk] at hwh
        have hS : ∀ w1, Below wr.heap.size wr w1 → Sd wr (w1.setCell ⟨w.heap.size + 2, 1, none⟩ (.string vl)) (w.heap.size + 3) (w.heap.size + 2) (sayH ky vl hd) (sayE ky vl ext) := fun w1 hb1 => by
          rw [show sayE ky vl ext = ext by simp [sayE, hk], show sayH ky vl hd = { hd with name := vl } by simp [sayH, hk]]
          exact Sd.store hb1 hB (by omega) (by omega) how 1 _ rfl
        clear hk k0
        go_wp2_with (first
          | (go_at_call 37; refine hnu.mono ?_; rintro e w0 ⟨rfl, hw0⟩; obtain rfl := hw0.symm)
          | (go_at_call 12; refine hwh.mono ?_; rintro e w1 ⟨rfl, hb1⟩; have hA1 := hB.below hb1; have y1 := hA1.free 1; (have x1 : w1.cell? ⟨w.heap.size + 2, 1, none⟩ = some (.string hd.name) := hA1.cell 1); have hS1 := hS w1 hb1; clear hS))
        go_roundw
        case rel =>
          obtain ⟨⟨x', hB3, how3⟩, hbel3, hoth3⟩ := hS1
          exact ⟨k + 1, sayH ky vl hd, sayE ky vl ext, x', by go_num, by omega, hB3, how3, by omega, by (unfold Blk; rw [hoth3 _ (by omega) (by omega)]; exact hZr), hb.trans (hbel3 _ (by omega)), E1, E2⟩
        case measure => simp [RowKit.intOf]; omega
      by_cases k1 : bs ky = [108, 105, 110, 107, 112, 97, 116, 104]
      · have hk : whichK (bs ky) = 1 := by rw [k1]; decide
        rw [hk] at hwh
        have hS : ∀ w1, Below wr.heap.size wr w1 → Sd wr (w1.setCell ⟨w.heap.size + 2, 2, none⟩ (.string vl)) (w.heap.size + 3) (w.heap.size + 2) (sayH ky vl hd) (sayE ky vl ext) := fun w1 hb1 => by
          rw [show sayE ky vl ext = ext by simp [sayE, hk], show sayH ky vl hd = { hd with link := vl } by simp [sayH, hk]]
          exact Sd.store hb1 hB (by omega) (by omega) how 2 _ rfl
        clear hk k0 k1
        go_wp2_with (first
          | (go_at_call 37; refine hnu.mono ?_; rintro e w0 ⟨rfl, hw0⟩; obtain rfl := hw0.symm)
          | (go_at_call 12; refine hwh.mono ?_; rintro e w1 ⟨rfl, hb1⟩; have hA1 := hB.below hb1; have y1 := hA1.free 2; (have x1 : w1.cell? ⟨w.heap.size + 2, 2, none⟩ = some (.string hd.link) := hA1.cell 2); have hS1 := hS w1 hb1; clear hS))
        go_roundw
        case rel =>
          obtain ⟨⟨x', hB3, how3⟩, hbel3, hoth3⟩ := hS1
          exact ⟨k + 1, sayH ky vl hd, sayE ky vl ext, x', by go_num, by omega, hB3, how3, by omega, by (unfold Blk; rw [hoth3 _ (by omega) (by omega)]; exact hZr), hb.trans (hbel3 _ (by omega)), E1, E2⟩
        case measure => simp [RowKit.intOf]; omega
      by_cases k2 : bs ky = [117, 110, 97, 109, 101]
      · have hk : whichK (bs ky) = 2 := by rw [k2]; decide
        rw [hk] at hwh
        have hS : ∀ w1, Below wr.heap.size wr w1 → Sd wr (w1.setCell ⟨w.heap.size + 2, 9, none⟩ (.string vl)) (w.heap.size + 3) (w.heap.size + 2) (sayH ky vl hd) (sayE ky vl ext) := fun w1 hb1 => by
          rw [show sayE ky vl ext = ext by simp [sayE, hk], show sayH ky vl hd = { hd with user := vl } by simp [sayH, hk]]
          exact Sd.store hb1 hB (by omega) (by omega) how 9 _ rfl
        clear hk k0 k1 k2
        go_wp2_with (first
          | (go_at_call 37; refine hnu.mono ?_; rintro e w0 ⟨rfl, hw0⟩; obtain rfl := hw0.symm)
          | (go_at_call 12; refine hwh.mono ?_; rintro e w1 ⟨rfl, hb1⟩; have hA1 := hB.below hb1; have y1 := hA1.free 9; (have x1 : w1.cell? ⟨w.heap.size + 2, 9, none⟩ = some (.string hd.user) := hA1.cell 9); have hS1 := hS w1 hb1; clear hS))
        go_roundw
        case rel =>
          obtain ⟨⟨x', hB3, how3⟩, hbel3, hoth3⟩ := hS1
          exact ⟨k + 1, sayH ky vl hd, sayE ky vl ext, x', by go_num, by omega, hB3, how3, by omega, by (unfold Blk; rw [hoth3 _ (by omega) (by omega)]; exact hZr), hb.trans (hbel3 _ (by omega)), E1, E2⟩
        case measure => simp [RowKit.intOf]; omega
      by_cases k3 : bs ky = [103, 110, 97, 109, 101]
      · have hk : whichK (bs ky) = 3 := by rw [k3]; decide
        rw [hk] at hwh
        have hS : ∀ w1, Below wr.heap.size wr w1 → Sd wr (w1.setCell ⟨w.heap.size + 2, 10, none⟩ (.string vl)) (w.heap.size + 3) (w.heap.size + 2) (sayH ky vl hd) (sayE ky vl ext) := fun w1 hb1 => by
          rw [show sayE ky vl ext = ext by simp [sayE, hk], show sayH ky vl hd = { hd with group := vl } by simp [sayH, hk]]
          exact Sd.store hb1 hB (by omega) (by omega) how 10 _ rfl
        clear hk k0 k1 k2 k3
        go_wp2_with (first
          | (go_at_call 37; refine hnu.mono ?_; rintro e w0 ⟨rfl, hw0⟩; obtain rfl := hw0.symm)
          | (go_at_call 12; refine hwh.mono ?_; rintro e w1 ⟨rfl, hb1⟩; have hA1 := hB.below hb1; have y1 := hA1.free 10; (have x1 : w1.cell? ⟨w.heap.size + 2, 10, none⟩ = some (.string hd.group) := hA1.cell 10); have hS1 := hS w1 hb1; clear hS))
        go_roundw
        case rel =>
          obtain ⟨⟨x', hB3, how3⟩, hbel3, hoth3⟩ := hS1
          exact ⟨k + 1, sayH ky vl hd, sayE ky vl ext, x', by go_num, by omega, hB3, how3, by omega, by (unfold Blk; rw [hoth3 _ (by omega) (by omega)]; exact hZr), hb.trans (hbel3 _ (by omega)), E1, E2⟩
        case measure => simp [RowKit.intOf]; omega
      by_cases k4 : bs ky = [117, 105, 100]
      · have hk : whichK (bs ky) = 4 := by rw [k4]; decide
        rw [hk] at hwh
        have hS : ∀ w1, Below wr.heap.size wr w1 → Sd wr (w1.setCell ⟨w.heap.size + 2, 4, none⟩ (.int .i64 (numL (bs vl)))) (w.heap.size + 3) (w.heap.size + 2) (sayH ky vl hd) (sayE ky vl ext) := fun w1 hb1 => by
          rw [show sayE ky vl ext = ext by simp [sayE, hk], show sayH ky vl hd = { hd with uid := numL (bs vl) } by simp [sayH, hk]]
          exact Sd.store hb1 hB (by omega) (by omega) how 4 _ rfl
        clear hk k0 k1 k2 k3 k4
        go_wp2_with (first
          | (go_at_call 37; refine hnu.mono ?_; rintro e w0 ⟨rfl, hw0⟩; obtain rfl := hw0.symm)
          | (go_at_call 12; refine hwh.mono ?_; rintro e w1 ⟨rfl, hb1⟩; have hA1 := hB.below hb1; have y1 := hA1.free 4; (have x1 : w1.cell? ⟨w.heap.size + 2, 4, none⟩ = some (.int .i64 hd.uid) := hA1.cell 4); have hS1 := hS w1 hb1; clear hS))
        go_roundw
        case rel =>
          obtain ⟨⟨x', hB3, how3⟩, hbel3, hoth3⟩ := hS1
          exact ⟨k + 1, sayH ky vl hd, sayE ky vl ext, x', by go_num, by omega, hB3, how3, by omega, by (unfold Blk; rw [hoth3 _ (by omega) (by omega)]; exact hZr), hb.trans (hbel3 _ (by omega)), E1, E2⟩
        case measure => simp [RowKit.intOf]; omega
      by_cases k5 : bs ky = [103, 105, 100]
      · have hk : whichK (bs ky) = 5 := by rw [k5]; decide
        rw [hk] at hwh
        have hS : ∀ w1, Below wr.heap.size wr w1 → Sd wr (w1.setCell ⟨w.heap.size + 2, 5, none⟩ (.int .i64 (numL (bs vl)))) (w.heap.size + 3) (w.heap.size + 2) (sayH ky vl hd) (sayE ky vl ext) := fun w1 hb1 => by
          rw [show sayE ky vl ext = ext by simp [sayE, hk], show sayH ky vl hd = { hd with gid := numL (bs vl) } by simp [sayH, hk]]
          exact Sd.store hb1 hB (by omega) (by omega) how 5 _ rfl
        clear hk k0 k1 k2 k3 k4 k5
        go_wp2_with (first
          | (go_at_call 37; refine hnu.mono ?_; rintro e w0 ⟨rfl, hw0⟩; obtain rfl := hw0.symm)
          | (go_at_call 12; refine hwh.mono ?_; rintro e w1 ⟨rfl, hb1⟩; have hA1 := hB.below hb1; have y1 := hA1.free 5; (have x1 : w1.cell? ⟨w.heap.size + 2, 5, none⟩ = some (.int .i64 hd.gid) := hA1.cell 5); have hS1 := hS w1 hb1; clear hS))
        go_roundw
        case rel =>
          obtain ⟨⟨x', hB3, how3⟩, hbel3, hoth3⟩ := hS1
          exact ⟨k + 1, sayH ky vl hd, sayE ky vl ext, x', by go_num, by omega, hB3, how3, by omega, by (unfold Blk; rw [hoth3 _ (by omega) (by omega)]; exact hZr), hb.trans (hbel3 _ (by omega)), E1, E2⟩
        case measure => simp [RowKit.intOf]; omega
      by_cases k6 : bs ky = [115, 105, 122, 101]
      · have hk : whichK (bs ky) = 6 := by rw [k6]; decide
        rw [hk] at hwh
        have hS : ∀ w1, Below wr.heap.size wr w1 → Sd wr (w1.setCell ⟨w.heap.size + 2, 6, none⟩ (.int .i64 (numL (bs vl)))) (w.heap.size + 3) (w.heap.size + 2) (sayH ky vl hd) (sayE ky vl ext) := fun w1 hb1 => by
          rw [show sayE ky vl ext = ext by simp [sayE, hk], show sayH ky vl hd = { hd with size := numL (bs vl) } by simp [sayH, hk]]
          exact Sd.store hb1 hB (by omega) (by omega) how 6 _ rfl
        clear hk k0 k1 k2 k3 k4 k5 k6
        go_wp2_with (first
          | (go_at_call 37; refine hnu.mono ?_; rintro e w0 ⟨rfl, hw0⟩; obtain rfl := hw0.symm)
          | (go_at_call 12; refine hwh.mono ?_; rintro e w1 ⟨rfl, hb1⟩; have hA1 := hB.below hb1; have y1 := hA1.free 6; (have x1 : w1.cell? ⟨w.heap.size + 2, 6, none⟩ = some (.int .i64 hd.size) := hA1.cell 6); have hS1 := hS w1 hb1; clear hS))
        go_roundw
        case rel =>
          obtain ⟨⟨x', hB3, how3⟩, hbel3, hoth3⟩ := hS1
          exact ⟨k + 1, sayH ky vl hd, sayE ky vl ext, x', by go_num, by omega, hB3, how3, by omega, by (unfold Blk; rw [hoth3 _ (by omega) (by omega)]; exact hZr), hb.trans (hbel3 _ (by omega)), E1, E2⟩
        case measure => simp [RowKit.intOf]; omega
      by_cases k7 : bs ky = [109, 116, 105, 109, 101]
      · have hk : whichK (bs ky) = 7 := by rw [k7]; decide
        rw [hk] at hwh
        have hS : ∀ w1, Below wr.heap.size wr w1 → Sd wr ((w1.setCell ⟨w.heap.size + 2, 7, none⟩ (.int .i64 (timA (bs vl)))).setCell ⟨w.heap.size + 2, 8, none⟩ (.int .i64 (timB (bs vl)))) (w.heap.size + 3) (w.heap.size + 2) (sayH ky vl hd) (sayE ky vl ext) := fun w1 hb1 => by
          rw [show sayE ky vl ext = ext by simp [sayE, hk], show sayH ky vl hd = { hd with sec := timA (bs vl), nano := timB (bs vl) } by simp [sayH, hk]]
          exact Sd.store2 hb1 hB (by omega) (by omega) how _ _
        clear hk k0 k1 k2 k3 k4 k5 k6 k7
        obtain ⟨c0', hti0⟩ := tim_or (bs vl)
        obtain ⟨ok, hti⟩ : ∃ ok : Bool, timeOf (bs vl) = some (timA (bs vl), timB (bs vl)) ∧ ok = true ∨ timeOf (bs vl) = none ∧ timA (bs vl) = 0 ∧ timB (bs vl) = 0 ∧ ok = false := by
          rcases hti0 with ⟨h, _⟩ | ⟨h, h1, h2, _⟩
          · exact ⟨true, .inl ⟨h, rfl⟩⟩
          · exact ⟨false, .inr ⟨h, h1, h2, rfl⟩⟩
        have htm := fun w1 => rtime_any vl (by omega) w1 (timA (bs vl)) (timB (bs vl)) ok hti
        clear hti0 hti
        go_wp2_with (first
          | (go_at_call 37; refine hnu.mono ?_; rintro e w0 ⟨rfl, hw0⟩; obtain rfl := hw0.symm)
          | (go_at_call 12; refine hwh.mono ?_; rintro e w1 ⟨rfl, hb1⟩)
          | (go_at_call 38; refine (htm _).mono ?_; rintro e w2 ⟨rfl, hb2⟩; replace hb2 := hb1.trans (hb2.mono hb1.size); have hA1 := hB.below hb2; have y7 := hA1.free 7; have y8 := hA1.free 8; (have x7 : w2.cell? ⟨w.heap.size + 2, 7, none⟩ = some (.int .i64 hd.sec) := hA1.cell 7); (have x8 : w2.cell? ⟨w.heap.size + 2, 8, none⟩ = some (.int .i64 hd.nano) := hA1.cell 8); have hS1 := hS w2 hb2; clear hS))
        go_roundw
        case rel =>
          obtain ⟨⟨x', hB3, how3⟩, hbel3, hoth3⟩ := hS1
          exact ⟨k + 1, sayH ky vl hd, sayE ky vl ext, x', by go_num, by omega, hB3, how3, by omega, by (unfold Blk; rw [hoth3 _ (by omega) (by omega)]; exact hZr), hb.trans (hbel3 _ (by omega)), E1, E2⟩
        case measure => simp [RowKit.intOf]; omega
      have hk : whichK (bs ky) = -1 := by
        unfold whichK
        rw [if_neg k0, if_neg k1, if_neg k2, if_neg k3, if_neg k4, if_neg k5, if_neg k6, if_neg k7]
      rw [hk] at hwh
      have hy1 : sayE ky vl ext = ext ++ [(ky, vl)] := by simp [sayE, hk]
      have hy2 : sayH ky vl hd = hd := by simp [sayH, hk]
      replace hy1 := hid hy1
      replace hy2 := hid hy2
      clear hk k0 k1 k2 k3 k4 k5 k6 k7
      go_wp2_with (first
        | (go_at_call 37; refine hnu.mono ?_; rintro e w0 ⟨rfl, hw0⟩; obtain rfl := hw0.symm)
        | (go_at_call 12; refine hwh.mono ?_; rintro e w1 ⟨rfl, hb1⟩; have d0 := cell_later hb1 c0; have d1 := cell_later hb1 c1; have hA1 := hB.below hb1; have hl1 := hA1.lt; (have x13 : w1.cell? ⟨w.heap.size + 2, 13, none⟩ = some xv := hA1.cell 13); have hbW := hb1.drew.alloc (show wr.heap.size ≤ w1.drew.heap.size from hb1.size) (.cells #[.string ky, .string vl] 23); obtain ⟨v', w', hr, hown', hgr, -⟩ := run_append_own (P := Tryz.prog) (w1.drew.alloc (.cells #[.string ky, .string vl] 23)) (w.heap.size + 3) 26 26 23 i0 (.agg #[.string ⟨#[]⟩, .string ⟨#[]⟩]) 2 32 Tryz.underlying26 hi0 hz0 hz1 hz2 rfl (by decide) xv ext.length (pcs2 ext) (own_below hbW how) ⟨w1.heap.size, 0, none⟩ 1 1 [.string ky, .string vl] rfl (pair_new w1.drew ky vl) (by intro z hz; simp at hz; rcases hz with rfl | rfl <;> rfl) (by unfold maxLen; omega) (by omega) (by have := hbW.size; omega); obtain ⟨hB', ⟨g', cap, rfl⟩, hS1⟩ := Sd.more hbW hB (by omega) (by omega) how hown' hgr; rw [← hy1.out, ← hy2.out] at hS1; have y13 := hB'.free 13; (have z13 : w'.cell? ⟨w.heap.size + 2, 13, none⟩ = some xv := hB'.cell 13); clear hbW hA1 hB' hown' hgr))
      go_region_law (refine step_append_run rfl (.tmp 35) (.tmp 40) 26 26 rfl _ _ (by simp [Act.eval, Act.put]) (by simp [Act.eval, Act.put]) hr ?_)
      all_goals go_wp2
      all_goals go_roundw
      all_goals first
        | (obtain ⟨⟨x', hB3, how3⟩, hbel3, hoth3⟩ := hS1
           exact ⟨k + 1, sayH ky vl hd, sayE ky vl ext, x', by go_num, by omega, hB3, how3, by omega, by (unfold Blk; rw [hoth3 _ (by omega) (by omega)]; exact hZr), hb.trans (hbel3 _ (by omega)), E1, E2⟩)
        | (simp [RowKit.intOf]; omega)
    · obtain rfl : k = n := by omega
      have hkI : ¬ (k : Int) < (k : Int) := by omega
      have hd0 : l.drop k = [] := List.drop_eq_nil_iff.mpr (by rw [hl.out]; exact Nat.le_refl _)
      have E1 : R = hd := by rw [hr.out, hd0]; rfl
      have E2 : RE = ext := by rw [hre.out, hd0]; rfl
      obtain ⟨aa, cc, hvo, -⟩ := own_pys how rfl
      subst hvo
      clear hr hre hd0 hR hRE
      subst E1 E2
      obtain ⟨b0, b1, b2, b3, b4, b5, b6, b7, b8, b9, b10, b11, b12, b13⟩ := blk14 hB
      obtain ⟨z0, z1, z2, z3, z4, z5, z6, z7, z8, z9, z10, z11, z12, z13⟩ := blk14 hZr
      obtain ⟨f0, f1, f2, f3, f4, f5, f6, f7, f8, f9, f10, f11, f12, f13⟩ := free14 hZr
      go_wp2
      have hF := fill14 hZr (.int .i64 R.kind) (.string R.name) (.string R.link) (.int .i64 R.mode) (.int .i64 R.uid) (.int .i64 R.gid) (.int .i64 R.size) (.int .i64 R.sec) (.int .i64 R.nano) (.string R.user) (.string R.group) (.int .i64 R.major) (.int .i64 R.minor) (.slice aa (List.length RE) cc)
      have hB4 := fill14_below hb (Nat.le_succ w.heap.size) (.int .i64 R.kind) (.string R.name) (.string R.link) (.int .i64 R.mode) (.int .i64 R.uid) (.int .i64 R.gid) (.int .i64 R.size) (.int .i64 R.sec) (.int .i64 R.nano) (.string R.user) (.string R.group) (.int .i64 R.major) (.int .i64 R.minor) (.slice aa (List.length RE) cc)
      have howF := fill14_ownR how (by omega : w.heap.size + 1 < w.heap.size + 3) (.int .i64 R.kind) (.string R.name) (.string R.link) (.int .i64 R.mode) (.int .i64 R.uid) (.int .i64 R.gid) (.int .i64 R.size) (.int .i64 R.sec) (.int .i64 R.nano) (.string R.user) (.string R.group) (.int .i64 R.major) (.int .i64 R.minor) (.slice aa (List.length RE) cc)
      obtain ⟨aa', cc', heq, hpF⟩ := own_pys howF rfl
      simp only [Value.slice.injEq, true_and] at heq
      obtain ⟨rfl, rfl⟩ := heq
      obtain ⟨g0, g1, g2, g3, g4, g5, g6, g7, g8, g9, g10, g11, g12, g13⟩ := blk14 hF
      clear hF b0 b1 b2 b3 b4 b5 b6 b7 b8 b9 b10 b11 b12 b13 z0 z1 z2 z3 z4 z5 z6 z7 z8 z9 z10 z11 z12 z13 f0 f1 f2 f3 f4 f5 f6 f7 f8 f9 f10 f11 f12 f13
      refine bodyPost_ret (v := .agg #[.int .i64 R.kind, .string R.name, .string R.link, .int .i64 R.mode, .int .i64 R.uid, .int .i64 R.gid, .int .i64 R.size, .int .i64 R.sec, .int .i64 R.nano, .string R.user, .string R.group, .int .i64 R.major, .int .i64 R.minor, .slice aa (List.length RE) cc]) ?_ rfl ⟨aa, _, cc, rfl, hpF, hB4⟩
      clear hB4 hpF howF
      generalize (World.setCell (World.setCell (World.setCell (World.setCell (World.setCell (World.setCell (World.setCell (World.setCell (World.setCell (World.setCell (World.setCell (World.setCell (World.setCell (World.setCell wr ⟨w.heap.size + 1, 0, none⟩ (.int .i64 R.kind)) ⟨w.heap.size + 1, 1, none⟩ (.string R.name)) ⟨w.heap.size + 1, 2, none⟩ (.string R.link)) ⟨w.heap.size + 1, 3, none⟩ (.int .i64 R.mode)) ⟨w.heap.size + 1, 4, none⟩ (.int .i64 R.uid)) ⟨w.heap.size + 1, 5, none⟩ (.int .i64 R.gid)) ⟨w.heap.size + 1, 6, none⟩ (.int .i64 R.size)) ⟨w.heap.size + 1, 7, none⟩ (.int .i64 R.sec)) ⟨w.heap.size + 1, 8, none⟩ (.int .i64 R.nano)) ⟨w.heap.size + 1, 9, none⟩ (.string R.user)) ⟨w.heap.size + 1, 10, none⟩ (.string R.group)) ⟨w.heap.size + 1, 11, none⟩ (.int .i64 R.major)) ⟨w.heap.size + 1, 12, none⟩ (.int .i64 R.minor)) ⟨w.heap.size + 1, 13, none⟩ (.slice aa (List.length RE) cc)) = W4 at g0 g1 g2 g3 g4 g5 g6 g7 g8 g9 g10 g11 g12 g13 ⊢
      simp [results, Tryz.results29, go_sem, g0, g1, g2, g3, g4, g5, g6, g7, g8, g9, g10, g11, g12, g13]

end Go.Proofs.YtkocnbdakfhpaaaGreatDoor
