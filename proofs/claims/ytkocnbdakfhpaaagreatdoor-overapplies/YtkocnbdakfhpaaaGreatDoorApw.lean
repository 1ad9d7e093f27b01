/-
  THE WALK OF OverApplies: it answers true at all heads and pairs. Conditions: a text has no more bytes than a machine reaches; what the listed variables hold.
-/
import Derived.Test.YtkocnbdakfhpaaaGreatDoorShd
import Derived.Test.YtkocnbdakfhpaaaGreatDoorApl
import Derived.Test.YtkocnbdakfhpaaaGreatDoorRap
import Derived.Deep.RegionHeld3
namespace Go.Proofs.YtkocnbdakfhpaaaGreatDoor
open Go.ChangeShapes Go.WideShapes Go.ChangeAt Go.RowKit Go.Lib
set_option linter.unusedVariables false
set_option linter.unusedSimpArgs false
set_option maxRecDepth 20000

def zeroHd : Hd := ⟨0, ⟨#[]⟩, ⟨#[]⟩, 0, 0, 0, 0, 0, 0, ⟨#[]⟩, ⟨#[]⟩, 0, 0⟩

set_option maxHeartbeats 16000000 in
theorem applies_walk {w : World} {a xa : Option Addr} {n c xn xc : Nat} {l ext0 : PL} (h : Hd) (hQ : Pys w xa xn xc ext0) (hz' : ∀ q ∈ ext0, q.1.size ≤ 140737488351232 ∧ q.2.size ≤ 140737488351232) (hP : Pys w a n c l) (hz : ∀ q ∈ l, q.1.size ≤ 140737488351232 ∧ q.2.size ≤ 140737488351232) (hnl : a = none → n = 0 ∧ c = 0) (hL : Laid w) :
    Calls Tryz.prog 6 #[.agg #[.int .i64 h.kind, .string h.name, .string h.link, .int .i64 h.mode, .int .i64 h.uid, .int .i64 h.gid, .int .i64 h.size, .int .i64 h.sec, .int .i64 h.nano, .string h.user, .string h.group, .int .i64 h.major, .int .i64 h.minor, .slice xa xn xc], .slice a n c] w fun e w' => e = .returned (.bool true) ∧ Below w.heap.size w w' := by
  have hb0 := (Below.refl w.heap.size w).alloc (Nat.le_refl _) (.cells #[.int .i64 h.kind, .string h.name, .string h.link, .int .i64 h.mode, .int .i64 h.uid, .int .i64 h.gid, .int .i64 h.size, .int .i64 h.sec, .int .i64 h.nano, .string h.user, .string h.group, .int .i64 h.major, .int .i64 h.minor, .slice xa xn xc] 46)
  have hK0 : Blk (w.alloc (.cells #[.int .i64 h.kind, .string h.name, .string h.link, .int .i64 h.mode, .int .i64 h.uid, .int .i64 h.gid, .int .i64 h.size, .int .i64 h.sec, .int .i64 h.nano, .string h.user, .string h.group, .int .i64 h.major, .int .i64 h.minor, .slice xa xn xc] 46)) w.heap.size #[.int .i64 h.kind, .string h.name, .string h.link, .int .i64 h.mode, .int .i64 h.uid, .int .i64 h.gid, .int .i64 h.size, .int .i64 h.sec, .int .i64 h.nano, .string h.user, .string h.group, .int .i64 h.major, .int .i64 h.minor, .slice xa xn xc] 46 := Blk.new w _ _
  have hal := alive8_ok (w.alloc (.cells #[.int .i64 h.kind, .string h.name, .string h.link, .int .i64 h.mode, .int .i64 h.uid, .int .i64 h.gid, .int .i64 h.size, .int .i64 h.sec, .int .i64 h.nano, .string h.user, .string h.group, .int .i64 h.major, .int .i64 h.minor, .slice xa xn xc] 46)) (hL.below hb0)
  have hfw := fun w' (hb : Below w.heap.size w w') => few8_all (hP.below hb) hz
  have hfw2 := fun w' (hb : Below w.heap.size w w') => few8_all (hQ.below hb) hz'
  have hpc := hP.2.1
  have hpm := hP.2.2.1
  by_cases hf : n ≤ 40 ∧ totN l ≤ 3000
  · rw [decide_eq_true hf] at hfw
    by_cases hg : xn ≤ 40 ∧ totN ext0 ≤ 3000
    · rw [decide_eq_true hg] at hfw2
      have hS : Sml l := fun p hp => by have := tot_mem l p hp; omega
      have hrr := fun w' (hb : Below w.heap.size w w') => rright8_ok (hP.below hb) hS (by omega) hnl
      cases hov : ovB none l
      · have hap := fun w' (hb : Below w.heap.size w w') => apply_not (hP.below hb) hS (hL.below hb) hov h xa xn xc
        rw [hov] at hrr
        have hsh : ∀ w' : World, Calls Tryz.prog 28 #[.agg #[.int .i64 0, .string ⟨#[]⟩, .string ⟨#[]⟩, .int .i64 0, .int .i64 0, .int .i64 0, .int .i64 0, .int .i64 0, .int .i64 0, .string ⟨#[]⟩, .string ⟨#[]⟩, .int .i64 0, .int .i64 0, .slice none 0 0], .agg #[.int .i64 0, .string ⟨#[]⟩, .string ⟨#[]⟩, .int .i64 0, .int .i64 0, .int .i64 0, .int .i64 0, .int .i64 0, .int .i64 0, .string ⟨#[]⟩, .string ⟨#[]⟩, .int .i64 0, .int .i64 0, .slice none 0 0]] w' fun e w'' => e = .returned (.bool true) ∧ Below w'.heap.size w' w'' := fun w' => samehead_ok (w := w') (ext := []) zeroHd ⟨rfl, Nat.le_refl _, by omega, .inl ⟨rfl, rfl⟩⟩ ⟨rfl, Nat.le_refl _, by omega, .inl ⟨rfl, rfl⟩⟩
        clear hf hg hS hov
        go_enter Tryz.func6, Tryz.ntmps6
        go_wp2_with (first
          | (go_at_call 18; refine hal.mono ?_; rintro e w1 ⟨rfl, hb1⟩; have hacc := hb0.trans (hb1.mono hb0.size); have hK := hK0.below hb1; clear hal)
          | (go_at_call 19; refine (hfw _ hacc).mono ?_; rintro e w2 ⟨rfl, hb2⟩; replace hacc := hacc.trans (hb2.mono hacc.size); replace hK := hK.below hb2; (have x13 : w2.cell? ⟨w.heap.size, 13, none⟩ = some (.slice xa xn xc) := hK.cell 13); clear hfw hb2)
          | (go_at_call 19; refine (hfw2 _ hacc).mono ?_; rintro e w3 ⟨rfl, hb3⟩; replace hacc := hacc.trans (hb3.mono hacc.size); replace hK := hK.below hb3; obtain ⟨b0, b1, b2, b3, b4, b5, b6, b7, b8, b9, b10, b11, b12, b13⟩ := blk14 hK; clear hfw2 hb3 x13)
          | (go_at_call 27; refine (hap _ hacc).mono ?_; rintro e w4 ⟨rfl, hb4⟩; replace hacc := hacc.trans (hb4.mono hacc.size); have hN := Blk.new w4 #[.int .i64 0, .string ⟨#[]⟩, .string ⟨#[]⟩, .int .i64 0, .int .i64 0, .int .i64 0, .int .i64 0, .int .i64 0, .int .i64 0, .string ⟨#[]⟩, .string ⟨#[]⟩, .int .i64 0, .int .i64 0, .slice none 0 0] 46; clear b0 b1 b2 b3 b4 b5 b6 b7 b8 b9 b10 b11 b12 b13; have hfin := hacc.alloc hacc.size (.cells #[.int .i64 0, .string ⟨#[]⟩, .string ⟨#[]⟩, .int .i64 0, .int .i64 0, .int .i64 0, .int .i64 0, .int .i64 0, .int .i64 0, .string ⟨#[]⟩, .string ⟨#[]⟩, .int .i64 0, .int .i64 0, .slice none 0 0] 46); clear hap hb4)
          | (go_at_call 25; refine (hrr _ hfin).mono ?_; rintro e w5 ⟨rfl, hb5⟩; replace hfin := hfin.trans (hb5.mono hfin.size); obtain ⟨d0, d1, d2, d3, d4, d5, d6, d7, d8, d9, d10, d11, d12, d13⟩ := blk14 (hN.below hb5); clear hrr hb5)
          | (go_at_call 28; refine (hsh _).mono ?_; rintro e w6 ⟨rfl, hb6⟩; replace hfin := hfin.trans (hb6.mono hfin.size)))
        all_goals go_ret
        all_goals exact ⟨rfl, hfin⟩
      · obtain ⟨R, hR⟩ : ∃ R, R = appH l h := ⟨_, rfl⟩
        obtain ⟨E, hE⟩ : ∃ E, E = appE l [] := ⟨_, rfl⟩
        have hap : ∀ w', Below w.heap.size w w' → Calls Tryz.prog 27 #[.agg #[.int .i64 h.kind, .string h.name, .string h.link, .int .i64 h.mode, .int .i64 h.uid, .int .i64 h.gid, .int .i64 h.size, .int .i64 h.sec, .int .i64 h.nano, .string h.user, .string h.group, .int .i64 h.major, .int .i64 h.minor, .slice xa xn xc], .slice a n c] w' fun e w'' => ∃ a2 m2 c2, e = .returned (.tuple #[.agg #[.int .i64 R.kind, .string R.name, .string R.link, .int .i64 R.mode, .int .i64 R.uid, .int .i64 R.gid, .int .i64 R.size, .int .i64 R.sec, .int .i64 R.nano, .string R.user, .string R.group, .int .i64 R.major, .int .i64 R.minor, .slice a2 m2 c2], .int .u8 0]) ∧ Pys w'' a2 m2 c2 E ∧ Below w'.heap.size w' w'' := by
          rw [hR, hE]
          exact fun w' hb => apply_ok (hP.below hb) hS (by omega) (hL.below hb) hov h xa xn xc
        have hra : ∀ w', Below w.heap.size w w' → Calls Tryz.prog 29 #[.agg #[.int .i64 h.kind, .string h.name, .string h.link, .int .i64 h.mode, .int .i64 h.uid, .int .i64 h.gid, .int .i64 h.size, .int .i64 h.sec, .int .i64 h.nano, .string h.user, .string h.group, .int .i64 h.major, .int .i64 h.minor, .slice xa xn xc], .slice a n c] w' fun e w'' => ∃ a2 m2 c2, e = .returned (.agg #[.int .i64 R.kind, .string R.name, .string R.link, .int .i64 R.mode, .int .i64 R.uid, .int .i64 R.gid, .int .i64 R.size, .int .i64 R.sec, .int .i64 R.nano, .string R.user, .string R.group, .int .i64 R.major, .int .i64 R.minor, .slice a2 m2 c2]) ∧ Pys w'' a2 m2 c2 E ∧ Below w'.heap.size w' w'' := by
          rw [hR, hE]
          exact fun w' hb => rapply_ok (hP.below hb) hS (by omega) h xa xn xc
        rw [hov] at hrr
        clear hf hg hS hov hR hE
        go_enter Tryz.func6, Tryz.ntmps6
        go_wp2_with (first
          | (go_at_call 18; refine hal.mono ?_; rintro e w1 ⟨rfl, hb1⟩; have hacc := hb0.trans (hb1.mono hb0.size); have hK := hK0.below hb1; clear hal)
          | (go_at_call 19; refine (hfw _ hacc).mono ?_; rintro e w2 ⟨rfl, hb2⟩; replace hacc := hacc.trans (hb2.mono hacc.size); replace hK := hK.below hb2; (have x13 : w2.cell? ⟨w.heap.size, 13, none⟩ = some (.slice xa xn xc) := hK.cell 13); clear hfw hb2)
          | (go_at_call 19; refine (hfw2 _ hacc).mono ?_; rintro e w3 ⟨rfl, hb3⟩; replace hacc := hacc.trans (hb3.mono hacc.size); replace hK := hK.below hb3; obtain ⟨b0, b1, b2, b3, b4, b5, b6, b7, b8, b9, b10, b11, b12, b13⟩ := blk14 hK; clear hfw2 hb3 x13)
          | (go_at_call 27; refine (hap _ hacc).mono ?_; rintro e w4 ⟨a4, m4, c4, rfl, hp4, hb4⟩; replace hacc := hacc.trans (hb4.mono hacc.size); replace hK := hK.below hb4; have hN := Blk.new w4 #[.int .i64 R.kind, .string R.name, .string R.link, .int .i64 R.mode, .int .i64 R.uid, .int .i64 R.gid, .int .i64 R.size, .int .i64 R.sec, .int .i64 R.nano, .string R.user, .string R.group, .int .i64 R.major, .int .i64 R.minor, .slice a4 m4 c4] 46; clear b0 b1 b2 b3 b4 b5 b6 b7 b8 b9 b10 b11 b12 b13; have hfr := (Below.refl w4.heap.size w4).alloc (Nat.le_refl _) (.cells #[.int .i64 R.kind, .string R.name, .string R.link, .int .i64 R.mode, .int .i64 R.uid, .int .i64 R.gid, .int .i64 R.size, .int .i64 R.sec, .int .i64 R.nano, .string R.user, .string R.group, .int .i64 R.major, .int .i64 R.minor, .slice a4 m4 c4] 46); have hp5 := hp4.below hfr; replace hK := hK.below hfr; have hfin := hacc.alloc hacc.size (.cells #[.int .i64 R.kind, .string R.name, .string R.link, .int .i64 R.mode, .int .i64 R.uid, .int .i64 R.gid, .int .i64 R.size, .int .i64 R.sec, .int .i64 R.nano, .string R.user, .string R.group, .int .i64 R.major, .int .i64 R.minor, .slice a4 m4 c4] 46); clear hap hb4 hp4 hfr)
          | (go_at_call 25; refine (hrr _ hfin).mono ?_; rintro e w5 ⟨rfl, hb5⟩; replace hfin := hfin.trans (hb5.mono hfin.size); replace hN := hN.below hb5; replace hK := hK.below hb5; replace hp5 := hp5.below hb5; obtain ⟨d0, d1, d2, d3, d4, d5, d6, d7, d8, d9, d10, d11, d12, d13⟩ := blk14 hN; obtain ⟨b0, b1, b2, b3, b4, b5, b6, b7, b8, b9, b10, b11, b12, b13⟩ := blk14 hK; clear hrr hb5))
        go_region_with (first
          | (go_at_call 29; refine (hra _ hfin.drew).mono ?_; rintro e w6 ⟨a6, m6, c6, rfl, hp6, hb6⟩; (have hb6' : Below w5.heap.size w5 w6 := ⟨hb6.os, hb6.tape, hb6.output, hb6.size, hb6.block⟩); have hfi6 := hfin.trans (hb6'.mono hfin.size); have hp7 := hp5.below hb6'; obtain ⟨e0, e1, e2, e3, e4, e5, e6, e7, e8, e9, e10, e11, e12, e13⟩ := blk14 (hN.below hb6'); clear hb6)
          | (go_at_call 28; refine (samehead_ok R hp7 hp6).mono ?_; rintro e w8 ⟨rfl, hb8⟩; have hfi8 := hfi6.trans (hb8.mono hfi6.size)))
        all_goals go_wp2
        all_goals go_ret
        all_goals exact ⟨rfl, hfi8⟩
    · rw [decide_eq_false hg] at hfw2
      go_enter Tryz.func6, Tryz.ntmps6
      go_wp2_with (first
          | (go_at_call 18; refine hal.mono ?_; rintro e w1 ⟨rfl, hb1⟩; have hacc := hb0.trans (hb1.mono hb0.size); have hK := hK0.below hb1; clear hal)
          | (go_at_call 19; refine (hfw _ hacc).mono ?_; rintro e w2 ⟨rfl, hb2⟩; replace hacc := hacc.trans (hb2.mono hacc.size); replace hK := hK.below hb2; (have x13 : w2.cell? ⟨w.heap.size, 13, none⟩ = some (.slice xa xn xc) := hK.cell 13); clear hfw hb2)
          | (go_at_call 19; refine (hfw2 _ hacc).mono ?_; rintro e w3 ⟨rfl, hb3⟩; replace hacc := hacc.trans (hb3.mono hacc.size); replace hK := hK.below hb3; obtain ⟨b0, b1, b2, b3, b4, b5, b6, b7, b8, b9, b10, b11, b12, b13⟩ := blk14 hK; clear hfw2 hb3 x13))
      all_goals go_ret
      all_goals exact ⟨rfl, hacc⟩
  · rw [decide_eq_false hf] at hfw
    go_enter Tryz.func6, Tryz.ntmps6
    go_wp2_with (first
        | (go_at_call 18; refine hal.mono ?_; rintro e w1 ⟨rfl, hb1⟩; have hacc := hb0.trans (hb1.mono hb0.size); have hK := hK0.below hb1; clear hal)
        | (go_at_call 19; refine (hfw _ hacc).mono ?_; rintro e w2 ⟨rfl, hb2⟩; replace hacc := hacc.trans (hb2.mono hacc.size); replace hK := hK.below hb2; (have x13 : w2.cell? ⟨w.heap.size, 13, none⟩ = some (.slice xa xn xc) := hK.cell 13); clear hfw hb2))
    all_goals go_ret
    all_goals exact ⟨rfl, hacc⟩

end Go.Proofs.YtkocnbdakfhpaaaGreatDoor
