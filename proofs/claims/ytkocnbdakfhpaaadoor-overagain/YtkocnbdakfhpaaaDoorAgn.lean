/-
  THE WALK OF OverAgain: it answers true at all pairs. Conditions: a text has no more bytes than a machine reaches; what the listed variables hold.
-/
import Derived.Test.YtkocnbdakfhpaaaDoorAli
import Derived.Test.YtkocnbdakfhpaaaDoorAgp
import Derived.Test.YtkocnbdakfhpaaaDoorFe8
import Derived.Test.YtkocnbdakfhpaaaDoorOgt
import Derived.Test.YtkocnbdakfhpaaaDoorRrg
import Derived.Laws.AppendOwnNone
namespace Go.Proofs.YtkocnbdakfhpaaaDoor
open Go.ChangeShapes Go.WideShapes Go.ChangeAt Go.RowKit Go.Lib
set_option linter.unusedVariables false
set_option linter.unusedSimpArgs false
set_option maxRecDepth 20000

theorem pys_news {w : World} {x : Addr} {n c : Nat} {l : PL} (h : Pys w (some x) n c l) : ∀ j u, (pcs2 l)[j]? = some u → w.cell? (x.add j) = some u := by
  obtain ⟨hl, hlc, hm, ⟨rfl, rfl⟩ | ⟨h0, b, off, e, hc⟩⟩ := h
  · intro j u hj; simp [pcs2] at hj
  · intro j u hj
    simp only [Option.some.injEq] at e
    subst e
    have hjl : j < l.length * 2 := by have := (List.getElem?_eq_some_iff.1 hj).1; rwa [pcs2_len] at this
    obtain ⟨p1, p2⟩ := pcs2_at l (j / 2) (by omega)
    obtain ⟨c1, c2⟩ := hc (j / 2) (by omega)
    rw [Addr.add_lit]
    rcases Nat.mod_two_eq_zero_or_one j with e | e
    · have hj2 : j / 2 * 2 = j := by omega
      rw [hj2] at p1 c1
      rw [c1, ← p1, hj]
    · have hj2 : j / 2 * 2 + 1 = j := by omega
      rw [hj2] at p2
      rw [show off + j / 2 * 2 + 1 = off + j by omega] at c2
      rw [c2, ← p2, hj]

set_option maxHeartbeats 16000000 in
theorem again_walk {w : World} {a a' : Option Addr} {n c n' c' : Nat} {l more : PL} (hP : Pys w a n c l) (hz : ∀ q ∈ l, q.1.size ≤ 140737488351232 ∧ q.2.size ≤ 140737488351232) (hQ : Pys w a' n' c' more) (hz' : ∀ q ∈ more, q.1.size ≤ 140737488351232 ∧ q.2.size ≤ 140737488351232) (hnl : a = none → n = 0 ∧ c = 0) (hL : Laid w) :
    Calls Tryd.prog 5 #[.slice a n c, .slice a' n' c'] w fun e w' => e = .returned (.bool true) ∧ Below w.heap.size w w' := by
  have hal := alive8_ok w hL
  have hfw := fun w' (hb : Below w.heap.size w w') => few8_all (hP.below hb) hz
  have hfw2 := fun w' (hb : Below w.heap.size w w') => few8_all (hQ.below hb) hz'
  have hpc := hP.2.1
  have hpm := hP.2.2.1
  have hqc := hQ.2.1
  have hqm := hQ.2.2.1
  by_cases hf : n ≤ 40 ∧ totN l ≤ 3000
  · rw [decide_eq_true hf] at hfw
    by_cases hg : n' ≤ 40 ∧ totN more ≤ 3000
    · rw [decide_eq_true hg] at hfw2
      have hS : Sml l := fun p hp => by have := tot_mem l p hp; omega
      have hS' : Sml more := fun p hp => by have := tot_mem more p hp; omega
      obtain ⟨L, hLe⟩ : ∃ L, L = layL [] l := ⟨_, rfl⟩
      obtain ⟨X, hXe⟩ : ∃ X, X = layL L more := ⟨_, rfl⟩
      have hLs : Srt L := by rw [hLe]; exact layL_srt l [] Srt.nil
      have hLf : Ful L := by rw [hLe]; exact layL_ful l [] Ful.nil
      have hXs : Srt X := by rw [hXe]; exact layL_srt more L hLs
      have hXf : Ful X := by rw [hXe]; exact layL_ful more L hLf
      have hXX : layL [] X = X := lay_self X hXs hXf
      have hXm : layL X more = X := by rw [hXe]; exact lay_twice L more hLs
      have hLlen : L.length ≤ 40 := by have := layL_len l []; have h2 := hP.1; rw [hLe]; simp at this; omega
      have hXlen : X.length ≤ 80 := by have := layL_len more L; have h2 := hQ.1; rw [hXe]; omega
      have hLmem : ∀ q ∈ L, q ∈ l := fun q hq => by
        rw [hLe] at hq
        rcases layL_mem l [] q hq with e | e
        · cases e
        · exact e
      have hXmem : ∀ q ∈ X, q ∈ l ∨ q ∈ more := fun q hq => by
        rw [hXe] at hq
        rcases layL_mem more L q hq with e | e
        · exact .inl (hLmem q e)
        · exact .inr e
      have hXS : Sml X := fun q hq => by
        rcases hXmem q hq with e | e
        · exact hS q e
        · exact hS' q e
      have hXR : rgB l = true → rgB more = true → ovB none X = true := fun h1 h2 => (ovB_iff X).2 ⟨hXs, hXf, fun q hq => by
        rcases hXmem q hq with e | e
        · exact (rgB_iff l).1 h1 q e
        · exact (rgB_iff more).1 h2 q e⟩
      have hst : ∀ q ∈ L, getK more q.1 = none → getK X q.1 = some q.2 := fun q hq h => by rw [hXe]; exact lay_stays L more hLs q.1 q.2 hq h
      have hl1 := fun w' (hb : Below w.heap.size w w') => laytwo_ok (hP.below hb) (hQ.below hb) (by omega) (by omega)
      rw [← hLe, ← hXe] at hl1
      have hl2 := fun (w' : World) (ax nx cx) (hb : Below w.heap.size w w') (hx : Pys w' ax nx cx X) => laytwo_ok hx (hQ.below hb) (by have := hx.1; omega) (by omega)
      rw [hXX, hXm] at hl2
      have hnil := fun (w' : World) => (⟨rfl, Nat.le_refl _, by omega, .inl ⟨rfl, rfl⟩⟩ : Pys w' none 0 0 [])
      have hl3 := fun (w' : World) (ax nx cx) (hx : Pys w' ax nx cx X) => laytwo_ok hx (hnil w') (by have := hx.1; omega) (by omega)
      have e3 : layL (layL [] X) [] = X := by rw [hXX]; rfl
      rw [e3] at hl3
      have hl4 := fun w' (hb : Below w.heap.size w w') => laytwo_ok (hP.below hb) (hnil w') (by omega) (by omega)
      have e4 : layL (layL [] l) [] = L := by rw [← hLe]; rfl
      rw [e4] at hl4
      have hor := fun (w' : World) (ax nx cx) (hb : Below w.heap.size w w') (hx : Pys w' ax nx cx X) => oright_ok hx hXS (hL.below hb)
      obtain ⟨i0, hi0, hz0, hz1, hz2⟩ := info_parts infoPair
      have hln := hid hP.1
      have hqn := hid hQ.1
      have hSl := hid hS
      have hSm := hid hS'
      have hXRh := hid hXR
      have hsth := hid hst
      clear hS hS' hLe hXe hLs hLf hXs hXf hXX hXm hLmem hXmem hXS hXR hst e3 e4
      generalize ovB none X = OB at *
      cases a with
      | none =>
        obtain ⟨rfl, rfl⟩ := hnl rfl
        have hl0 : Hid (l = []) := hid (by have := hln.out; simpa using this)
        go_enter Tryd.func5, Tryd.ntmps5
        go_wp2_with (first
            | (go_at_call 13; refine hal.mono ?_; rintro e w1 ⟨rfl, hacc⟩; clear hal)
            | (go_at_call 14; refine (hfw _ hacc).mono ?_; rintro e w2 ⟨rfl, hb2⟩; replace hacc := hacc.trans (hb2.mono hacc.size); clear hfw hb2)
            | (go_at_call 14; refine (hfw2 _ hacc).mono ?_; rintro e w3 ⟨rfl, hb3⟩; replace hacc := hacc.trans (hb3.mono hacc.size); clear hfw2 hb3; have hlit := World.ownsRow_lit (base := w.heap.size) (e := 37) (size := 2) w3 #[] 0 hacc.size (by unfold maxLen; omega) rfl; have hbl := hacc.alloc hacc.size (.cells #[] 37); (have hpw : Pys (w3.alloc (.cells #[] 37)) (some ⟨w3.heap.size, 0, none⟩) 0 0 l := by (rw [hl0.out]; exact ⟨rfl, Nat.le_refl _, by omega, .inl ⟨rfl, rfl⟩⟩)); clear hacc hlit; have hacc := hbl; clear hbl)
            | (go_at_call 15; refine (hl1 _ hacc).mono ?_; rintro e w4 ⟨ax, nx, cx, rfl, hx, hb4⟩; replace hpw := hpw.below hb4; replace hacc := hacc.trans (hb4.mono hacc.size); clear hl1 hb4)
            | (go_at_call 15; refine (hl2 _ _ _ _ hacc hx).mono ?_; rintro e w5 ⟨ay, ny, cy, rfl, hy, hb5⟩; replace hpw := hpw.below hb5; replace hx := hx.below hb5; replace hacc := hacc.trans (hb5.mono hacc.size); clear hl2 hb5)
            | (go_at_call 9; refine (same_ok hx hy).mono ?_; rintro e w6 ⟨rfl, hb6⟩; replace hpw := hpw.below hb6; replace hx := hx.below hb6; replace hacc := hacc.trans (hb6.mono hacc.size); clear hy hb6)
            | (go_at_call 15; refine (hl3 _ _ _ _ hx).mono ?_; rintro e w7 ⟨az, nz, cz, rfl, hzz, hb7⟩; replace hpw := hpw.below hb7; replace hx := hx.below hb7; replace hacc := hacc.trans (hb7.mono hacc.size); clear hl3 hb7)
            | (go_at_call 9; refine (same_ok hzz hx).mono ?_; rintro e w8 ⟨rfl, hb8⟩; replace hpw := hpw.below hb8; replace hx := hx.below hb8; replace hacc := hacc.trans (hb8.mono hacc.size); clear hzz hb8)
            | (go_at_call 9; refine (same_ok hpw (hP.below hacc)).mono ?_; rintro e w9 ⟨rfl, hb9⟩; replace hx := hx.below hb9; replace hacc := hacc.trans (hb9.mono hacc.size); clear hpw hb9))
        go_loopw [8, 9] (fun y x wr => ∃ (b : Bool) (k : Nat), y = .bool b ∧ x = .int .i64 k ∧ k ≤ 0 ∧ Below w9.heap.size w9 wr ∧ Hid (rgB l = (b && rgB (l.drop k)))) (fun _ x _ => 0 - (RowKit.intOf x).toNat)
        case atStart => exact ⟨true, 0, rfl, rfl, by omega, Below.refl _ _, hid (by simp)⟩
        case round =>
          obtain ⟨b, k, rfl, rfl, hk, hb, hr⟩ := hrel
          have hac1 := hacc.trans (hb.mono hacc.size)
          by_cases hlt : k < 0
          · omega
          · obtain rfl : k = 0 := by omega
            have hkI : ¬ ((0 : Nat) : Int) < ((0 : Nat) : Int) := by omega
            have hbE := hid (by rw [hr.out, show l.drop 0 = [] from List.drop_eq_nil_iff.mpr (by rw [hln.out]; exact Nat.le_refl _)]; simp [rgB] : rgB l = b)
            replace hx := hx.below hb
            clear hr
            go_wp2
            generalize wr = wu at *
            go_loopw [8, 10] (fun y x wt => ∃ (d : Bool) (k : Nat), y = .bool d ∧ x = .int .i64 k ∧ k ≤ n' ∧ Below wu.heap.size wu wt ∧ Hid ((b && rgB more) = (d && rgB (more.drop k)))) (fun _ x _ => n' - (RowKit.intOf x).toNat)
            case atStart => exact ⟨b, 0, rfl, rfl, by omega, Below.refl _ _, hid (by simp)⟩
            case round =>
              obtain ⟨d, k2, rfl, rfl, hk2, hb2, hr2⟩ := hrel
              have hac2 := hac1.trans (hb2.mono hac1.size)
              by_cases hlt2 : k2 < n'
              · obtain ⟨bb2, oo2, hae2, hc2⟩ := hQ.some_of (by omega)
                subst hae2
                obtain ⟨ky, vl, hmem, hd, x0, x1⟩ := (hc2.below hac2).at k2 (by rw [hqn.out]; exact hlt2)
                obtain ⟨z1, z2⟩ := hSm.out _ hmem
                simp only at z1 z2
                have hkI2 : (k2 : Int) < (n' : Int) := by omega
                have hrk := rgB_drop hd.out
                cases d
                · have E := hid (by rw [hr2.out]; rfl : (b && rgB more) = (false && rgB (more.drop (k2 + 1))))
                  clear hr2 hd hmem hrk
                  go_wp2
                  go_roundw
                  case rel => exact ⟨false, k2 + 1, rfl, by go_num, by omega, hb2, E⟩
                  case measure => simp [RowKit.intOf]; omega
                · have hrr := rr_ok ky vl z1 z2 wr
                  have E := hid (by rw [hr2.out, hrk]; rfl : (b && rgB more) = (rightP (bs ky) (bs vl) && rgB (more.drop (k2 + 1))))
                  generalize rightP (bs ky) (bs vl) = R at *
                  clear hr2 hd hmem hrk
                  go_wp2_with (go_at_call 16; refine hrr.mono ?_; rintro e wb ⟨rfl, hbb⟩)
                  go_roundw
                  case rel => exact ⟨R, k2 + 1, rfl, by go_num, by omega, hb2.trans (hbb.mono hb2.size), E⟩
                  case measure => simp [RowKit.intOf]; omega
              · obtain rfl : k2 = n' := by omega
                have hkI2 : ¬ (k2 : Int) < (k2 : Int) := by omega
                have hdE := hid (by rw [hr2.out, show more.drop k2 = [] from List.drop_eq_nil_iff.mpr (by rw [hqn.out]; exact Nat.le_refl _)]; simp [rgB] : (b && rgB more) = d)
                have hOB : d = true → OB = true := fun e => by
                  have h1 := hdE.out
                  rw [e, Bool.and_eq_true] at h1
                  exact hXRh.out (by rw [hbE.out]; exact h1.1) h1.2
                replace hx := hx.below hb2
                clear hr2 hdE hbE
                cases d
                · clear hOB
                  go_wp2_with (go_at_call 15; refine (hl4 _ hac2).mono ?_; rintro e wL ⟨aL, nL, cL, rfl, hpL, hbL⟩; replace hx := hx.below hbL; have hac3 := hac2.trans (hbL.mono hac2.size))
                  go_loopw [12] (fun x wt => ∃ k : Nat, x = .int .i64 k ∧ k ≤ nL ∧ Below wL.heap.size wL wt) (fun x _ => nL - (RowKit.intOf x).toNat)
                  case atStart => exact ⟨0, rfl, by omega, Below.refl _ _⟩
                  case round =>
                    obtain ⟨k3, rfl, hk3, hb3⟩ := hrel
                    have hac4 := hac3.trans (hb3.mono hac3.size)
                    by_cases hlt3 : k3 < nL
                    · obtain ⟨bL, oL, hae3, hcL⟩ := hpL.some_of (by omega)
                      subst hae3
                      have hm5 := hpL.1
                      have hm6 := hpL.2.1
                      have hm7 := hpL.2.2.1
                      obtain ⟨ky, vl, hmem, hd, x0, x1⟩ := (hcL.below hb3).at k3 (by rw [hm5]; exact hlt3)
                      have hkI3 : (k3 : Int) < (nL : Int) := by omega
                      have hg1 := oget_ok (hQ.below hac4) ky
                      have hstq := hsth.out _ hmem
                      simp only at hstq
                      replace hm5 := hid hm5
                      cases hgm : getK more ky with
                      | some v =>
                        rw [hgm] at hg1
                        clear hstq hgm hd hmem
                        go_wp2_with (go_at_call 18; refine hg1.mono ?_; rintro e wb ⟨rfl, hbb⟩)
                        go_roundw
                        case rel => exact ⟨k3 + 1, by go_num, by omega, hb3.trans (hbb.mono hb3.size)⟩
                        case measure => simp [RowKit.intOf]; omega
                      | none =>
                        have hgx := hstq hgm
                        rw [hgm] at hg1
                        have hg2 := fun w' (hbb : Below wr.heap.size wr w') => oget_ok ((hx.below hb3).below hbb) ky
                        rw [hgx, show getV (some vl) = vl from rfl] at hg2
                        have hvv : (vl.toList != vl.toList) = false := by simp
                        clear hstq hgm hgx hd hmem
                        go_wp2_with (first
                          | (go_at_call 18; refine hg1.mono ?_; rintro e wb ⟨rfl, hbb⟩; have y0 := cell_later hbb x0; have y1 := cell_later hbb x1; clear hg1)
                          | (go_at_call 18; refine (hg2 _ hbb).mono ?_; rintro e wc ⟨rfl, hbc⟩; have z0 := cell_later hbc y0; have z1 := cell_later hbc y1))
                        go_roundw
                        case rel => exact ⟨k3 + 1, by go_num, by omega, hb3.trans ((hbb.trans (hbc.mono hbb.size)).mono hb3.size)⟩
                        case measure => simp [RowKit.intOf]; omega
                    · obtain rfl : k3 = nL := by omega
                      have hkI3 : ¬ (k3 : Int) < (k3 : Int) := by omega
                      go_wp2
                      all_goals go_ret
                      all_goals exact ⟨rfl, hac4⟩
                · have hOBt := hOB rfl
                  subst hOBt
                  clear hOB
                  go_wp2_with (first
                    | (go_at_call 17; refine (hor _ _ _ _ hac2 hx).mono ?_; rintro e wo ⟨rfl, hbo⟩; replace hx := hx.below hbo; replace hac2 := hac2.trans (hbo.mono hac2.size))
                    | (go_at_call 15; refine (hl4 _ hac2).mono ?_; rintro e wL ⟨aL, nL, cL, rfl, hpL, hbL⟩; replace hx := hx.below hbL; have hac3 := hac2.trans (hbL.mono hac2.size)))
                  go_loopw [12] (fun x wt => ∃ k : Nat, x = .int .i64 k ∧ k ≤ nL ∧ Below wL.heap.size wL wt) (fun x _ => nL - (RowKit.intOf x).toNat)
                  case atStart => exact ⟨0, rfl, by omega, Below.refl _ _⟩
                  case round =>
                    obtain ⟨k3, rfl, hk3, hb3⟩ := hrel
                    have hac4 := hac3.trans (hb3.mono hac3.size)
                    by_cases hlt3 : k3 < nL
                    · obtain ⟨bL, oL, hae3, hcL⟩ := hpL.some_of (by omega)
                      subst hae3
                      have hm5 := hpL.1
                      have hm6 := hpL.2.1
                      have hm7 := hpL.2.2.1
                      obtain ⟨ky, vl, hmem, hd, x0, x1⟩ := (hcL.below hb3).at k3 (by rw [hm5]; exact hlt3)
                      have hkI3 : (k3 : Int) < (nL : Int) := by omega
                      have hg1 := oget_ok (hQ.below hac4) ky
                      have hstq := hsth.out _ hmem
                      simp only at hstq
                      replace hm5 := hid hm5
                      cases hgm : getK more ky with
                      | some v =>
                        rw [hgm] at hg1
                        clear hstq hgm hd hmem
                        go_wp2_with (go_at_call 18; refine hg1.mono ?_; rintro e wb ⟨rfl, hbb⟩)
                        go_roundw
                        case rel => exact ⟨k3 + 1, by go_num, by omega, hb3.trans (hbb.mono hb3.size)⟩
                        case measure => simp [RowKit.intOf]; omega
                      | none =>
                        have hgx := hstq hgm
                        rw [hgm] at hg1
                        have hg2 := fun w' (hbb : Below wr.heap.size wr w') => oget_ok ((hx.below hb3).below hbb) ky
                        rw [hgx, show getV (some vl) = vl from rfl] at hg2
                        have hvv : (vl.toList != vl.toList) = false := by simp
                        clear hstq hgm hgx hd hmem
                        go_wp2_with (first
                          | (go_at_call 18; refine hg1.mono ?_; rintro e wb ⟨rfl, hbb⟩; have y0 := cell_later hbb x0; have y1 := cell_later hbb x1; clear hg1)
                          | (go_at_call 18; refine (hg2 _ hbb).mono ?_; rintro e wc ⟨rfl, hbc⟩; have z0 := cell_later hbc y0; have z1 := cell_later hbc y1))
                        go_roundw
                        case rel => exact ⟨k3 + 1, by go_num, by omega, hb3.trans ((hbb.trans (hbc.mono hbb.size)).mono hb3.size)⟩
                        case measure => simp [RowKit.intOf]; omega
                    · obtain rfl : k3 = nL := by omega
                      have hkI3 : ¬ (k3 : Int) < (k3 : Int) := by omega
                      go_wp2
                      all_goals go_ret
                      all_goals exact ⟨rfl, hac4⟩
      | some ad =>
        go_enter Tryd.func5, Tryd.ntmps5
        go_wp2_with (first
            | (go_at_call 13; refine hal.mono ?_; rintro e w1 ⟨rfl, hacc⟩; clear hal)
            | (go_at_call 14; refine (hfw _ hacc).mono ?_; rintro e w2 ⟨rfl, hb2⟩; replace hacc := hacc.trans (hb2.mono hacc.size); clear hfw hb2)
            | (go_at_call 14; refine (hfw2 _ hacc).mono ?_; rintro e w3 ⟨rfl, hb3⟩; replace hacc := hacc.trans (hb3.mono hacc.size); clear hfw2 hb3; have hlit := World.ownsRow_lit (base := w.heap.size) (e := 37) (size := 2) w3 #[] 0 hacc.size (by unfold maxLen; omega) rfl; have hbl := hacc.alloc hacc.size (.cells #[] 37); have hPl := hP.below hbl)
            | (at_builtin; refine wpList_append_own (P := Tryd.prog) _ rfl (.tmp 27) (.tmp 28) 24 rfl w.heap.size 37 i0 (.agg #[.string ⟨#[]⟩, .string ⟨#[]⟩]) 2 32 Tryd.underlying24 hi0 hz0 hz1 hz2 rfl (by decide) _ _ _ rfl hlit ad n c (pcs2 l) rfl (by rw [pcs2_len, hln.out]) (pys_news hPl) (pcs2_one l) (by unfold maxLen; omega) (by omega) hbl.size ?_; intro v' wA hown' hgrow' _; rw [Nat.zero_add, List.nil_append] at hown'; obtain ⟨aw, cw, rfl, hpw⟩ := own_pys hown' hln.out; have hacA := hbl.grown hgrow' hbl.size (fun g hg => (hlit.lt g hg).1); clear hacc hown' hgrow' hlit hbl hPl; have hacc := hacA; clear hacA)
            | (go_at_call 15; refine (hl1 _ hacc).mono ?_; rintro e w4 ⟨ax, nx, cx, rfl, hx, hb4⟩; replace hpw := hpw.below hb4; replace hacc := hacc.trans (hb4.mono hacc.size); clear hl1 hb4)
            | (go_at_call 15; refine (hl2 _ _ _ _ hacc hx).mono ?_; rintro e w5 ⟨ay, ny, cy, rfl, hy, hb5⟩; replace hpw := hpw.below hb5; replace hx := hx.below hb5; replace hacc := hacc.trans (hb5.mono hacc.size); clear hl2 hb5)
            | (go_at_call 9; refine (same_ok hx hy).mono ?_; rintro e w6 ⟨rfl, hb6⟩; replace hpw := hpw.below hb6; replace hx := hx.below hb6; replace hacc := hacc.trans (hb6.mono hacc.size); clear hy hb6)
            | (go_at_call 15; refine (hl3 _ _ _ _ hx).mono ?_; rintro e w7 ⟨az, nz, cz, rfl, hzz, hb7⟩; replace hpw := hpw.below hb7; replace hx := hx.below hb7; replace hacc := hacc.trans (hb7.mono hacc.size); clear hl3 hb7)
            | (go_at_call 9; refine (same_ok hzz hx).mono ?_; rintro e w8 ⟨rfl, hb8⟩; replace hpw := hpw.below hb8; replace hx := hx.below hb8; replace hacc := hacc.trans (hb8.mono hacc.size); clear hzz hb8)
            | (go_at_call 9; refine (same_ok hpw (hP.below hacc)).mono ?_; rintro e w9 ⟨rfl, hb9⟩; replace hx := hx.below hb9; replace hacc := hacc.trans (hb9.mono hacc.size); clear hpw hb9))
        go_loopw [8, 9] (fun y x wr => ∃ (b : Bool) (k : Nat), y = .bool b ∧ x = .int .i64 k ∧ k ≤ n ∧ Below w9.heap.size w9 wr ∧ Hid (rgB l = (b && rgB (l.drop k)))) (fun _ x _ => n - (RowKit.intOf x).toNat)
        case atStart => exact ⟨true, 0, rfl, rfl, by omega, Below.refl _ _, hid (by simp)⟩
        case round =>
          obtain ⟨b, k, rfl, rfl, hk, hb, hr⟩ := hrel
          have hac1 := hacc.trans (hb.mono hacc.size)
          by_cases hlt : k < n
          · obtain ⟨bb, oo, hae, hc1⟩ := hP.some_of (by omega)
            simp only [Option.some.injEq] at hae
            subst hae
            obtain ⟨ky, vl, hmem, hd, x0, x1⟩ := (hc1.below hac1).at k (by rw [hln.out]; exact hlt)
            obtain ⟨z1, z2⟩ := hSl.out _ hmem
            simp only at z1 z2
            have hkI : (k : Int) < (n : Int) := by omega
            have hrk := rgB_drop hd.out
            cases b
            · have E := hid (by rw [hr.out]; rfl : rgB l = (false && rgB (l.drop (k + 1))))
              clear hr hd hmem hrk
              go_wp2
              go_roundw
              case rel => exact ⟨false, k + 1, rfl, by go_num, by omega, hb, E⟩
              case measure => simp [RowKit.intOf]; omega
            · have hrr := rr_ok ky vl z1 z2 wr
              have E := hid (by rw [hr.out, hrk]; rfl : rgB l = (rightP (bs ky) (bs vl) && rgB (l.drop (k + 1))))
              generalize rightP (bs ky) (bs vl) = R at *
              clear hr hd hmem hrk
              go_wp2_with (go_at_call 16; refine hrr.mono ?_; rintro e wb ⟨rfl, hbb⟩)
              go_roundw
              case rel => exact ⟨R, k + 1, rfl, by go_num, by omega, hb.trans (hbb.mono hb.size), E⟩
              case measure => simp [RowKit.intOf]; omega
          · obtain rfl : k = n := by omega
            have hkI : ¬ (k : Int) < (k : Int) := by omega
            have hbE := hid (by rw [hr.out, show l.drop k = [] from List.drop_eq_nil_iff.mpr (by rw [hln.out]; exact Nat.le_refl _)]; simp [rgB] : rgB l = b)
            replace hx := hx.below hb
            clear hr
            go_wp2
            generalize wr = wu at *
            go_loopw [8, 10] (fun y x wt => ∃ (d : Bool) (k : Nat), y = .bool d ∧ x = .int .i64 k ∧ k ≤ n' ∧ Below wu.heap.size wu wt ∧ Hid ((b && rgB more) = (d && rgB (more.drop k)))) (fun _ x _ => n' - (RowKit.intOf x).toNat)
            case atStart => exact ⟨b, 0, rfl, rfl, by omega, Below.refl _ _, hid (by simp)⟩
            case round =>
              obtain ⟨d, k2, rfl, rfl, hk2, hb2, hr2⟩ := hrel
              have hac2 := hac1.trans (hb2.mono hac1.size)
              by_cases hlt2 : k2 < n'
              · obtain ⟨bb2, oo2, hae2, hc2⟩ := hQ.some_of (by omega)
                subst hae2
                obtain ⟨ky, vl, hmem, hd, x0, x1⟩ := (hc2.below hac2).at k2 (by rw [hqn.out]; exact hlt2)
                obtain ⟨z1, z2⟩ := hSm.out _ hmem
                simp only at z1 z2
                have hkI2 : (k2 : Int) < (n' : Int) := by omega
                have hrk := rgB_drop hd.out
                cases d
                · have E := hid (by rw [hr2.out]; rfl : (b && rgB more) = (false && rgB (more.drop (k2 + 1))))
                  clear hr2 hd hmem hrk
                  go_wp2
                  go_roundw
                  case rel => exact ⟨false, k2 + 1, rfl, by go_num, by omega, hb2, E⟩
                  case measure => simp [RowKit.intOf]; omega
                · have hrr := rr_ok ky vl z1 z2 wr
                  have E := hid (by rw [hr2.out, hrk]; rfl : (b && rgB more) = (rightP (bs ky) (bs vl) && rgB (more.drop (k2 + 1))))
                  generalize rightP (bs ky) (bs vl) = R at *
                  clear hr2 hd hmem hrk
                  go_wp2_with (go_at_call 16; refine hrr.mono ?_; rintro e wb ⟨rfl, hbb⟩)
                  go_roundw
                  case rel => exact ⟨R, k2 + 1, rfl, by go_num, by omega, hb2.trans (hbb.mono hb2.size), E⟩
                  case measure => simp [RowKit.intOf]; omega
              · obtain rfl : k2 = n' := by omega
                have hkI2 : ¬ (k2 : Int) < (k2 : Int) := by omega
                have hdE := hid (by rw [hr2.out, show more.drop k2 = [] from List.drop_eq_nil_iff.mpr (by rw [hqn.out]; exact Nat.le_refl _)]; simp [rgB] : (b && rgB more) = d)
                have hOB : d = true → OB = true := fun e => by
                  have h1 := hdE.out
                  rw [e, Bool.and_eq_true] at h1
                  exact hXRh.out (by rw [hbE.out]; exact h1.1) h1.2
                replace hx := hx.below hb2
                clear hr2 hdE hbE
                cases d
                · clear hOB
                  go_wp2_with (go_at_call 15; refine (hl4 _ hac2).mono ?_; rintro e wL ⟨aL, nL, cL, rfl, hpL, hbL⟩; replace hx := hx.below hbL; have hac3 := hac2.trans (hbL.mono hac2.size))
                  go_loopw [12] (fun x wt => ∃ k : Nat, x = .int .i64 k ∧ k ≤ nL ∧ Below wL.heap.size wL wt) (fun x _ => nL - (RowKit.intOf x).toNat)
                  case atStart => exact ⟨0, rfl, by omega, Below.refl _ _⟩
                  case round =>
                    obtain ⟨k3, rfl, hk3, hb3⟩ := hrel
                    have hac4 := hac3.trans (hb3.mono hac3.size)
                    by_cases hlt3 : k3 < nL
                    · obtain ⟨bL, oL, hae3, hcL⟩ := hpL.some_of (by omega)
                      subst hae3
                      have hm5 := hpL.1
                      have hm6 := hpL.2.1
                      have hm7 := hpL.2.2.1
                      obtain ⟨ky, vl, hmem, hd, x0, x1⟩ := (hcL.below hb3).at k3 (by rw [hm5]; exact hlt3)
                      have hkI3 : (k3 : Int) < (nL : Int) := by omega
                      have hg1 := oget_ok (hQ.below hac4) ky
                      have hstq := hsth.out _ hmem
                      simp only at hstq
                      replace hm5 := hid hm5
                      cases hgm : getK more ky with
                      | some v =>
                        rw [hgm] at hg1
                        clear hstq hgm hd hmem
                        go_wp2_with (go_at_call 18; refine hg1.mono ?_; rintro e wb ⟨rfl, hbb⟩)
                        go_roundw
                        case rel => exact ⟨k3 + 1, by go_num, by omega, hb3.trans (hbb.mono hb3.size)⟩
                        case measure => simp [RowKit.intOf]; omega
                      | none =>
                        have hgx := hstq hgm
                        rw [hgm] at hg1
                        have hg2 := fun w' (hbb : Below wr.heap.size wr w') => oget_ok ((hx.below hb3).below hbb) ky
                        rw [hgx, show getV (some vl) = vl from rfl] at hg2
                        have hvv : (vl.toList != vl.toList) = false := by simp
                        clear hstq hgm hgx hd hmem
                        go_wp2_with (first
                          | (go_at_call 18; refine hg1.mono ?_; rintro e wb ⟨rfl, hbb⟩; have y0 := cell_later hbb x0; have y1 := cell_later hbb x1; clear hg1)
                          | (go_at_call 18; refine (hg2 _ hbb).mono ?_; rintro e wc ⟨rfl, hbc⟩; have z0 := cell_later hbc y0; have z1 := cell_later hbc y1))
                        go_roundw
                        case rel => exact ⟨k3 + 1, by go_num, by omega, hb3.trans ((hbb.trans (hbc.mono hbb.size)).mono hb3.size)⟩
                        case measure => simp [RowKit.intOf]; omega
                    · obtain rfl : k3 = nL := by omega
                      have hkI3 : ¬ (k3 : Int) < (k3 : Int) := by omega
                      go_wp2
                      all_goals go_ret
                      all_goals exact ⟨rfl, hac4⟩
                · have hOBt := hOB rfl
                  subst hOBt
                  clear hOB
                  go_wp2_with (first
                    | (go_at_call 17; refine (hor _ _ _ _ hac2 hx).mono ?_; rintro e wo ⟨rfl, hbo⟩; replace hx := hx.below hbo; replace hac2 := hac2.trans (hbo.mono hac2.size))
                    | (go_at_call 15; refine (hl4 _ hac2).mono ?_; rintro e wL ⟨aL, nL, cL, rfl, hpL, hbL⟩; replace hx := hx.below hbL; have hac3 := hac2.trans (hbL.mono hac2.size)))
                  go_loopw [12] (fun x wt => ∃ k : Nat, x = .int .i64 k ∧ k ≤ nL ∧ Below wL.heap.size wL wt) (fun x _ => nL - (RowKit.intOf x).toNat)
                  case atStart => exact ⟨0, rfl, by omega, Below.refl _ _⟩
                  case round =>
                    obtain ⟨k3, rfl, hk3, hb3⟩ := hrel
                    have hac4 := hac3.trans (hb3.mono hac3.size)
                    by_cases hlt3 : k3 < nL
                    · obtain ⟨bL, oL, hae3, hcL⟩ := hpL.some_of (by omega)
                      subst hae3
                      have hm5 := hpL.1
                      have hm6 := hpL.2.1
                      have hm7 := hpL.2.2.1
                      obtain ⟨ky, vl, hmem, hd, x0, x1⟩ := (hcL.below hb3).at k3 (by rw [hm5]; exact hlt3)
                      have hkI3 : (k3 : Int) < (nL : Int) := by omega
                      have hg1 := oget_ok (hQ.below hac4) ky
                      have hstq := hsth.out _ hmem
                      simp only at hstq
                      replace hm5 := hid hm5
                      cases hgm : getK more ky with
                      | some v =>
                        rw [hgm] at hg1
                        clear hstq hgm hd hmem
                        go_wp2_with (go_at_call 18; refine hg1.mono ?_; rintro e wb ⟨rfl, hbb⟩)
                        go_roundw
                        case rel => exact ⟨k3 + 1, by go_num, by omega, hb3.trans (hbb.mono hb3.size)⟩
                        case measure => simp [RowKit.intOf]; omega
                      | none =>
                        have hgx := hstq hgm
                        rw [hgm] at hg1
                        have hg2 := fun w' (hbb : Below wr.heap.size wr w') => oget_ok ((hx.below hb3).below hbb) ky
                        rw [hgx, show getV (some vl) = vl from rfl] at hg2
                        have hvv : (vl.toList != vl.toList) = false := by simp
                        clear hstq hgm hgx hd hmem
                        go_wp2_with (first
                          | (go_at_call 18; refine hg1.mono ?_; rintro e wb ⟨rfl, hbb⟩; have y0 := cell_later hbb x0; have y1 := cell_later hbb x1; clear hg1)
                          | (go_at_call 18; refine (hg2 _ hbb).mono ?_; rintro e wc ⟨rfl, hbc⟩; have z0 := cell_later hbc y0; have z1 := cell_later hbc y1))
                        go_roundw
                        case rel => exact ⟨k3 + 1, by go_num, by omega, hb3.trans ((hbb.trans (hbc.mono hbb.size)).mono hb3.size)⟩
                        case measure => simp [RowKit.intOf]; omega
                    · obtain rfl : k3 = nL := by omega
                      have hkI3 : ¬ (k3 : Int) < (k3 : Int) := by omega
                      go_wp2
                      all_goals go_ret
                      all_goals exact ⟨rfl, hac4⟩
    · rw [decide_eq_false hg] at hfw2
      go_enter Tryd.func5, Tryd.ntmps5
      go_wp2_with (first
          | (go_at_call 13; refine hal.mono ?_; rintro e w1 ⟨rfl, hacc⟩; clear hal)
          | (go_at_call 14; refine (hfw _ hacc).mono ?_; rintro e w2 ⟨rfl, hb2⟩; replace hacc := hacc.trans (hb2.mono hacc.size); clear hfw hb2)
          | (go_at_call 14; refine (hfw2 _ hacc).mono ?_; rintro e w3 ⟨rfl, hb3⟩; replace hacc := hacc.trans (hb3.mono hacc.size); clear hfw2 hb3))
      all_goals go_ret
      all_goals exact ⟨rfl, hacc⟩
  · rw [decide_eq_false hf] at hfw
    go_enter Tryd.func5, Tryd.ntmps5
    go_wp2_with (first
        | (go_at_call 13; refine hal.mono ?_; rintro e w1 ⟨rfl, hacc⟩; clear hal)
        | (go_at_call 14; refine (hfw _ hacc).mono ?_; rintro e w2 ⟨rfl, hb2⟩; replace hacc := hacc.trans (hb2.mono hacc.size); clear hfw hb2))
    all_goals go_ret
    all_goals exact ⟨rfl, hacc⟩

end Go.Proofs.YtkocnbdakfhpaaaDoor
