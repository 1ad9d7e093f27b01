/-
  THE WALK OF ItemFulls. Conditions: how long the texts may be; what the listed variables hold.
-/
import Derived.Test.YtlehomcodkbpmaaDoorFtp
namespace Go.Proofs.YtlehomcodkbpmaaDoor
open Go.ChangeShapes Go.WideShapes Go.ChangeAt Go.RowKit Go.Lib
set_option linter.unusedVariables false
set_option linter.unusedSimpArgs false
set_option maxRecDepth 20000

theorem hd_cells {w : World} {g : Nat} {t : TypeId} {h : Hd} {x : Value} (hB : Blk w g (h.cs x) t) :
    w.cell? ⟨g, 0, none⟩ = some (.int .i64 h.kind) ∧ w.cell? ⟨g, 1, none⟩ = some (.string h.name) ∧ w.cell? ⟨g, 2, none⟩ = some (.string h.link) ∧ w.cell? ⟨g, 3, none⟩ = some (.int .i64 h.mode) ∧ w.cell? ⟨g, 4, none⟩ = some (.int .i64 h.uid) ∧ w.cell? ⟨g, 5, none⟩ = some (.int .i64 h.gid) ∧ w.cell? ⟨g, 6, none⟩ = some (.int .i64 h.size) ∧
    w.cell? ⟨g, 7, none⟩ = some (.int .i64 h.sec) ∧ w.cell? ⟨g, 8, none⟩ = some (.int .i64 h.nano) ∧ w.cell? ⟨g, 9, none⟩ = some (.string h.user) ∧ w.cell? ⟨g, 10, none⟩ = some (.string h.group) ∧ w.cell? ⟨g, 11, none⟩ = some (.int .i64 h.major) ∧ w.cell? ⟨g, 12, none⟩ = some (.int .i64 h.minor) ∧ w.cell? ⟨g, 13, none⟩ = some x :=
  ⟨hB.cell 0, hB.cell 1, hB.cell 2, hB.cell 3, hB.cell 4, hB.cell 5, hB.cell 6, hB.cell 7, hB.cell 8, hB.cell 9, hB.cell 10, hB.cell 11, hB.cell 12, hB.cell 13⟩

theorem sts_cell {w : World} {g : Nat} {l : List ByteArray} (h : Sts w g l) (k : Nat) (hk : k < l.length) : ∃ f, f ∈ l ∧ Hid (l.take (k + 1) = l.take k ++ [f]) ∧ w.cell? ⟨g, k, none⟩ = some (.string f) := by
  refine ⟨l[k], List.getElem_mem hk, hid (List.take_succ_eq_append_getElem hk), ?_⟩
  unfold Sts at h
  simp [World.cell?, h, hk]

set_option maxHeartbeats 16000000 in
theorem fulls_walk {w : World} {a : Option Addr} {n c : Nat} {l : PL} (h : Hd) (hp : Pys w a n c l) (hz : ∀ p ∈ l, p.1.size ≤ 140737488351232 ∧ p.2.size ≤ 140737488351232)
    (h1 : h.name.size ≤ 140737488351232) (h2 : h.link.size ≤ 140737488351232) (h3 : h.user.size ≤ 140737488351232) (h4 : h.group.size ≤ 140737488351232) (o : ByteArray) (hL : Laid w) :
    Calls Tryd.prog 3 #[.agg (h.cs (.slice a n c)), .string o] w fun e w' => e = .returned (.bool true) ∧ Below w.heap.size w w' := by
  have hac := below_alloc w (.cells (h.cs (.slice a n c)) 26)
  have hB : Blk (w.alloc (.cells (h.cs (.slice a n c)) 26)) w.heap.size (h.cs (.slice a n c)) 26 := heap_alloc_new _ _
  have hmn := fun (wr : World) (hb : Below w.heap.size w wr) => many_all h (hp.below hb) hz h1 h2 h3 h4
  have hinf : (Tryd.prog.info? 26).map (·.size) = some (h.cs (.slice a n c)).size := by kernel_rfl
  by_cases hm : 200000 < sumH h + totN l ∨ 40 < n
  · rw [decide_eq_true hm] at hmn
    clear hm hz hp hL
    unfold Hd.cs at *
    go_enter Tryd.func3, Tryd.ntmps3
    go_wp2_with (first
      | (go_at_call 4; refine (alive_ok _).mono ?_; rintro e w1 ⟨rfl, hb1⟩; replace hB := hB.below hb1; replace hac := hac.trans (hb1.mono hac.size); clear hb1)
      | (go_at_call 5; refine (hmn _ hac).mono ?_; rintro e w2 ⟨rfl, hb2⟩; replace hac := hac.trans (hb2.mono hac.size); clear hb2)
      | (refine wpList_load_row (P := Tryd.prog) rfl 26 (.tmp 2) rfl w.heap.size rfl 26 _ (0, 0) _ hB Tryd.underlying26 rfl hinf ?_))
    go_ret
    exact ⟨rfl, hac⟩
  · rw [decide_eq_false hm] at hmn
    have hS : Sml l := fun p hp' => by have := mem_tot l p hp'; omega
    have hnm : h.name.size ≤ 200000 := by unfold sumH at hm; omega
    by_cases ho : o.size ≤ 2000
    · have hoI : ¬ (2000 : Int) < (o.size : Int) := by omega
      have hwr := fun (wr : World) (hb : Below w.heap.size w wr) => wrong_ok h (hp.below hb) hS (by omega) (hL.below hb)
      by_cases hw0 : wrongH h l = 0
      · rw [hw0] at hwr
        obtain ⟨r0, r1⟩ := right_name hw0
        have hfu := fulls_ok h (.slice a n c) (by omega)
        have htell := fulls_tell h.kind h.name r0 r1
        have hiff := hid (fulls_iff h.kind h.name o r0 r1)
        have hsize := fulls_size h.kind h.name
        have hlen := fulls_len h.kind h.name
        generalize fulls h.kind h.name = L at *
        have hto := told_ok h.kind o (by omega)
        have hiff' := hiff
        generalize toldK h.kind o = K at *
        generalize toldS h.kind o = S at *
        clear hm hz hp hL hw0 r0 r1 hiff'
        replace hlen := hid hlen
        have hnn : (h.name.toList == h.name.toList) = true := by simp
        unfold Hd.cs at hB hac hmn hwr hfu hinf ⊢
        go_enter Tryd.func3, Tryd.ntmps3
        go_wp2_with (first
          | (go_at_call 4; refine (alive_ok _).mono ?_; rintro e w1 ⟨rfl, hb1⟩; replace hB := hB.below hb1; replace hac := hac.trans (hb1.mono hac.size); clear hb1)
          | (go_at_call 5; refine (hmn _ hac).mono ?_; rintro e w2 ⟨rfl, hb2⟩; replace hB := hB.below hb2; replace hac := hac.trans (hb2.mono hac.size); clear hb2; obtain ⟨k0, k1, k2, k3, k4, k5, k6, k7, k8, k9, k10, k11, k12, k13⟩ := hd_cells (h := h) hB)
          | (go_at_call 6; refine (hwr _ hac).mono ?_; rintro e w3 ⟨rfl, hb3⟩; replace hB := hB.below hb3; replace hac := hac.trans (hb3.mono hac.size); clear hb3 k0 k1 k2 k3 k4 k5 k6 k7 k8 k9 k10 k11 k12 k13)
          | (go_at_call 7; refine (hfu _).mono ?_; rintro e w4 ⟨g, m, rfl, hm, hst, hb4⟩; replace hm := hid hm; replace hB := hB.below hb4; replace hac := hac.trans (hb4.mono hac.size); clear hb4)
          | (refine wpList_load_row (P := Tryd.prog) rfl 26 (.tmp 2) rfl w.heap.size rfl 26 _ (0, 0) _ hB Tryd.underlying26 rfl hinf ?_))
        have hml : m ≤ 2 := by rw [hm.out]; exact hlen.out.2
        have hm0 : 0 < m := by rw [hm.out]; exact hlen.out.1
        go_loopw [6, 7] (fun y x wr => ∃ k : Nat, y = .bool (memB o (L.take k)) ∧ x = .int .i64 k ∧ k ≤ m ∧ Below w4.heap.size w4 wr) (fun _ x _ => m - (RowKit.intOf x).toNat)
        case atStart => exact ⟨0, rfl, rfl, by omega, Below.refl _ _⟩
        case round =>
          obtain ⟨k, rfl, rfl, hk, hb⟩ := hrel
          have hBr := hB.below hb
          have k0 : wr.cell? ⟨w.heap.size, 0, none⟩ = some (.int .i64 h.kind) := hBr.cell 0
          have k1 : wr.cell? ⟨w.heap.size, 1, none⟩ = some (.string h.name) := hBr.cell 1
          have hacr := hac.trans (hb.mono hac.size)
          by_cases hlt : k < m
          · obtain ⟨f, hmem, htk, cf⟩ := sts_cell (hst.below hb) k (by rw [← hm.out]; exact hlt)
            obtain ⟨e1, e2⟩ := htell f hmem
            have hfs := hsize f hmem
            have ht := told_ok h.kind f (by omega)
            rw [e1, e2] at ht
            have E := hid (by rw [htk.out, memB_app] : memB o (L.take (k + 1)) = (memB o (L.take k) || (f.toList == o.toList)))
            have hkI : (k : Int) < (m : Int) := by omega
            have g0 : ∀ p : After wr, p.out.cell? ⟨w.heap.size, 0, none⟩ = some (.int .i64 h.kind) := fun p => cell_later p.bel k0
            have g1 : ∀ p : After wr, p.out.cell? ⟨w.heap.size, 1, none⟩ = some (.string h.name) := fun p => cell_later p.bel k1
            have gf : ∀ p : After wr, p.out.cell? ⟨g, k, none⟩ = some (.string f) := fun p => cell_later p.bel cf
            have hne : Nonempty (After wr) := ⟨⟨_, Below.refl _ _⟩⟩
            clear hmem e1 e2 htell hiff hto hsize hfs htk hfu hwr hmn hst hB hac hBr
            generalize memB o (L.take k) = b at *
            go_wp2
            refine wp_region_after (by kernel_rfl) (by kernel_rfl) ?_
            repeat (go_big_quiet_step ((first
              | (go_at_call 8; exact after_same _ (ht _)))))
            refine wpQuiet_nil ?_
            intro wq hw'
            obtain ⟨⟨z, hwq⟩, hx⟩ := hw'
            simp only at hx
            subst hx
            have m0 := g0 ⟨_, hwq⟩
            have m1 := g1 ⟨_, hwq⟩
            have mf := gf ⟨_, hwq⟩
            clear g0 g1 gf ht k0 k1 cf
            simp only at m0 m1 mf
            cases b
            · simp only [Bool.false_or] at E
              go_wp2
              go_roundw
              case rel => exact ⟨k + 1, by rw [E.out], by go_num, by omega, hb.trans (hwq.mono hb.size)⟩
              case measure => simp [RowKit.intOf]; omega
            · simp only [Bool.true_or] at E
              go_wp2
              go_roundw
              case rel => exact ⟨k + 1, by rw [E.out], by go_num, by omega, hb.trans (hwq.mono hb.size)⟩
              case measure => simp [RowKit.intOf]; omega
          · obtain rfl : k = m := by omega
            have E := hid (by rw [List.take_of_length_le (by rw [← hm.out]; exact Nat.le_refl _), hiff.out] : memB o (L.take k) = ((K == h.kind) && (S.toList == h.name.toList)))
            have hmI : (0 : Int) < (k : Int) := by omega
            clear hiff htell hsize hfu hwr hmn hst hB hac hBr
            generalize memB o (L.take k) = b at *
            cases hA : (K == h.kind)
            · rw [hA] at E
              obtain rfl : b = false := E.out
              go_wp2_with (go_at_call 8; refine (hto _).mono ?_; rintro e w' ⟨hw, rfl⟩; obtain rfl := hw.symm)
              all_goals go_ret
              all_goals exact ⟨rfl, hacr⟩
            · rw [hA] at E
              cases hC : (S.toList == h.name.toList)
              · rw [hC] at E
                obtain rfl : b = false := E.out
                go_wp2_with (go_at_call 8; refine (hto _).mono ?_; rintro e w' ⟨hw, rfl⟩; obtain rfl := hw.symm)
                all_goals go_ret
                all_goals exact ⟨rfl, hacr⟩
              · rw [hC] at E
                obtain rfl : b = true := E.out
                go_wp2_with (go_at_call 8; refine (hto _).mono ?_; rintro e w' ⟨hw, rfl⟩; obtain rfl := hw.symm)
                all_goals go_ret
                all_goals exact ⟨rfl, hacr⟩
      · have hwI : (wrongH h l != 0) = true := by simpa using hw0
        generalize wrongH h l = W at *
        clear hm hz hp hL hw0
        unfold Hd.cs at hB hac hmn hwr hinf ⊢
        go_enter Tryd.func3, Tryd.ntmps3
        go_wp2_with (first
          | (go_at_call 4; refine (alive_ok _).mono ?_; rintro e w1 ⟨rfl, hb1⟩; replace hB := hB.below hb1; replace hac := hac.trans (hb1.mono hac.size); clear hb1)
          | (go_at_call 5; refine (hmn _ hac).mono ?_; rintro e w2 ⟨rfl, hb2⟩; replace hB := hB.below hb2; replace hac := hac.trans (hb2.mono hac.size); clear hb2; obtain ⟨k0, k1, k2, k3, k4, k5, k6, k7, k8, k9, k10, k11, k12, k13⟩ := hd_cells (h := h) hB)
          | (go_at_call 6; refine (hwr _ hac).mono ?_; rintro e w3 ⟨rfl, hb3⟩; replace hac := hac.trans (hb3.mono hac.size))
          | (refine wpList_load_row (P := Tryd.prog) rfl 26 (.tmp 2) rfl w.heap.size rfl 26 _ (0, 0) _ hB Tryd.underlying26 rfl hinf ?_))
        go_ret
        exact ⟨rfl, hac⟩
    · have hoI : (2000 : Int) < (o.size : Int) := by omega
      clear hm hz hp hL
      unfold Hd.cs at hB hac hmn hinf ⊢
      go_enter Tryd.func3, Tryd.ntmps3
      go_wp2_with (first
        | (go_at_call 4; refine (alive_ok _).mono ?_; rintro e w1 ⟨rfl, hb1⟩; replace hB := hB.below hb1; replace hac := hac.trans (hb1.mono hac.size); clear hb1)
        | (go_at_call 5; refine (hmn _ hac).mono ?_; rintro e w2 ⟨rfl, hb2⟩; replace hB := hB.below hb2; replace hac := hac.trans (hb2.mono hac.size); clear hb2; obtain ⟨k0, k1, k2, k3, k4, k5, k6, k7, k8, k9, k10, k11, k12, k13⟩ := hd_cells (h := h) hB)
        | (refine wpList_load_row (P := Tryd.prog) rfl 26 (.tmp 2) rfl w.heap.size rfl 26 _ (0, 0) _ hB Tryd.underlying26 rfl hinf ?_))
      go_ret
      exact ⟨rfl, hac⟩

end Go.Proofs.YtlehomcodkbpmaaDoor
