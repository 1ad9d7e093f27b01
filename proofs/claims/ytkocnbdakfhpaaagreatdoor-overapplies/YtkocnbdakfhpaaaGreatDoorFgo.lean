/-
  THE RECORD AT THE BEGINNING OF BYTES, where its length is told. Conditions: how many bytes there are; what the listed variables hold.
-/
import Derived.Test.YtkocnbdakfhpaaaGreatDoorFst
namespace Go.Proofs.YtkocnbdakfhpaaaGreatDoor
open Go.ChangeShapes Go.WideShapes Go.ChangeAt Go.RowKit Go.Lib
set_option linter.unusedVariables false
set_option maxRecDepth 20000

theorem Blk.set {w : World} {g i : Nat} {cs : Array Value} {t : TypeId} (h : Blk w g cs t) (v : Value) : Blk (w.setCell ⟨g, i, none⟩ v) g (cs.setIfInBounds i v) t := Joins.block_setCell h v

theorem Bys.nils {w : World} {a : Option Addr} {n c m : Nat} {l : List Int} (h : Bys w a n c l) (hn : a = none → m = 0 ∧ c = 0) : a = none → n = 0 ∧ c = 0 := by
  intro ha
  refine ⟨?_, (hn ha).2⟩
  obtain ⟨-, -, -, -, ⟨-, e1⟩ | ⟨-, bb, oo, e1, -⟩⟩ := h
  · exact e1
  · rw [ha] at e1; cases e1

set_option maxHeartbeats 8000000 in
theorem first_go {w : World} {a : Option Addr} {n c : Nat} {l : List Int} (h : Bys w a n c l) (h0 : 0 < n) (hn : n ≤ 1000000) (hL : Laid w) (u : Nat) (hN : nat63 (bytesOf (ahI 32 l)) = some u) (hu : u ≤ l.length) :
    Calls Tryz.prog 47 #[.slice a n c] w fun e w' => ∃ k v a', e = .returned (.tuple #[.agg #[.string k, .string v], .slice a' (n - u) (c - u), .bool (endI 10 (beI 32 (l.take u)) && (inI 61 (trI 10 (beI 32 (l.take u))) && rightP (bytesOf (ahI 61 (trI 10 (beI 32 (l.take u))))) (bytesOf (beI 61 (trI 10 (beI 32 (l.take u)))))))]) ∧ k = strOfNums (ahI 61 (trI 10 (beI 32 (l.take u)))) ∧ v = strOfNums (beI 61 (trI 10 (beI 32 (l.take u)))) ∧ (∀ W, Bys W a n c l → Bys W a' (n - u) (c - u) (l.drop u)) ∧ Below w.heap.size w w' := by
  have hl := h.1
  have hlc := h.2.1
  have hm := h.2.2.1
  obtain ⟨b, off, rfl⟩ := h.some_of h0
  have hb0 := (Below.refl w.heap.size w).alloc (Nat.le_refl _) (.cells #[.string ⟨#[]⟩, .string ⟨#[]⟩] 23)
  have hP := Blk.new w #[.string ⟨#[]⟩, .string ⟨#[]⟩] 23
  have hba := hb0.alloc hb0.size (.cells #[.int .u8 32] 5 (1, 2))
  have hcs := conv_sep (w.alloc (.cells #[.string ⟨#[]⟩, .string ⟨#[]⟩] 23)) 32 (w.heap.size + 1) (by simp)
  have hcsG := fun (W : World) (x : Int) => conv_sep W x W.heap.size rfl
  have hc1 := bcut ((h.alloc (.cells #[.string ⟨#[]⟩, .string ⟨#[]⟩] 23)).alloc (.cells #[.int .u8 32] 5 (1, 2))) (by omega) (fun e => by cases e) (w.heap.size + 1) 32 (by omega) (by omega) (sep_cell _ _ _ (by simp))
  have hc2 := fun (W : World) (hb : Below w.heap.size w W) => bcut (((h.below hb).alloc (.cells #[.int .u8 32] 5 (1, 2))).take u (by omega)) (by omega) (fun e => by cases e) W.heap.size 32 (by omega) (by omega) (sep_cell W 32 _ rfl)
  have hnum := fun w' (hb : Below w.heap.size w w') => number_ok (strOfNums (ahI 32 l)) (by rw [str_size]; have := ahI_len 32 l; omega) w' (hL.below hb) (u : Int) 0 (by rw [bs_str, hN]; simp only; rw [if_pos (by omega)]) (by rw [bs_str, hN]; simp only; rw [if_pos (by omega)])
  have hT1 : (trI 10 (beI 32 (l.take u))).length ≤ 1000000 := by
    have e1 := trI_len 10 (beI 32 (l.take u))
    have e2 := beI_len 32 (l.take u)
    have e3 : (l.take u).length ≤ l.length := by rw [List.length_take]; omega
    omega
  have hKs := ahI_len 61 (trI 10 (beI 32 (l.take u)))
  have hVs := beI_len 61 (trI 10 (beI 32 (l.take u)))
  have hri := fun w' (hb : Below w.heap.size w w') => right_ok (strOfNums (ahI 61 (trI 10 (beI 32 (l.take u))))) (strOfNums (beI 61 (trI 10 (beI 32 (l.take u))))) (by rw [str_size]; omega) (by rw [str_size]; omega) w' (hL.below hb)
  simp only [bs_str] at hri
  generalize hR : rightP (bytesOf (ahI 61 (trI 10 (beI 32 (l.take u))))) (bytesOf (beI 61 (trI 10 (beI 32 (l.take u))))) = R at *
  have hui : (u : Int) ≤ (n : Int) := by omega
  have hui0 : (0 : Int) ≤ (u : Int) := by omega
  have hug : ¬ (n : Int) < (u : Int) := by omega
  have hnc : (n : Int) ≤ (c : Int) := by omega
  have huc : (u : Int) ≤ (c : Int) := by omega
  clear hN hR hL hT1 hKs hVs
  go_enter Tryz.func47, Tryz.ntmps47
  go_wp2_with (first
    | (go_at_call 59; refine hc1.mono ?_; rintro e w1 ⟨⟨n1, c1, a2, n2, c2, rfl, hbA, hbB, hnB⟩, hb1⟩; have hacc := hba.trans (hb1.mono hba.size); have hcv := bys_string (P := Tryz.prog) Tryz.underlying31 Tryz.underlying5 Tryz.underlying9 hbA; have hP1 := (hP.below ((Below.refl _ _).alloc (Nat.le_refl _) (.cells #[.int .u8 32] 5 (1, 2)))).below hb1; clear hc1 hcs hbB hnB hb1)
    | (go_at_call 51; refine (hnum _ hacc).mono ?_; rintro e w2 ⟨rfl, hb2⟩; replace hacc := hacc.trans (hb2.mono hacc.size); have hP2 := hP1.below hb2; clear hcv hbA hP1 hnum hb2)
    | (go_at_call 59; refine (hc2 w2 hacc).mono ?_; rintro e w3 ⟨⟨n3, c3, a4, n4, c4, rfl, hbC, hbD, hnD⟩, hb3⟩; have hac3 := hacc.alloc hacc.size (.cells #[.int .u8 32] 5 (1, 2)); replace hac3 := hac3.trans (hb3.mono hac3.size); have hP3 := (hP2.below ((Below.refl _ _).alloc (Nat.le_refl _) (.cells #[.int .u8 32] 5 (1, 2)))).below hb3; have hsf := bsuf (hbD.alloc (.cells #[.int .u8 10] 5 (1, 2))) w3.heap.size 10 (by omega) (by omega) (sep_cell w3 10 _ rfl); have hcs3 := conv_sep (w3.alloc (.cells #[.int .u8 10] 5 (1, 2))) 61 (w3.heap.size + 1) (by simp); clear hc2 hbC hb3 hP2 hacc)
    | (go_at_call 60; refine hsf.mono ?_; rintro e w' ⟨⟨n5, rfl, hbE⟩, hw⟩; obtain rfl := hw.symm; have hnE := Bys.nils hbE hnD; have hc3 := bcut (hbE.alloc (.cells #[.int .u8 61] 5 (1, 2))) (by have := hbE.1; have := trI_len 10 (beI 32 (l.take u)); have := beI_len 32 (l.take u); have e3 : (l.take u).length ≤ l.length := (by rw [List.length_take]; omega); omega) hnE (w3.heap.size + 1) 61 (by omega) (by omega) (sep_cell _ 61 _ (by simp)); clear hsf hbD hnD)
    | (go_at_call 59; refine hc3.mono ?_; rintro e w5 ⟨⟨n6, c6, a7, n7, c7, rfl, hbK, hbV, hnV⟩, hb5⟩; have hac5 := (hac3.alloc hac3.size (.cells #[.int .u8 10] 5 (1, 2))); replace hac5 := hac5.alloc hac5.size (.cells #[.int .u8 61] 5 (1, 2)); replace hac5 := hac5.trans (hb5.mono hac5.size); have hP5 := ((hP3.below ((Below.refl _ _).alloc (Nat.le_refl _) (.cells #[.int .u8 10] 5 (1, 2)))).below ((Below.refl _ _).alloc (Nat.le_refl _) (.cells #[.int .u8 61] 5 (1, 2)))).below hb5; have hcvK := bys_string (P := Tryz.prog) Tryz.underlying31 Tryz.underlying5 Tryz.underlying9 hbK; have hcvV := bys_string (P := Tryz.prog) Tryz.underlying31 Tryz.underlying5 Tryz.underlying9 hbV; have p0 := hP5.cell 0; have p1 := hP5.cell 1; have q0 := hP5.free 0; have q1 := hP5.free 1; simp at p0 p1; clear hc3 hcs3 hb5 hP3 hac3 hbK hbV hnV hnE hbE))
  obtain ⟨kk, hkk⟩ : ∃ kk, kk = strOfNums (ahI 61 (trI 10 (beI 32 (l.take u)))) := ⟨_, rfl⟩
  obtain ⟨vv, hvv⟩ : ∃ vv, vv = strOfNums (beI 61 (trI 10 (beI 32 (l.take u)))) := ⟨_, rfl⟩
  simp only [← hkk, ← hvv] at hri ⊢
  replace hkk := hid hkk
  replace hvv := hid hvv
  have hPk := (hP5.set (i := 0) (.string kk)).set (i := 1) (.string vv)
  have r0 := hPk.cell 0
  have r1 := hPk.cell 1
  have s0 := hPk.free 0
  have s1 := hPk.free 1
  simp at r0 r1
  have hacW := (hac5.setCell (p := ⟨w.heap.size, 0, none⟩) (by simp) (.string kk)).setCell (p := ⟨w.heap.size, 1, none⟩) (by simp) (.string vv)
  generalize hWW : (w5.setCell ⟨w.heap.size, 0, none⟩ (.string kk)).setCell ⟨w.heap.size, 1, none⟩ (.string vv) = WW at *
  generalize hEE : endI 10 (beI 32 (l.take u)) = E
  generalize hII : inI 61 (trI 10 (beI 32 (l.take u))) = I
  generalize inI 32 (l.take u) = I32 at *
  generalize inI 32 l = J32 at *
  replace hEE := hid hEE
  replace hII := hid hII
  clear hWW hP5 p0 p1 q0 q1 hac5 hcvK hcvV hcsG hba hb0 hP
  by_cases hcu : c = u
  · have hbyF : Hid (∀ W, Bys W (some ⟨b, off, none⟩) n c l → Bys W (some ⟨b, off, none⟩) (n - u) (c - u) (l.drop u)) := hid (by
      intro W hW
      obtain ⟨a', hv, hby⟩ := hW.from u (by omega)
      unfold Lib.fromV at hv
      rw [if_pos hcu] at hv
      simp only [Value.slice.injEq, and_true] at hv
      rw [hv]; exact hby)
    clear h
    cases E
    · go_region
      all_goals
        go_wp2
        refine bodyPost_ret (v := .tuple #[.agg #[.string kk, .string vv], .slice (some ⟨b, off, none⟩) (n - u) (c - u), .bool false]) ?_ rfl ⟨_, _, _, by first | (rw [hEE.out]; rfl) | (rw [hEE.out, hII.out]; rfl), hkk.out, hvv.out, hbyF.out, ?_⟩
        · (simp [results, Tryz.results47, go_sem, r0, r1]) <;> omega
        · exact (hacW.drew.setCell (by simp) _).setCell (by simp) _
    · cases I
      · go_region
        all_goals
          go_wp2
          refine bodyPost_ret (v := .tuple #[.agg #[.string kk, .string vv], .slice (some ⟨b, off, none⟩) (n - u) (c - u), .bool false]) ?_ rfl ⟨_, _, _, by first | (rw [hEE.out]; rfl) | (rw [hEE.out, hII.out]; rfl), hkk.out, hvv.out, hbyF.out, ?_⟩
          · (simp [results, Tryz.results47, go_sem, r0, r1]) <;> omega
          · exact (hacW.drew.setCell (by simp) _).setCell (by simp) _
      · go_region_held3 (fun w' => w'.cell? ⟨w.heap.size, 0, none⟩ = some (.string kk) ∧ w'.cell? ⟨w.heap.size, 1, none⟩ = some (.string vv)) (go_keep)
          (first | (go_at_call 9; refine (hri _ hacW.drew).mono ?_; rintro e w6 ⟨rfl, hb6⟩; have f0 := cell_later (w := WW.drew) hb6 r0; have f1 := cell_later (w := WW.drew) hb6 r1; have hP6 := Blk.below (w := WW.drew) hPk hb6; have y0 := hP6.free 0; have y1 := hP6.free 1; have hP7 := (hP6.set (i := 0) (.string kk)).set (i := 1) (.string vv); have g0 := hP7.cell 0; have g1 := hP7.cell 1; simp at g0 g1; have hac6 := hacW.drew.trans (hb6.mono hacW.drew.size)))
        all_goals
          go_wp2
          refine bodyPost_ret (v := .tuple #[.agg #[.string kk, .string vv], .slice (some ⟨b, off, none⟩) (n - u) (c - u), .bool R]) ?_ rfl ⟨_, _, _, by rw [hEE.out, hII.out]; rfl, hkk.out, hvv.out, hbyF.out, ?_⟩
          · (simp [results, Tryz.results47, go_sem, f0, f1]) <;> omega
          · exact (hac6.setCell (by simp) _).setCell (by simp) _
  · have hbyF : Hid (∀ W, Bys W (some ⟨b, off, none⟩) n c l → Bys W (some ⟨b, off + u, none⟩) (n - u) (c - u) (l.drop u)) := hid (by
      intro W hW
      obtain ⟨a', hv, hby⟩ := hW.from u (by omega)
      unfold Lib.fromV at hv
      rw [if_neg hcu] at hv
      simp only [Value.slice.injEq, and_true] at hv
      rw [show (some (⟨b, off + u, none⟩ : Addr)) = Option.map (fun (x : Addr) => x.add u) (some (⟨b, off, none⟩ : Addr)) by simp [Addr.add], hv]; exact hby)
    clear h
    cases E
    · go_region
      all_goals
        go_wp2
        refine bodyPost_ret (v := .tuple #[.agg #[.string kk, .string vv], .slice (some ⟨b, off + u, none⟩) (n - u) (c - u), .bool false]) ?_ rfl ⟨_, _, _, by first | (rw [hEE.out]; rfl) | (rw [hEE.out, hII.out]; rfl), hkk.out, hvv.out, hbyF.out, ?_⟩
        · (simp [results, Tryz.results47, go_sem, r0, r1]) <;> omega
        · exact (hacW.drew.setCell (by simp) _).setCell (by simp) _
    · cases I
      · go_region
        all_goals
          go_wp2
          refine bodyPost_ret (v := .tuple #[.agg #[.string kk, .string vv], .slice (some ⟨b, off + u, none⟩) (n - u) (c - u), .bool false]) ?_ rfl ⟨_, _, _, by first | (rw [hEE.out]; rfl) | (rw [hEE.out, hII.out]; rfl), hkk.out, hvv.out, hbyF.out, ?_⟩
          · (simp [results, Tryz.results47, go_sem, r0, r1]) <;> omega
          · exact (hacW.drew.setCell (by simp) _).setCell (by simp) _
      · go_region_held3 (fun w' => w'.cell? ⟨w.heap.size, 0, none⟩ = some (.string kk) ∧ w'.cell? ⟨w.heap.size, 1, none⟩ = some (.string vv)) (go_keep)
          (first | (go_at_call 9; refine (hri _ hacW.drew).mono ?_; rintro e w6 ⟨rfl, hb6⟩; have f0 := cell_later (w := WW.drew) hb6 r0; have f1 := cell_later (w := WW.drew) hb6 r1; have hP6 := Blk.below (w := WW.drew) hPk hb6; have y0 := hP6.free 0; have y1 := hP6.free 1; have hP7 := (hP6.set (i := 0) (.string kk)).set (i := 1) (.string vv); have g0 := hP7.cell 0; have g1 := hP7.cell 1; simp at g0 g1; have hac6 := hacW.drew.trans (hb6.mono hacW.drew.size)))
        all_goals
          go_wp2
          refine bodyPost_ret (v := .tuple #[.agg #[.string kk, .string vv], .slice (some ⟨b, off + u, none⟩) (n - u) (c - u), .bool R]) ?_ rfl ⟨_, _, _, by rw [hEE.out, hII.out]; rfl, hkk.out, hvv.out, hbyF.out, ?_⟩
          · (simp [results, Tryz.results47, go_sem, f0, f1]) <;> omega
          · exact (hac6.setCell (by simp) _).setCell (by simp) _

end Go.Proofs.YtkocnbdakfhpaaaGreatDoor
