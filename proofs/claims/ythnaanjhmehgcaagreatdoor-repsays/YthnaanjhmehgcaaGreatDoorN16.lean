/-
  THE RECORD AT THE BEGINNING OF BYTES, where its length is told; AND WHAT FOLLOWS OF IT. Conditions: those that each part names.
-/
import Derived.Test.YthnaanjhmehgcaaGreatDoorN11
/-
  THE RECORD AT THE BEGINNING OF BYTES, where its length is told. Conditions: how many bytes there are; what the listed variables hold.
-/
namespace Go.Proofs.YthnaanjhmehgcaaGreatDoor
open Go.ChangeShapes Go.WideShapes Go.ChangeAt Go.RowKit Go.Lib
set_option linter.unusedVariables false
set_option maxRecDepth 20000

theorem Blk.set {w : World} {g i : Nat} {cs : Array Value} {t : TypeId} (h : Blk w g cs t) (v : Value) : Blk (w.setCell ⟨g, i, none⟩ v) g (cs.setIfInBounds i v) t := Joins.block_setCell h v

theorem Bys.nils {w : World} {a : Option Addr} {n c m : Nat} {l : List Int} (h : Bys w a n c l) (hn : a = none → m = 0 ∧ c = 0) : a = none → n = 0 ∧ c = 0 := by
  intro ha
  refine ⟨?_, (hn ha).2⟩
  obtain ⟨-, -, -, -, ⟨-, e1⟩ | ⟨-, bb, oo, e1, -⟩⟩ := h
  · exact e1
  · rw [ha] at e1; cases e1

set_option maxHeartbeats 8000000 in
theorem first_go {w : World} {a : Option Addr} {n c : Nat} {l : List Int} (h : Bys w a n c l) (h0 : 0 < n) (hn : n ≤ 1000000) (hL : Laid w) (u : Nat) (hN : nat63 (bytesOf (ahI 32 l)) = some u) (hu : u ≤ l.length) :
    Calls Tryz.prog 61 #[.slice a n c] w fun e w' => ∃ k v a', e = .returned (.tuple #[.agg #[.string k, .string v], .slice a' (n - u) (c - u), .bool (endI 10 (beI 32 (l.take u)) && (inI 61 (trI 10 (beI 32 (l.take u))) && rightP (bytesOf (ahI 61 (trI 10 (beI 32 (l.take u))))) (bytesOf (beI 61 (trI 10 (beI 32 (l.take u)))))))]) ∧ k = strOfNums (ahI 61 (trI 10 (beI 32 (l.take u)))) ∧ v = strOfNums (beI 61 (trI 10 (beI 32 (l.take u)))) ∧ (∀ W, Bys W a n c l → Bys W a' (n - u) (c - u) (l.drop u)) ∧ Below w.heap.size w w' := by
  have hl := h.1
  have hlc := h.2.1
  have hm := h.2.2.1
  obtain ⟨b, off, rfl⟩ := h.some_of h0
  have hb0 := (Below.refl w.heap.size w).alloc (Nat.le_refl _) (.cells #[.string ⟨#[]⟩, .string ⟨#[]⟩] 50)
  have hP := Blk.new w #[.string ⟨#[]⟩, .string ⟨#[]⟩] 50
  have hba := hb0.alloc hb0.size (.cells #[.int .u8 32] 5 (1, 2))
  have hcs := conv_sep (w.alloc (.cells #[.string ⟨#[]⟩, .string ⟨#[]⟩] 50)) 32 (w.heap.size + 1) (by simp)
  have hcsG := fun (W : World) (x : Int) => conv_sep W x W.heap.size rfl
  have hc1 := bcut ((h.alloc (.cells #[.string ⟨#[]⟩, .string ⟨#[]⟩] 50)).alloc (.cells #[.int .u8 32] 5 (1, 2))) (by omega) (fun e => by cases e) (w.heap.size + 1) 32 (by omega) (by omega) (sep_cell _ _ _ (by simp))
  have hc2 := fun (W : World) (hb : Below w.heap.size w W) => bcut (((h.below hb).alloc (.cells #[.int .u8 32] 5 (1, 2))).take u (by omega)) (by omega) (fun e => by cases e) W.heap.size 32 (by omega) (by omega) (sep_cell W 32 _ rfl)
  have hnum := fun w' (hb : Below w.heap.size w w') => number_ok (strOfNums (ahI 32 l)) (by rw [str_size]; have := ahI_len 32 l; omega) w' (hL.below hb) (u : Int) 0 (by rw [bs_str, hN]; simp only; rw [if_pos (by omega)]) (by rw [bs_str, hN]; simp only; rw [if_pos (by omega)])
  have hT1 : (trI 10 (beI 32 (l.take u))).length ≤ 1000000 := by
    have e1 := trI_len 10 (beI 32 (l.take u))
    have e2 := beI_len 32 (l.take u)
    have e3 : (l.take u).length ≤ l.length := by rw [List.length_take]; omega
    omega
  have hKs := ahI_len 61 (trI 10 (beI 32 (l.take u)))
  have hVs := beI_len 61 (trI 10 (beI 32 (l.take u)))
  have hri := fun w' (hb : Below w.heap.size w w') => right_ok (strOfNums (ahI 61 (trI 10 (beI 32 (l.take u))))) (strOfNums (beI 61 (trI 10 (beI 32 (l.take u))))) (by rw [str_size]; omega) (by rw [str_size]; omega) w' (hL.below hb)
  simp only [bs_str] at hri
  generalize hR : rightP (bytesOf (ahI 61 (trI 10 (beI 32 (l.take u))))) (bytesOf (beI 61 (trI 10 (beI 32 (l.take u))))) = R at *
  have hui : (u : Int) ≤ (n : Int) := by omega
  have hui0 : (0 : Int) ≤ (u : Int) := by omega
  have hug : ¬ (n : Int) < (u : Int) := by omega
  have hnc : (n : Int) ≤ (c : Int) := by omega
  have huc : (u : Int) ≤ (c : Int) := by omega
  clear hN hR hL hT1 hKs hVs
  go_enter Tryz.func61, Tryz.ntmps61
  go_wp2_with (first
    | (go_at_call 101; refine hc1.mono ?_; rintro e w1 ⟨⟨n1, c1, a2, n2, c2, rfl, hbA, hbB, hnB⟩, hb1⟩; have hacc := hba.trans (hb1.mono hba.size); have hcv := bys_string (P := Tryz.prog) Tryz.underlying56 Tryz.underlying5 Tryz.underlying9 hbA; have hP1 := (hP.below ((Below.refl _ _).alloc (Nat.le_refl _) (.cells #[.int .u8 32] 5 (1, 2)))).below hb1; clear hc1 hcs hbB hnB hb1)
    | (go_at_call 95; refine (hnum _ hacc).mono ?_; rintro e w2 ⟨rfl, hb2⟩; replace hacc := hacc.trans (hb2.mono hacc.size); have hP2 := hP1.below hb2; clear hcv hbA hP1 hnum hb2)
    | (go_at_call 101; refine (hc2 w2 hacc).mono ?_; rintro e w3 ⟨⟨n3, c3, a4, n4, c4, rfl, hbC, hbD, hnD⟩, hb3⟩; have hac3 := hacc.alloc hacc.size (.cells #[.int .u8 32] 5 (1, 2)); replace hac3 := hac3.trans (hb3.mono hac3.size); have hP3 := (hP2.below ((Below.refl _ _).alloc (Nat.le_refl _) (.cells #[.int .u8 32] 5 (1, 2)))).below hb3; have hsf := bsuf (hbD.alloc (.cells #[.int .u8 10] 5 (1, 2))) w3.heap.size 10 (by omega) (by omega) (sep_cell w3 10 _ rfl); have hcs3 := conv_sep (w3.alloc (.cells #[.int .u8 10] 5 (1, 2))) 61 (w3.heap.size + 1) (by simp); clear hc2 hbC hb3 hP2 hacc)
    | (go_at_call 102; refine hsf.mono ?_; rintro e w' ⟨⟨n5, rfl, hbE⟩, hw⟩; obtain rfl := hw.symm; have hnE := Bys.nils hbE hnD; have hc3 := bcut (hbE.alloc (.cells #[.int .u8 61] 5 (1, 2))) (by have := hbE.1; have := trI_len 10 (beI 32 (l.take u)); have := beI_len 32 (l.take u); have e3 : (l.take u).length ≤ l.length := (by rw [List.length_take]; omega); omega) hnE (w3.heap.size + 1) 61 (by omega) (by omega) (sep_cell _ 61 _ (by simp)); clear hsf hbD hnD)
    | (go_at_call 101; refine hc3.mono ?_; rintro e w5 ⟨⟨n6, c6, a7, n7, c7, rfl, hbK, hbV, hnV⟩, hb5⟩; have hac5 := (hac3.alloc hac3.size (.cells #[.int .u8 10] 5 (1, 2))); replace hac5 := hac5.alloc hac5.size (.cells #[.int .u8 61] 5 (1, 2)); replace hac5 := hac5.trans (hb5.mono hac5.size); have hP5 := ((hP3.below ((Below.refl _ _).alloc (Nat.le_refl _) (.cells #[.int .u8 10] 5 (1, 2)))).below ((Below.refl _ _).alloc (Nat.le_refl _) (.cells #[.int .u8 61] 5 (1, 2)))).below hb5; have hcvK := bys_string (P := Tryz.prog) Tryz.underlying56 Tryz.underlying5 Tryz.underlying9 hbK; have hcvV := bys_string (P := Tryz.prog) Tryz.underlying56 Tryz.underlying5 Tryz.underlying9 hbV; have p0 := hP5.cell 0; have p1 := hP5.cell 1; have q0 := hP5.free 0; have q1 := hP5.free 1; simp at p0 p1; clear hc3 hcs3 hb5 hP3 hac3 hbK hbV hnV hnE hbE))
  obtain ⟨kk, hkk⟩ : ∃ kk, kk = strOfNums (ahI 61 (trI 10 (beI 32 (l.take u)))) := ⟨_, rfl⟩
  obtain ⟨vv, hvv⟩ : ∃ vv, vv = strOfNums (beI 61 (trI 10 (beI 32 (l.take u)))) := ⟨_, rfl⟩
  simp only [← hkk, ← hvv] at hri ⊢
  replace hkk := hid hkk
  replace hvv := hid hvv
  have hPk := (hP5.set (i := 0) (.string kk)).set (i := 1) (.string vv)
  have r0 := hPk.cell 0
  have r1 := hPk.cell 1
  have s0 := hPk.free 0
  have s1 := hPk.free 1
  simp at r0 r1
  have hacW := (hac5.setCell (p := ⟨w.heap.size, 0, none⟩) (by simp) (.string kk)).setCell (p := ⟨w.heap.size, 1, none⟩) (by simp) (.string vv)
  generalize hWW : (w5.setCell ⟨w.heap.size, 0, none⟩ (.string kk)).setCell ⟨w.heap.size, 1, none⟩ (.string vv) = WW at *
  generalize hEE : endI 10 (beI 32 (l.take u)) = E
  generalize hII : inI 61 (trI 10 (beI 32 (l.take u))) = I
  generalize inI 32 (l.take u) = I32 at *
  generalize inI 32 l = J32 at *
  replace hEE := hid hEE
  replace hII := hid hII
  clear hWW hP5 p0 p1 q0 q1 hac5 hcvK hcvV hcsG hba hb0 hP
  by_cases hcu : c = u
  · have hbyF : Hid (∀ W, Bys W (some ⟨b, off, none⟩) n c l → Bys W (some ⟨b, off, none⟩) (n - u) (c - u) (l.drop u)) := hid (by
      intro W hW
      obtain ⟨a', hv, hby⟩ := hW.from u (by omega)
      unfold Lib.fromV at hv
      rw [if_pos hcu] at hv
      simp only [Value.slice.injEq, and_true] at hv
      rw [hv]; exact hby)
    clear h
    cases E
    · go_region
      all_goals
        go_wp2
        refine bodyPost_ret (v := .tuple #[.agg #[.string kk, .string vv], .slice (some ⟨b, off, none⟩) (n - u) (c - u), .bool false]) ?_ rfl ⟨_, _, _, by first | (rw [hEE.out]; rfl) | (rw [hEE.out, hII.out]; rfl), hkk.out, hvv.out, hbyF.out, ?_⟩
        · (simp [results, Tryz.results61, go_sem, r0, r1]) <;> omega
        · exact (hacW.drew.setCell (by simp) _).setCell (by simp) _
    · cases I
      · go_region
        all_goals
          go_wp2
          refine bodyPost_ret (v := .tuple #[.agg #[.string kk, .string vv], .slice (some ⟨b, off, none⟩) (n - u) (c - u), .bool false]) ?_ rfl ⟨_, _, _, by first | (rw [hEE.out]; rfl) | (rw [hEE.out, hII.out]; rfl), hkk.out, hvv.out, hbyF.out, ?_⟩
          · (simp [results, Tryz.results61, go_sem, r0, r1]) <;> omega
          · exact (hacW.drew.setCell (by simp) _).setCell (by simp) _
      · go_region_held3 (fun w' => w'.cell? ⟨w.heap.size, 0, none⟩ = some (.string kk) ∧ w'.cell? ⟨w.heap.size, 1, none⟩ = some (.string vv)) (go_keep)
          (first | (go_at_call 56; refine (hri _ hacW.drew).mono ?_; rintro e w6 ⟨rfl, hb6⟩; have f0 := cell_later (w := WW.drew) hb6 r0; have f1 := cell_later (w := WW.drew) hb6 r1; have hP6 := Blk.below (w := WW.drew) hPk hb6; have y0 := hP6.free 0; have y1 := hP6.free 1; have hP7 := (hP6.set (i := 0) (.string kk)).set (i := 1) (.string vv); have g0 := hP7.cell 0; have g1 := hP7.cell 1; simp at g0 g1; have hac6 := hacW.drew.trans (hb6.mono hacW.drew.size)))
        all_goals
          go_wp2
          refine bodyPost_ret (v := .tuple #[.agg #[.string kk, .string vv], .slice (some ⟨b, off, none⟩) (n - u) (c - u), .bool R]) ?_ rfl ⟨_, _, _, by rw [hEE.out, hII.out]; rfl, hkk.out, hvv.out, hbyF.out, ?_⟩
          · (simp [results, Tryz.results61, go_sem, f0, f1]) <;> omega
          · exact (hac6.setCell (by simp) _).setCell (by simp) _
  · have hbyF : Hid (∀ W, Bys W (some ⟨b, off, none⟩) n c l → Bys W (some ⟨b, off + u, none⟩) (n - u) (c - u) (l.drop u)) := hid (by
      intro W hW
      obtain ⟨a', hv, hby⟩ := hW.from u (by omega)
      unfold Lib.fromV at hv
      rw [if_neg hcu] at hv
      simp only [Value.slice.injEq, and_true] at hv
      rw [show (some (⟨b, off + u, none⟩ : Addr)) = Option.map (fun (x : Addr) => x.add u) (some (⟨b, off, none⟩ : Addr)) by simp [Addr.add], hv]; exact hby)
    clear h
    cases E
    · go_region
      all_goals
        go_wp2
        refine bodyPost_ret (v := .tuple #[.agg #[.string kk, .string vv], .slice (some ⟨b, off + u, none⟩) (n - u) (c - u), .bool false]) ?_ rfl ⟨_, _, _, by first | (rw [hEE.out]; rfl) | (rw [hEE.out, hII.out]; rfl), hkk.out, hvv.out, hbyF.out, ?_⟩
        · (simp [results, Tryz.results61, go_sem, r0, r1]) <;> omega
        · exact (hacW.drew.setCell (by simp) _).setCell (by simp) _
    · cases I
      · go_region
        all_goals
          go_wp2
          refine bodyPost_ret (v := .tuple #[.agg #[.string kk, .string vv], .slice (some ⟨b, off + u, none⟩) (n - u) (c - u), .bool false]) ?_ rfl ⟨_, _, _, by first | (rw [hEE.out]; rfl) | (rw [hEE.out, hII.out]; rfl), hkk.out, hvv.out, hbyF.out, ?_⟩
          · (simp [results, Tryz.results61, go_sem, r0, r1]) <;> omega
          · exact (hacW.drew.setCell (by simp) _).setCell (by simp) _
      · go_region_held3 (fun w' => w'.cell? ⟨w.heap.size, 0, none⟩ = some (.string kk) ∧ w'.cell? ⟨w.heap.size, 1, none⟩ = some (.string vv)) (go_keep)
          (first | (go_at_call 56; refine (hri _ hacW.drew).mono ?_; rintro e w6 ⟨rfl, hb6⟩; have f0 := cell_later (w := WW.drew) hb6 r0; have f1 := cell_later (w := WW.drew) hb6 r1; have hP6 := Blk.below (w := WW.drew) hPk hb6; have y0 := hP6.free 0; have y1 := hP6.free 1; have hP7 := (hP6.set (i := 0) (.string kk)).set (i := 1) (.string vv); have g0 := hP7.cell 0; have g1 := hP7.cell 1; simp at g0 g1; have hac6 := hacW.drew.trans (hb6.mono hacW.drew.size)))
        all_goals
          go_wp2
          refine bodyPost_ret (v := .tuple #[.agg #[.string kk, .string vv], .slice (some ⟨b, off + u, none⟩) (n - u) (c - u), .bool R]) ?_ rfl ⟨_, _, _, by rw [hEE.out, hII.out]; rfl, hkk.out, hvv.out, hbyF.out, ?_⟩
          · (simp [results, Tryz.results61, go_sem, f0, f1]) <;> omega
          · exact (hac6.setCell (by simp) _).setCell (by simp) _

end Go.Proofs.YthnaanjhmehgcaaGreatDoor

/-
  THE PAIRS WHOSE RECORDS BYTES ARE. Conditions: how many bytes there are; what the listed variables hold.
-/
namespace Go.Proofs.YthnaanjhmehgcaaGreatDoor
open Go.ChangeShapes Go.WideShapes Go.ChangeAt Go.RowKit Go.Lib
set_option linter.unusedVariables false
set_option maxRecDepth 20000

/-- the pairs, or that they are none: so many records at most -/
def prsF : Nat → List Int → List (ByteArray × ByteArray) → Option (List (ByteArray × ByteArray))
  | 0, _, _ => none
  | f + 1, l, acc => if l = [] then some acc else match frst l with
    | none => none
    | some (K, V, u) => prsF f (l.drop u) (acc ++ [(strOfNums K, strOfNums V)])
def prs (l : List Int) : Option (List (ByteArray × ByteArray)) := prsF (l.length + 1) l []

theorem prsF_fuel : ∀ (f g : Nat) (l : List Int) (acc : List (ByteArray × ByteArray)), l.length < f → l.length < g → prsF f l acc = prsF g l acc := by
  intro f
  induction f with
  | zero => intro g l acc h _; omega
  | succ f ih =>
    intro g l acc h1 h2
    cases g with
    | zero => omega
    | succ g =>
      rw [prsF, prsF]
      split
      · rfl
      · cases hf : frst l with
        | none => rfl
        | some p =>
          obtain ⟨K, V, u⟩ := p
          have := frst_pos hf
          simp only
          exact ih g _ _ (by rw [List.length_drop]; omega) (by rw [List.length_drop]; omega)

theorem prs_step {l : List Int} (hne : l ≠ []) (acc : List (ByteArray × ByteArray)) : prsF (l.length + 1) l acc = match frst l with
    | none => none
    | some (K, V, u) => prsF ((l.drop u).length + 1) (l.drop u) (acc ++ [(strOfNums K, strOfNums V)]) := by
  rw [prsF, if_neg hne]
  cases hf : frst l with
  | none => rfl
  | some p =>
    obtain ⟨K, V, u⟩ := p
    have := frst_pos hf
    simp only
    exact prsF_fuel _ _ _ _ (by rw [List.length_drop]; omega) (by omega)
theorem prs_end (acc : List (ByteArray × ByteArray)) : prsF (([] : List Int).length + 1) [] acc = some acc := by rw [prsF, if_pos rfl]

/-- the cells of pairs -/
def pcs2 (l : List (ByteArray × ByteArray)) : List Value := l.flatMap fun p => [.string p.1, .string p.2]
theorem pcs2_len (l : List (ByteArray × ByteArray)) : (pcs2 l).length = l.length * 2 := by
  unfold pcs2
  induction l with
  | nil => rfl
  | cons p t ih => rw [List.flatMap_cons, List.length_append, ih, List.length_cons]; simp; omega
theorem pcs2_app (l : List (ByteArray × ByteArray)) (k v : ByteArray) : pcs2 (l ++ [(k, v)]) = pcs2 l ++ [.string k, .string v] := by unfold pcs2; simp
theorem pcs2_at : ∀ (l : List (ByteArray × ByteArray)) (i : Nat), i < l.length → (pcs2 l)[i * 2]? = some (.string (l.getD i (⟨#[]⟩, ⟨#[]⟩)).1) ∧ (pcs2 l)[i * 2 + 1]? = some (.string (l.getD i (⟨#[]⟩, ⟨#[]⟩)).2)
  | p :: t, 0, _ => ⟨rfl, rfl⟩
  | p :: t, i + 1, h => by
    have ih := pcs2_at t i (by simpa using h)
    have e : pcs2 (p :: t) = .string p.1 :: .string p.2 :: pcs2 t := rfl
    rw [e, show (i + 1) * 2 = i * 2 + 1 + 1 by omega]
    exact ⟨by simpa using ih.1, by simpa using ih.2⟩

theorem own_pys {w : World} {B n : Nat} {v : Value} {l : List (ByteArray × ByteArray)} (h : w.ownsRow B 50 2 v n (pcs2 l)) (hl : l.length = n) : ∃ a c, v = .slice a n c ∧ Pys w a n c l := by
  rcases h.2 with ⟨rfl, rfl⟩ | ⟨g, cap, cur, rfl, hb, hg, hnc, hcm, hcs, htake⟩
  · have : l = [] := by simpa using hl
    subst this
    exact ⟨none, 0, rfl, rfl, by omega, by omega, .inl ⟨rfl, rfl⟩⟩
  · refine ⟨_, cap, rfl, hl, hnc, by unfold maxLen at hcm; omega, ?_⟩
    rcases Nat.eq_zero_or_pos n with e | e
    · exact .inl ⟨by subst e; simpa using hl, e⟩
    · refine .inr ⟨e, g, 0, rfl, fun i hi => ?_⟩
      obtain ⟨p1, p2⟩ := pcs2_at l i hi
      have l2 := pcs2_len l
      have key : ∀ j, j < n * 2 → w.cell? ⟨g, j, none⟩ = (pcs2 l)[j]? := by
        intro j hj
        have hc : w.cell? ⟨g, j, none⟩ = cur[j]? := by simp [World.cell?, hg]
        rw [hc, ← htake, List.getElem?_take_of_lt hj, Array.getElem?_toList]
      rw [Nat.zero_add]
      exact ⟨(key _ (by omega)).trans p1, (key _ (by omega)).trans p2⟩

def prsC (o : Option (List (ByteArray × ByteArray))) : Int := match o with | some _ => 0 | none => 6
def prsP (o : Option (List (ByteArray × ByteArray))) : List (ByteArray × ByteArray) := match o with | some p => p | none => []

theorem infoPair : (Tryz.prog.info? 50).map (fun i => (i.zero, i.size, i.bytes)) = some (some (.agg #[.string ⟨#[]⟩, .string ⟨#[]⟩]), 2, 32) := by kernel_rfl
theorem pair_new (w : World) (k v : ByteArray) : ∀ j u, ([.string k, .string v] : List Value)[j]? = some u → (w.alloc (.cells #[.string k, .string v] 50)).cell? ((⟨w.heap.size, 0, none⟩ : Addr).add j) = some u := by
  obtain ⟨h1, h2⟩ := new_two w (.string k) (.string v) 50
  intro j u hj
  match j, hj with
  | 0, hj => cases hj; exact h1
  | 1, hj => cases hj; simp [Addr.add]

theorem pair_new2 (w : World) (k v : ByteArray) : ∀ j u, ([.string k, .string v] : List Value)[j]? = some u → ((w.alloc (.cells #[.string k, .string v] 50)).alloc (.cells #[.string k, .string v] 50)).cell? ((⟨w.heap.size + 1, 0, none⟩ : Addr).add j) = some u := by
  have h := pair_new (w.alloc (.cells #[.string k, .string v] 50)) k v
  rw [show (w.alloc (.cells #[.string k, .string v] 50)).heap.size = w.heap.size + 1 by simp] at h
  exact h

set_option maxHeartbeats 4000000 in
theorem parse_w {w : World} {a : Option Addr} {n c : Nat} {l : List Int} (h : Bys w a n c l) (hn : n ≤ 1000000) (hL : Laid w) :
    Calls Tryz.prog 26 #[.slice a n c] w fun e w' => ∃ a' m c', e = .returned (.tuple #[.slice a' m c', .int .u8 (prsC (prs l))]) ∧ Pys w' a' m c' (prsP (prs l)) ∧ Below w.heap.size w w' := by
  obtain ⟨i0, hi, hz0, hz1, hz2⟩ := info_parts infoPair
  obtain ⟨q, hq⟩ : ∃ q, q = prs l := ⟨_, rfl⟩
  rw [← hq]
  have hq' := hid hq
  have hl := hid h.1
  have hown0 := World.ownsRow_nil w w.heap.size 50 2
  clear hq
  go_enter Tryz.func26, Tryz.ntmps26
  go_wp2
  go_loopw [0, 4] (fun x y wr => ∃ (a1 : Option Addr) (m1 c1 : Nat) (r : List Int) (v : Value) (acc : List (ByteArray × ByteArray)), x = .slice a1 m1 c1 ∧ y = v ∧ Bys w a1 m1 c1 r ∧ acc.length + m1 ≤ n ∧ wr.ownsRow w.heap.size 50 2 v acc.length (pcs2 acc) ∧ Below w.heap.size w wr ∧ Hid (q = prsF (r.length + 1) r acc)) (fun x _ _ => sliceLen x)
  case atStart => exact ⟨a, n, c, l, _, [], rfl, rfl, h, by simp, hown0, Below.refl _ _, hid hq'.out⟩
  case round =>
    obtain ⟨a1, m1, c1, r, v, acc, rfl, rfl, hby, hlen, hown, hb, hr⟩ := hrel
    have hBsz := hb.size
    by_cases hm : m1 = 0
    · subst hm
      have hr0 : r = [] := by simpa using hby.1
      have E := hid (by rw [hr.out, hr0, prs_end] : q = some acc)
      obtain ⟨aa, cc, rfl, hpy⟩ := own_pys hown rfl
      clear hr hown
      go_wp2
      go_ret2
      exact ⟨aa, _, cc, ret_vc (by rw [E.out]; rfl), by rw [E.out]; exact hpy, hb⟩
    · have hmI : (0 : Int) < (m1 : Int) := by omega
      have hrl := hby.1
      have hne : r ≠ [] := by intro e; rw [e] at hrl; simp at hrl; omega
      have hst := hid (prs_step hne acc)
      by_cases hF : ∃ u, nat63 (bytesOf (ahI 32 r)) = some u ∧ u ≤ r.length
      · obtain ⟨u, hN, hu⟩ := hF
        have hgo := first_go (hby.below hb) (by omega) (by omega) (hL.below hb) u hN hu
        have hfr : frst r = if endI 10 (beI 32 (r.take u)) && (inI 61 (trI 10 (beI 32 (r.take u))) && rightP (bytesOf (ahI 61 (trI 10 (beI 32 (r.take u))))) (bytesOf (beI 61 (trI 10 (beI 32 (r.take u)))))) then some (ahI 61 (trI 10 (beI 32 (r.take u))), beI 61 (trI 10 (beI 32 (r.take u))), u) else none := by
          unfold frst; rw [hN]; simp only; rw [if_pos hu]
        generalize (endI 10 (beI 32 (r.take u)) && (inI 61 (trI 10 (beI 32 (r.take u))) && rightP (bytesOf (ahI 61 (trI 10 (beI 32 (r.take u))))) (bytesOf (beI 61 (trI 10 (beI 32 (r.take u))))))) = B at *
        cases B
        · have E := hid (by rw [hr.out, hst.out, hfr]; rfl : q = none)
          clear hr hst hfr hN hne
          go_wp2_with (go_at_call 61; refine hgo.mono ?_; rintro e w1 ⟨k, v, a2, rfl, -, -, -, hb1⟩)
          all_goals go_ret2
          all_goals exact ⟨none, 0, 0, ret_vc (by rw [E.out]; rfl), by rw [E.out]; exact ⟨rfl, Nat.le_refl _, by omega, .inl ⟨rfl, rfl⟩⟩, by have hx := hb.trans (hb1.mono hb.size); exact hx.alloc hx.size _⟩
        · have hpos := frst_pos (by rw [hfr]; rfl : frst r = some (_, _, u))
          have E := hid (by rw [hr.out, hst.out, hfr]; rfl : q = prsF ((r.drop u).length + 1) (r.drop u) (acc ++ [(strOfNums (ahI 61 (trI 10 (beI 32 (r.take u)))), strOfNums (beI 61 (trI 10 (beI 32 (r.take u)))))]))
          clear hr hst hfr hN hne
          generalize strOfNums (ahI 61 (trI 10 (beI 32 (r.take u)))) = K at *
          generalize strOfNums (beI 61 (trI 10 (beI 32 (r.take u)))) = V at *
          go_wp2_with (first
            | (go_at_call 61; refine hgo.mono ?_; rintro e w1 ⟨k, v, a2, rfl, rfl, rfl, hby2, hb1⟩; have hx := hb.trans (hb1.mono hb.size); have hfr1 := (Below.refl w1.heap.size w1).alloc (Nat.le_refl _) (.cells #[.string k, .string v] 50); have hx2 := hx.trans (hfr1.mono hx.size); have how := own_below hfr1 (own_below hb1 hown); have hbyn := hby2 w hby)
            | (at_builtin; refine wpList_append_own (P := Tryz.prog) _ rfl (.tmp 19) (.tmp 21) 24 rfl w.heap.size 50 i0 (.agg #[.string ⟨#[]⟩, .string ⟨#[]⟩]) 2 32 Tryz.underlying24 hi hz0 hz1 hz2 rfl (by decide) _ _ _ rfl (how.alloc _) ⟨w1.heap.size + 1, 0, none⟩ 1 1 [.string k, .string v] rfl rfl (pair_new2 w1 k v) (by intro z hz; simp at hz; rcases hz with rfl | rfl <;> rfl) (by unfold maxLen; omega) (by omega) (by have := hx2.size; simp at this ⊢; omega) ?_; intro v' w3 hown' hgrow' _))
          go_roundw
          case rel =>
            refine ⟨a2, m1 - u, c1 - u, r.drop u, _, acc ++ [(k, v)], rfl, rfl, hbyn, by simp; omega, ?_, ?_, E⟩
            · rw [pcs2_app, List.length_append]; exact hown'
            · exact (hx2.alloc hx2.size _).grown hgrow' (by have := hx2.size; simp at this ⊢; omega) (fun g hg => (how.lt g hg).1)
          case measure => simp [sliceLen]; omega
      · have hgo := first_num (hby.below hb) (by omega) (by omega) (hL.below hb) hF
        have hfr : frst r = none := by
          unfold frst
          cases hN : nat63 (bytesOf (ahI 32 r)) with
          | none => rfl
          | some u => simp only; rw [if_neg (fun hu => hF ⟨u, hN, hu⟩)]
        have E := hid (by rw [hr.out, hst.out, hfr] : q = none)
        clear hr hst hfr hF hne
        go_wp2_with (go_at_call 61; refine hgo.mono ?_; rintro e w1 ⟨rfl, hb1⟩)
        all_goals go_ret2
        all_goals exact ⟨none, 0, 0, ret_vc (by rw [E.out]; rfl), by rw [E.out]; exact ⟨rfl, Nat.le_refl _, by omega, .inl ⟨rfl, rfl⟩⟩, by have hx := hb.trans (hb1.mono hb.size); exact hx.alloc hx.size _⟩

end Go.Proofs.YthnaanjhmehgcaaGreatDoor

/-
  WHAT IS PRINTED IS PARSED; WHAT IS PARSED IS PRINTED WITH NO MORE BYTES: on lists. Conditions: how many bytes a pair's texts have.
-/
namespace Go.Proofs.YthnaanjhmehgcaaGreatDoor
open Go.ChangeShapes Go.WideShapes Go.ChangeAt Go.RowKit Go.Lib
set_option linter.unusedVariables false
set_option linter.unusedSimpArgs false
set_option maxRecDepth 20000

theorem ahI_app (c : Int) (b : List Int) : ∀ a : List Int, c ∉ a → ahI c (a ++ c :: b) = a
  | [], _ => by simp [ahI]
  | x :: t, h => by
    have hx : (x != c) = true := by simp; intro e; exact h (by simp [e])
    have := ahI_app c b t (fun m => h (List.mem_cons_of_mem _ m))
    unfold ahI at this ⊢
    rw [List.cons_append, List.takeWhile_cons, hx, if_pos rfl, this]
theorem beI_app (c : Int) (b : List Int) : ∀ a : List Int, c ∉ a → beI c (a ++ c :: b) = b
  | [], _ => by simp [beI]
  | x :: t, h => by
    have hx : (x != c) = true := by simp; intro e; exact h (by simp [e])
    have := beI_app c b t (fun m => h (List.mem_cons_of_mem _ m))
    unfold beI at this ⊢
    rw [List.cons_append, List.dropWhile_cons, hx, if_pos rfl, this]
theorem inI_app (c : Int) (a b : List Int) : inI c (a ++ c :: b) = true := by simp [inI]
theorem endI_app (c : Int) (a : List Int) : endI c (a ++ [c]) = true := by simp [endI]
theorem trI_app (c : Int) (a : List Int) : trI c (a ++ [c]) = a := by unfold trI; rw [endI_app, if_pos rfl]; simp

theorem nums_app (a b : ByteArray) : nums (a ++ b) = nums a ++ nums b := by
  have h := str_app (nums a) (nums b)
  rw [str_nums, str_nums] at h
  rw [h, nums_str]
  intro x hx
  rcases List.mem_append.1 hx with hx | hx
  · exact nums_range _ x hx
  · exact nums_range _ x hx
theorem bytes_nums (s : ByteArray) : bytesOf (nums s) = bs s := by rw [← bs_str, str_nums]
theorem nums_mem (s : ByteArray) (c : UInt8) : ((c.toNat : Int) ∈ nums s) → c ∈ bs s := by
  unfold nums bs
  intro h
  obtain ⟨d, hd, e⟩ := List.mem_map.1 h
  have : d = c := UInt8.toNat_inj.1 (by omega)
  exact this ▸ hd

theorem digs_free (n : Nat) (hn : n ≤ 9223372036854775807) : (32 : Int) ∉ nums (txt (decDigits n)) := by
  intro h
  have hm : (32 : UInt8) ∈ bs (txt (decDigits n)) := nums_mem _ 32 h
  rw [bs_txt] at hm
  have ha := (nat63_some (nat63_dec (u := n) (by omega))).2.1
  unfold allD at ha
  have := List.all_eq_true.1 ha _ hm
  simp [isD] at this

theorem rec_nums (k v : ByteArray) : nums (recB k v) = nums (txt (decDigits (lenN (restN k v)))) ++ 32 :: (nums k ++ 61 :: (nums v ++ [10])) := by
  unfold recB
  rw [nums_app, nums_app, nums_app, nums_app, nums_app]
  have e1 : nums ⟨#[32]⟩ = [32] := rfl
  have e2 : nums ⟨#[61]⟩ = [61] := rfl
  have e3 : nums ⟨#[10]⟩ = [10] := rfl
  rw [e1, e2, e3]
  simp

theorem rec_len (k v : ByteArray) (hk : k.size ≤ 1000000) (hv : v.size ≤ 1000000) : (nums (recB k v)).length = lenN (restN k v) := by
  have hr : restN k v ≤ 9223372036854775807 := by unfold restN; omega
  have hs := (lenN_spec (restN k v) hr).1
  rw [rec_nums]
  simp only [List.length_append, List.length_cons, nums_length, txt_size, decDigits_length, List.length_nil]
  unfold restN at hs ⊢
  omega

theorem frst_rec (k v : ByteArray) (hk : k.size ≤ 1000000) (hv : v.size ≤ 1000000) (hR : rightP (bs k) (bs v) = true) (rest : List Int) : frst (nums (recB k v) ++ rest) = some (nums k, nums v, lenN (restN k v)) := by
  have hr : restN k v ≤ 2000003 := by unfold restN; omega
  have hle := lenN_le (restN k v) (by omega)
  have hlen := rec_len k v hk hv
  have hd := digs_free (lenN (restN k v)) (by omega)
  have h61 : (61 : Int) ∉ nums k := by
    intro h
    have hm : (61 : UInt8) ∈ bs k := nums_mem k 61 h
    unfold rightP keyR has at hR
    simp [hm] at hR
  have hnum : bytesOf (ahI 32 (nums (recB k v) ++ rest)) = decDigits (lenN (restN k v)) := by
    rw [rec_nums, List.append_assoc, List.cons_append, ahI_app _ _ _ hd, bytes_nums, bs_txt]
  have htake : (nums (recB k v) ++ rest).take (lenN (restN k v)) = nums (recB k v) := List.take_left' hlen
  have hbe : beI 32 (nums (recB k v)) = (nums k ++ 61 :: nums v) ++ [10] := by
    rw [rec_nums, beI_app _ _ _ hd]; simp
  unfold frst
  rw [hnum, nat63_dec (by omega)]
  simp only
  rw [if_pos (by rw [List.length_append, hlen]; omega), htake, hbe, endI_app, trI_app, inI_app, ahI_app _ _ _ h61, beI_app _ _ _ h61, bytes_nums, bytes_nums, hR]
  rfl

/-- the records of pairs; how many bytes they have -/
def prB (l : List (ByteArray × ByteArray)) : List Int := l.flatMap fun p => nums (recB p.1 p.2)
def lenS : List (ByteArray × ByteArray) → Nat
  | [] => 0
  | p :: t => lenN (restN p.1 p.2) + lenS t
def Rgt (l : List (ByteArray × ByteArray)) : Prop := ∀ p ∈ l, rightP (bs p.1) (bs p.2) = true
def Sml (l : List (ByteArray × ByteArray)) : Prop := ∀ p ∈ l, p.1.size ≤ 1000000 ∧ p.2.size ≤ 1000000
theorem Rgt.tail {p : ByteArray × ByteArray} {l : List (ByteArray × ByteArray)} (h : Rgt (p :: l)) : Rgt l := fun q hq => h q (List.mem_cons_of_mem _ hq)
theorem Sml.tail {p : ByteArray × ByteArray} {l : List (ByteArray × ByteArray)} (h : Sml (p :: l)) : Sml l := fun q hq => h q (List.mem_cons_of_mem _ hq)

theorem prn_some : ∀ (l : List (ByteArray × ByteArray)) (acc : List Int), Rgt l → prn l acc = some (acc ++ prB l)
  | [], acc, _ => by simp [prn, prB]
  | (k, v) :: t, acc, h => by
    have h1 := h (k, v) (List.mem_cons_self ..)
    simp only at h1
    rw [prn, if_pos h1, prn_some t _ h.tail]
    simp [prB]
theorem prn_right : ∀ (l : List (ByteArray × ByteArray)) (acc c : List Int), prn l acc = some c → Rgt l
  | [], acc, c, _ => fun p hp => by cases hp
  | (k, v) :: t, acc, c, h => by
    rw [prn] at h
    split at h
    · rename_i h1
      intro p hp
      rcases List.mem_cons.1 hp with rfl | hp
      · exact h1
      · exact prn_right t _ c h p hp
    · cases h
theorem prB_len : ∀ l : List (ByteArray × ByteArray), Sml l → (prB l).length = lenS l
  | [], _ => rfl
  | (k, v) :: t, h => by
    obtain ⟨h1, h2⟩ := h (k, v) (List.mem_cons_self ..)
    have e : prB ((k, v) :: t) = nums (recB k v) ++ prB t := by simp [prB]
    rw [e, List.length_append, rec_len k v h1 h2, prB_len t h.tail, lenS]

theorem prs_prB : ∀ (l acc : List (ByteArray × ByteArray)), Sml l → Rgt l → prsF ((prB l).length + 1) (prB l) acc = some (acc ++ l)
  | [], acc, _, _ => by
    have : prB [] = [] := rfl
    rw [this, prs_end]; simp
  | (k, v) :: t, acc, hs, hr => by
    obtain ⟨h1, h2⟩ := hs (k, v) (List.mem_cons_self ..)
    have h3 := hr (k, v) (List.mem_cons_self ..)
    simp only at h1 h2 h3
    have e : prB ((k, v) :: t) = nums (recB k v) ++ prB t := by simp [prB]
    have hf := frst_rec k v h1 h2 h3 (prB t)
    have hp := frst_pos hf
    have hl := rec_len k v h1 h2
    rw [e, prs_step (by intro h0; rw [h0] at hp; simp at hp; omega), hf]
    simp only
    rw [List.drop_left' hl, str_nums, str_nums, prs_prB t _ hs.tail hr.tail]
    simp

/-- what is printed is parsed, as many bytes as the lengths tell -/
theorem printed_back {l : List (ByteArray × ByteArray)} {c : List Int} (hs : Sml l) (h : prn l [] = some c) : c.length = lenS l ∧ prs c = some l := by
  have hr := prn_right l [] c h
  rw [prn_some _ _ hr, List.nil_append] at h
  injection h with h
  subst h
  exact ⟨prB_len _ hs, by have := prs_prB l [] hs hr; rw [List.nil_append] at this; exact this⟩

end Go.Proofs.YthnaanjhmehgcaaGreatDoor
