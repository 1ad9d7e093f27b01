/-
  A HEAD's RECORDS (rep's records); AND WHAT FOLLOWS OF IT. Conditions: those that each part names.
-/
import Derived.Test.YthnaanjhmehgcaaGreatDoorN32
import Derived.Test.YthnaanjhmehgcaaGreatDoorN38
import Derived.Test.YthnaanjhmehgcaaGreatDoorN34
import Derived.Laws.AppendOwnNone
import Derived.Test.YthnaanjhmehgcaaGreatDoorN11
/-
  A HEAD's RECORDS (rep's records). Conditions: how long the texts and lists may be; numbers of 64 bits; a right head; what the listed variables hold.
-/
namespace Go.Proofs.YthnaanjhmehgcaaGreatDoor
open Go.ChangeShapes Go.WideShapes Go.ChangeAt Go.RowKit Go.Lib
set_option linter.unusedVariables false
set_option linter.unusedSimpArgs false
set_option maxRecDepth 20000

theorem pys_news {w : World} {x : Addr} {n c : Nat} {l : PL} (h : Pys w (some x) n c l) : ∀ j u, (pcs2 l)[j]? = some u → w.cell? (x.add j) = some u := by
  obtain ⟨hl, hlc, hm, ⟨rfl, rfl⟩ | ⟨h0, b, off, e, hc⟩⟩ := h
  · intro j u hj; simp [pcs2] at hj
  · intro j u hj
    simp only [Option.some.injEq] at e
    subst e
    have hjl : j < l.length * 2 := by have := (List.getElem?_eq_some_iff.1 hj).1; rwa [pcs2_len] at this
    obtain ⟨p1, p2⟩ := pcs2_at l (j / 2) (by omega)
    obtain ⟨c1, c2⟩ := hc (j / 2) (by omega)
    rw [Addr.add_lit]
    rcases Nat.mod_two_eq_zero_or_one j with e | e
    · have hj2 : j / 2 * 2 = j := by omega
      rw [hj2] at p1 c1
      rw [c1, ← p1, hj]
    · have hj2 : j / 2 * 2 + 1 = j := by omega
      rw [hj2] at p2
      rw [show off + j = off + j / 2 * 2 + 1 by omega, c2, ← p2, hj]
theorem own_pys2 {w : World} {B n : Nat} {v : Value} {l : PL} (h : w.ownsRow B 50 2 v n (pcs2 l)) (hl : l.length = n) : ∃ a c, v = .slice a n c ∧ Pys w a n c l ∧ (a = none → n = 0 ∧ c = 0) := by
  obtain ⟨a, c, hv, hp⟩ := own_pys h hl
  refine ⟨a, c, hv, hp, fun e => ?_⟩
  rcases h.2 with ⟨e1, e2⟩ | ⟨g, cap, cur, e1, _⟩
  · rw [hv] at e1; cases e1; exact ⟨rfl, rfl⟩
  · rw [hv, e] at e1; cases e1

/-- what is asked of the texts from the k-th on -/
def txR (h : Hd) (n : Nat) : Nat → Bool
  | 0 => canN 3 h n 2 && canN 3 h n 3 && canN 3 h n 9 && canN 3 h n 10
  | 1 => canN 3 h n 3 && canN 3 h n 9 && canN 3 h n 10
  | 2 => canN 3 h n 9 && canN 3 h n 10
  | 3 => canN 3 h n 10
  | _ => true
def fldsT : List Int := [2, 3, 9, 10]
theorem txR_step (h : Hd) (n k : Nat) (hk : k < 4) : txR h n k = (canN 3 h n (fldsT.getD k 0) && txR h n (k + 1)) := by
  match k, hk with
  | 0, _ => show txR h n 0 = (canN 3 h n 2 && txR h n 1); unfold txR; simp [Bool.and_assoc]
  | 1, _ => show txR h n 1 = (canN 3 h n 3 && txR h n 2); unfold txR; simp [Bool.and_assoc]
  | 2, _ => show txR h n 2 = (canN 3 h n 9 && txR h n 3); unfold txR; simp [Bool.and_assoc]
  | 3, _ => show txR h n 3 = (canN 3 h n 10 && txR h n 4); unfold txR; simp [Bool.and_assoc]
theorem fldsT_in (k : Nat) (hk : k < 4) : 1 ≤ fldsT.getD k 0 ∧ fldsT.getD k 0 ≤ 13 := by
  match k, hk with
  | 0, _ => decide
  | 1, _ => decide
  | 2, _ => decide
  | 3, _ => decide
theorem fldsA_in (k : Nat) (hk : k < 8) : fldsA.getD k 0 ∈ fldsA ∧ (1 ≤ fldsA.getD k 0 ∧ fldsA.getD k 0 ≤ 13) ∧ fldsA.take (k + 1) = fldsA.take k ++ [fldsA.getD k 0] := by
  match k, hk with
  | 0, _ => decide
  | 1, _ => decide
  | 2, _ => decide
  | 3, _ => decide
  | 4, _ => decide
  | 5, _ => decide
  | 6, _ => decide
  | 7, _ => decide
theorem idxT (k : Nat) (hk : k < 4) (w : World) : Sem.run Tryz.prog (Instr.index 92 (.agg #[.int .i64 2, .int .i64 3, .int .i64 9, .int .i64 10]) (.int .i64 k)) w = .ok (.int .i64 (fldsT.getD k 0)) w := by
  match k, hk with
  | 0, _ => first | rfl | (show _ = _; kernel_rfl)
  | 1, _ => first | rfl | (show _ = _; kernel_rfl)
  | 2, _ => first | rfl | (show _ = _; kernel_rfl)
  | 3, _ => first | rfl | (show _ = _; kernel_rfl)
theorem idxA (k : Nat) (hk : k < 8) (w : World) : Sem.run Tryz.prog (Instr.index 93 (.agg #[.int .i64 2, .int .i64 3, .int .i64 5, .int .i64 6, .int .i64 7, .int .i64 8, .int .i64 9, .int .i64 10]) (.int .i64 k)) w = .ok (.int .i64 (fldsA.getD k 0)) w := by
  match k, hk with
  | 0, _ => first | rfl | (show _ = _; kernel_rfl)
  | 1, _ => first | rfl | (show _ = _; kernel_rfl)
  | 2, _ => first | rfl | (show _ = _; kernel_rfl)
  | 3, _ => first | rfl | (show _ = _; kernel_rfl)
  | 4, _ => first | rfl | (show _ = _; kernel_rfl)
  | 5, _ => first | rfl | (show _ = _; kernel_rfl)
  | 6, _ => first | rfl | (show _ = _; kernel_rfl)
  | 7, _ => first | rfl | (show _ = _; kernel_rfl)
theorem recs_yes (h : Hd) (n : Nat) (fs : List Int) (f : Int) (hc : canN 2 h n f = true) : recsOf h n (fs ++ [f]) = recsOf h n fs := by
  unfold recsOf; simp [hc]
theorem recs_no (h : Hd) (n : Nat) (fs : List Int) (f : Int) (hc : canN 2 h n f = false) : recsOf h n (fs ++ [f]) = recsOf h n fs ++ [pairF h f] := by
  unfold recsOf; simp [hc]
theorem recs_len (h : Hd) (n : Nat) (fs : List Int) : (recsOf h n fs).length ≤ fs.length := by
  unfold recsOf; rw [List.length_map]; exact List.length_filter_le _ _

set_option maxHeartbeats 16000000 in
theorem records_ok {w : World} {a : Option Addr} {n c : Nat} {l : PL} (h : Hd) (hp : Pys w a n c l) (hnl : a = none → n = 0 ∧ c = 0) (hn : n ≤ 1000) (hB : Bnd h) (gn : 0 ≤ h.nano ∧ h.nano < 1000000000) (hs : Srt l) (hk : anyK l = false) (hf : Ful (recsOf h n fldsA ++ l)) (hL : Laid w) :
    Calls Tryz.prog 34 #[.agg (h.cs (.slice a n c))] w fun e w' => (∃ a2 m c2, e = .returned (.tuple #[.slice a2 m c2, .bool (txtsB h n)]) ∧ Pys w' a2 m c2 (recO h l) ∧ (a2 = none → m = 0 ∧ c2 = 0)) ∧ Below w.heap.size w w' := by
  have hac0 := below_alloc w (.cells (h.cs (.slice a n c)) 26)
  have hH0 : Blk (w.alloc (.cells (h.cs (.slice a n c)) 26)) w.heap.size (h.cs (.slice a n c)) 26 := heap_alloc_new _ _
  have hinf : (Tryz.prog.info? 26).map (·.size) = some (h.cs (.slice a n c)).size := by kernel_rfl
  have hc3 := fun (f : Int) hf w => can_ok 3 h a n c f hf hB.2.2.2.2.1 hB.2.2.2.2.2.1 hB.2.2.2.2.2.2.1 hB.2.2.2.2.2.2.2 w
  have hc2 := fun (f : Int) hf w => can_ok 2 h a n c f hf hB.2.2.2.2.1 hB.2.2.2.2.2.1 hB.2.2.2.2.2.2.1 hB.2.2.2.2.2.2.2 w
  have hrc := fun (f : Int) hf (wr : World) (hb : Below w.heap.size w wr) => record_ok11 h (.slice a n c) f hf hB gn wr (hL.below hb)
  have hln := hid hp.1
  obtain ⟨R, hR⟩ : ∃ R, R = recO h l := ⟨_, rfl⟩
  obtain ⟨O, hO⟩ : ∃ O, O = txtsB h n := ⟨_, rfl⟩
  rw [← hR, ← hO]
  have hR' : Hid (R = if O = true then layL [] (recsOf h n fldsA ++ l) else []) := hid (by rw [hR, hO]; unfold recO recA; rw [hp.1])
  have hO' : Hid (O = txR h n 0) := hid hO
  have hdst := recs_dst h n hs hk
  have hlen8 := recs_len h n fldsA
  clear hR hO hB hL
  unfold Hd.cs at hac0 hH0 hinf hc3 hc2 hrc ⊢
  go_enter Tryz.func34, Tryz.ntmps34
  go_wp2
  go_loopw [2, 9] (fun x y wr => ∃ k : Nat, x = .slice none 0 0 ∧ y = .int .i64 k ∧ k ≤ 4 ∧ Below (w.heap.size + 1) (w.alloc _) wr ∧ Hid (O = txR h n k)) (fun _ y _ => 4 - (RowKit.intOf y).toNat)
  case atStart => exact ⟨0, rfl, rfl, by omega, Below.refl _ _, hO'⟩
  case round =>
    obtain ⟨k, rfl, rfl, hk4, hb, hO1⟩ := hrel
    have hBr := hH0.below (by simpa using hb)
    have hacr := hac0.trans (hb.mono (by simp))
    by_cases hlt : k < 4
    · have hst := hid (txR_step h n k hlt)
      have hin := fldsT_in k hlt
      have hcc := hc3 _ hin
      have hix := fun w => idxT k hlt w
      generalize hfv : fldsT.getD k 0 = f at *
      have hkI : (k : Int) < 4 := by omega
      cases hv : canN 3 h n f
      · have E := hid (show O = false by rw [hO1.out, hst.out, hv]; rfl)
        have E2 := hid (show R = [] by rw [hR'.out, E.out]; rfl)
        rw [hv] at hcc
        clear hst hO1 hfv hv hR' hO' hc3 hc2 hrc hp hdst hf hs hk
        go_wp2_with (first
          | (go_at_call 29; refine (hcc _).mono ?_; rintro e w1 ⟨rfl, hb1⟩)
          | (refine wpList_load_row (P := Tryz.prog) rfl 26 (.tmp 1) rfl w.heap.size rfl 26 _ (0, 0) _ hBr Tryz.underlying26 rfl hinf ?_))
        all_goals go_ret2
        all_goals exact ⟨⟨none, 0, 0, by rw [E.out]; rfl, by rw [E2.out]; exact ⟨rfl, Nat.le_refl _, by omega, .inl ⟨rfl, rfl⟩⟩, fun _ => ⟨rfl, rfl⟩⟩, hacr.trans (hb1.mono hacr.size)⟩
      · have E := hid (show O = txR h n (k + 1) by rw [hO1.out, hst.out, hv]; rfl)
        rw [hv] at hcc
        clear hst hO1 hfv hv hR' hO' hc3 hc2 hrc hp hdst hf hs hk
        go_wp2_with (first
          | (go_at_call 29; refine (hcc _).mono ?_; rintro e w1 ⟨rfl, hb1⟩)
          | (refine wpList_load_row (P := Tryz.prog) rfl 26 (.tmp 1) rfl w.heap.size rfl 26 _ (0, 0) _ hBr Tryz.underlying26 rfl hinf ?_))
        go_roundw
        case rel => exact ⟨k + 1, rfl, by go_num, by omega, hb.trans (hb1.mono (by have := hb.size; simp at this ⊢; omega)), E⟩
        case measure => simp [RowKit.intOf]; omega
    · have hkI : ¬ (k : Int) < 4 := by omega
      have EO : O = true := by have ek : k = 4 := by omega
                               rw [hO1.out, ek]; rfl
      have hR2 : Hid (R = layL [] (recsOf h n fldsA ++ l)) := hid (by rw [hR'.out, if_pos EO])
      subst EO
      clear hO1 hR' hO' hc3
      have hown0 := World.ownsRow_nil wr (w.heap.size + 1) 50 2
      obtain ⟨i0, hi0, hz0, hz1, hz2⟩ := info_parts infoPair
      have hb0 := hb
      clear hb hBr hacr
      go_wp2
      go_loopw [2, 18] (fun x y wr => ∃ (k : Nat), y = .int .i64 k ∧ k ≤ 8 ∧ wr.ownsRow (w.heap.size + 1) 50 2 x (recsOf h n (fldsA.take k)).length (pcs2 (recsOf h n (fldsA.take k))) ∧ Below (w.heap.size + 1) (w.alloc _) wr) (fun _ y _ => 8 - (RowKit.intOf y).toNat)
      case atStart => exact ⟨0, rfl, by omega, hown0, hb0⟩
      case round =>
        obtain ⟨k, rfl, hk8, how, hb⟩ := hrel
        clear hown0 hb0
        have hBr := hH0.below (by simpa using hb)
        have hacr := hac0.trans (hb.mono (by simp))
        have hszr : w.heap.size + 1 ≤ wr.heap.size := by have := hb.size; simpa using this
        by_cases hlt : k < 8
        · obtain ⟨hmem, hin, htk⟩ := fldsA_in k hlt
          have hcc := hc2 _ hin
          have hrr := hrc _ hmem
          have hix := fun w => idxA k hlt w
          have hrl := recs_len h n (fldsA.take k)
          have hle : (fldsA.take k).length ≤ 8 := by rw [List.length_take]; omega
          generalize hfv : fldsA.getD k 0 = f at *
          have hkI : (k : Int) < 8 := by omega
          cases hv : canN 2 h n f
          · have E := hid (show recsOf h n (fldsA.take (k + 1)) = recsOf h n (fldsA.take k) ++ [pairF h f] by rw [htk, recs_no h n _ f hv])
            rw [hv] at hcc
            clear htk hfv hv hc2 hrc hp hdst hf hs hk hR2 hmem hin
            generalize recsOf h n (fldsA.take k) = rs at *
            generalize (fldsA.take k).length = q at *
            go_wp2_with (first
              | (go_at_call 29; refine (hcc _).mono ?_; rintro e w1 ⟨rfl, hb1⟩; replace hBr := hBr.below hb1; replace hacr := hacr.trans (hb1.mono hacr.size); have hb' := hb.trans (hb1.mono (by simpa using hszr)); have how1 := own_below hb1 how)
              | (go_at_call 75; refine (hrr _ hacr).mono ?_; rintro e w2 ⟨rfl, hb2⟩; have hbx := hb'.trans (hb2.mono (by have := hb'.size; simp at this ⊢; omega)); have how2 := own_below hb2 how1)
              | (refine wpList_load_row (P := Tryz.prog) rfl 26 (.tmp 1) rfl w.heap.size rfl 26 _ (0, 0) _ hBr Tryz.underlying26 rfl hinf ?_)
              | (at_builtin; refine wpList_append_own (P := Tryz.prog) _ rfl (.tmp 25) (.tmp 29) 24 rfl (w.heap.size + 1) 50 i0 (.agg #[.string ⟨#[]⟩, .string ⟨#[]⟩]) 2 32 Tryz.underlying24 hi0 hz0 hz1 hz2 rfl (by decide) _ _ _ rfl (how2.alloc _) ⟨w2.heap.size, 0, none⟩ 1 1 [.string (keyF f), .string (valF h f)] rfl rfl (pair_new w2 _ _) (pair_one _ _) (by unfold maxLen; omega) (by omega) (by have := hbx.size; simp at this ⊢; omega) ?_; intro v' w3 hown' hgrow' _))
            go_roundw
            case rel => exact ⟨k + 1, by go_num, by omega, by rw [E.out, List.length_append, pcs2_app]; exact hown', (hbx.alloc (by have := hbx.size; simpa using this) _).grown hgrow' (by have := hbx.size; simp at this ⊢; omega) (fun g hg => (how2.lt g hg).1)⟩
            case measure => simp [RowKit.intOf]; omega
          · have E := hid (show recsOf h n (fldsA.take (k + 1)) = recsOf h n (fldsA.take k) by rw [htk, recs_yes h n _ f hv])
            rw [hv] at hcc
            clear htk hfv hv hc2 hrc hp hdst hf hs hk hR2 hmem hin hrr
            generalize recsOf h n (fldsA.take k) = rs at *
            go_wp2_with (first
              | (go_at_call 29; refine (hcc _).mono ?_; rintro e w1 ⟨rfl, hb1⟩; have hb' := hb.trans (hb1.mono (by simpa using hszr)); have how1 := own_below hb1 how)
              | (refine wpList_load_row (P := Tryz.prog) rfl 26 (.tmp 1) rfl w.heap.size rfl 26 _ (0, 0) _ hBr Tryz.underlying26 rfl hinf ?_))
            go_roundw
            case rel => exact ⟨k + 1, by go_num, by omega, by rw [E.out]; exact how1, hb'⟩
            case measure => simp [RowKit.intOf]; omega
        · have hkI : ¬ (k : Int) < 8 := by omega
          have et : fldsA.take k = fldsA := by have ek : k = 8 := by omega
                                               rw [ek]; rfl
          rw [et] at how
          have hpr := hp.below hacr
          have k13 : wr.cell? ⟨w.heap.size, 13, none⟩ = some (.slice a n c) := hBr.cell 13
          clear hc2 hrc hs hk et
          have hlen8' : (recsOf h n fldsA).length ≤ 8 := hlen8
          clear hlen8
          generalize recsOf h n fldsA = rs at *
          have hfin : ∀ (v2 : Value) (w4 : World), w4.ownsRow (w.heap.size + 1) 50 2 v2 (rs ++ l).length (pcs2 (rs ++ l)) → _ := fun v2 w4 h4 => sort_ok h4 hdst hf (by have := hln.out; simp; omega)
          cases a with
          | none =>
            obtain ⟨rfl, rfl⟩ := hnl rfl
            have e0 : l = [] := by have := hln.out; simpa using this
            have hfin' := hfin _ wr (by rw [e0, List.append_nil]; exact how)
            clear hfin
            go_wp2_with (first
              | (at_builtin; refine wpList_append_own_none (P := Tryz.prog) rfl (.tmp 32) (.tmp 34) 24 rfl (w.heap.size + 1) 50 i0 2 Tryz.underlying24 hi0 _ _ _ rfl how rfl ?_)
              | (go_at_call 76; refine hfin'.mono ?_; rintro e w5 ⟨rfl, how5, hb5⟩))
            obtain ⟨a5, c5, hv5, hp5, hn5⟩ := own_pys2 how5 rfl
            subst hv5
            all_goals go_ret2
            all_goals exact ⟨⟨a5, _, c5, rfl, by rw [hR2.out]; exact hp5, hn5⟩, hacr.trans (hb5.mono (Nat.le_succ _))⟩
          | some x =>
            have hl2 : (pcs2 l).length = n * 2 := by rw [pcs2_len, hln.out]
            have hnews := pys_news hpr
            have hone := pcs2_one l
            go_wp2_with (first
              | (at_builtin; refine wpList_append_own (P := Tryz.prog) _ rfl (.tmp 32) (.tmp 34) 24 rfl (w.heap.size + 1) 50 i0 (.agg #[.string ⟨#[]⟩, .string ⟨#[]⟩]) 2 32 Tryz.underlying24 hi0 hz0 hz1 hz2 rfl (by decide) _ _ _ rfl how x n c (pcs2 l) rfl hl2 hnews hone (by unfold maxLen; omega) (by omega) hszr ?_; intro v' w4 hown' hgrow' _; have hfin' := hfin v' w4 (by rw [List.length_append, hln.out, pcs2_cat]; exact hown'))
              | (go_at_call 76; refine hfin'.mono ?_; rintro e w5 ⟨rfl, how5, hb5⟩))
            obtain ⟨a5, c5, hv5, hp5, hn5⟩ := own_pys2 how5 rfl
            subst hv5
            have hb4 := (Below.refl (w.heap.size + 1) wr).grown hgrow' hszr (fun g hg => (how.lt g hg).1)
            all_goals go_ret2
            all_goals exact ⟨⟨a5, _, c5, rfl, by rw [hR2.out]; exact hp5, hn5⟩, hacr.trans ((hb4.trans hb5).mono (Nat.le_succ _))⟩

end Go.Proofs.YthnaanjhmehgcaaGreatDoor

/-
  HOW MANY BYTES A HEAD's RECORDS HAVE; EACH FIELD, THE RECORDS TOO (rep's own functions). Conditions: a right head of bounded texts; what the listed variables hold.
-/
namespace Go.Proofs.YthnaanjhmehgcaaGreatDoor
open Go.ChangeShapes Go.WideShapes Go.ChangeAt Go.RowKit Go.Lib
set_option linter.unusedVariables false
set_option linter.unusedSimpArgs false
set_option maxRecDepth 20000

theorem lenS_top : ∀ l : PL, Sml l → lenS l ≤ 2000100 * l.length
  | [], _ => by simp [lenS]
  | p :: t, h => by
    have ih := lenS_top t h.tail
    have hp := h p (List.mem_cons_self ..)
    have := lenN_le (restN p.1 p.2) (by unfold restN; omega)
    rw [lenS, List.length_cons]
    unfold restN at *
    omega
theorem lenS_drop1 (l : PL) (i : Nat) (k v : ByteArray) (h : l.drop i = (k, v) :: l.drop (i + 1)) : lenS (l.drop i) = lenN (restN k v) + lenS (l.drop (i + 1)) := by rw [h, lenS]

set_option maxHeartbeats 8000000 in
theorem length_ok {w : World} {a : Option Addr} {n c : Nat} {l : PL} (hp : Pys w a n c l) (hz : Sml l) (hn : n ≤ 1000) (hL : Laid w) :
    Calls Tryz.prog 103 #[.slice a n c] w fun e w' => e = .returned (.int .i64 (lenS l)) ∧ Below w.heap.size w w' := by
  have htop := lenS_top l hz
  have hll : l.length ≤ 1000 := by rw [hp.1]; exact hn
  obtain ⟨T, hT⟩ : ∃ T, T = lenS l := ⟨_, rfl⟩
  rw [← hT] at htop ⊢
  have hT9 : T ≤ 2000100000 := by omega
  have hT' := hid hT
  have hl := hid hp.1
  have hz' := hid hz
  clear htop hll hT hz
  go_enter Tryz.func103, Tryz.ntmps103
  go_wp2
  go_loopw [3, 8] (fun x y wr => ∃ (s k : Nat), x = .int .i64 s ∧ y = .int .i64 k ∧ k ≤ n ∧ s ≤ T ∧ Below w.heap.size w wr ∧ Hid (s + lenS (l.drop k) = T)) (fun _ y _ => n - (RowKit.intOf y).toNat)
  case atStart => exact ⟨0, 0, rfl, rfl, by omega, by omega, Below.refl _ _, hid (by rw [hT'.out]; simp)⟩
  case round =>
    obtain ⟨s, k, rfl, rfl, hk, hsT, hb, hr⟩ := hrel
    by_cases hlt : k < n
    · obtain ⟨b, off, rfl, hc⟩ := hp.some_of (by omega)
      obtain ⟨ky, vl, hmem, hd, c0, c1⟩ := (hc.below hb).at k (by rw [hl.out]; exact hlt)
      obtain ⟨z1, z2⟩ := hz'.out _ hmem
      simp only at z1 z2
      have hkI : (k : Int) < (n : Int) := by omega
      have hfr := (Below.refl wr.heap.size wr).alloc (Nat.le_refl _) (.cells #[.string ky, .string vl] 50)
      have hbn := hb.trans (hfr.mono hb.size)
      have hln := fun w' (hb' : Below w.heap.size w w') => len_ok ky vl (by omega) (by omega) w' (hL.below hb')
      have E := hid (show s + lenN (restN ky vl) + lenS (l.drop (k + 1)) = T by have := hr.out; rw [lenS_drop1 l k ky vl hd.out] at this; omega)
      have hle : s + lenN (restN ky vl) ≤ T := by have := E.out; omega
      generalize lenN (restN ky vl) = q at *
      clear hr hd hmem
      go_wp2_with (first
        | (go_at_call 100; refine (hln _ hbn).mono ?_; rintro e w1 ⟨rfl, hb1⟩))
      go_roundw
      case rel => exact ⟨s + q, k + 1, by go_num, by go_num, by omega, hle, hbn.trans (hb1.mono hbn.size), E⟩
      case measure => simp [RowKit.intOf]; omega
    · have hkI : ¬ (k : Int) < (n : Int) := by omega
      have E : s = T := by
        have h1 := hr.out
        rw [List.drop_eq_nil_iff.2 (by rw [hl.out]; omega)] at h1
        simpa [lenS] using h1
      subst E
      clear hr hT'
      go_wp2
      all_goals go_ret
      all_goals exact ⟨rfl, hb⟩

/-- a right head of bounded texts, and its list in memory -/
structure RH (w : World) (a : Option Addr) (n c : Nat) (l : PL) (h : Hd) : Prop where
  py : Pys w a n c l
  nl : a = none → n = 0 ∧ c = 0
  few : n ≤ 900
  bnd : Bnd h
  nano : 0 ≤ h.nano ∧ h.nano < 1000000000
  srt : Srt l
  unk : anyK l = false
  ful : Ful (recsOf h n fldsA ++ l)
  sml : Sml (recO h l)
  len : (recO h l).length ≤ 1000
  laid : Laid w
theorem RH.below {w w' : World} {a : Option Addr} {n c : Nat} {l : PL} {h : Hd} (r : RH w a n c l h) (hb : Below w.heap.size w w') : RH w' a n c l h :=
  ⟨r.py.below hb, r.nl, r.few, r.bnd, r.nano, r.srt, r.unk, r.ful, r.sml, r.len, r.laid.below hb⟩
theorem RH.recs {w : World} {a : Option Addr} {n c : Nat} {l : PL} {h : Hd} (r : RH w a n c l h) :
    Calls Tryz.prog 34 #[.agg (h.cs (.slice a n c))] w fun e w' => (∃ a2 m c2, e = .returned (.tuple #[.slice a2 m c2, .bool (txtsB h n)]) ∧ Pys w' a2 m c2 (recO h l) ∧ (a2 = none → m = 0 ∧ c2 = 0)) ∧ Below w.heap.size w w' :=
  records_ok h r.py r.nl (by have := r.few; omega) r.bnd r.nano r.srt r.unk r.ful r.laid

set_option maxHeartbeats 8000000 in
theorem told_ok11 {w : World} {a : Option Addr} {n c : Nat} {l : PL} {h : Hd} (r : RH w a n c l h) :
    Calls Tryz.prog 69 #[.agg (h.cs (.slice a n c))] w fun e w' => e = .returned (.bool (decide (lenS (recO h l) ≤ 65536))) ∧ Below w.heap.size w w' := by
  have hac := below_alloc w (.cells (h.cs (.slice a n c)) 26)
  have hre := (r.below hac).recs
  have hsm := r.sml
  have hle := r.len
  have hL := r.laid
  have E := hid (show decide (lenS (recO h l) ≤ 65536) = decide ((lenS (recO h l) : Int) ≤ 65536) by rw [Bool.eq_iff_iff]; simp; omega)
  generalize recO h l = R at *
  generalize txtsB h n = O at *
  clear r
  rw [E.out]
  unfold Hd.cs at hac hre ⊢
  go_enter Tryz.func69, Tryz.ntmps69
  go_wp2_with (first
    | (go_at_call 34; refine hre.mono ?_; rintro e w1 ⟨⟨a2, m, c2, rfl, hp2, hn2⟩, hb1⟩; replace hac := hac.trans (hb1.mono hac.size); have hlen := length_ok hp2 hsm (by rw [← hp2.1]; exact hle) (hL.below hac))
    | (go_at_call 103; refine hlen.mono ?_; rintro e w2 ⟨rfl, hb2⟩))
  go_ret
  exact ⟨rfl, hac.trans (hb2.mono hac.size)⟩

set_option maxHeartbeats 8000000 in
theorem can_14 (d : Int) {w : World} {a : Option Addr} {n c : Nat} {l : PL} {h : Hd} (r : RH w a n c l h) :
    Calls Tryz.prog 29 #[.int .i64 d, .agg (h.cs (.slice a n c)), .int .i64 14] w fun e w' => e = .returned (.bool (canA d h l 14)) ∧ Below w.heap.size w w' := by
  have hac := below_alloc w (.cells (h.cs (.slice a n c)) 26)
  have hre := told_ok11 (r.below hac)
  have E0 : canA d h l 14 = (decide (d ≠ 3) || decide (lenS (recO h l) ≤ 65536)) := rfl
  rw [E0]
  generalize decide (lenS (recO h l) ≤ 65536) = O at *
  clear r E0
  unfold Hd.cs at hac hre ⊢
  by_cases h3 : d = 3
  · subst h3
    go_enter Tryz.func29, Tryz.ntmps29
    go_wp2_with (first
      | (go_at_call 64; refine (most_ok _ (by decide) _).mono ?_; rintro e w' ⟨hw, rfl⟩; obtain rfl := hw.symm)
      | (go_at_call 69; refine hre.mono ?_; rintro e w1 ⟨rfl, hb1⟩))
    go_ret
    exact ⟨ret_bool (by simp), hac.trans (hb1.mono hac.size)⟩
  · have e3 : (d != 3) = true := by simpa using h3
    rw [decide_eq_true h3]
    clear h3
    go_enter Tryz.func29, Tryz.ntmps29
    go_wp2_with (first
      | (go_at_call 64; refine (most_ok _ (by decide) _).mono ?_; rintro e w' ⟨hw, rfl⟩; obtain rfl := hw.symm))
    go_ret
    exact ⟨rfl, hac⟩

/-- each field -/
theorem canA_ok (d : Int) (f : Int) (hf : 1 ≤ f ∧ f ≤ 14) {w : World} {a : Option Addr} {n c : Nat} {l : PL} {h : Hd} (r : RH w a n c l h) :
    Calls Tryz.prog 29 #[.int .i64 d, .agg (h.cs (.slice a n c)), .int .i64 f] w fun e w' => e = .returned (.bool (canA d h l f)) ∧ Below w.heap.size w w' := by
  by_cases e : f = 14
  · subst e; exact can_14 d r
  · have hb := r.bnd
    have e1 : canA d h l f = canN d h n f := by unfold canA; rw [if_neg e, r.py.1]
    rw [e1]
    exact can_ok d h a n c f (by omega) hb.2.2.2.2.1 hb.2.2.2.2.2.1 hb.2.2.2.2.2.2.1 hb.2.2.2.2.2.2.2 w

end Go.Proofs.YthnaanjhmehgcaaGreatDoor

/-
  WHAT rep's EXPORTED FUNCTIONS ANSWER. Conditions: texts and lists of bounded size; what the listed variables hold.
-/
namespace Go.Proofs.YthnaanjhmehgcaaGreatDoor
open Go.ChangeShapes Go.WideShapes Go.ChangeAt Go.RowKit Go.Lib
set_option linter.unusedVariables false
set_option linter.unusedSimpArgs false
set_option maxRecDepth 20000

/-- what item.Wrong answers of a head, from a world on -/
def WrgIs (w : World) (a : Option Addr) (n c : Nat) (h : Hd) (W : Int) : Prop := ∀ wr, Below w.heap.size w wr → Calls Tryz.prog 20 #[.agg (h.cs (.slice a n c))] wr fun e w' => e = .returned (.int .i64 W) ∧ Below wr.heap.size wr w'
theorem WrgIs.below {w w' : World} {a : Option Addr} {n c : Nat} {h : Hd} {W : Int} (r : WrgIs w a n c h W) (hb : Below w.heap.size w w') : WrgIs w' a n c h W := fun wr hr => r wr (hb.trans (hr.mono hb.size))
theorem wrg_is {w : World} {a : Option Addr} {n c : Nat} {l : PL} (h : Hd) (hp : Pys w a n c l) (hz : Sml l) (hs : h.name.size ≤ 9000000000000000) (hL : Laid w) : WrgIs w a n c h (wrongH h l) := fun wr hb => wrong_ok h (hp.below hb) hz hs (hL.below hb)
theorem ret_ic {k j : IntKind} {a b c d : Int} (h : a = b) (h' : c = d) : Ending.returned (.tuple #[.int k a, .int j c]) = .returned (.tuple #[.int k b, .int j d]) := by rw [h, h']
theorem ret_bc {j : IntKind} {a b : Bool} {c d : Int} (h : a = b) (h' : c = d) : Ending.returned (.tuple #[.bool a, .int j c]) = .returned (.tuple #[.bool b, .int j d]) := by rw [h, h']
theorem ret_sc2 {j : IntKind} {a b : ByteArray} {c d : Int} (h : a = b) (h' : c = d) : Ending.returned (.tuple #[.string a, .int j c]) = .returned (.tuple #[.string b, .int j d]) := by rw [h, h']

set_option maxHeartbeats 8000000 in
theorem first_bad (d : Int) {w : World} {a : Option Addr} {n c : Nat} (h : Hd) (hd : ¬ (1 ≤ d ∧ d ≤ 4)) :
    Calls Tryz.prog 10 #[.int .i64 d, .agg (h.cs (.slice a n c))] w fun e w' => e = .returned (.tuple #[.int .i64 0, .int .u8 2]) ∧ Below w.heap.size w w' := by
  have hac := below_alloc w (.cells (h.cs (.slice a n c)) 26)
  have hB : Blk (w.alloc (.cells (h.cs (.slice a n c)) 26)) w.heap.size (h.cs (.slice a n c)) 26 := heap_alloc_new _ _
  have hinf : (Tryz.prog.info? 26).map (·.size) = some (h.cs (.slice a n c)).size := by kernel_rfl
  have hdi := dialect_ok d
  rw [decide_eq_false hd] at hdi
  clear hd
  unfold Hd.cs at hac hB hinf ⊢
  go_enter Tryz.func10, Tryz.ntmps10
  go_wp2_with (first | (go_at_call 12; refine (hdi _).mono ?_; rintro e w' ⟨hw, rfl⟩; obtain rfl := hw.symm))
  go_ret2
  exact ⟨rfl, hac⟩

set_option maxHeartbeats 8000000 in
theorem full_bad (d : Int) {w : World} {a : Option Addr} {n c : Nat} (h : Hd) (hd : ¬ (1 ≤ d ∧ d ≤ 4)) :
    Calls Tryz.prog 16 #[.int .i64 d, .agg (h.cs (.slice a n c))] w fun e w' => e = .returned (.tuple #[.string ⟨#[]⟩, .int .u8 2]) ∧ Below w.heap.size w w' := by
  have hac := below_alloc w (.cells (h.cs (.slice a n c)) 26)
  have hB : Blk (w.alloc (.cells (h.cs (.slice a n c)) 26)) w.heap.size (h.cs (.slice a n c)) 26 := heap_alloc_new _ _
  have hinf : (Tryz.prog.info? 26).map (·.size) = some (h.cs (.slice a n c)).size := by kernel_rfl
  have hdi := dialect_ok d
  rw [decide_eq_false hd] at hdi
  clear hd
  unfold Hd.cs at hac hB hinf ⊢
  go_enter Tryz.func16, Tryz.ntmps16
  go_wp2_with (first | (go_at_call 12; refine (hdi _).mono ?_; rintro e w' ⟨hw, rfl⟩; obtain rfl := hw.symm))
  go_ret2
  exact ⟨rfl, hac⟩

set_option maxHeartbeats 8000000 in
theorem can_bad (d f : Int) {w : World} {a : Option Addr} {n c : Nat} (h : Hd) (hd : ¬ ((1 ≤ d ∧ d ≤ 4) ∧ (1 ≤ f ∧ f ≤ 14))) :
    Calls Tryz.prog 9 #[.int .i64 d, .agg (h.cs (.slice a n c)), .int .i64 f] w fun e w' => e = .returned (.tuple #[.bool false, .int .u8 2]) ∧ Below w.heap.size w w' := by
  have hac := below_alloc w (.cells (h.cs (.slice a n c)) 26)
  have hB : Blk (w.alloc (.cells (h.cs (.slice a n c)) 26)) w.heap.size (h.cs (.slice a n c)) 26 := heap_alloc_new _ _
  have hinf : (Tryz.prog.info? 26).map (·.size) = some (h.cs (.slice a n c)).size := by kernel_rfl
  have hdi := dialect_ok d
  have hif := isfield_ok f
  unfold Hd.cs at hac hB hinf ⊢
  by_cases h1 : 1 ≤ d ∧ d ≤ 4
  · rw [decide_eq_true h1] at hdi
    rw [decide_eq_false (fun h2 => hd ⟨h1, h2⟩)] at hif
    clear hd h1
    go_enter Tryz.func9, Tryz.ntmps9
    go_wp2_with (first | (go_at_call 12; refine (hdi _).mono ?_; rintro e w' ⟨hw, rfl⟩; obtain rfl := hw.symm) | (go_at_call 28; refine (hif _).mono ?_; rintro e w' ⟨hw, rfl⟩; obtain rfl := hw.symm))
    go_ret2
    exact ⟨rfl, hac⟩
  · rw [decide_eq_false h1] at hdi
    clear hd h1
    go_enter Tryz.func9, Tryz.ntmps9
    go_wp2_with (first | (go_at_call 12; refine (hdi _).mono ?_; rintro e w' ⟨hw, rfl⟩; obtain rfl := hw.symm) | (go_at_call 28; refine (hif _).mono ?_; rintro e w' ⟨hw, rfl⟩; obtain rfl := hw.symm))
    go_ret2
    exact ⟨rfl, hac⟩

set_option maxHeartbeats 8000000 in
theorem first_wrong (d : Int) {w : World} {a : Option Addr} {n c : Nat} (h : Hd) (hd : 1 ≤ d ∧ d ≤ 4) {W : Int} (hW : WrgIs w a n c h W) (h0 : W ≠ 0) :
    Calls Tryz.prog 10 #[.int .i64 d, .agg (h.cs (.slice a n c))] w fun e w' => e = .returned (.tuple #[.int .i64 0, .int .u8 15]) ∧ Below w.heap.size w w' := by
  have hac := below_alloc w (.cells (h.cs (.slice a n c)) 26)
  have hB : Blk (w.alloc (.cells (h.cs (.slice a n c)) 26)) w.heap.size (h.cs (.slice a n c)) 26 := heap_alloc_new _ _
  have hinf : (Tryz.prog.info? 26).map (·.size) = some (h.cs (.slice a n c)).size := by kernel_rfl
  have hdi := dialect_ok d
  rw [decide_eq_true hd] at hdi
  clear hd
  have e0 : (W != 0) = true := by simpa using h0
  clear h0
  unfold WrgIs at hW
  unfold Hd.cs at hac hB hinf hW ⊢
  go_enter Tryz.func10, Tryz.ntmps10
  go_wp2_with (first | (go_at_call 12; refine (hdi _).mono ?_; rintro e w' ⟨hw, rfl⟩; obtain rfl := hw.symm) | (go_at_call 20; refine (hW _ hac).mono ?_; rintro e w1 ⟨rfl, hb1⟩; replace hB := hB.below hb1; replace hac := hac.trans (hb1.mono hac.size); clear hb1) | (refine wpList_load_row (P := Tryz.prog) rfl 26 (.tmp 3) rfl w.heap.size rfl 26 _ (0, 0) _ hB Tryz.underlying26 rfl hinf ?_))
  go_ret2
  exact ⟨rfl, hac⟩

set_option maxHeartbeats 8000000 in
theorem full_wrong (d : Int) {w : World} {a : Option Addr} {n c : Nat} (h : Hd) (hd : 1 ≤ d ∧ d ≤ 4) {W : Int} (hW : WrgIs w a n c h W) (h0 : W ≠ 0) :
    Calls Tryz.prog 16 #[.int .i64 d, .agg (h.cs (.slice a n c))] w fun e w' => e = .returned (.tuple #[.string ⟨#[]⟩, .int .u8 15]) ∧ Below w.heap.size w w' := by
  have hac := below_alloc w (.cells (h.cs (.slice a n c)) 26)
  have hB : Blk (w.alloc (.cells (h.cs (.slice a n c)) 26)) w.heap.size (h.cs (.slice a n c)) 26 := heap_alloc_new _ _
  have hinf : (Tryz.prog.info? 26).map (·.size) = some (h.cs (.slice a n c)).size := by kernel_rfl
  have hdi := dialect_ok d
  rw [decide_eq_true hd] at hdi
  clear hd
  have e0 : (W != 0) = true := by simpa using h0
  clear h0
  unfold WrgIs at hW
  unfold Hd.cs at hac hB hinf hW ⊢
  go_enter Tryz.func16, Tryz.ntmps16
  go_wp2_with (first | (go_at_call 12; refine (hdi _).mono ?_; rintro e w' ⟨hw, rfl⟩; obtain rfl := hw.symm) | (go_at_call 20; refine (hW _ hac).mono ?_; rintro e w1 ⟨rfl, hb1⟩; replace hB := hB.below hb1; replace hac := hac.trans (hb1.mono hac.size); clear hb1) | (refine wpList_load_row (P := Tryz.prog) rfl 26 (.tmp 3) rfl w.heap.size rfl 26 _ (0, 0) _ hB Tryz.underlying26 rfl hinf ?_))
  go_ret2
  exact ⟨rfl, hac⟩

set_option maxHeartbeats 8000000 in
theorem can_wrong (d f : Int) {w : World} {a : Option Addr} {n c : Nat} (h : Hd) (hd : 1 ≤ d ∧ d ≤ 4) (hf : 1 ≤ f ∧ f ≤ 14) {W : Int} (hW : WrgIs w a n c h W) (h0 : W ≠ 0) :
    Calls Tryz.prog 9 #[.int .i64 d, .agg (h.cs (.slice a n c)), .int .i64 f] w fun e w' => e = .returned (.tuple #[.bool false, .int .u8 15]) ∧ Below w.heap.size w w' := by
  have hac := below_alloc w (.cells (h.cs (.slice a n c)) 26)
  have hB : Blk (w.alloc (.cells (h.cs (.slice a n c)) 26)) w.heap.size (h.cs (.slice a n c)) 26 := heap_alloc_new _ _
  have hinf : (Tryz.prog.info? 26).map (·.size) = some (h.cs (.slice a n c)).size := by kernel_rfl
  have hdi := dialect_ok d
  rw [decide_eq_true hd] at hdi
  clear hd
  have hif := isfield_ok f
  rw [decide_eq_true hf] at hif
  clear hf
  have e0 : (W != 0) = true := by simpa using h0
  clear h0
  unfold WrgIs at hW
  unfold Hd.cs at hac hB hinf hW ⊢
  go_enter Tryz.func9, Tryz.ntmps9
  go_wp2_with (first | (go_at_call 12; refine (hdi _).mono ?_; rintro e w' ⟨hw, rfl⟩; obtain rfl := hw.symm) | (go_at_call 28; refine (hif _).mono ?_; rintro e w' ⟨hw, rfl⟩; obtain rfl := hw.symm) | (go_at_call 20; refine (hW _ hac).mono ?_; rintro e w1 ⟨rfl, hb1⟩; replace hB := hB.below hb1; replace hac := hac.trans (hb1.mono hac.size); clear hb1) | (refine wpList_load_row (P := Tryz.prog) rfl 26 (.tmp 4) rfl w.heap.size rfl 26 _ (0, 0) _ hB Tryz.underlying26 rfl hinf ?_))
  go_ret2
  exact ⟨rfl, hac⟩

set_option maxHeartbeats 8000000 in
theorem records_wrong {w : World} {a : Option Addr} {n c : Nat} (h : Hd) {W : Int} (hW : WrgIs w a n c h W) (h0 : W ≠ 0) :
    Calls Tryz.prog 15 #[.agg (h.cs (.slice a n c))] w fun e w' => e = .returned (.tuple #[.slice none 0 0, .int .u8 15]) ∧ Below w.heap.size w w' := by
  have hac := below_alloc w (.cells (h.cs (.slice a n c)) 26)
  have hB : Blk (w.alloc (.cells (h.cs (.slice a n c)) 26)) w.heap.size (h.cs (.slice a n c)) 26 := heap_alloc_new _ _
  have hinf : (Tryz.prog.info? 26).map (·.size) = some (h.cs (.slice a n c)).size := by kernel_rfl
  have e0 : (W != 0) = true := by simpa using h0
  clear h0
  unfold WrgIs at hW
  unfold Hd.cs at hac hB hinf hW ⊢
  go_enter Tryz.func15, Tryz.ntmps15
  go_wp2_with (first | (go_at_call 20; refine (hW _ hac).mono ?_; rintro e w1 ⟨rfl, hb1⟩; replace hB := hB.below hb1; replace hac := hac.trans (hb1.mono hac.size); clear hb1) | (refine wpList_load_row (P := Tryz.prog) rfl 26 (.tmp 1) rfl w.heap.size rfl 26 _ (0, 0) _ hB Tryz.underlying26 rfl hinf ?_))
  go_ret2
  exact ⟨rfl, hac⟩

set_option maxHeartbeats 8000000 in
theorem can_yes (d f : Int) {l : PL} {w : World} {a : Option Addr} {n c : Nat} (h : Hd) (hd : 1 ≤ d ∧ d ≤ 4) (hf : 1 ≤ f ∧ f ≤ 14) (hW : WrgIs w a n c h 0) (r : RH w a n c l h) :
    Calls Tryz.prog 9 #[.int .i64 d, .agg (h.cs (.slice a n c)), .int .i64 f] w fun e w' => e = .returned (.tuple #[.bool (canA d h l f), .int .u8 0]) ∧ Below w.heap.size w w' := by
  have hac := below_alloc w (.cells (h.cs (.slice a n c)) 26)
  have hB : Blk (w.alloc (.cells (h.cs (.slice a n c)) 26)) w.heap.size (h.cs (.slice a n c)) 26 := heap_alloc_new _ _
  have hinf : (Tryz.prog.info? 26).map (·.size) = some (h.cs (.slice a n c)).size := by kernel_rfl
  have hdi := dialect_ok d
  rw [decide_eq_true hd] at hdi
  have hif := isfield_ok f
  rw [decide_eq_true hf] at hif
  have hca := fun (wr : World) (hb : Below w.heap.size w wr) => canA_ok d f hf (r.below hb)
  generalize canA d h l f = O at *
  clear hd hf r
  unfold WrgIs at hW
  unfold Hd.cs at hac hB hinf hW hca ⊢
  go_enter Tryz.func9, Tryz.ntmps9
  go_wp2_with (first | (go_at_call 12; refine (hdi _).mono ?_; rintro e w' ⟨hw, rfl⟩; obtain rfl := hw.symm) | (go_at_call 28; refine (hif _).mono ?_; rintro e w' ⟨hw, rfl⟩; obtain rfl := hw.symm) | (go_at_call 20; refine (hW _ hac).mono ?_; rintro e w1 ⟨rfl, hb1⟩; replace hB := hB.below hb1; replace hac := hac.trans (hb1.mono hac.size); clear hb1) | (go_at_call 29; refine (hca _ hac).mono ?_; rintro e w2 ⟨rfl, hb2⟩) | (refine wpList_load_row (P := Tryz.prog) rfl 26 (.tmp 4) rfl w.heap.size rfl 26 _ (0, 0) _ hB Tryz.underlying26 rfl hinf ?_))
  go_ret2
  exact ⟨rfl, hac.trans (hb2.mono hac.size)⟩

set_option maxHeartbeats 8000000 in
theorem full_yes (d : Int) {w : World} {a : Option Addr} {n c : Nat} (h : Hd) (hd : 1 ≤ d ∧ d ≤ 4) (hW : WrgIs w a n c h 0) (hs : h.name.size ≤ 9000000000000000) (hf : fullB d h = true) :
    Calls Tryz.prog 16 #[.int .i64 d, .agg (h.cs (.slice a n c))] w fun e w' => e = .returned (.tuple #[.string (fullS d h), .int .u8 0]) ∧ Below w.heap.size w w' := by
  have hac := below_alloc w (.cells (h.cs (.slice a n c)) 26)
  have hB : Blk (w.alloc (.cells (h.cs (.slice a n c)) 26)) w.heap.size (h.cs (.slice a n c)) 26 := heap_alloc_new _ _
  have hinf : (Tryz.prog.info? 26).map (·.size) = some (h.cs (.slice a n c)).size := by kernel_rfl
  have hdi := dialect_ok d
  rw [decide_eq_true hd] at hdi
  have hfu := fun w => full_ok d h (.slice a n c) hs w
  rw [hf] at hfu
  generalize fullS d h = S at *
  clear hd hf
  unfold WrgIs at hW
  unfold Hd.cs at hac hB hinf hW hfu ⊢
  go_enter Tryz.func16, Tryz.ntmps16
  go_wp2_with (first | (go_at_call 12; refine (hdi _).mono ?_; rintro e w' ⟨hw, rfl⟩; obtain rfl := hw.symm) | (go_at_call 20; refine (hW _ hac).mono ?_; rintro e w1 ⟨rfl, hb1⟩; replace hB := hB.below hb1; replace hac := hac.trans (hb1.mono hac.size); clear hb1) | (go_at_call 35; refine (hfu _).mono ?_; rintro e w2 ⟨rfl, hb2⟩) | (refine wpList_load_row (P := Tryz.prog) rfl 26 (.tmp 3) rfl w.heap.size rfl 26 _ (0, 0) _ hB Tryz.underlying26 rfl hinf ?_))
  go_ret2
  exact ⟨rfl, hac.trans (hb2.mono hac.size)⟩

set_option maxHeartbeats 8000000 in
theorem full_no (d : Int) {w : World} {a : Option Addr} {n c : Nat} (h : Hd) (hd : 1 ≤ d ∧ d ≤ 4) (hW : WrgIs w a n c h 0) (hs : h.name.size ≤ 9000000000000000) (hf : fullB d h = false) :
    Calls Tryz.prog 16 #[.int .i64 d, .agg (h.cs (.slice a n c))] w fun e w' => e = .returned (.tuple #[.string ⟨#[]⟩, .int .u8 13]) ∧ Below w.heap.size w w' := by
  have hac := below_alloc w (.cells (h.cs (.slice a n c)) 26)
  have hB : Blk (w.alloc (.cells (h.cs (.slice a n c)) 26)) w.heap.size (h.cs (.slice a n c)) 26 := heap_alloc_new _ _
  have hinf : (Tryz.prog.info? 26).map (·.size) = some (h.cs (.slice a n c)).size := by kernel_rfl
  have hdi := dialect_ok d
  rw [decide_eq_true hd] at hdi
  have hfu := fun w => full_ok d h (.slice a n c) hs w
  rw [hf] at hfu
  generalize fullS d h = S at *
  clear hd hf
  unfold WrgIs at hW
  unfold Hd.cs at hac hB hinf hW hfu ⊢
  go_enter Tryz.func16, Tryz.ntmps16
  go_wp2_with (first | (go_at_call 12; refine (hdi _).mono ?_; rintro e w' ⟨hw, rfl⟩; obtain rfl := hw.symm) | (go_at_call 20; refine (hW _ hac).mono ?_; rintro e w1 ⟨rfl, hb1⟩; replace hB := hB.below hb1; replace hac := hac.trans (hb1.mono hac.size); clear hb1) | (go_at_call 35; refine (hfu _).mono ?_; rintro e w2 ⟨rfl, hb2⟩) | (refine wpList_load_row (P := Tryz.prog) rfl 26 (.tmp 3) rfl w.heap.size rfl 26 _ (0, 0) _ hB Tryz.underlying26 rfl hinf ?_))
  go_ret2
  exact ⟨rfl, hac.trans (hb2.mono hac.size)⟩

set_option maxHeartbeats 8000000 in
theorem records_yes {l : PL} {w : World} {a : Option Addr} {n c : Nat} (h : Hd) (hW : WrgIs w a n c h 0) (r : RH w a n c l h) (ht : txtsB h n = true) :
    Calls Tryz.prog 15 #[.agg (h.cs (.slice a n c))] w fun e w' => (∃ a2 m c2, e = .returned (.tuple #[.slice a2 m c2, .int .u8 0]) ∧ Pys w' a2 m c2 (recO h l) ∧ (a2 = none → m = 0 ∧ c2 = 0)) ∧ Below w.heap.size w w' := by
  have hac := below_alloc w (.cells (h.cs (.slice a n c)) 26)
  have hB : Blk (w.alloc (.cells (h.cs (.slice a n c)) 26)) w.heap.size (h.cs (.slice a n c)) 26 := heap_alloc_new _ _
  have hinf : (Tryz.prog.info? 26).map (·.size) = some (h.cs (.slice a n c)).size := by kernel_rfl
  have hre := fun (wr : World) (hb : Below w.heap.size w wr) => (r.below hb).recs
  rw [ht] at hre
  generalize recO h l = R at *
  clear r ht
  unfold WrgIs at hW
  unfold Hd.cs at hac hB hinf hW hre ⊢
  go_enter Tryz.func15, Tryz.ntmps15
  go_wp2_with (first | (go_at_call 20; refine (hW _ hac).mono ?_; rintro e w1 ⟨rfl, hb1⟩; replace hB := hB.below hb1; replace hac := hac.trans (hb1.mono hac.size); clear hb1) | (go_at_call 34; refine (hre _ hac).mono ?_; rintro e w2 ⟨⟨a2, m, c2, rfl, hp2, hn2⟩, hb2⟩) | (refine wpList_load_row (P := Tryz.prog) rfl 26 (.tmp 1) rfl w.heap.size rfl 26 _ (0, 0) _ hB Tryz.underlying26 rfl hinf ?_))
  go_ret2
  exact ⟨⟨a2, m, c2, rfl, hp2, hn2⟩, hac.trans (hb2.mono hac.size)⟩

set_option maxHeartbeats 8000000 in
theorem records_no {l : PL} {w : World} {a : Option Addr} {n c : Nat} (h : Hd) (hW : WrgIs w a n c h 0) (r : RH w a n c l h) (ht : txtsB h n = false) :
    Calls Tryz.prog 15 #[.agg (h.cs (.slice a n c))] w fun e w' => e = .returned (.tuple #[.slice none 0 0, .int .u8 13]) ∧ Below w.heap.size w w' := by
  have hac := below_alloc w (.cells (h.cs (.slice a n c)) 26)
  have hB : Blk (w.alloc (.cells (h.cs (.slice a n c)) 26)) w.heap.size (h.cs (.slice a n c)) 26 := heap_alloc_new _ _
  have hinf : (Tryz.prog.info? 26).map (·.size) = some (h.cs (.slice a n c)).size := by kernel_rfl
  have hre := fun (wr : World) (hb : Below w.heap.size w wr) => (r.below hb).recs
  rw [ht] at hre
  generalize recO h l = R at *
  clear r ht
  unfold WrgIs at hW
  unfold Hd.cs at hac hB hinf hW hre ⊢
  go_enter Tryz.func15, Tryz.ntmps15
  go_wp2_with (first | (go_at_call 20; refine (hW _ hac).mono ?_; rintro e w1 ⟨rfl, hb1⟩; replace hB := hB.below hb1; replace hac := hac.trans (hb1.mono hac.size); clear hb1) | (go_at_call 34; refine (hre _ hac).mono ?_; rintro e w2 ⟨⟨a2, m, c2, rfl, hp2, hn2⟩, hb2⟩) | (refine wpList_load_row (P := Tryz.prog) rfl 26 (.tmp 1) rfl w.heap.size rfl 26 _ (0, 0) _ hB Tryz.underlying26 rfl hinf ?_))
  go_ret2
  exact ⟨rfl, hac.trans (hb2.mono hac.size)⟩

theorem firstF_yes (p : Int → Bool) (k : Nat) (f : Int) (h : p f = true) : firstF p (k + 1) f = firstF p k (f + 1) := by rw [firstF, if_pos h]
theorem firstF_no (p : Int → Bool) (k : Nat) (f : Int) (h : p f = false) : firstF p (k + 1) f = f := by rw [firstF, h]; rfl

set_option maxHeartbeats 8000000 in
theorem first_yes (d : Int) {l : PL} {w : World} {a : Option Addr} {n c : Nat} (h : Hd) (hd : 1 ≤ d ∧ d ≤ 4) (hW : WrgIs w a n c h 0) (r : RH w a n c l h) :
    Calls Tryz.prog 10 #[.int .i64 d, .agg (h.cs (.slice a n c))] w fun e w' => e = .returned (.tuple #[.int .i64 (firstA d h l), .int .u8 0]) ∧ Below w.heap.size w w' := by
  have hac := below_alloc w (.cells (h.cs (.slice a n c)) 26)
  have hB : Blk (w.alloc (.cells (h.cs (.slice a n c)) 26)) w.heap.size (h.cs (.slice a n c)) 26 := heap_alloc_new _ _
  have hinf : (Tryz.prog.info? 26).map (·.size) = some (h.cs (.slice a n c)).size := by kernel_rfl
  have hdi := dialect_ok d
  rw [decide_eq_true hd] at hdi
  have hca := fun (f : Int) hf (wr : World) (hb : Below w.heap.size w wr) => canA_ok d f hf (r.below hb)
  obtain ⟨F, hF⟩ : ∃ F, F = firstA d h l := ⟨_, rfl⟩
  rw [← hF]
  replace hF := hid hF
  unfold firstA at hF
  generalize canA d h l = p at *
  clear hd r
  unfold WrgIs at hW
  unfold Hd.cs at hac hB hinf hW hca ⊢
  go_enter Tryz.func10, Tryz.ntmps10
  go_wp2_with (first | (go_at_call 12; refine (hdi _).mono ?_; rintro e w' ⟨hw, rfl⟩; obtain rfl := hw.symm) | (go_at_call 20; refine (hW _ hac).mono ?_; rintro e w1 ⟨rfl, hb1⟩; replace hB := hB.below hb1; replace hac := hac.trans (hb1.mono hac.size); clear hb1) | (refine wpList_load_row (P := Tryz.prog) rfl 26 (.tmp 3) rfl w.heap.size rfl 26 _ (0, 0) _ hB Tryz.underlying26 rfl hinf ?_))
  go_loopw [6] (fun x wr => ∃ (i k : Nat), x = .int .i64 i ∧ 1 ≤ i ∧ i + k = 15 ∧ Below w.heap.size w wr ∧ Blk wr w.heap.size _ 26 ∧ Hid (F = firstF p k i)) (fun x _ => 15 - (RowKit.intOf x).toNat)
  case atStart => exact ⟨1, 14, rfl, by omega, by omega, hac, hB, hF⟩
  case round =>
    obtain ⟨i, k, rfl, hi, hik, hac, hB, hf⟩ := hrel
    by_cases hlt : i ≤ 14
    · obtain ⟨k', hk'⟩ : ∃ k', k = k' + 1 := ⟨k - 1, by omega⟩
      have hcc := hca i (by omega)
      have hiI : (i : Int) ≤ 14 := by omega
      cases hv : p i
      · have E := hid (show F = (i : Int) by rw [hf.out, hk', firstF_no p k' i hv])
        rw [hv] at hcc
        clear hf hv hca hF hk' hik
        go_wp2_with (first
          | (go_at_call 29; refine (hcc _ hac).mono ?_; rintro e w2 ⟨rfl, hb2⟩)
          | (refine wpList_load_row (P := Tryz.prog) rfl 26 (.tmp 3) rfl w.heap.size rfl 26 _ (0, 0) _ hB Tryz.underlying26 rfl hinf ?_))
        all_goals go_ret2
        all_goals exact ⟨ret_ic E.out.symm rfl, hac.trans (hb2.mono hac.size)⟩
      · have E := hid (show F = firstF p k' ((i + 1 : Nat) : Int) by rw [hf.out, hk', firstF_yes p k' i hv]; rfl)
        rw [hv] at hcc
        clear hf hv hca hF
        go_wp2_with (first
          | (go_at_call 29; refine (hcc _ hac).mono ?_; rintro e w2 ⟨rfl, hb2⟩)
          | (refine wpList_load_row (P := Tryz.prog) rfl 26 (.tmp 3) rfl w.heap.size rfl 26 _ (0, 0) _ hB Tryz.underlying26 rfl hinf ?_))
        go_roundw
        case rel => exact ⟨i + 1, k', by go_num, by omega, by omega, hac.trans (hb2.mono hac.size), hB.below hb2, E⟩
        case measure => simp [RowKit.intOf]; omega
    · have hiI : ¬ (i : Int) ≤ 14 := by omega
      have E := hid (show F = 0 by have : k = 0 := by omega
                                   rw [hf.out, this]; rfl)
      clear hf hca hF
      go_wp2
      all_goals go_ret2
      all_goals exact ⟨ret_ic E.out.symm rfl, hac⟩

end Go.Proofs.YthnaanjhmehgcaaGreatDoor
