/-
  THE DOCUMENT's LAST VALUE OF A KEY, ITS LAYING OF PAIRS, AND THE BYTES OF PAIRS; AND WHAT FOLLOWS OF IT. Conditions: those that each part names.
-/
import Derived.Test.YthnaanjhmehgcaaGreatDoorN17
import Derived.Test.YthnaanjhmehgcaaGreatDoorN31
import Derived.Test.YthnaanjhmehgcaaGreatDoorN19
import Derived.Deep.CutBlock
import Derived.Deep.DeepCutAuto
import Derived.Laws.AppendOwnNone
import Derived.Test.YthnaanjhmehgcaaGreatDoorN34
import Derived.Test.YthnaanjhmehgcaaGreatDoorN16
/-
  THE DOCUMENT's LAST VALUE OF A KEY, ITS LAYING OF PAIRS, AND THE BYTES OF PAIRS. Conditions: how many pairs there are, and how many bytes they have.
-/
namespace Go.Proofs.YthnaanjhmehgcaaGreatDoor
open Go.ChangeShapes Go.WideShapes Go.ChangeAt Go.RowKit Go.Lib
set_option linter.unusedVariables false
set_option linter.unusedSimpArgs false
set_option maxRecDepth 20000

def lastV (o : Option ByteArray) : ByteArray := match o with | some v => v | none => ⟨#[]⟩
def lastB (o : Option ByteArray) : Bool := match o with | some v => decide (v.size ≠ 0) | none => false

theorem last_take_succ (l : PL) (i : Nat) (p : ByteArray × ByteArray) (h : l[i]? = some p) (k : ByteArray) : lastK (l.take (i + 1)) k = if p.1 = k then some p.2 else lastK (l.take i) k := by
  have key : ∀ (a : PL), lastK (a ++ [p]) k = if p.1 = k then some p.2 else lastK a k := by
    intro a
    induction a with
    | nil =>
      show (match lastK [] k with | some v => some v | none => if p.1 = k then some p.2 else none) = _
      rfl
    | cons q t ih =>
      rw [List.cons_append, lastK, ih, lastK]
      by_cases e : p.1 = k
      · rw [if_pos e, if_pos e]
      · rw [if_neg e, if_neg e]
  rw [List.take_add_one, h]
  exact key _

set_option maxHeartbeats 4000000 in
theorem rlast_ok {w : World} {a : Option Addr} {n c : Nat} {l : PL} (h : Pys w a n c l) (hn : n ≤ 1000000) (key : ByteArray) :
    Calls Tryz.prog 83 #[.slice a n c, .string key] w fun e w' => e = .returned (.tuple #[.string (lastV (lastK l key)), .bool (lastB (lastK l key))]) ∧ Below w.heap.size w w' := by
  have hm1 := h.2.1
  have hm2 := h.2.2.1
  obtain ⟨q, hq⟩ : ∃ q, q = lastK l key := ⟨_, rfl⟩
  rw [← hq]
  have hl := hid h.1
  have hq0 := hid (by rw [hq, List.take_of_length_le (by rw [h.1]; exact Nat.le_refl _)] : q = lastK (l.take n) key)
  clear hq
  go_enter Tryz.func83, Tryz.ntmps83
  go_wp2
  go_loopw [6] (fun x wr => ∃ k : Nat, x = .int .i64 ((k : Int) - 1) ∧ k ≤ n ∧ wr = w ∧ Hid (q = lastK (l.take k) key)) (fun x _ => ((RowKit.intOf x) + 1).toNat)
  case atStart => exact ⟨n, by go_num, Nat.le_refl _, rfl, hq0⟩
  case round =>
    obtain ⟨k, rfl, hk, hw0, hr⟩ := hrel
    obtain rfl := hw0.symm
    cases k with
    | zero =>
      have E : q = none := by rw [hr.out]; rfl
      subst E
      clear hr hq0
      go_wp2
      all_goals go_ret2
      all_goals exact ⟨rfl, Below.refl _ _⟩
    | succ k =>
      obtain ⟨b, off, rfl, hc⟩ := h.some_of (by omega)
      obtain ⟨ky, vl, hmem, hd, c0, c1⟩ := hc.at k (by rw [hl.out]; omega)
      have hkE : ((k + 1 : Nat) : Int) - 1 = (k : Int) := by omega
      have hkI : (k : Int) < (n : Int) := by omega
      have hls := last_take_succ l k (ky, vl) (drop_getp hd.out) key
      simp only at hls
      by_cases he : ky = key
      · have E : q = some vl := by rw [hr.out, hls, if_pos he]
        have hee : (ky.toList == key.toList) = true := by rw [he]; simp
        subst E
        clear hr hd hmem he hq0 hls
        by_cases hv : vl.size = 0
        · have hvz : vl.toList.isEmpty = true := by rw [is_nil vl, decide_eq_true (by rw [← List.length_eq_zero_iff, bs_len]; exact hv)]
          have hlb : Hid (lastB (some vl) = false) := hid (decide_eq_false (fun h => h hv))
          clear hv
          rw [hkE]
          go_wp2
          go_region
          all_goals go_wp2
          all_goals go_ret2
          all_goals exact ⟨by rw [hlb.out]; rfl, (Below.refl _ _).drew⟩
        · have hvz : vl.toList.isEmpty = false := by rw [is_nil vl, decide_eq_false (by rw [← List.length_eq_zero_iff, bs_len]; exact hv)]
          have hlb : Hid (lastB (some vl) = true) := hid (decide_eq_true hv)
          clear hv
          rw [hkE]
          go_wp2
          go_region
          all_goals go_wp2
          all_goals go_ret2
          all_goals exact ⟨by rw [hlb.out]; rfl, (Below.refl _ _).drew⟩
      · have E := hid (by rw [hr.out, hls, if_neg he] : q = lastK (l.take k) key)
        have hee : (ky.toList == key.toList) = false := by
          cases hh : (ky.toList == key.toList)
          · rfl
          · exact absurd (str_beq.1 hh) he
        clear hr hd hmem he hls
        rw [hkE]
        go_wp2
        go_roundw
        case rel => exact ⟨k, by go_num, by omega, by first | rfl | trivial, E⟩
        case measure => (simp [RowKit.intOf]) <;> omega

end Go.Proofs.YthnaanjhmehgcaaGreatDoor

/-
  PAIRS LAID OVER AN OVERLAY, ONE BEHIND THE OTHER (layAll), AND Lay. Conditions: how many pairs there are.
-/
namespace Go.Proofs.YthnaanjhmehgcaaGreatDoor
open Go.ChangeShapes Go.WideShapes Go.ChangeAt Go.RowKit Go.Lib
set_option linter.unusedVariables false
set_option linter.unusedSimpArgs false
set_option maxRecDepth 20000

theorem layP_len : ∀ (l : PL) (p : ByteArray × ByteArray), (layP l p).length ≤ l.length + 1
  | [], p => by rw [layP]; split <;> simp
  | a :: t, p => by
    have ih := layP_len t p
    rw [layP]
    repeat' split
    all_goals simp
    all_goals omega
theorem layL_len : ∀ (ps l : PL), (layL l ps).length ≤ l.length + ps.length
  | [], l => Nat.le_refl _
  | p :: t, l => by
    have := layL_len t (layP l p)
    have h2 := layP_len l p
    show (layL (layP l p) t).length ≤ _
    rw [List.length_cons]; omega

end Go.Proofs.YthnaanjhmehgcaaGreatDoor

/-
  THE DOCUMENT's LAYING OF PAIRS. Conditions: how many pairs there are.
-/
namespace Go.Proofs.YthnaanjhmehgcaaGreatDoor
open Go.ChangeShapes Go.WideShapes Go.ChangeAt Go.RowKit Go.Lib
set_option linter.unusedVariables false
set_option linter.unusedSimpArgs false
set_option maxRecDepth 20000

theorem str_gtr {P : Program} (w : World) (t : TypeId) (a b : ByteArray) : (binOp .gtr t (.string a) (.string b)).run P w = .ok (.bool (decide (kc b a < 0))) w := by
  have h : (!(Op.bytesLess a.toList b.toList || a.toList == b.toList)) = decide (kc b a < 0) := by
    rw [less_kc]
    by_cases h1 : kc a b < 0
    · have h2 : ¬ kc b a < 0 := fun h => by have := kc_trans h1 h; rw [kc_self] at this; omega
      rw [decide_eq_true h1, decide_eq_false h2]; rfl
    · rw [decide_eq_false h1]
      by_cases e : a = b
      · subst e
        rw [kc_self]; simp
      · rw [decide_eq_true (kc_tri h1 e)]
        have : (a.toList == b.toList) = false := by
          cases hh : (a.toList == b.toList)
          · rfl
          · exact absurd (str_beq.1 hh) e
        rw [this]; rfl
  rw [← h]
  simp [binOp, Op.stringOp]

theorem pys_news' {w : World} {x : Addr} {n c : Nat} {l : PL} (h : Pys w (some x) n c l) : ∀ j u, (pcs2 l)[j]? = some u → w.cell? (x.add j) = some u := by
  obtain ⟨hl, hlc, hm, ⟨rfl, rfl⟩ | ⟨h0, b, off, e, hc⟩⟩ := h
  · intro j u hj; simp [pcs2] at hj
  · intro j u hj
    simp only [Option.some.injEq] at e
    subst e
    have hjl : j < l.length * 2 := by have := (List.getElem?_eq_some_iff.1 hj).1; rwa [pcs2_len] at this
    obtain ⟨p1, p2⟩ := pcs2_at l (j / 2) (by omega)
    obtain ⟨c1, c2⟩ := hc (j / 2) (by omega)
    rw [Addr.add_lit]
    rcases Nat.mod_two_eq_zero_or_one j with e | e
    · have hj2 : j / 2 * 2 = j := by omega
      rw [hj2] at p1 c1
      rw [c1, ← p1, hj]
    · have hj2 : j / 2 * 2 + 1 = j := by omega
      rw [hj2] at p2
      rw [show off + j / 2 * 2 + 1 = off + j by omega] at c2
      rw [c2, ← p2, hj]

def boolV (v : Value) : Bool := match v with | .bool b => b | _ => false
def txtV (v : Value) : ByteArray := match v with | .string s => s | _ => ⟨#[]⟩

set_option maxHeartbeats 8000000 in
theorem rlay_ok {w : World} {a a' : Option Addr} {n c n' c' : Nat} {l more : PL} (hP : Pys w a n c l) (hQ : Pys w a' n' c' more) (hn : n ≤ 1000) (hn' : n' ≤ 1000) (hnl : a = none → n = 0 ∧ c = 0) (hnl' : a' = none → n' = 0 ∧ c' = 0) :
    Calls Tryz.prog 42 #[.slice a n c, .slice a' n' c'] w fun e w' => ∃ a2 m c2, e = .returned (.slice a2 m c2) ∧ Pys w' a2 m c2 (layL [] (l ++ more)) ∧ Below w.heap.size w w' := by
  obtain ⟨i0, hi0, hz0, hz1, hz2⟩ := info_parts infoPair
  obtain ⟨all, hall⟩ : ∃ all, all = l ++ more := ⟨_, rfl⟩
  rw [← hall]
  obtain ⟨RR, hRR⟩ : ∃ RR, RR = layL [] all := ⟨_, rfl⟩
  rw [← hRR]
  replace hall := hid hall
  replace hRR := hid hRR
  have hpc := hP.2.1
  have hpm := hP.2.2.1
  have hqc := hQ.2.1
  have hqm := hQ.2.2.1
  have hln := hid hP.1
  have hqn := hid hQ.1
  have hlit := World.ownsRow_lit (base := w.heap.size) (e := 50) (size := 2) w #[] 0 (Nat.le_refl _) (by unfold maxLen; omega) rfl
  have hbl := (Below.refl w.heap.size w).alloc (Nat.le_refl _) (.cells #[] 50)
  go_enter Tryz.func42, Tryz.ntmps42
  go_upto_region 1 with fail
  go_cut [5] (fun v wc => ∃ aw nw cw, v = .slice aw nw cw ∧ Pys wc aw nw cw all ∧ Below w.heap.size w wc)
  case first =>
    cases a with
    | none =>
      obtain ⟨rfl, rfl⟩ := hnl rfl
      have hl0 : l = [] := by have := hln.out; simpa using this
      cases a' with
      | none =>
        obtain ⟨rfl, rfl⟩ := hnl' rfl
        have hm0 : more = [] := by have := hqn.out; simpa using this
        go_wp2
        go_meet
        case rel => exact ⟨_, _, _, rfl, by rw [hall.out, hl0, hm0]; exact ⟨rfl, Nat.le_refl _, by omega, .inl ⟨rfl, rfl⟩⟩, hbl⟩
      | some ad' =>
        have hnw := pys_news' (hQ.below hbl)
        go_wp2_with (at_builtin; refine wpList_append_own (P := Tryz.prog) _ rfl (.tmp 17) (.tmp 18) 24 rfl w.heap.size 50 i0 (.agg #[.string ⟨#[]⟩, .string ⟨#[]⟩]) 2 32 Tryz.underlying24 hi0 hz0 hz1 hz2 rfl (by decide) _ _ _ rfl hlit ad' n' c' (pcs2 more) rfl (by rw [pcs2_len, hqn.out]) hnw (pcs2_one more) (by unfold maxLen; omega) (by omega) hbl.size ?_; intro v' wA hown' hgrow' _; rw [Nat.zero_add, List.nil_append] at hown'; obtain ⟨aw, cw, rfl, hpw⟩ := own_pys hown' hqn.out; have hacA := hbl.grown hgrow' hbl.size (fun g hg => (hlit.lt g hg).1))
        go_meet
        case rel => exact ⟨_, _, _, rfl, by rw [hall.out, hl0, List.nil_append]; exact hpw, hacA⟩
    | some ad =>
      have hnw := pys_news' (hP.below hbl)
      cases a' with
      | none =>
        obtain ⟨rfl, rfl⟩ := hnl' rfl
        have hm0 : more = [] := by have := hqn.out; simpa using this
        go_wp2_with (first
          | (at_builtin; refine wpList_append_own (P := Tryz.prog) _ rfl (.tmp 15) (.tmp 16) 24 rfl w.heap.size 50 i0 (.agg #[.string ⟨#[]⟩, .string ⟨#[]⟩]) 2 32 Tryz.underlying24 hi0 hz0 hz1 hz2 rfl (by decide) _ _ _ rfl hlit ad n c (pcs2 l) rfl (by rw [pcs2_len, hln.out]) hnw (pcs2_one l) (by unfold maxLen; omega) (by omega) hbl.size ?_; intro v' wA hown' hgrow' _; rw [Nat.zero_add, List.nil_append] at hown'; have hacA := hbl.grown hgrow' hbl.size (fun g hg => (hlit.lt g hg).1))
          | (at_builtin; refine wpList_append_own_none (P := Tryz.prog) rfl (.tmp 17) (.tmp 18) 24 rfl w.heap.size 50 i0 2 Tryz.underlying24 hi0 _ _ _ rfl hown' rfl ?_; obtain ⟨aw, cw, hvw, hpw⟩ := own_pys hown' hln.out))
        go_meet
        case rel => exact ⟨_, _, _, rfl, by rw [hall.out, hm0, List.append_nil]; exact hpw, hacA⟩
      | some ad' =>
        go_wp2_with (first
          | (at_builtin; refine wpList_append_own (P := Tryz.prog) _ rfl (.tmp 15) (.tmp 16) 24 rfl w.heap.size 50 i0 (.agg #[.string ⟨#[]⟩, .string ⟨#[]⟩]) 2 32 Tryz.underlying24 hi0 hz0 hz1 hz2 rfl (by decide) _ _ _ rfl hlit ad n c (pcs2 l) rfl (by rw [pcs2_len, hln.out]) hnw (pcs2_one l) (by unfold maxLen; omega) (by omega) hbl.size ?_; intro v' wA hown' hgrow' _; rw [Nat.zero_add, List.nil_append] at hown'; have hacA := hbl.grown hgrow' hbl.size (fun g hg => (hlit.lt g hg).1); have hnw2 := pys_news' (hQ.below hacA))
          | (at_builtin; refine wpList_append_own (P := Tryz.prog) _ rfl (.tmp 17) (.tmp 18) 24 rfl w.heap.size 50 i0 (.agg #[.string ⟨#[]⟩, .string ⟨#[]⟩]) 2 32 Tryz.underlying24 hi0 hz0 hz1 hz2 rfl (by decide) _ _ _ rfl hown' ad' n' c' (pcs2 more) rfl (by rw [pcs2_len, hqn.out]) hnw2 (pcs2_one more) (by unfold maxLen; omega) (by omega) hacA.size ?_; intro v'' wB hown'' hgrow'' _; rw [← pcs2_cat] at hown''; obtain ⟨aw, cw, rfl, hpw⟩ := own_pys hown'' (by rw [List.length_append, hln.out, hqn.out]); have hacB := hacA.grown hgrow'' hacA.size (fun g hg => (hown'.lt g hg).1)))
        go_meet
        case rel => exact ⟨_, _, _, rfl, by rw [hall.out]; exact hpw, hacB⟩
  case rest =>
    obtain ⟨aw, nw, cw, rfl, hW, hacc⟩ := hcut
    have hnw : nw ≤ 2000 := by have := hW.1; rw [hall.out, List.length_append, hln.out, hqn.out] at this; omega
    have hwc := hW.2.1
    have hwm := hW.2.2.1
    have hwn := hid hW.1
    have hRlen : RR.length ≤ nw := by have := layL_len all []; rw [← hRR.out, hwn.out] at this; simpa using this
    have h00 := hid (by rw [pref_first] : ([] : PL) = prefK true ⟨#[]⟩ RR)
    have hown0 := World.ownsRow_nil wc wc.heap.size 50 2
    clear hlit hbl hpc hpm hqc hqm
    go_wp2
    go_loopw [6, 7, 8] (fun y6 y7 y8 wr => ∃ (o : Value) (ah : ByteArray) (f : Bool) (acc : PL), y6 = o ∧ y7 = .string ah ∧ y8 = .bool f ∧ wr.ownsRow wc.heap.size 50 2 o acc.length (pcs2 acc) ∧ acc.length ≤ 2000 ∧ Below wc.heap.size wc wr ∧ Hid (acc = prefK f ah RR)) (fun _ y7 y8 _ => remK all (boolV y8) (txtV y7))
    case atStart => exact ⟨_, ⟨#[]⟩, true, [], rfl, rfl, rfl, hown0, by simp, Below.refl _ _, h00⟩
    case round =>
      obtain ⟨o, ah, f, acc, rfl, rfl, rfl, hown, hal, hb, hacc2⟩ := hrel
      have hWr := hW.below hb
      go_upto_block 2 with fail
      go_cut [9, 10] (fun y z wd => wd = wr ∧ ∃ mo : Option ByteArray, y = .string (lastV mo) ∧ z = .bool mo.isSome ∧ Hid (mo = mnK f ah none all))
      case first =>
        go_wp2
        go_loopw [9, 10, 11] (fun y z x w1 => ∃ (i : Nat) (mo : Option ByteArray), y = .string (lastV mo) ∧ z = .bool mo.isSome ∧ x = .int .i64 i ∧ i ≤ nw ∧ w1 = wr ∧ Hid (mnK f ah none all = mnK f ah mo (all.drop i))) (fun _ _ x _ => nw - (RowKit.intOf x).toNat)
        case atStart => exact ⟨0, none, rfl, rfl, rfl, by omega, rfl, hid (by simp)⟩
        case round =>
          obtain ⟨i, mo, rfl, rfl, rfl, hi, hw1, hr⟩ := hrel
          obtain rfl := hw1.symm
          by_cases hlt : i < nw
          · obtain ⟨b, off, hae, hc⟩ := hWr.some_of (by omega)
            subst hae
            obtain ⟨ky, vl, hmem, hd, c0, c1⟩ := hc.at i (by rw [hwn.out]; exact hlt)
            have hiI : (i : Int) < (nw : Int) := by omega
            have hgt := fun (w : World) => str_gtr (P := Tryz.prog) w 9 ky ah
            have hup := hid (by rw [hr.out, hd.out, mnK_cons] : mnK f ah none all = mnK f ah (upK f ah mo ky) (all.drop (i + 1)))
            clear hr hd hmem
            cases hG : gtK f ah ky
            · -- not behind
              have hf0 : f = false := by unfold gtK at hG; cases f; rfl; simp at hG
              subst hf0
              have hkc : decide (kc ah ky < 0) = false := by simpa [gtK] using hG
              rw [hkc] at hgt
              have E := hid (by rw [hup.out]; unfold upK; rw [hG]; rfl : mnK false ah none all = mnK false ah mo (all.drop (i + 1)))
              clear hup hG hkc
              go_wp2
              go_roundw
              case rel => exact ⟨i + 1, mo, rfl, rfl, by go_num, by omega, by first | rfl | trivial, E⟩
              case measure => simp [RowKit.intOf]; omega
            · have hfk : f = true ∨ (f = false ∧ decide (kc ah ky < 0) = true) := by
                unfold gtK at hG
                cases f
                · exact .inr ⟨rfl, by simpa using hG⟩
                · exact .inl rfl
              cases mo with
              | none =>
                have E := hid (by rw [hup.out]; unfold upK; rw [hG]; rfl : mnK f ah none all = mnK f ah (some ky) (all.drop (i + 1)))
                clear hup hG
                rcases hfk with rfl | ⟨rfl, hkc⟩
                · go_wp2
                  go_roundw
                  case rel => exact ⟨i + 1, some ky, rfl, rfl, by go_num, by omega, by first | rfl | trivial, E⟩
                  case measure => simp [RowKit.intOf]; omega
                · rw [hkc] at hgt
                  clear hkc
                  go_wp2
                  go_roundw
                  case rel => exact ⟨i + 1, some ky, rfl, rfl, by go_num, by omega, by first | rfl | trivial, E⟩
                  case measure => simp [RowKit.intOf]; omega
              | some m =>
                have hls := less_kc ky m
                have hlv : lastV (some m) = m := rfl
                rw [hlv]
                cases hk2 : decide (kc ky m < 0)
                · have E := hid (by rw [hup.out]; unfold upK lsK; rw [hG]; simp only [hk2]; rfl : mnK f ah none all = mnK f ah (some m) (all.drop (i + 1)))
                  rw [hk2] at hls
                  clear hup hG hk2 hlv
                  rcases hfk with rfl | ⟨rfl, hkc⟩
                  · go_wp2
                    go_roundw
                    case rel => exact ⟨i + 1, some m, rfl, rfl, by go_num, by omega, by first | rfl | trivial, E⟩
                    case measure => simp [RowKit.intOf]; omega
                  · rw [hkc] at hgt
                    clear hkc
                    go_wp2
                    go_roundw
                    case rel => exact ⟨i + 1, some m, rfl, rfl, by go_num, by omega, by first | rfl | trivial, E⟩
                    case measure => simp [RowKit.intOf]; omega
                · have E := hid (by rw [hup.out]; unfold upK lsK; rw [hG]; simp only [hk2]; rfl : mnK f ah none all = mnK f ah (some ky) (all.drop (i + 1)))
                  rw [hk2] at hls
                  clear hup hG hk2 hlv
                  rcases hfk with rfl | ⟨rfl, hkc⟩
                  · go_wp2
                    go_roundw
                    case rel => exact ⟨i + 1, some ky, rfl, rfl, by go_num, by omega, by first | rfl | trivial, E⟩
                    case measure => simp [RowKit.intOf]; omega
                  · rw [hkc] at hgt
                    clear hkc
                    go_wp2
                    go_roundw
                    case rel => exact ⟨i + 1, some ky, rfl, rfl, by go_num, by omega, by first | rfl | trivial, E⟩
                    case measure => simp [RowKit.intOf]; omega
          · obtain rfl : i = nw := by omega
            have hiI : ¬ (i : Int) < (i : Int) := by omega
            have E := hid (by rw [hr.out, show all.drop i = [] from List.drop_eq_nil_iff.mpr (by rw [hwn.out]; exact Nat.le_refl _)]; rfl : mnK f ah none all = mo)
            clear hr
            go_wp2
            go_meet
            case rel => exact ⟨rfl, mo, rfl, rfl, hid E.out.symm⟩
      case rest =>
        obtain ⟨hwd, mo, rfl, rfl, hmo⟩ := hcut
        obtain rfl := hwd.symm
        cases mo with
        | none =>
          have E : acc = RR := by rw [hacc2.out, hRR.out]; exact pref_end all f ah hmo.out.symm
          obtain ⟨ao, co, hvo, hpo⟩ := own_pys hown rfl
          subst hvo
          have hac9 := hacc.trans (hb.mono hacc.size)
          clear hacc2 hmo hown hRR
          subst E
          go_wp2
          all_goals go_ret
          all_goals exact ⟨_, _, _, rfl, hpo, hac9⟩
        | some m =>
          have hla := rlast_ok hWr (by omega) m
          have hps := pref_step all f ah m hmo.out.symm
          rw [← hRR.out, ← hacc2.out] at hps
          have hrl := hid (rem_less all f ah m hmo.out.symm)
          have hpl : (prefK false m RR).length ≤ 2000 := by have := List.length_filter_le (fun q : ByteArray × ByteArray => !gtK false m q.1) RR; unfold prefK; omega
          have hlv : lastV (some m) = m := rfl
          rw [hlv]
          clear hmo hacc2 hlv
          by_cases hap : ∃ v, lastK all m = some v ∧ v.size ≠ 0
          · obtain ⟨v, hlk, hv0⟩ := hap
            rw [hlk] at hps hla
            simp only at hps
            rw [if_neg hv0] at hps
            rw [show lastV (some v) = v from rfl, show lastB (some v) = true from decide_eq_true hv0] at hla
            have E := hid hps.symm
            have hpl2 : acc.length + 1 ≤ 2000 := by rw [hps, List.length_append] at hpl; simpa using hpl
            clear hps hlk hv0 hpl
            go_wp2_with (first
              | (go_at_call 83; refine hla.mono ?_; rintro e w5 ⟨rfl, hb5⟩; have how := own_below hb5 hown; have hbn := hb.trans (hb5.mono hb.size); have hbA := hbn.alloc hbn.size (.cells #[.string m, .string v] 50))
              | (at_builtin; refine wpList_append_own (P := Tryz.prog) _ rfl (.tmp 57) (.tmp 61) 24 rfl wc.heap.size 50 i0 (.agg #[.string ⟨#[]⟩, .string ⟨#[]⟩]) 2 32 Tryz.underlying24 hi0 hz0 hz1 hz2 rfl (by decide) _ _ _ rfl (how.alloc _) ⟨w5.heap.size, 0, none⟩ 1 1 [.string m, .string v] rfl rfl (pair_new w5 m v) (by intro z hz; simp at hz; rcases hz with rfl | rfl <;> rfl) (by unfold maxLen; omega) (by omega) hbA.size ?_; intro v' w6 hown' hgrow' _))
            go_roundw
            case rel =>
              refine ⟨_, m, false, acc ++ [(m, v)], rfl, rfl, rfl, ?_, by rw [List.length_append, List.length_cons, List.length_nil]; exact hpl2, ?_, E⟩
              · rw [pcs2_app, List.length_append]; exact hown'
              · exact hbA.grown hgrow' hbA.size (fun g hg => (how.lt g hg).1)
            case measure => exact hrl.out
          · have hps2 : prefK false m RR = acc := by
              rw [hps]
              cases hlk : lastK all m with
              | none => simp
              | some v =>
                have : v.size = 0 := Decidable.byContradiction fun h => hap ⟨v, hlk, h⟩
                simp only; rw [if_pos this]; simp
            have hlb : lastB (lastK all m) = false := by
              cases hlk : lastK all m with
              | none => rfl
              | some v =>
                have : v.size = 0 := Decidable.byContradiction fun h => hap ⟨v, hlk, h⟩
                exact decide_eq_false (fun h => h this)
            rw [hlb] at hla
            generalize lastV (lastK all m) = LV at *
            have E := hid hps2.symm
            clear hps hps2 hlb hap hpl
            go_wp2_with (go_at_call 83; refine hla.mono ?_; rintro e w5 ⟨rfl, hb5⟩; have how := own_below hb5 hown; have hbn := hb.trans (hb5.mono hb.size))
            go_roundw
            case rel => exact ⟨_, m, false, acc, rfl, rfl, rfl, how, hal, hbn, E⟩
            case measure => exact hrl.out

end Go.Proofs.YthnaanjhmehgcaaGreatDoor
