/-
  A PAIR TAKEN AWAY OUT OF A ROW OF PAIRS THAT THE CALL OWNS (slices.Delete). Conditions: none but that it is there.
-/
import Derived.Test.YtkocnbdakfhpaaaDoorRw2
import Derived.Test.YtkocnbdakfhpaaaDoorPrs
import Derived.Deep.RegionLaw
namespace Go.Proofs.YtkocnbdakfhpaaaDoor
open Go.ChangeShapes Go.WideShapes Go.ChangeAt Go.RowKit Go.Lib
set_option linter.unusedVariables false
set_option linter.unusedSimpArgs false
set_option maxRecDepth 20000

theorem below_setRow {B : Nat} {a w : World} (h : Below B a w) {g : Nat} (hg : B ≤ g) (cs : Array Value) : Below B a (w.setRow g cs) :=
  ⟨h.os, h.tape, h.output, by have := h.size; simpa [World.setRow] using this, fun k hk => (setRow_other w g k cs (by omega)).trans (h.block k hk)⟩

/-- a row of pairs that the call owns: its block -/
structure PRow (w : World) (B g n cap : Nat) (l : List (ByteArray × ByteArray)) (cur : Array Value) : Prop where
  len : l.length = n
  base : B ≤ g
  blk : w.heap[g]? = some (.cells cur 37 (0, 0))
  nc : n ≤ cap
  cm : cap ≤ 9223372036854775807
  size : cur.size = cap * 2
  take : cur.toList.take (n * 2) = pcs2 l

theorem PRow.of {w : World} {B g n cap : Nat} {l : List (ByteArray × ByteArray)} (h : w.ownsRow B 37 2 (.slice (some ⟨g, 0, none⟩) n cap) n (pcs2 l)) : ∃ cur, PRow w B g n cap l cur := by
  have hl : l.length = n := by have := h.1; rw [pcs2_len] at this; omega
  rcases h.2 with ⟨h0, _⟩ | ⟨g', cap', cur, hv, hb, hg, h1, h2, h3, h4⟩
  · cases h0
  · cases hv
    exact ⟨cur, hl, hb, hg, h1, by unfold maxLen at h2; omega, h3, h4⟩
theorem PRow.own {w : World} {B g n cap : Nat} {l : List (ByteArray × ByteArray)} {cur : Array Value} (h : PRow w B g n cap l cur) : w.ownsRow B 37 2 (.slice (some ⟨g, 0, none⟩) n cap) n (pcs2 l) :=
  ⟨by rw [pcs2_len, h.len], .inr ⟨g, cap, cur, rfl, h.base, h.blk, h.nc, by have := h.cm; unfold maxLen; omega, h.size, h.take⟩⟩
theorem PRow.cell {w : World} {B g n cap : Nat} {l : List (ByteArray × ByteArray)} {cur : Array Value} (h : PRow w B g n cap l cur) (j : Nat) : w.cell? ⟨g, j, none⟩ = cur[j]? := by simp [World.cell?, h.blk]
theorem pcs2_drop (l : List (ByteArray × ByteArray)) : ∀ i, (pcs2 l).drop (i * 2) = pcs2 (l.drop i) := by
  induction l with
  | nil => intro i; simp [pcs2]
  | cons p t ih =>
    intro i
    cases i with
    | zero => simp
    | succ i =>
      have e : pcs2 (p :: t) = .string p.1 :: .string p.2 :: pcs2 t := rfl
      rw [e, show (i + 1) * 2 = i * 2 + 1 + 1 by omega, List.drop_succ_cons, List.drop_succ_cons, ih, List.drop_succ_cons]
theorem pcs2_take (l : List (ByteArray × ByteArray)) : ∀ i, (pcs2 l).take (i * 2) = pcs2 (l.take i) := by
  induction l with
  | nil => intro i; simp [pcs2]
  | cons p t ih =>
    intro i
    cases i with
    | zero => simp [pcs2]
    | succ i =>
      have e : pcs2 (p :: t) = .string p.1 :: .string p.2 :: pcs2 t := rfl
      rw [e, show (i + 1) * 2 = i * 2 + 1 + 1 by omega, List.take_succ_cons, List.take_succ_cons, ih, List.take_succ_cons]
      rfl
theorem pcs2_cat (a b : List (ByteArray × ByteArray)) : pcs2 (a ++ b) = pcs2 a ++ pcs2 b := by unfold pcs2; simp
theorem pcs2_one (l : List (ByteArray × ByteArray)) : ∀ u ∈ pcs2 l, u.oneCell' = true := by
  intro u hu
  unfold pcs2 at hu
  obtain ⟨p, _, h⟩ := List.mem_flatMap.1 hu
  simp at h
  rcases h with rfl | rfl <;> rfl
/-- the cells from an element on -/
theorem PRow.from {w : World} {B g n cap : Nat} {l : List (ByteArray × ByteArray)} {cur : Array Value} (h : PRow w B g n cap l cur) (i : Nat) (hi : i ≤ n) : ∀ j u, (pcs2 (l.drop i))[j]? = some u → w.cell? ⟨g, i * 2 + j, none⟩ = some u := by
  intro j u hj
  rw [← pcs2_drop, List.getElem?_drop] at hj
  have hlt : i * 2 + j < n * 2 := by
    have := (List.getElem?_eq_some_iff.1 hj).1
    rw [pcs2_len, h.len] at this
    exact this
  rw [h.cell, ← Array.getElem?_toList, ← List.getElem?_take_of_lt hlt, h.take]
  exact hj
theorem PRow.head {w : World} {B g n cap : Nat} {l : List (ByteArray × ByteArray)} {cur : Array Value} (h : PRow w B g n cap l cur) (i : Nat) (hi : i ≤ n) : cur.toList.take (i * 2) = pcs2 (l.take i) := by
  have := congrArg (List.take (i * 2)) h.take
  rwa [List.take_take, Nat.min_eq_left (by omega), pcs2_take] at this

theorem zeroPair : ∀ w, (zeroValue 37).run Tryd.prog w = .ok (.agg #[.string ⟨#[]⟩, .string ⟨#[]⟩]) w := by
  intro w
  obtain ⟨i0, hi, hz0, hz1, hz2⟩ := info_parts infoPair
  simp [zeroValue, typeInfo, hi, hz0]

set_option maxHeartbeats 4000000 in
theorem del_ok {w : World} {B g n cap : Nat} {l : List (ByteArray × ByteArray)} (h : w.ownsRow B 37 2 (.slice (some ⟨g, 0, none⟩) n cap) n (pcs2 l)) (i : Nat) (hi : i < n) :
    Calls Tryd.prog 56 #[.slice (some ⟨g, 0, none⟩) n cap, .int .i64 i, .int .i64 (i + 1 : Int)] w fun e w' =>
      e = .returned (.slice (some ⟨g, 0, none⟩) (n - 1) cap) ∧ w'.ownsRow B 37 2 (.slice (some ⟨g, 0, none⟩) (n - 1) cap) (n - 1) (pcs2 (l.take i ++ l.drop (i + 1))) ∧ Below B w w' := by
  obtain ⟨cur, R⟩ := PRow.of h
  obtain ⟨i0, hi0, hz0, hz1, hz2⟩ := info_parts infoPair
  have hnc := R.nc
  have hcm := R.cm
  have hcs := R.size
  have hln := R.len
  obtain ⟨news, hnews⟩ : ∃ news, news = pcs2 (l.drop (i + 1)) := ⟨_, rfl⟩
  have hnl : news.length = (n - (i + 1)) * i0.size := by rw [hnews, pcs2_len, List.length_drop, R.len, hz1]
  have hn1 : ∀ u ∈ news, u.oneCell' = true := by rw [hnews]; exact pcs2_one _
  have hnl2 : news.length = (n - (i + 1)) * 2 := by rw [hnl, hz1]
  obtain ⟨A, hA, hsrc⟩ : ∃ A : Addr, (if cap = i + 1 then some (⟨g, 0, none⟩ : Addr) else some ⟨g, (i + 1) * 2, none⟩) = some A ∧ Hid (∀ j u, news[j]? = some u → w.drew.cell? (A.add j) = some u) := by
    by_cases hc : cap = i + 1
    · refine ⟨⟨g, 0, none⟩, by simp [hc], hid fun j u hu => ?_⟩
      have h0 : news.length = 0 := by rw [hnl2]; omega
      rw [List.length_eq_zero_iff.1 h0] at hu
      simp at hu
    · refine ⟨⟨g, (i + 1) * 2, none⟩, by simp [hc], hid fun j u hu => ?_⟩
      rw [Addr.add_lit]
      exact R.from (i + 1) (by omega) j u (by rw [← hnews]; exact hu)
  obtain ⟨C1, hC1⟩ : ∃ C1, C1 = (cur.toList.take (i * i0.size) ++ news ++ cur.toList.drop (i * i0.size + news.length)).toArray := ⟨_, rfl⟩
  have happ := fun ty => run_append_room (P := Tryd.prog) w.drew 24 ty 37 i0 Tryd.underlying24 hi0 g i cap cur R.blk A (n - (i + 1)) (cap - (i + 1)) news hnl hsrc.out hn1 (by omega) (by rw [hz1, hnl2, hcs]; omega)
  rw [← hC1, show i + (n - (i + 1)) = n - 1 by omega] at happ
  obtain ⟨W1, hW1⟩ : ∃ W1, W1 = w.drew.setRow g C1 := ⟨_, rfl⟩
  rw [← hW1] at happ
  have hC1s : C1.size = cap * 2 := by
    rw [hC1]
    simp only [List.size_toArray, List.length_append, List.length_take, List.length_drop, Array.length_toList]
    rw [hz1, hnl2, hcs]; omega
  have hblk1 : W1.heap[g]? = some (.cells C1 37 (0, 0)) := by rw [hW1]; exact setRow_heap w.drew g cur C1 37 (0, 0) R.blk
  have hclr := fun ty c => run_clear_one (P := Tryd.prog) W1 24 37 ty Tryd.underlying24 zeroPair g ((n - 1) * 2) c C1 37 hblk1 (by rw [hC1s]; omega)
  obtain ⟨C2, hC2⟩ : ∃ C2, C2 = (C1.toList.take ((n - 1) * 2) ++ [Value.string ⟨#[]⟩, Value.string ⟨#[]⟩] ++ C1.toList.drop ((n - 1) * 2 + 2)).toArray := ⟨_, rfl⟩
  rw [← hC2] at hclr
  have hC2s : C2.size = cap * 2 := by
    rw [hC2]
    simp only [List.size_toArray, List.length_append, List.length_take, List.length_drop, Array.length_toList, List.length_cons, List.length_nil]
    rw [hC1s]; omega
  have R2 : PRow (W1.setRow g C2) B g (n - 1) cap (l.take i ++ l.drop (i + 1)) C2 := by
    refine ⟨?_, R.base, setRow_heap W1 g C1 C2 37 (0, 0) hblk1, by omega, hcm, hC2s, ?_⟩
    · rw [List.length_append, List.length_take, List.length_drop, R.len]; omega
    · have e1 : C1.toList.take ((n - 1) * 2) = pcs2 (l.take i ++ l.drop (i + 1)) := by
        rw [hC1, List.toList_toArray, hz1, R.head i (by omega), hnews, ← pcs2_cat, List.take_append_of_le_length (by rw [pcs2_len, List.length_append, List.length_take, List.length_drop, R.len]; omega), List.take_of_length_le (by rw [pcs2_len, List.length_append, List.length_take, List.length_drop, R.len]; omega)]
      rw [hC2, List.toList_toArray, List.append_assoc, List.take_append_of_le_length (by rw [List.length_take, Array.length_toList, hC1s]; omega), List.take_of_length_le (by rw [List.length_take]; omega), e1]
  have hbel : Below B w (W1.setRow g C2) := by
    have hb1 : Below B w W1 := by rw [hW1]; exact below_setRow (Below.refl B w).drew R.base C1
    exact below_setRow hb1 R.base C2
  have hown := hid R2.own
  clear R2 hC2 hC1 hC1s hC2s hblk1 hnl hnl2 hn1 hnews R h hsrc
  replace hW1 := hid hW1
  have hiI : (i : Int) < (n : Int) := by omega
  have h01 : (0 : Int) ≤ (i : Int) + 1 := by omega
  have hic : i ≤ cap := by omega
  have hjc : i + 1 ≤ cap := by omega
  have hjn : i + 1 ≤ n := by omega
  have hic2 : (i : Int) ≤ (cap : Int) := by omega
  have hjc2 : (i : Int) + 1 ≤ (cap : Int) := by omega
  have hjn2 : (i : Int) + 1 ≤ (n : Int) := by omega
  have hk1 : n - (n - 1) = 1 := by omega
  have hk2 : n - 1 ≤ n := by omega
  have hk3 : ¬ cap = n - 1 := by omega
  have hne : ((i : Int) == (i : Int) + 1) = false := by simp; omega
  go_enter Tryd.func56, Tryd.ntmps56
  go_wp2_with fail
  go_region_law (refine step_append_run rfl (.tmp 22) (.tmp 25) 24 24 rfl _ _ (by simp [Act.eval, Act.put]) (by simp [Act.eval, Act.put]) (happ _) ?_)
  go_wp2_with (at_builtin; refine wpList_clear_run _ rfl (.tmp 31) 24 rfl _ rfl (hclr _ _) ?_)
  go_ret
  exact ⟨rfl, hown.out, hbel⟩

end Go.Proofs.YtkocnbdakfhpaaaDoor
