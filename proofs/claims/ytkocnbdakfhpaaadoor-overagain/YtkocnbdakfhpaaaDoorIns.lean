/-
  A PAIR PUT INTO A ROW OF PAIRS THAT THE CALL OWNS (slices.Insert of one pair). Conditions: how many pairs there are.
-/
import Derived.Test.YtkocnbdakfhpaaaDoorDel
import Derived.Test.YtkocnbdakfhpaaaDoorFst
import Derived.Lib.Overlaps
import Derived.Laws.Externs
namespace Go.Proofs.YtkocnbdakfhpaaaDoor
open Go.ChangeShapes Go.WideShapes Go.ChangeAt Go.RowKit Go.Lib
set_option linter.unusedVariables false
set_option linter.unusedSimpArgs false
set_option maxRecDepth 20000

theorem run_append_zeros_grow {P : Program} (w : World) (t tn ty e : TypeId) (i : TypeInfo) (z : Value) (ht : P.underlying t = some (.slice e)) (htn : P.underlying tn = some (.int .i64)) (hi : P.info? e = some i) (hz : i.zero = some z)
    (b : Addr) (sLen sCap : Nat) (olds : List Value) (hlo : olds.length = sLen * i.size) (holds : ∀ j v, olds[j]? = some v → w.cell? (b.add j) = some v)
    (n : Nat) (h0 : 0 < n) (hs : 0 < i.size) (hg : sCap < sLen + n) (h63 : ((sLen + n : Nat) : Int) ≤ 9223372036854775807) (hm : n * i.bytes ≤ 281474976710656) (hfit : Builtin.nextslicecap (sLen + n) sCap * i.bytes ≤ 281474976710656) :
    (Builtin.append_ #[t, tn] ty #[.slice (some b) sLen sCap, .int .i64 n]).run P w =
      .ok (.slice (some ⟨w.heap.size, 0, none⟩) (sLen + n) (grownCap w (sLen + n) sCap e))
        (w.drew.alloc (.cells (olds.toArray ++ Builtin.zeroCells z.cells n ++ Builtin.zeroCells z.cells (grownCap w (sLen + n) sCap e - (sLen + n))) e)) := by
  have hn : ¬ (sLen + n ≤ sCap) := by omega
  have hw : IntKind.i64.wrap (n : Int) = n := by rw [IntKind.wrap_i64]; omega
  have h63' : ¬ (9223372036854775807 < ((sLen : Int) + (n : Int))) := by omega
  have h48' : ¬ (281474976710656 < Builtin.nextslicecap (sLen + n) sCap * i.bytes) := by omega
  have h48i : ¬ (281474976710656 < (n : Int) * (i.bytes : Int)) := by
    rw [← Int.natCast_mul]
    omega
  have hneg : ¬ ((n : Int) < 0) := by omega
  have hns : ¬ (n * i.size = 0) := Nat.mul_ne_zero (by omega) (by omega)
  have hn0 : n ≠ 0 := by omega
  have hfo := run_firstCells_some (P := P) w.drew i.size sLen b sLen sCap olds hlo (by simpa using holds)
  simp [Builtin.append_, run_underlying ht, run_underlying htn, sizeOf, typeInfo, zeroValue, hi, hz, asInt, asIntOf, hw, hn, hn0, hneg, hns, h63', h48', h48i, Question.forced, hfo, newRow, grownCap]

theorem pcs2_mid (l : List (ByteArray × ByteArray)) (i : Nat) (k v : ByteArray) : pcs2 (l.take i ++ (k, v) :: l.drop i) = pcs2 (l.take i) ++ ([Value.string k, Value.string v] ++ pcs2 (l.drop i)) := by
  rw [pcs2_cat]; rfl
theorem pair_src {w : World} {vb : Nat} {k v : ByteArray} (h : Blk w vb #[.string k, .string v] 37) : ∀ j u, ([.string k, .string v] : List Value)[j]? = some u → w.cell? ((⟨vb, 0, none⟩ : Addr).add j) = some u := by
  intro j u hj
  rw [Addr.add_lit, h.cell]
  match j, hj with
  | 0, hj => simpa using hj
  | 1, hj => simpa using hj
theorem pair_one (k v : ByteArray) : ∀ u ∈ ([.string k, .string v] : List Value), u.oneCell' = true := by
  intro u hu; simp at hu; rcases hu with rfl | rfl <;> rfl

set_option maxHeartbeats 4000000 in
theorem ins_end {w : World} {B n vb : Nat} {o : Value} {l : List (ByteArray × ByteArray)} {k v : ByteArray} (h : w.ownsRow B 37 2 o n (pcs2 l)) (hn : n ≤ 1000000) (hB : B ≤ w.heap.size) (hv : Blk w vb #[.string k, .string v] 37) :
    Calls Tryd.prog 57 #[o, .int .i64 n, .slice (some ⟨vb, 0, none⟩) 1 1] w fun e w' =>
      ∃ o', e = .returned o' ∧ w'.ownsRow B 37 2 o' (n + 1) (pcs2 (l ++ [(k, v)])) ∧ Below B w w' := by
  obtain ⟨i0, hi0, hz0, hz1, hz2⟩ := info_parts infoPair
  have hsrc := pair_src hv
  have h1 := pair_one k v
  have hlt := h.lt
  rcases h.2 with ⟨rfl, rfl⟩ | ⟨g, cap, cur, rfl, hb, hg, hnc, hcm, hcs, htk⟩
  · go_enter Tryd.func57, Tryd.ntmps57
    go_wp2_with (at_builtin; refine wpList_append_own (P := Tryd.prog) _ rfl (.tmp 23) (.tmp 24) 24 rfl B 37 i0 (.agg #[.string ⟨#[]⟩, .string ⟨#[]⟩]) 2 32 Tryd.underlying24 hi0 hz0 hz1 hz2 rfl (by decide) _ _ _ rfl h ⟨vb, 0, none⟩ 1 1 [.string k, .string v] rfl rfl hsrc h1 (by unfold maxLen; omega) (by omega) hB ?_; intro v' w3 hown' hgrow' _)
    all_goals go_ret
    all_goals exact ⟨_, rfl, by rw [pcs2_app]; exact hown', (Below.refl B w).grown hgrow' hB (fun g hg => (hlt g hg).1)⟩
  · unfold maxLen at hcm
    have hz9 : n ≤ cap := hnc
    have hzc : (n : Int) ≤ (cap : Int) := by omega
    go_enter Tryd.func57, Tryd.ntmps57
    go_wp2_with (at_builtin; refine wpList_append_own (P := Tryd.prog) _ rfl (.tmp 23) (.tmp 24) 24 rfl B 37 i0 (.agg #[.string ⟨#[]⟩, .string ⟨#[]⟩]) 2 32 Tryd.underlying24 hi0 hz0 hz1 hz2 rfl (by decide) _ _ _ rfl h ⟨vb, 0, none⟩ 1 1 [.string k, .string v] rfl rfl hsrc h1 (by unfold maxLen; omega) (by omega) hB ?_; intro v' w3 hown' hgrow' _)
    all_goals go_ret
    all_goals exact ⟨_, rfl, by rw [pcs2_app]; exact hown', (Below.refl B w).grown hgrow' hB (fun g hg => (hlt g hg).1)⟩

set_option maxHeartbeats 4000000 in
theorem ins_shift {w : World} {B g n cap vb : Nat} {l : List (ByteArray × ByteArray)} {k v : ByteArray} (h : w.ownsRow B 37 2 (.slice (some ⟨g, 0, none⟩) n cap) n (pcs2 l)) (i : Nat) (hi : i < n) (hroom : n + 1 ≤ cap) (hv : Blk w vb #[.string k, .string v] 37) (hne : vb ≠ g) :
    Calls Tryd.prog 57 #[.slice (some ⟨g, 0, none⟩) n cap, .int .i64 i, .slice (some ⟨vb, 0, none⟩) 1 1] w fun e w' =>
      ∃ o', e = .returned o' ∧ w'.ownsRow B 37 2 o' (n + 1) (pcs2 (l.take i ++ (k, v) :: l.drop i)) ∧ Below B w w' := by
  obtain ⟨cur, R⟩ := PRow.of h
  obtain ⟨i0, hi0, hz0, hz1, hz2⟩ := info_parts infoPair
  have hnc := R.nc
  have hcm := R.cm
  have hcs := R.size
  obtain ⟨N, hN⟩ : ∃ N, N = pcs2 (l.drop i) := ⟨_, rfl⟩
  have hNl : N.length = (n - i) * 2 := by rw [hN, pcs2_len, List.length_drop, R.len]
  have hN1 : ∀ u ∈ N, u.oneCell' = true := by rw [hN]; exact pcs2_one _
  have hov : ∀ lb cb, (callFunc 73 #[.slice (some ⟨vb, 0, none⟩) 1 1, .slice (some ⟨g, (i + 1) * 2, none⟩) lb cb]).run Tryd.prog w = .ok (.value (.bool false)) w := fun lb cb => by
    rw [run_callFunc_extern Tryd.func73 (by kernel_rfl) (by kernel_rfl) (by kernel_rfl) (e := Extern.SlicesOverlaps.overlaps #[24, 24] #[4]) (by kernel_rfl),
      Lib.run_overlaps_apart w 24 4 37 Tryd.underlying24 2 (by intro w; simp [sizeOf, typeInfo, hi0, hz1]) ⟨vb, 0, none⟩ ⟨g, (i + 1) * 2, none⟩ 1 1 lb cb hne 37 37 2 (cap * 2) ?_ ?_ (by omega) (hv.free 0) ?_]
    · rfl
    · unfold World.shape?; rw [hv]; try rfl
    · unfold World.shape?; rw [R.blk, ← hcs]; try rfl
    · exact hv.free 2
  obtain ⟨C1, hC1⟩ : ∃ C1, C1 = (cur.toList.take ((i + 1) * 2) ++ N ++ cur.toList.drop ((i + 1) * 2 + N.length)).toArray := ⟨_, rfl⟩
  have hmin : Nat.min (n + 1 - i) (n - i) = n - i := Nat.min_eq_right (by omega)
  have hcp1 := fun ty dc sc => run_copy_rowS (P := Tryd.prog) w.drew 24 24 ty 37 g ((i + 1) * 2) (n - i) dc ⟨g, i * 2, none⟩ (n + 1 - i) sc cur 37 N i0 Tryd.underlying24 hi0 R.blk
    (by rw [hNl, hz1, hmin]) (fun j u hj => by rw [Addr.add_lit]; exact R.from i (by omega) j u (by rw [← hN]; exact hj)) (by rw [hNl, hcs]; omega) hN1
  rw [← hC1] at hcp1
  have hC1s : C1.size = cap * 2 := by
    rw [hC1]
    simp only [List.size_toArray, List.length_append, List.length_take, List.length_drop, Array.length_toList]
    rw [hNl, hcs]; omega
  have hblk1 : (w.drew.setRow g C1).heap[g]? = some (.cells C1 37 (0, 0)) := setRow_heap w.drew g cur C1 37 (0, 0) R.blk
  have hv1 : Blk (w.drew.setRow g C1) vb #[.string k, .string v] 37 := by unfold Blk; rw [setRow_other _ _ _ _ hne]; exact hv
  obtain ⟨W1, hW1⟩ : ∃ W1, W1 = w.drew.setRow g C1 := ⟨_, rfl⟩
  rw [← hW1] at hcp1 hblk1 hv1
  obtain ⟨C2, hC2⟩ : ∃ C2, C2 = (C1.toList.take (i * 2) ++ [Value.string k, Value.string v] ++ C1.toList.drop (i * 2 + 2)).toArray := ⟨_, rfl⟩
  have hcp2 := fun ty dc => run_copy_rowS (P := Tryd.prog) W1 24 24 ty 37 g (i * 2) (n + 1 - i) dc ⟨vb, 0, none⟩ 1 1 C1 37 [Value.string k, Value.string v] i0 Tryd.underlying24 hi0 hblk1
    (by rw [hz1, show Nat.min 1 (n + 1 - i) = 1 from Nat.min_eq_left (by omega)]; rfl) (pair_src hv1) (by rw [hC1s]; simp; omega) (pair_one k v)
  rw [show ([Value.string k, Value.string v] : List Value).length = 2 from rfl, ← hC2] at hcp2
  have hC2s : C2.size = cap * 2 := by
    rw [hC2]
    simp only [List.size_toArray, List.length_append, List.length_take, List.length_drop, Array.length_toList, List.length_cons, List.length_nil]
    rw [hC1s]; omega
  have R2 : PRow (W1.setRow g C2) B g (n + 1) cap (l.take i ++ (k, v) :: l.drop i) C2 := by
    refine ⟨?_, R.base, setRow_heap W1 g C1 C2 37 (0, 0) hblk1, by omega, hcm, hC2s, ?_⟩
    · rw [List.length_append, List.length_take, List.length_cons, List.length_drop, R.len]; omega
    · have e1 : C1.toList.take (i * 2) = pcs2 (l.take i) := by
        rw [hC1, List.toList_toArray, List.append_assoc, List.take_append_of_le_length (by rw [List.length_take, Array.length_toList, hcs]; omega), List.take_take, Nat.min_eq_left (by omega), R.head i (by omega)]
      have e2 : C1.toList.drop (i * 2 + 2) = N ++ cur.toList.drop ((i + 1) * 2 + N.length) := by
        rw [hC1, List.toList_toArray, List.append_assoc]
        exact List.drop_left' (by rw [List.length_take, Array.length_toList, hcs]; omega)
      rw [hC2, List.toList_toArray, e1, e2, pcs2_mid, ← hN, List.append_assoc, ← List.append_assoc [Value.string k, Value.string v], ← List.append_assoc]
      exact List.take_left' (by rw [List.length_append, List.length_append, pcs2_len, List.length_take, hNl, R.len]; simp; omega)
  have hbel : Below B w (W1.setRow g C2) := by
    have hb1 : Below B w W1 := by rw [hW1]; exact below_setRow (Below.refl B w).drew R.base C1
    exact below_setRow hb1 R.base C2
  have hown := hid R2.own
  rw [hmin] at hcp1
  clear R2 hC2 hC1 hC1s hC2s hblk1 hNl hN1 hN R h hv hv1 hmin
  replace hW1 := hid hW1
  have hz1' : ((1 : Int) == 0) = false := rfl
  have hiI : (i : Int) < (n : Int) := by omega
  have hiN : ((i : Int) == (n : Int)) = false := by simp; omega
  have hrI : ¬ (cap : Int) < (n : Int) + 1 := by omega
  have hw1 : IntKind.i64.wrap ((i : Int) + 1) = (i : Int) + 1 := by rw [IntKind.wrap_i64]; omega
  have htn : ((i : Int) + 1).toNat = i + 1 := by omega
  have q1 : i ≤ n := by omega
  have q2 : ¬ cap = i := by omega
  have q3 : ¬ cap = i + 1 := by omega
  have q4 : (0 : Int) ≤ (i : Int) + 1 := by omega
  have q5 : (0 : Int) ≤ (n : Int) + 1 := by omega
  have q6 : (i : Int) + 1 ≤ (n : Int) + 1 := by omega
  have q7 : (n : Int) + 1 ≤ (cap : Int) := by omega
  have q8 : (i : Int) ≤ (n : Int) + 1 := by omega
  go_enter Tryd.func57, Tryd.ntmps57
  go_wp2_with (simp only [hov])
  go_region_law (refine step_copy_run rfl _ _ 24 24 rfl _ _ (by simp [Act.eval, Act.put]) (by simp [Act.eval, Act.put]) (hcp1 _ _ _) ?_)
  go_wp2_with (at_builtin; refine wpList_copy_run _ rfl _ _ 24 24 rfl _ _ rfl rfl (hcp2 _ _) ?_)
  go_ret
  exact ⟨_, rfl, hown.out, hbel⟩

set_option maxHeartbeats 4000000 in
theorem ins_grow {w : World} {B g n cap vb : Nat} {l : List (ByteArray × ByteArray)} {k v : ByteArray} (h : w.ownsRow B 37 2 (.slice (some ⟨g, 0, none⟩) n cap) n (pcs2 l)) (i : Nat) (hi : i < n) (hn : n ≤ 1000000) (hroom : ¬ n + 1 ≤ cap) (hB : B ≤ w.heap.size) (hv : Blk w vb #[.string k, .string v] 37) :
    Calls Tryd.prog 57 #[.slice (some ⟨g, 0, none⟩) n cap, .int .i64 i, .slice (some ⟨vb, 0, none⟩) 1 1] w fun e w' =>
      ∃ o', e = .returned o' ∧ w'.ownsRow B 37 2 o' (n + 1) (pcs2 (l.take i ++ (k, v) :: l.drop i)) ∧ Below B w w' := by
  obtain ⟨cur, R⟩ := PRow.of h
  obtain ⟨i0, hi0, hz0, hz1, hz2⟩ := info_parts infoPair
  have hnc := R.nc
  have hcm := R.cm
  have hcs := R.size
  have hgl : g < w.heap.size := (Array.getElem?_eq_some_iff.1 R.blk).1
  have hvl : vb < w.heap.size := hv.lt
  obtain ⟨N, hN⟩ : ∃ N, N = pcs2 (l.drop i) := ⟨_, rfl⟩
  have hNl : N.length = (n - i) * 2 := by rw [hN, pcs2_len, List.length_drop, R.len]
  have hN1 : ∀ u ∈ N, u.oneCell' = true := by rw [hN]; exact pcs2_one _
  obtain ⟨A, hA⟩ : ∃ A, A = pcs2 (l.take i) := ⟨_, rfl⟩
  have hAl : A.length = i * 2 := by rw [hA, pcs2_len, List.length_take, R.len]; omega
  have hAs : ∀ j u, A[j]? = some u → w.cell? ((⟨g, 0, none⟩ : Addr).add j) = some u := by
    intro j u hj
    have hjl : j < i * 2 := by rw [← hAl]; exact (List.getElem?_eq_some_iff.1 hj).1
    rw [Addr.add_lit, Nat.zero_add, R.cell, ← Array.getElem?_toList, ← List.getElem?_take_of_lt hjl, R.head i (by omega), ← hA]
    exact hj
  have hin : i + (n + 1 - i) = n + 1 := by omega
  have hbig := growslice_fits (need := n + 1) (old := cap) (bytes := 32) (by omega) (by omega)
  have happ := fun ty => run_append_zeros_grow (P := Tryd.prog) w 24 3 ty 37 i0 _ Tryd.underlying24 Tryd.underlying3 hi0 hz0 ⟨g, 0, none⟩ i cap A (by rw [hAl, hz1]) hAs (n + 1 - i) (by omega) (by rw [hz1]; decide) (by omega) (by rw [hin]; omega) (by rw [hz2]; omega) (by rw [hin, hz2]; exact hbig)
  rw [hin] at happ
  obtain ⟨cp, hcp⟩ : ∃ cp, cp = grownCap w (n + 1) cap 37 := ⟨_, rfl⟩
  rw [← hcp] at happ
  have hge : n + 1 ≤ cp := by rw [hcp]; exact grownCap_ge w (n + 1) cap 37
  have hle : cp ≤ 9223372036854775807 := by
    have := grownCap_le_maxLen w (n + 1) cap 37 (by unfold maxLen; omega)
    rw [← hcp] at this; unfold maxLen at this; omega
  obtain ⟨Z, hZ⟩ : ∃ Z, Z = (Builtin.zeroCells (Value.agg #[.string ⟨#[]⟩, .string ⟨#[]⟩]).cells (n + 1 - i)).toList ++ (Builtin.zeroCells (Value.agg #[.string ⟨#[]⟩, .string ⟨#[]⟩]).cells (cp - (n + 1))).toList := ⟨_, rfl⟩
  obtain ⟨C1, hC1⟩ : ∃ C1, C1 = (A.toArray ++ Builtin.zeroCells (Value.agg #[.string ⟨#[]⟩, .string ⟨#[]⟩]).cells (n + 1 - i) ++ Builtin.zeroCells (Value.agg #[.string ⟨#[]⟩, .string ⟨#[]⟩]).cells (cp - (n + 1))) := ⟨_, rfl⟩
  rw [← hC1] at happ
  have hsz2 : (Value.agg #[.string ⟨#[]⟩, .string ⟨#[]⟩]).cells.size = 2 := rfl
  have hC1l : C1.toList = A ++ Z := by rw [hC1, hZ]; simp
  have hZl : Z.length = cp * 2 - i * 2 := by rw [hZ, List.length_append, Array.length_toList, Array.length_toList, size_zeroCells, size_zeroCells, hsz2]; omega
  have hC1s : C1.size = cp * 2 := by rw [← Array.length_toList, hC1l, List.length_append, hAl, hZl]; omega
  have hblk1 : (w.drew.alloc (.cells C1 37)).heap[w.heap.size]? = some (.cells C1 37 (0, 0)) := heap_alloc_new w.drew _
  have hv1 : Blk (w.drew.alloc (.cells C1 37)) vb #[.string k, .string v] 37 := by unfold Blk; rw [Below.heap_alloc w.drew _ vb hvl]; exact hv
  have hg1 : (w.drew.alloc (.cells C1 37)).heap[g]? = some (.cells cur 37 (0, 0)) := by rw [Below.heap_alloc w.drew _ g hgl]; exact R.blk
  have hb1 : Below B w (w.drew.alloc (.cells C1 37)) := (Below.refl B w).drew.alloc hB _
  obtain ⟨W1, hW1⟩ : ∃ W1, W1 = w.drew.alloc (.cells C1 37) := ⟨_, rfl⟩
  rw [← hW1] at happ hblk1 hv1 hb1 hg1
  obtain ⟨G, hG⟩ : ∃ G, G = w.heap.size := ⟨_, rfl⟩
  rw [← hG] at happ hblk1
  have hBG : B ≤ G := by omega
  obtain ⟨C2, hC2⟩ : ∃ C2, C2 = (C1.toList.take (i * 2) ++ [Value.string k, Value.string v] ++ C1.toList.drop (i * 2 + 2)).toArray := ⟨_, rfl⟩
  have hcp2 := fun ty dc => run_copy_rowS (P := Tryd.prog) W1 24 24 ty 37 G (i * 2) (n + 1 - i) dc ⟨vb, 0, none⟩ 1 1 C1 37 [Value.string k, Value.string v] i0 Tryd.underlying24 hi0 hblk1
    (by rw [hz1, show Nat.min 1 (n + 1 - i) = 1 from Nat.min_eq_left (by omega)]; rfl) (pair_src hv1) (by rw [hC1s]; simp; omega) (pair_one k v)
  rw [show ([Value.string k, Value.string v] : List Value).length = 2 from rfl, ← hC2] at hcp2
  have hC2l : C2.toList = A ++ ([Value.string k, Value.string v] ++ Z.drop 2) := by
    rw [hC2, List.toList_toArray, hC1l, List.take_left' hAl, List.append_assoc, List.drop_append, List.drop_eq_nil_iff.2 (by omega), show i * 2 + 2 - A.length = 2 by omega]
    simp
  have hC2s : C2.size = cp * 2 := by rw [← Array.length_toList, hC2l, List.length_append, List.length_append, hAl, List.length_drop, hZl]; simp; omega
  have hblk2 : (W1.setRow G C2).heap[G]? = some (.cells C2 37 (0, 0)) := setRow_heap W1 G C1 C2 37 (0, 0) hblk1
  have hg2 : (W1.setRow G C2).heap[g]? = some (.cells cur 37 (0, 0)) := by rw [setRow_other _ _ _ _ (by omega)]; exact hg1
  have hb2 : Below B w (W1.setRow G C2) := below_setRow hb1 hBG C2
  obtain ⟨W2, hW2⟩ : ∃ W2, W2 = W1.setRow G C2 := ⟨_, rfl⟩
  rw [← hW2] at hcp2 hblk2 hg2 hb2
  have R2 : PRow W2 B g n cap l cur := ⟨R.len, R.base, hg2, R.nc, R.cm, R.size, R.take⟩
  obtain ⟨C3, hC3⟩ : ∃ C3, C3 = (C2.toList.take ((i + 1) * 2) ++ N ++ C2.toList.drop ((i + 1) * 2 + N.length)).toArray := ⟨_, rfl⟩
  have hmin : Nat.min (n - i) (n - i) = n - i := Nat.min_self _
  have hcp3 := fun ty dc sc => run_copy_rowS (P := Tryd.prog) W2.drew 24 24 ty 37 G ((i + 1) * 2) (n - i) dc ⟨g, i * 2, none⟩ (n - i) sc C2 37 N i0 Tryd.underlying24 hi0 hblk2
    (by rw [hNl, hz1, hmin]) (fun j u hj => by rw [Addr.add_lit]; exact R2.from i (by omega) j u (by rw [← hN]; exact hj)) (by rw [hNl, hC2s]; omega) hN1
  rw [← hC3, hmin] at hcp3
  have hC3l : C3.toList = A ++ ([Value.string k, Value.string v] ++ N) ++ C2.toList.drop ((i + 1) * 2 + N.length) := by
    have e1 : C2.toList.take ((i + 1) * 2) = A ++ [Value.string k, Value.string v] := by
      rw [hC2l, ← List.append_assoc]
      exact List.take_left' (by rw [List.length_append, hAl]; simp; omega)
    rw [hC3, List.toList_toArray, e1]; simp
  have R3 : PRow (W2.drew.setRow G C3) B G (n + 1) cp (l.take i ++ (k, v) :: l.drop i) C3 := by
    refine ⟨?_, hBG, setRow_heap W2.drew G C2 C3 37 (0, 0) hblk2, hge, hle, ?_, ?_⟩
    · rw [List.length_append, List.length_take, List.length_cons, List.length_drop, R.len]; omega
    · have hC2t : C2.toList.length = cp * 2 := by rw [Array.length_toList, hC2s]
      rw [← Array.length_toList, hC3l, List.length_append, List.length_append, List.length_append, hAl, hNl, List.length_drop, hC2t]; simp; omega
    · rw [hC3l, pcs2_mid, ← hN, ← hA]
      exact List.take_left' (by rw [List.length_append, List.length_append, hAl, hNl]; simp; omega)
  have hbel : Below B w (W2.drew.setRow G C3) := below_setRow hb2.drew hBG C3
  have hown := hid R3.own
  clear R3 R2 hC3 hC3l hC2 hC2l hC1 hC1l hC1s hC2s hblk1 hblk2 hNl hN1 hN R h hv hv1 hmin hA hAl hAs hZ hZl hg1 hg2 hb1 hb2 hbig hin hcp hsz2
  replace hW1 := hid hW1
  replace hW2 := hid hW2
  replace hG := hid hG
  have hiI : (i : Int) < (n : Int) := by omega
  have hiN : ((i : Int) == (n : Int)) = false := by simp; omega
  have hrI : (cap : Int) < (n : Int) + 1 := by omega
  have hw1 : IntKind.i64.wrap ((i : Int) + 1) = (i : Int) + 1 := by rw [IntKind.wrap_i64]; omega
  have htn : ((i : Int) + 1).toNat = i + 1 := by omega
  have hmk : (n : Int) + 1 - (i : Int) = ((n + 1 - i : Nat) : Int) := by omega
  have q1 : i ≤ n := by omega
  have q2 : ¬ cap = i := by omega
  have q2b : ¬ cp = i := by omega
  have q3 : ¬ cp = i + 1 := by omega
  have q4 : (0 : Int) ≤ (i : Int) + 1 := by omega
  have q5 : i ≤ n + 1 := by omega
  have q6 : (i : Int) + 1 ≤ (n : Int) + 1 := by omega
  have q8 : (i : Int) ≤ (n : Int) + 1 := by omega
  have q9 : i ≤ cap := by omega
  go_enter Tryd.func57, Tryd.ntmps57
  go_wp2_with (first
    | (at_builtin; refine wpList_append_run' _ rfl _ _ 24 3 rfl _ _ rfl rfl (happ _) ?_)
    | (at_builtin; refine wpList_copy_run _ rfl _ _ 24 24 rfl _ _ rfl rfl (hcp2 _ _) ?_))
  go_region_law (refine step_copy_run rfl _ _ 24 24 rfl _ _ (by simp [Act.eval, Act.put]) (by simp [Act.eval, Act.put]) (hcp3 _ _ _) ?_)
  go_wp2
  go_ret
  exact ⟨_, rfl, hown.out, hbel⟩

end Go.Proofs.YtkocnbdakfhpaaaDoor
