/-
  SLICES OF PAIRS AND THEIR CELLS; BLOCKS; THE DOCUMENT's WORD ON WHETHER PAIRS ARE THE SAME; A SLICE OF PAIRS THAT IS HANDED IN, OPENED. Conditions: none.
-/
import Derived.Test.YtbkgbnjiibhmhaaProg
import Derived.Test.YtbkgbnjiibhmhaaStrs
import Derived.BigRegion
import Derived.WalkMore
import Derived.BigQuiet
import Derived.Deep.RegionHeld3
import Derived.Lib.AppendStr
import Derived.Deep.SlicePairs
import Derived.OpenShut
import Derived.Lib.SmallJoins
import Derived.Laws.StructEq
import Derived.Lib.Bytealg
import Derived.Test.YtbkgbnjiibhmhaaMarked
import Derived.Laws.CopyRow
import Derived.Laws.AppendOwn
namespace Go.Proofs.Ytbkgbnjiibhmhaa
open Go.ChangeShapes Go.WideShapes Go.ChangeAt Go.RowKit Go.Lib
set_option linter.unusedVariables false
set_option maxRecDepth 20000

/-- the cells of pairs, from offset 'off' of block 'b' on -/
def PCells (w : World) (b off : Nat) (l : List (ByteArray × ByteArray)) : Prop :=
  ∀ i, i < l.length → w.cell? ⟨b, off + i * 2, none⟩ = some (.string (l.getD i (⟨#[]⟩, ⟨#[]⟩)).1) ∧ w.cell? ⟨b, off + i * 2 + 1, none⟩ = some (.string (l.getD i (⟨#[]⟩, ⟨#[]⟩)).2)
/-- the pairs that a slice value holds -/
def Pys (w : World) (a : Option Addr) (n c : Nat) (l : List (ByteArray × ByteArray)) : Prop :=
  l.length = n ∧ n ≤ c ∧ c ≤ 9223372036854775807 ∧ ((l = [] ∧ n = 0) ∨ (0 < n ∧ ∃ b off, a = some ⟨b, off, none⟩ ∧ PCells w b off l))
theorem PCells.below {w w' : World} (hb : Below w.heap.size w w') {b off : Nat} {l : List (ByteArray × ByteArray)} (h : PCells w b off l) : PCells w' b off l :=
  fun i hi => ⟨cell_later hb (h i hi).1, cell_later hb (h i hi).2⟩
theorem Pys.below {w w' : World} (hb : Below w.heap.size w w') {a : Option Addr} {n c : Nat} {l : List (ByteArray × ByteArray)} (h : Pys w a n c l) : Pys w' a n c l := by
  obtain ⟨h1, h2, h3, h4 | ⟨h0, b, off, rfl, hc⟩⟩ := h
  · exact ⟨h1, h2, h3, .inl h4⟩
  · exact ⟨h1, h2, h3, .inr ⟨h0, b, off, rfl, hc.below hb⟩⟩
theorem PCells.at {w : World} {b off : Nat} {l : List (ByteArray × ByteArray)} (h : PCells w b off l) (i : Nat) (hi : i < l.length) :
    ∃ k v : ByteArray, (k, v) ∈ l ∧ Hid (l.drop i = (k, v) :: l.drop (i + 1)) ∧ w.cell? ⟨b, off + i * 2, none⟩ = some (.string k) ∧ w.cell? ⟨b, off + i * 2 + 1, none⟩ = some (.string v) := by
  have := h i hi
  rw [List.getD_eq_getElem?_getD, List.getElem?_eq_getElem hi] at this
  exact ⟨l[i].1, l[i].2, List.getElem_mem hi, hid (List.drop_eq_getElem_cons hi), this.1, this.2⟩

end Go.Proofs.Ytbkgbnjiibhmhaa

namespace Go.Proofs.Ytbkgbnjiibhmhaa
open Go.ChangeShapes Go.WideShapes Go.ChangeAt Go.RowKit Go.Lib
set_option linter.unusedVariables false
set_option maxRecDepth 20000

/-- a block of cells -/
def Blk (w : World) (g : Nat) (cs : Array Value) (t : TypeId) : Prop := w.heap[g]? = some (.cells cs t (0, 0))
theorem Blk.lt {w : World} {g : Nat} {cs : Array Value} {t : TypeId} (h : Blk w g cs t) : g < w.heap.size := (Array.getElem?_eq_some_iff.mp h).1
theorem Blk.cell {w : World} {g : Nat} {cs : Array Value} {t : TypeId} (h : Blk w g cs t) (i : Nat) : w.cell? ⟨g, i, none⟩ = cs[i]? := Joins.cell_of_block h i
theorem Blk.free {w : World} {g : Nat} {cs : Array Value} {t : TypeId} (h : Blk w g cs t) (i : Nat) : w.frozen? ⟨g, i, none⟩ = false := Joins.unfrozen_of_block h i
theorem Blk.below {w w' : World} {g : Nat} {cs : Array Value} {t : TypeId} (h : Blk w g cs t) (hb : Below w.heap.size w w') : Blk w' g cs t := by
  have := h.lt
  unfold Blk at *
  rw [hb.block g this]; exact h
theorem Blk.new (w : World) (cs : Array Value) (t : TypeId) : Blk (w.alloc (.cells cs t)) w.heap.size cs t := by unfold Blk World.alloc; simp

theorem Bys.some_of {w : World} {a : Option Addr} {n c : Nat} {l : List Int} (h : Bys w a n c l) (h0 : 0 < n) : ∃ b off, a = some ⟨b, off, none⟩ := by
  obtain ⟨_, _, _, _, ⟨_, e⟩ | ⟨_, b, off, rfl, _⟩⟩ := h
  · omega
  · exact ⟨b, off, rfl⟩

end Go.Proofs.Ytbkgbnjiibhmhaa

namespace Go.Proofs.Ytbkgbnjiibhmhaa
open Go.ChangeShapes Go.WideShapes Go.ChangeAt Go.RowKit Go.Lib
set_option linter.unusedVariables false
set_option maxRecDepth 20000

theorem Blk.set {w : World} {g i : Nat} {cs : Array Value} {t : TypeId} (h : Blk w g cs t) (v : Value) : Blk (w.setCell ⟨g, i, none⟩ v) g (cs.setIfInBounds i v) t := Joins.block_setCell h v

end Go.Proofs.Ytbkgbnjiibhmhaa

namespace Go.Proofs.Ytbkgbnjiibhmhaa
open Go.ChangeShapes Go.WideShapes Go.ChangeAt Go.RowKit Go.Lib
set_option linter.unusedVariables false
set_option maxRecDepth 20000

/-- the cells of pairs -/
def pcs2 (l : List (ByteArray × ByteArray)) : List Value := l.flatMap fun p => [.string p.1, .string p.2]
theorem pcs2_len (l : List (ByteArray × ByteArray)) : (pcs2 l).length = l.length * 2 := by
  unfold pcs2
  induction l with
  | nil => rfl
  | cons p t ih => rw [List.flatMap_cons, List.length_append, ih, List.length_cons]; simp; omega
theorem pcs2_app (l : List (ByteArray × ByteArray)) (k v : ByteArray) : pcs2 (l ++ [(k, v)]) = pcs2 l ++ [.string k, .string v] := by unfold pcs2; simp
theorem pcs2_at : ∀ (l : List (ByteArray × ByteArray)) (i : Nat), i < l.length → (pcs2 l)[i * 2]? = some (.string (l.getD i (⟨#[]⟩, ⟨#[]⟩)).1) ∧ (pcs2 l)[i * 2 + 1]? = some (.string (l.getD i (⟨#[]⟩, ⟨#[]⟩)).2)
  | p :: t, 0, _ => ⟨rfl, rfl⟩
  | p :: t, i + 1, h => by
    have ih := pcs2_at t i (by simpa using h)
    have e : pcs2 (p :: t) = .string p.1 :: .string p.2 :: pcs2 t := rfl
    rw [e, show (i + 1) * 2 = i * 2 + 1 + 1 by omega]
    exact ⟨by simpa using ih.1, by simpa using ih.2⟩

theorem own_pys {w : World} {B n : Nat} {v : Value} {l : List (ByteArray × ByteArray)} (h : w.ownsRow B 37 2 v n (pcs2 l)) (hl : l.length = n) : ∃ a c, v = .slice a n c ∧ Pys w a n c l := by
  rcases h.2 with ⟨rfl, rfl⟩ | ⟨g, cap, cur, rfl, hb, hg, hnc, hcm, hcs, htake⟩
  · have : l = [] := by simpa using hl
    subst this
    exact ⟨none, 0, rfl, rfl, by omega, by omega, .inl ⟨rfl, rfl⟩⟩
  · refine ⟨_, cap, rfl, hl, hnc, by unfold maxLen at hcm; omega, ?_⟩
    rcases Nat.eq_zero_or_pos n with e | e
    · exact .inl ⟨by subst e; simpa using hl, e⟩
    · refine .inr ⟨e, g, 0, rfl, fun i hi => ?_⟩
      obtain ⟨p1, p2⟩ := pcs2_at l i hi
      have l2 := pcs2_len l
      have key : ∀ j, j < n * 2 → w.cell? ⟨g, j, none⟩ = (pcs2 l)[j]? := by
        intro j hj
        have hc : w.cell? ⟨g, j, none⟩ = cur[j]? := by simp [World.cell?, hg]
        rw [hc, ← htake, List.getElem?_take_of_lt hj, Array.getElem?_toList]
      rw [Nat.zero_add]
      exact ⟨(key _ (by omega)).trans p1, (key _ (by omega)).trans p2⟩

end Go.Proofs.Ytbkgbnjiibhmhaa

namespace Go.Proofs.Ytbkgbnjiibhmhaa
open Go.ChangeShapes Go.WideShapes Go.ChangeAt Go.RowKit Go.Lib
set_option linter.unusedVariables false
set_option linter.unusedSimpArgs false
set_option maxRecDepth 20000

/-- the bytes of all texts -/
def totN : List (ByteArray × ByteArray) → Nat
  | [] => 0
  | p :: t => p.1.size + p.2.size + totN t

theorem tot_drop (l : List (ByteArray × ByteArray)) : ∀ i, totN (l.drop i) ≤ totN l := by
  induction l with
  | nil => intro i; simp
  | cons p t ih =>
    intro i
    cases i with
    | zero => simp
    | succ i => have := ih i; rw [List.drop_succ_cons, totN]; omega

end Go.Proofs.Ytbkgbnjiibhmhaa

namespace Go.Proofs.Ytbkgbnjiibhmhaa
open Go.ChangeShapes Go.WideShapes Go.ChangeAt Go.RowKit Go.Lib
set_option linter.unusedVariables false
set_option linter.unusedSimpArgs false
set_option maxRecDepth 20000

theorem tot_le (M : Nat) : ∀ l : List (ByteArray × ByteArray), (∀ p ∈ l, p.1.size ≤ M ∧ p.2.size ≤ M) → totN l ≤ l.length * (2 * M)
  | [], _ => by simp [totN]
  | p :: t, h => by
    obtain ⟨h1, h2⟩ := h p (List.mem_cons_self ..)
    have := tot_le M t fun q hq => h q (List.mem_cons_of_mem _ hq)
    rw [totN, List.length_cons, Nat.add_mul]
    omega
end Go.Proofs.Ytbkgbnjiibhmhaa

namespace Go.Proofs.Ytbkgbnjiibhmhaa
open Go.ChangeShapes Go.WideShapes Go.ChangeAt Go.RowKit Go.Lib Go.Deep
set_option linter.unusedVariables false
set_option maxRecDepth 20000

theorem cellsPair : Try.prog.cellsOf 37 = 2 := by kernel_rfl
theorem cellsStr : Try.prog.cellsOf 9 = 1 := by kernel_rfl

theorem weights_all {H : Type} {P : Program} {e : TypeId} : ∀ {l : List (DataW H)} {d : DataW H}, d ∈ l → ∀ n ∈ d.weights P e, n ∈ DataW.weightsAll P e l
  | d0 :: l, d, h, n, hn => by
    simp only [DataW.weightsAll, List.mem_append]
    rcases List.mem_cons.1 h with rfl | h
    · exact Or.inl hn
    · exact Or.inr (weights_all h n hn)

def strV (v : Value) : ByteArray := match v with | .string s => s | _ => ⟨#[]⟩

theorem open_pairs {H : Type} {enc : TypeId × Value → H} {W : World} {fuel : Nat} {a : Option Addr} {n c : Nat} {d : DataW H} {p : List MemPlace}
    (hf : DataW.trod enc Try.prog W 0 (fun _ => true) true fuel 24 [.slice a n c] = some (d, p)) :
    ∃ l, Pys W a n c l ∧ (∀ q ∈ l, q.1.size ∈ d.weights Try.prog 24 ∧ q.2.size ∈ d.weights Try.prog 24) := by
  rcases open_slice_pairs Try.underlying24 Try.underlying37 cellsPair rfl rfl cellsStr cellsStr hf with ⟨hcs, hx⟩ | ⟨a', len, cap, m, k, V0, V1, D0, D1, P0, P1, hcs, _, hl, hm, hmm, hx, hall⟩
  · simp only [List.cons.injEq, and_true, Value.slice.injEq] at hcs
    obtain ⟨rfl, rfl, rfl⟩ := hcs
    exact ⟨[], ⟨rfl, Nat.le_refl _, by omega, .inl ⟨rfl, rfl⟩⟩, fun q hq => by cases hq⟩
  · simp only [List.cons.injEq, and_true, Value.slice.injEq] at hcs
    obtain ⟨rfl, rfl, rfl⟩ := hcs
    simp only [if_true] at hmm
    simp only [Prod.mk.injEq] at hx
    obtain ⟨rfl, rfl⟩ := hx
    have key : ∀ i, i < n → V0 i = .string (strV (V0 i)) ∧ V1 i = .string (strV (V1 i)) ∧ D0 i = .lit (.string (strV (V0 i)).data.toList) ∧ D1 i = .lit (.string (strV (V1 i)).data.toList) := fun i hi => by
      obtain ⟨_, _, t0, t1⟩ := hall i (by omega)
      obtain ⟨s, e0, x0, _⟩ := DataW.trod_string Try.underlying9 t0
      obtain ⟨s', e1, x1, _⟩ := DataW.trod_string Try.underlying9 t1
      simp only [List.cons.injEq, and_true] at e0 e1
      simp only [Prod.mk.injEq] at x0 x1
      rw [e0, e1]
      exact ⟨rfl, rfl, x0.1, x1.1⟩
    refine ⟨(List.range n).map fun i => (strV (V0 i), strV (V1 i)), ⟨by simp, hl, by unfold maxLen at hm; omega, ?_⟩, ?_⟩
    · rcases Nat.eq_zero_or_pos n with e | e
      · subst e; exact .inl ⟨rfl, rfl⟩
      · obtain ⟨sb, so, spot⟩ := a'
        have hspot : spot = none := by simpa [Addr.add] using World.cell?_spot (hall 0 (by omega)).1
        subst hspot
        refine .inr ⟨e, sb, so, rfl, fun i hi => ?_⟩
        have hi' : i < n := by simpa using hi
        obtain ⟨k0, k1, _, _⟩ := key i hi'
        obtain ⟨g0, g1, _, _⟩ := hall i (by omega)
        have eg : (List.map (fun i => (strV (V0 i), strV (V1 i))) (List.range n)).getD i (⟨#[]⟩, ⟨#[]⟩) = (strV (V0 i), strV (V1 i)) := by
          rw [List.getD_eq_getElem?_getD, List.getElem?_map, List.getElem?_range hi']; rfl
        rw [eg]
        rw [k0] at g0
        rw [k1] at g1
        rw [show ∀ j, (⟨sb, so, none⟩ : Addr).add j = ⟨sb, so + j, none⟩ from fun j => by simp [Addr.add]] at g0 g1
        exact ⟨g0, by rw [Nat.add_assoc]; exact g1⟩
    · intro q hq
      obtain ⟨i, hi, rfl⟩ := List.mem_map.1 hq
      have hi' := List.mem_range.1 hi
      obtain ⟨_, _, k0, k1⟩ := key i hi'
      have hin : DataW.agg [D0 i, D1 i] ∈ (List.range n).map fun i => DataW.agg [D0 i, D1 i] := List.mem_map.2 ⟨i, hi, rfl⟩
      have hw : ∀ x ∈ (DataW.agg [D0 i, D1 i]).weights Try.prog 37, x ∈ DataW.weights Try.prog 24 (DataW.slice ((List.range n).map fun i => DataW.agg [D0 i, D1 i]) ((List.range (m - n)).map fun j => DataW.agg [D0 (n + j), D1 (n + j)])) := by
        intro x hx
        rw [DataW.weights, Try.underlying24]
        exact List.mem_cons_of_mem _ (List.mem_append_left _ (weights_all hin x hx))
      have h2 : (DataW.agg [D0 i, D1 i]).weights Try.prog 37 = [(strV (V0 i)).size, (strV (V1 i)).size] := by
        rw [DataW.weights, Try.underlying37, k0, k1]
        rfl
      rw [h2] at hw
      exact ⟨hw _ (by simp), hw _ (by simp)⟩

end Go.Proofs.Ytbkgbnjiibhmhaa

namespace Go.Proofs.Ytbkgbnjiibhmhaa
open Go.ChangeShapes Go.WideShapes Go.ChangeAt Go.RowKit Go.Lib
set_option linter.unusedVariables false
set_option linter.unusedSimpArgs false
set_option maxRecDepth 20000

theorem pair_neq (w : World) (k v k2 v2 : ByteArray) : (binOp .neq 37 (.agg #[.string k, .string v]) (.agg #[.string k2, .string v2])).run Try.prog w = .ok (.bool (!decide (k = k2 ∧ v = v2))) w := by
  have e1 : ∀ a b : ByteArray, (a.toList == b.toList) = decide (a = b) := by
    intro a b
    rw [Bool.eq_iff_iff]
    rw [str_beq]; simp
  have hf : Try.prog.underlying 37 = some (.struct (Try.prog.fieldsOf 37)) := by kernel_rfl
  have hs : Try.prog.stoodInHeld 37 = false := by kernel_rfl
  rw [run_neq_struct, run_equalIn_agg w 9999 37 _ _ hf hs]
  simp [go_sem, Program.fieldsOf, Try.underlying37, Try.underlying9, Op.eqFields]
  have e2 : ∀ a b : ByteArray, (a.toList = b.toList) ↔ a = b := fun a b => by
    have := e1 a b
    rw [Bool.eq_iff_iff] at this
    simpa using this
  simp only [e2]
  by_cases h1 : k = k2 <;> by_cases h2 : v = v2 <;> simp [h1, h2]

theorem Pys.some_of {w : World} {a : Option Addr} {n c : Nat} {l : List (ByteArray × ByteArray)} (h : Pys w a n c l) (h0 : 0 < n) : ∃ b off, a = some ⟨b, off, none⟩ ∧ PCells w b off l := by
  obtain ⟨_, _, _, ⟨_, e⟩ | ⟨_, b, off, rfl, hc⟩⟩ := h
  · omega
  · exact ⟨b, off, rfl, hc⟩

set_option maxHeartbeats 4000000 in
theorem same_ok {w : World} {a1 a2 : Option Addr} {n1 c1 n2 c2 : Nat} {l1 l2 : List (ByteArray × ByteArray)} (h1 : Pys w a1 n1 c1 l1) (h2 : Pys w a2 n2 c2 l2) :
    Calls Try.prog 14 #[.slice a1 n1 c1, .slice a2 n2 c2] w fun e w' => e = .returned (.bool (decide (l1 = l2))) ∧ Below w.heap.size w w' := by
  have hm1 := h1.2.1
  have hm2 := h1.2.2.1
  have hm3 := h2.2.1
  have hm4 := h2.2.2.1
  by_cases hn : n1 = n2
  · subst hn
    have hI : ((n1 : Int) != (n1 : Int)) = false := by simp
    rcases Nat.eq_zero_or_pos n1 with e | e
    · have e1 : l1 = [] := by have := h1.1; rw [e] at this; simpa using this
      have e2 : l2 = [] := by have := h2.1; rw [e] at this; simpa using this
      subst e1 e2 e
      clear h1 h2
      go_enter Try.func14, Try.ntmps14
      go_wp2
      refine wp_loop_rounds 1 ?_
      rw [rounds_succ]
      go_wp2
      go_ret
      exact ⟨rfl, Below.refl _ _⟩
    · obtain ⟨b1, o1, rfl, hc1⟩ := h1.some_of e
      obtain ⟨b2, o2, rfl, hc2⟩ := h2.some_of e
      obtain ⟨q, hq⟩ : ∃ q, q = decide (l1 = l2) := ⟨_, rfl⟩
      rw [← hq]
      have hl1 := hid h1.1
      have hl2 := hid h2.1
      replace hq := hid hq
      clear h1 h2
      go_enter Try.func14, Try.ntmps14
      go_wp2
      go_loopw [5] (fun x wr => ∃ k : Nat, x = .int .i64 k ∧ k ≤ n1 ∧ Below w.heap.size w wr ∧ Hid (q = decide (l1.drop k = l2.drop k))) (fun x _ => n1 - (RowKit.intOf x).toNat)
      case atStart => exact ⟨0, rfl, by omega, Below.refl _ _, hid hq.out⟩
      case round =>
        obtain ⟨k, rfl, hk, hb, hr⟩ := hrel
        by_cases hlt : k < n1
        · obtain ⟨k1, v1, -, d1, x0, x1⟩ := (hc1.below hb).at k (by rw [hl1.out]; exact hlt)
          obtain ⟨k2, v2, -, d2, y0, y1⟩ := (hc2.below hb).at k (by rw [hl2.out]; exact hlt)
          have hkI : (k : Int) < (n1 : Int) := by omega
          have hcmp := fun w => pair_neq w k1 v1 k2 v2
          by_cases he : k1 = k2 ∧ v1 = v2
          · have E := hid (by rw [hr.out, d1.out, d2.out, he.1, he.2]; simp : q = decide (l1.drop (k + 1) = l2.drop (k + 1)))
            rw [decide_eq_true he] at hcmp
            clear hr d1 d2 he
            go_wp2
            go_region
            go_wp2
            go_roundw
            case rel => exact ⟨k + 1, by go_num, by omega, hb.drew, E⟩
            case measure => simp [RowKit.intOf]; omega
          · have E : q = false := by rw [hr.out, d1.out, d2.out, decide_eq_false (by simp; intro e1 e2; exact absurd ⟨e1, e2⟩ he)]
            rw [decide_eq_false he] at hcmp
            clear hr d1 d2 he
            go_wp2
            go_region
            go_wp2
            go_ret
            exact ⟨ret_bool (by rw [E]), hb.drew⟩
        · obtain rfl : k = n1 := by omega
          have E : q = true := by
            rw [hr.out, List.drop_eq_nil_iff.mpr (by rw [hl1.out]; exact Nat.le_refl _), List.drop_eq_nil_iff.mpr (by rw [hl2.out]; exact Nat.le_refl _)]; rfl
          clear hr
          go_wp2
          go_ret
          exact ⟨ret_bool (by rw [E]), hb⟩
  · have hne : l1 ≠ l2 := fun e => hn (by rw [← h1.1, ← h2.1, e])
    rw [decide_eq_false hne]
    have hI : ((n1 : Int) != (n2 : Int)) = true := by simp; omega
    clear h1 h2 hne hn
    go_enter Try.func14, Try.ntmps14
    go_wp2
    go_ret
    exact ⟨rfl, Below.refl _ _⟩

end Go.Proofs.Ytbkgbnjiibhmhaa

namespace Go.Proofs.Ytbkgbnjiibhmhaa
open Go.ChangeShapes Go.WideShapes Go.ChangeAt Go.RowKit Go.Lib
set_option linter.unusedVariables false
set_option linter.unusedSimpArgs false
set_option maxRecDepth 20000

/-- pairs -/
abbrev PL := List (ByteArray × ByteArray)
end Go.Proofs.Ytbkgbnjiibhmhaa

namespace Go.Proofs.Ytbkgbnjiibhmhaa
open Go.ChangeShapes Go.WideShapes Go.ChangeAt Go.RowKit Go.Lib
set_option linter.unusedVariables false
set_option linter.unusedSimpArgs false
set_option maxRecDepth 20000

/-- a row of pairs that the call owns: its block -/
structure PRow (w : World) (B g n cap : Nat) (l : List (ByteArray × ByteArray)) (cur : Array Value) : Prop where
  len : l.length = n
  base : B ≤ g
  blk : w.heap[g]? = some (.cells cur 37 (0, 0))
  nc : n ≤ cap
  cm : cap ≤ 9223372036854775807
  size : cur.size = cap * 2
  take : cur.toList.take (n * 2) = pcs2 l

theorem PRow.of {w : World} {B g n cap : Nat} {l : List (ByteArray × ByteArray)} (h : w.ownsRow B 37 2 (.slice (some ⟨g, 0, none⟩) n cap) n (pcs2 l)) : ∃ cur, PRow w B g n cap l cur := by
  have hl : l.length = n := by have := h.1; rw [pcs2_len] at this; omega
  rcases h.2 with ⟨h0, _⟩ | ⟨g', cap', cur, hv, hb, hg, h1, h2, h3, h4⟩
  · cases h0
  · cases hv
    exact ⟨cur, hl, hb, hg, h1, by unfold maxLen at h2; omega, h3, h4⟩
theorem PRow.cell {w : World} {B g n cap : Nat} {l : List (ByteArray × ByteArray)} {cur : Array Value} (h : PRow w B g n cap l cur) (j : Nat) : w.cell? ⟨g, j, none⟩ = cur[j]? := by simp [World.cell?, h.blk]
theorem pcs2_drop (l : List (ByteArray × ByteArray)) : ∀ i, (pcs2 l).drop (i * 2) = pcs2 (l.drop i) := by
  induction l with
  | nil => intro i; simp [pcs2]
  | cons p t ih =>
    intro i
    cases i with
    | zero => simp
    | succ i =>
      have e : pcs2 (p :: t) = .string p.1 :: .string p.2 :: pcs2 t := rfl
      rw [e, show (i + 1) * 2 = i * 2 + 1 + 1 by omega, List.drop_succ_cons, List.drop_succ_cons, ih, List.drop_succ_cons]
theorem pcs2_take (l : List (ByteArray × ByteArray)) : ∀ i, (pcs2 l).take (i * 2) = pcs2 (l.take i) := by
  induction l with
  | nil => intro i; simp [pcs2]
  | cons p t ih =>
    intro i
    cases i with
    | zero => simp [pcs2]
    | succ i =>
      have e : pcs2 (p :: t) = .string p.1 :: .string p.2 :: pcs2 t := rfl
      rw [e, show (i + 1) * 2 = i * 2 + 1 + 1 by omega, List.take_succ_cons, List.take_succ_cons, ih, List.take_succ_cons]
      rfl
theorem pcs2_one (l : List (ByteArray × ByteArray)) : ∀ u ∈ pcs2 l, u.oneCell' = true := by
  intro u hu
  unfold pcs2 at hu
  obtain ⟨p, _, h⟩ := List.mem_flatMap.1 hu
  simp at h
  rcases h with rfl | rfl <;> rfl
end Go.Proofs.Ytbkgbnjiibhmhaa

namespace Go.Proofs.Ytbkgbnjiibhmhaa
open Go.ChangeShapes Go.WideShapes Go.ChangeAt Go.RowKit Go.Lib
set_option linter.unusedVariables false
set_option linter.unusedSimpArgs false
set_option maxRecDepth 20000

theorem pcs2_set : ∀ (l : PL) (i : Nat) (k v : ByteArray), i < l.length → ((pcs2 l).set (i * 2) (.string k)).set (i * 2 + 1) (.string v) = pcs2 (l.take i ++ (k, v) :: l.drop (i + 1))
  | p :: t, 0, k, v, _ => rfl
  | p :: t, i + 1, k, v, h => by
    have ih := pcs2_set t i k v (by simpa using h)
    have e : ∀ x, pcs2 (p :: x) = .string p.1 :: .string p.2 :: pcs2 x := fun _ => rfl
    rw [e, show (i + 1) * 2 = i * 2 + 1 + 1 by omega, List.set_cons_succ, List.set_cons_succ, List.set_cons_succ, List.set_cons_succ, ih, List.take_succ_cons, List.drop_succ_cons, List.cons_append, e]

end Go.Proofs.Ytbkgbnjiibhmhaa

namespace Go.Proofs.Ytbkgbnjiibhmhaa
open Go.ChangeShapes Go.WideShapes Go.ChangeAt Go.RowKit Go.Lib Go.Deep

theorem pairs_nil {H : Type} {enc : TypeId × Value → H} {W : World} {fuel : Nat} {a : Option Addr} {n c : Nat} {d : DataW H} {p : List MemPlace}
    (hf : DataW.trod enc Try.prog W 0 (fun _ => true) true fuel 24 [.slice a n c] = some (d, p)) : a = none → n = 0 ∧ c = 0 := by
  rcases open_slice_pairs Try.underlying24 Try.underlying37 cellsPair rfl rfl cellsStr cellsStr hf with ⟨hcs, hx⟩ | ⟨a', len, cap, m, k, V0, V1, D0, D1, P0, P1, hcs, _⟩
  · simp only [List.cons.injEq, and_true, Value.slice.injEq] at hcs
    exact fun _ => ⟨hcs.2.1, hcs.2.2⟩
  · simp only [List.cons.injEq, and_true, Value.slice.injEq] at hcs
    intro h
    rw [h] at hcs
    cases hcs.1

end Go.Proofs.Ytbkgbnjiibhmhaa
namespace Go.Proofs.Ytbkgbnjiibhmhaa
open Go.ChangeShapes Go.WideShapes Go.ChangeAt Go.RowKit Go.Lib
theorem pys_news {w : World} {x : Addr} {n c : Nat} {l : PL} (h : Pys w (some x) n c l) : ∀ j u, (pcs2 l)[j]? = some u → w.cell? (x.add j) = some u := by
  obtain ⟨hl, hlc, hm, ⟨rfl, rfl⟩ | ⟨h0, b, off, e, hc⟩⟩ := h
  · intro j u hj; simp [pcs2] at hj
  · intro j u hj
    simp only [Option.some.injEq] at e
    subst e
    have hjl : j < l.length * 2 := by have := (List.getElem?_eq_some_iff.1 hj).1; rwa [pcs2_len] at this
    obtain ⟨p1, p2⟩ := pcs2_at l (j / 2) (by omega)
    obtain ⟨c1, c2⟩ := hc (j / 2) (by omega)
    rw [Addr.add_lit]
    rcases Nat.mod_two_eq_zero_or_one j with e | e
    · have hj2 : j / 2 * 2 = j := by omega
      rw [hj2] at p1 c1
      rw [c1, ← p1, hj]
    · have hj2 : j / 2 * 2 + 1 = j := by omega
      rw [hj2] at p2
      rw [show off + j / 2 * 2 + 1 = off + j by omega] at c2
      rw [c2, ← p2, hj]

end Go.Proofs.Ytbkgbnjiibhmhaa
