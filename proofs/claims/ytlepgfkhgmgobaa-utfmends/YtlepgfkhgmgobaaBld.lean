/-
  WHAT strings.Builder's WriteRune AND String DO with a builder that the call has made itself: the rune's bytes stand behind those it holds; String gives them; and what Mend gives, as a function of the text's bytes. No conditions but the length.
-/
import Derived.Test.YtlepgfkhgmgobaaProg
import Derived.Test.YtlepgfkhgmgobaaBase
import Derived.Shelf.RegionOpenPlain
import Derived.Lib.Builder
import Derived.Lib.UnsafeStr
import Derived.Laws.Externs
import Derived.Maps.AppendAt
import Derived.Lib.OthersKept
import Derived.Test.YtlepgfkhgmgobaaShelf
import Derived.Test.YtlepgfkhgmgobaaUtf
namespace Go.Proofs.Ytlepgfkhgmgobaa
open Go.Shelf Go.ChangeShapes Go.WideShapes Go.ChangeAt Go.RowKit
set_option linter.unusedVariables false

theorem Try.info5 : (Try.prog.info? 5).map (fun i => (i.zero, i.size, i.bytes)) = some (some (.int .u8 0), 1, 1) := by kernel_rfl
theorem Try.bldSize : (Try.prog.info? 36).map (fun i => i.size) = some 2 := by kernel_rfl
theorem Try.bldLies : liesAt Try.prog Try.prog.depth 36 (2 / Try.prog.cellsOf 36) 0 36 1 = true := by kernel_rfl
theorem Try.byteCell : Try.prog.cellsOf 5 = 1 := by kernel_rfl

/-- A builder of the call's own (block b, from B on) that holds the bytes l. -/
def Bld (B b : Nat) (l : List Int) (w : World) : Prop :=
  ∃ p v, (p = .pointer none ∨ p = .pointer (some ⟨b, 0, none⟩)) ∧ B ≤ b ∧ w.heap[b]? = some (.cells #[p, v] 36 (0, 0)) ∧
    w.ownsRow B 5 1 v l.length (u8s l) ∧ v.ownBlock ≠ some b ∧ (l = [] → v = .slice none 0 0)

theorem Bld.lt {B b : Nat} {l : List Int} {w : World} (h : Bld B b l w) : b < w.heap.size := by
  obtain ⟨p, v, _, _, hb, _⟩ := h
  rcases Nat.lt_or_ge b w.heap.size with h' | h'
  · exact h'
  · simp [Array.getElem?_eq_none h'] at hb

theorem Bld.fresh (w : World) (B : Nat) (hB : B ≤ w.heap.size) : Bld B w.heap.size [] (w.alloc (.cells #[.pointer none, .slice none 0 0] 36)) := by
  refine ⟨_, _, .inl rfl, hB, heap_alloc_new w _, ?_, by simp [Value.ownBlock], fun _ => rfl⟩
  exact ⟨rfl, .inl ⟨rfl, rfl⟩⟩

theorem Bld.alloc {B b : Nat} {l : List Int} {w : World} (h : Bld B b l w) (o : Obj) : Bld B b l (w.alloc o) := by
  have hlt := h.lt
  obtain ⟨p, v, hp, hB, hb, hown, hne, hnil⟩ := h
  exact ⟨p, v, hp, hB, by rw [Below.heap_alloc w o b hlt]; exact hb, hown.alloc o, hne, hnil⟩

theorem Bld.below {B b : Nat} {l : List Int} {w w' : World} (h : Bld B b l w) (hw : Below w.heap.size w w') : Bld B b l w' := by
  have hlt := h.lt
  obtain ⟨p, v, hp, hB, hb, hown, hne, hnil⟩ := h
  exact ⟨p, v, hp, hB, by rw [hw.block b hlt]; exact hb, own_below hw hown, hne, hnil⟩

set_option maxHeartbeats 1000000 in
set_option maxRecDepth 100000 in
theorem copy_used (b : Nat) (w : World) (h0 : w.cell? ⟨b, 0, none⟩ = some (.pointer (some ⟨b, 0, none⟩))) :
    Calls Try.prog 21 #[.pointer (some ⟨b, 0, none⟩)] w fun e w' => e = .returned (.tuple #[]) ∧ w' = w := by
  obtain ⟨j, hj, _⟩ := Option.map_eq_some_iff.1 Try.bldSize
  go_enter Try.func21, Try.ntmps21
  go_wp2
  rw [Lib.run_neq_ptr_same w _ Try.underlying34 hj]
  go_wp2
  go_end0
  exact ⟨rfl, rfl⟩

set_option maxHeartbeats 1000000 in
set_option maxRecDepth 100000 in
theorem copy_fresh (b : Nat) (w : World) (h0 : w.cell? ⟨b, 0, none⟩ = some (.pointer none)) (hsh : w.shape? b = some (36, 2)) (hfz : w.frozen? ⟨b, 0, none⟩ = false) :
    Calls Try.prog 21 #[.pointer (some ⟨b, 0, none⟩)] w fun e w' => e = .returned (.tuple #[]) ∧ w' = w.setCell ⟨b, 0, none⟩ (.pointer (some ⟨b, 0, none⟩)) := by
  obtain ⟨j, hj, hjs⟩ := Option.map_eq_some_iff.1 Try.bldSize
  go_enter Try.func21, Try.ntmps21
  go_wp2
  rw [Lib.run_to_unsafe w ⟨b, 0, none⟩ Try.underlying34 Try.underlying44 hj (by rw [hjs]; decide) hsh (Nat.zero_lt_succ 1)]
  simp only [Result.andThen]
  rw [Oper.upon_value]
  go_wp2
  rw [run_callFunc_extern Try.func23 (by kernel_rfl) (by kernel_rfl) (by kernel_rfl) (e := Extern.AbiNoEscape.same) (by kernel_rfl)]
  rw [Lib.run_noEscape]
  simp only [Result.andThen]
  rw [Oper.upon_value]
  go_wp2
  rw [Lib.run_from_unsafe w ⟨b, 0, none⟩ Try.underlying44 Try.underlying34 hj hsh Try.bldLies]
  simp only [Result.andThen]
  rw [Oper.upon_value]
  go_wp2
  go_end0
  exact ⟨rfl, rfl⟩

/-- What every writing method calls first: behind it the builder holds its own address; all but its own block is as it was. -/
theorem copy_chk {B b : Nat} {l : List Int} {w : World} (h : Bld B b l w) :
    Calls Try.prog 21 #[.pointer (some ⟨b, 0, none⟩)] w fun e w' => e = .returned (.tuple #[]) ∧
      (∃ v, w'.heap[b]? = some (.cells #[.pointer (some ⟨b, 0, none⟩), v] 36 (0, 0)) ∧ w'.ownsRow B 5 1 v l.length (u8s l) ∧ v.ownBlock ≠ some b) ∧
      Below B w w' ∧ w'.heap.size = w.heap.size ∧ Lib.OthersKept 5 (some b) w w' := by
  obtain ⟨p, v, hp, hB, hb, hown, hne, _⟩ := h
  rcases hp with rfl | rfl
  · refine (copy_fresh b w (by rw [Lib.cell_of_heap hb]; rfl) (by simp [World.shape?, hb]) (Lib.frozen_of_heap hb 0)).mono ?_
    rintro e w' ⟨rfl, rfl⟩
    refine ⟨rfl, ⟨v, ?_, ?_, hne⟩, (Below.refl B w).setCell (p := ⟨b, 0, none⟩) hB _, by simp [World.setCell], (Lib.OthersKept.refl 5 (some b) w).setCell ⟨b, 0, none⟩ rfl _⟩
    · simp [World.setCell, Array.getElem?_modify, hb]
    · exact hown.kept (row := some b) ⟨rfl, rfl, rfl, by simp [World.setCell], fun k _ hk => Below.heap_setCell _ _ _ _ (fun e => hk (by simp [e]))⟩ (Or.inr hne)
  · refine (copy_used b w (by rw [Lib.cell_of_heap hb]; rfl)).mono ?_
    rintro e w' ⟨rfl, rfl⟩
    exact ⟨rfl, ⟨v, hb, hown, hne⟩, Below.refl _ _, rfl, Lib.OthersKept.refl _ _ _⟩

theorem byteCells_nums (l : List Int) (hr : ∀ x ∈ l, 0 ≤ x ∧ x ≤ 255) : Lib.byteCells (l.map fun n : Int => UInt8.ofNat n.toNat) = u8s l := by
  unfold Lib.byteCells u8s
  rw [List.map_map]
  apply List.map_congr_left
  intro x hx
  have := hr x hx
  simp only [Function.comp_apply, UInt8.toNat_ofNat', Value.int.injEq, true_and]
  omega

set_option maxHeartbeats 2000000 in
set_option maxRecDepth 100000 in
theorem bstring {B b : Nat} {l : List Int} {w : World} (h : Bld B b l w) (hr : ∀ x ∈ l, 0 ≤ x ∧ x ≤ 255) :
    Calls Try.prog 19 #[.pointer (some ⟨b, 0, none⟩)] w fun e w' => e = .returned (.string (strOfNums l)) ∧ Below B w w' := by
  have mixed : Try.prog.follows .mixedOrders = true := by kernel_rfl
  obtain ⟨p, v, -, hB, hbk, hown, hne, hnil⟩ := h
  by_cases h0 : l = []
  · subst h0
    obtain rfl := hnil rfl
    have hUS : ∀ W, (Builtin.unsafeString_ #[43, 3] 9 #[.pointer none, .int .i64 0]).run Try.prog W = .ok (.string .empty) W := fun W => Lib.run_unsafeString_none W _ _ _ none
    have c1 : w.drew.cell? ⟨b, 1, none⟩ = some (.slice none 0 0) := by
      have : w.drew.heap[b]? = some (.cells #[p, .slice none 0 0] 36 (0, 0)) := hbk
      rw [Lib.cell_of_heap this]; rfl
    have hSD : (Builtin.unsafeSliceData_ #[22] 43 #[.slice none 0 0]).run Try.prog w.drew = .ok (.pointer none) w.drew := rfl
    go_enter Try.func19, Try.ntmps19
    go_wp2
    go_region_o
    all_goals (go_wp2; go_ret; exact ⟨rfl, Below.drew (Below.refl B w)⟩)
  · have hl0 : l.length ≠ 0 := by simpa using h0
    have hbc := byteCells_nums l hr
    have hd : (l.map fun n : Int => UInt8.ofNat n.toNat).length = l.length := by simp
    have hne0 : (l.map fun n : Int => UInt8.ofNat n.toNat) ≠ [] := by simpa using h0
    have hstr : strOfNums l = ⟨(l.map fun n : Int => UInt8.ofNat n.toNat).toArray⟩ := rfl
    rw [hstr]
    generalize (l.map fun n : Int => UInt8.ofNat n.toNat) = d at hbc hd hne0
    obtain ⟨g, cap, cur, rfl, hbg, hg, hnc, hcm, hcs, htake⟩ : ∃ g cap cur, v = .slice (some ⟨g, 0, none⟩) l.length cap ∧ B ≤ g ∧ w.heap[g]? = some (.cells cur 5 (0, 0)) ∧ l.length ≤ cap ∧ cap ≤ maxLen ∧ cur.size = cap * 1 ∧ cur.toList.take (l.length * 1) = u8s l := by
      rcases hown.2 with ⟨_, hz⟩ | ⟨g, cap, cur, hv, r⟩
      · exact absurd hz hl0
      · exact ⟨g, cap, cur, hv, r⟩
    have c1 : w.drew.cell? ⟨b, 1, none⟩ = some (.slice (some ⟨g, 0, none⟩) l.length cap) := by
      have : w.drew.heap[b]? = some (.cells #[p, .slice (some ⟨g, 0, none⟩) l.length cap] 36 (0, 0)) := hbk
      rw [Lib.cell_of_heap this]; rfl
    have hSD : (Builtin.unsafeSliceData_ #[22] 43 #[.slice (some ⟨g, 0, none⟩) l.length cap]).run Try.prog w.drew = .ok (.pointer (some ⟨g, 0, none⟩)) w.drew :=
      Lib.run_unsafeSliceData_row _ _ _ _ _ _ (by omega)
    have hUS : (Builtin.unsafeString_ #[43, 3] 9 #[.pointer (some ⟨g, 0, none⟩), .int .i64 l.length]).run Try.prog w.drew = .ok (.string ⟨d.toArray⟩) (w.drew.freeze ⟨g, 0, none⟩ l.length) := by
      rw [← hd]
      refine Lib.run_unsafeString_row w.drew 43 3 9 5 Try.underlying43 Try.byteCell g cur.size (by have hg' : w.drew.heap[g]? = some (.cells cur 5 (0, 0)) := hg; simp [World.shape?, hg']) d hne0 (by omega) (by unfold maxLen at hcm; omega) ?_
      intro j x hx
      have := hown.cells (g := g) rfl j (.int .u8 x.toNat) (by rw [← hbc]; simp [Lib.byteCells, hx])
      exact this
    clear hd
    go_enter Try.func19, Try.ntmps19
    go_wp2
    go_region_o
    all_goals (go_wp2; go_ret; exact ⟨rfl, Lib.below_freeze (Below.drew (Below.refl B w)) (p := ⟨g, 0, none⟩) hbg _⟩)


theorem cells_u8s (r : Int) : Lib.runeCells r = u8s (Lib.encodeRuneZ r) := rfl

theorem arune (B : Nat) (v : Value) (l : List Int) (r : Int) (hr0 : 0 ≤ r) (hr1 : r ≤ 2147483647) (w : World) (hown : w.ownsRow B 5 1 v l.length (u8s l)) (hlen : l.length + 4 ≤ 140737488355328) (hBw : B ≤ w.heap.size) :
    Calls Try.prog 22 #[v, .int .i32 r] w fun e w' => ∃ v', e = .returned v' ∧ w'.ownsRow B 5 1 v' (l ++ Lib.encodeRuneZ r).length (u8s (l ++ Lib.encodeRuneZ r)) ∧ ∃ o, (w.alloc o).grownBy w' v.ownBlock := by
  have h := Any.utf8_AppendRune_plain Try.lays242 Try.info5 B v l.length (u8s l) r (by omega) hr1 w hown hlen hBw
  rw [cells_u8s, u8s_app, u8s_len, Nat.mul_one, ← List.length_append] at h
  exact h

set_option maxHeartbeats 2000000 in
set_option maxRecDepth 100000 in
theorem wrune {B b : Nat} {l : List Int} (r : Int) (hr0 : 0 ≤ r) (hr1 : r ≤ 2147483647) {w : World} (h : Bld B b l w) (hlen : l.length + 4 ≤ 140737488355328) (hBw : B ≤ w.heap.size) :
    Calls Try.prog 18 #[.pointer (some ⟨b, 0, none⟩), .int .i32 r] w fun e w' => (∃ n : Int, e = .returned (.tuple #[.int .i64 n, .nilIface])) ∧ Bld B b (l ++ Lib.encodeRuneZ r) w' ∧ Below B w w' ∧ Lib.OthersKept 5 (some b) w w' := by
  have hB : B ≤ b := by obtain ⟨_, _, _, hB, _⟩ := h; exact hB
  have hlt := h.lt
  have hk4 := Lib.encodeRuneZ_length r
  go_enter Try.func18, Try.ntmps18
  go_wp2_with (go_at_call 21; refine (copy_chk h).mono ?_)
  rintro e w1 ⟨rfl, ⟨v, hbk, hown, hne⟩, hb1, hsz, hkp⟩
  replace hsz : w1.heap.size ≤ w.heap.size ∧ w.heap.size ≤ w1.heap.size := by omega
  obtain ⟨ao, cap, rfl⟩ : ∃ ao cap, v = .slice ao l.length cap := by
    rcases hown.2 with ⟨hv, h0⟩ | ⟨g, cap, cur, hv, _⟩
    · exact ⟨none, 0, by rw [hv, h0]⟩
    · exact ⟨_, _, hv⟩
  have c0 : w1.cell? ⟨b, 0, none⟩ = some (.pointer (some ⟨b, 0, none⟩)) := by rw [Lib.cell_of_heap hbk]; rfl
  have c1 : w1.cell? ⟨b, 1, none⟩ = some (.slice ao l.length cap) := by rw [Lib.cell_of_heap hbk]; rfl
  go_wp2_with (go_at_call 22; refine (arune B _ l r hr0 hr1 _ hown hlen (by omega)).mono ?_)
  rintro e w2 ⟨v', rfl, hown', o, hgrow⟩
  have hb2 : w2.heap[b]? = some (.cells #[.pointer (some ⟨b, 0, none⟩), .slice ao l.length cap] 36 (0, 0)) := by
    rw [hgrow.block b (by simp; omega) (fun e => hne e.symm), Lib.alloc_old w1 _ b (by omega)]
    exact hbk
  have d0 : w2.cell? ⟨b, 0, none⟩ = some (.pointer (some ⟨b, 0, none⟩)) := by rw [Lib.cell_of_heap hb2]; rfl
  have d1 : w2.cell? ⟨b, 1, none⟩ = some (.slice ao l.length cap) := by rw [Lib.cell_of_heap hb2]; rfl
  have f1 : w2.frozen? ⟨b, 1, none⟩ = false := Lib.frozen_of_heap hb2 1
  have hL : 0 < (l ++ Lib.encodeRuneZ r).length := by rw [List.length_append]; omega
  obtain ⟨g, cap', rfl, -⟩ := own_shape hown' hL
  go_wp2
  go_ret2
  refine ⟨⟨_, rfl⟩, ?_, ?_, ?_⟩
  · obtain ⟨hB', v'', hh, ho, hn⟩ := Lib.BuilderAt.put (T := 36) (e := 5) hB hb2 (bs' := u8s (l ++ Lib.encodeRuneZ r)) (by simpa [u8s] using hown') (by decide)
    refine ⟨_, v'', .inr rfl, hB, hh, by simpa [u8s] using ho, hn, fun e => ?_⟩
    rw [e] at hL; simp at hL
  · exact ((hb1.alloc (by omega) _).grown hgrow (by simp; omega) (fun k hk => (hown.lt k hk).1)).setCell (p := ⟨b, 1, none⟩) hB _
  · exact ((hkp.alloc _).grown hgrow (Lib.ownsRowF_kind (World.ownsRowF_of (hown.alloc _)))).setCell ⟨b, 1, none⟩ rfl _

end Go.Proofs.Ytlepgfkhgmgobaa
