/-
  A SORTED ROW OF PAIRS THAT THE CALL OWNS: the library's sort at pairs, in terms of lists. No condition.; AND WHAT FOLLOWS OF IT. Conditions: those that each part names.
-/
import Derived.Test.YthnaanjhmehgcaaGreatDoorN27
import Derived.Test.YthnaanjhmehgcaaGreatDoorN31
import Derived.Shelf.SlSortCmp.NoneTotal
import Derived.Test.YthnaanjhmehgcaaGreatDoorN33
/-
  A SORTED ROW OF PAIRS THAT THE CALL OWNS: the library's sort at pairs, in terms of lists. No condition.
-/
namespace Go.Proofs.YthnaanjhmehgcaaGreatDoor
open Go.ChangeShapes Go.WideShapes Go.ChangeAt Go.RowKit Go.Lib
set_option linter.unusedVariables false
set_option linter.unusedSimpArgs false
set_option maxRecDepth 20000

/-- a pair's cells -/
def encP (p : ByteArray × ByteArray) : List Value := [.string p.1, .string p.2]
/-- two pairs, compared by their keys -/
def cmpP (p q : ByteArray × ByteArray) : Int := kc p.1 q.1

theorem swoP : Sort.SWO (ltOf cmpP) where
  irrefl x := by unfold ltOf cmpP; rw [kc_self]; rfl
  trans x y z h1 h2 := by
    unfold ltOf cmpP at *
    simp only [decide_eq_true_eq] at *
    exact kc_trans h1 h2
  ntrans x y z h1 h2 := by
    unfold ltOf cmpP at *
    simp only [decide_eq_false_iff_not] at *
    exact kc_le_trans h2 h1

theorem flat_pcs2 (l : PL) : (Sort.flatK encP 2 l.toArray).toList = pcs2 l := by
  refine List.ext_getElem (by rw [pcs2_len]; simp) fun t h1 h2 => ?_
  have ht : t < l.toArray.size * 2 := by simpa using h1
  have e := Sort.get_flatK encP 2 l.toArray t ht
  rw [getElem!_pos _ t (by simpa using h1)] at e
  rw [Array.getElem_toList, e]
  have hl : t / 2 < l.length := by simp at ht; omega
  obtain ⟨p0, p1⟩ := pcs2_at l (t / 2) hl
  have hg : l.toArray[t / 2]! = l.getD (t / 2) (⟨#[]⟩, ⟨#[]⟩) := by
    rw [getElem!_pos _ _ (by simpa using hl), List.getD_eq_getElem?_getD, List.getElem?_eq_getElem hl]; simp
  rw [hg]
  rcases Nat.mod_two_eq_zero_or_one t with h | h
  · have et : t / 2 * 2 = t := by omega
    rw [et] at p0
    rw [List.getElem?_eq_getElem h2] at p0
    rw [h, Option.some.inj p0]; rfl
  · have et : t / 2 * 2 + 1 = t := by omega
    rw [et] at p1
    rw [List.getElem?_eq_getElem h2] at p1
    rw [h, Option.some.inj p1]; rfl

theorem holds_of {w : World} {B g n cap : Nat} {l : PL} {cur : Array Value} (h : PRow w B g n cap l cur) : Sort.HoldsK encP 2 w g 0 l.toArray := by
  intro j hj
  have hj' : j < (pcs2 l).length := by rw [← flat_pcs2]; simpa using hj
  rw [Nat.zero_add]
  refine ⟨?_, Joins.unfrozen_of_block h.blk j⟩
  rw [h.cell j, getElem!_pos _ j hj, ← Array.getElem_toList]
  have e : (Sort.flatK encP 2 l.toArray).toList[j]? = (pcs2 l)[j]? := by rw [flat_pcs2]
  have hn : j < n * 2 := by rw [pcs2_len, h.len] at hj'; exact hj'
  have e2 : cur.toList[j]? = (pcs2 l)[j]? := by rw [← h.take, List.getElem?_take_of_lt hn]
  rw [← Array.getElem?_toList, e2, ← e, List.getElem?_eq_getElem (by simpa using hj)]; rfl

theorem put_own {w : World} {B g n cap : Nat} {l m : PL} {cur : Array Value} (h : PRow w B g n cap l cur) (hm : m.length = n) (q : Nat) (os : Array Obj) :
    (sortWorldK encP 2 w g 0 q m.toArray os).ownsRow B 50 2 (.slice (some ⟨g, 0, none⟩) n cap) n (pcs2 m) ∧ Below B w (sortWorldK encP 2 w g 0 q m.toArray os) := by
  have hlt : g < w.heap.size := (Array.getElem?_eq_some_iff.mp h.blk).1
  have hF : (Sort.flatK encP 2 m.toArray).size = n * 2 := by simp [hm]
  have hsz : n * 2 ≤ cur.size := by have := h.nc; have := h.size; omega
  have hblk : (sortWorldK encP 2 w g 0 q m.toArray os).heap[g]? = some (.cells (Sort.putCells id 0 (Sort.flatK encP 2 m.toArray) cur) 50 (0, 0)) := by
    unfold sortWorldK
    rw [Sort.heap_grow_old _ _ (by unfold Sort.putRowK; rw [Sort.size_putRow]; exact hlt)]
    unfold Sort.putRowK Sort.putRow Sort.mapBlock Sort.ahead
    simp only [Array.getElem?_modify, if_true, h.blk, Option.map_some, Sort.onCells]
  constructor
  · refine PRow.own (cur := Sort.putCells id 0 (Sort.flatK encP 2 m.toArray) cur) ⟨hm, h.base, hblk, h.nc, h.cm, by unfold Sort.putCells; rw [Array.size_mapIdx]; exact h.size, ?_⟩
    rw [← flat_pcs2]
    refine List.ext_getElem (by simp [Sort.putCells, hm]; omega) fun t h1 h2 => ?_
    have ht : t < n * 2 := by simp at h1; omega
    rw [List.getElem_take, Array.getElem_toList, Array.getElem_toList]
    unfold Sort.putCells
    rw [Array.getElem_mapIdx, if_pos ⟨Nat.zero_le _, by rw [hF]; omega⟩, Nat.sub_zero, getElem!_pos _ t (by rw [hF]; exact ht)]
    rfl
  · refine ⟨rfl, rfl, rfl, ?_, fun k hk => ?_⟩
    · unfold sortWorldK
      rw [Sort.size_grow]
      unfold Sort.putRowK
      rw [Sort.size_putRow]
      exact Nat.le_add_right _ _
    · have hkg : k ≠ g := by have := h.base; omega
      unfold sortWorldK
      rw [Sort.heap_grow_old _ _ (by unfold Sort.putRowK; rw [Sort.size_putRow]; have := h.base; show k < w.heap.size; omega)]
      unfold Sort.putRowK Sort.putRow Sort.mapBlock Sort.ahead
      simp only [Array.getElem?_modify]
      rw [if_neg (fun e => hkg e.symm)]

theorem sorted_srt {l : PL} {d : Array (ByteArray × ByteArray)} (hd : Dst l) (hp : Sort.PermIn 0 l.toArray.size l.toArray d) (hs : Sort.SortedIn (ltOf cmpP) 0 l.toArray.size d) : d.toList.Perm l ∧ Srt d.toList := by
  obtain ⟨p1, -, p3⟩ := hp
  have hperm : d.toList.Perm l := by
    rw [← p1, Array.extract_size, p1, Array.extract_size] at p3
    simpa using p3
  refine ⟨hperm, ?_⟩
  have hdd : Dst d.toList := hd.perm hperm.symm
  refine List.pairwise_iff_getElem.2 fun i j hi hj hij => ?_
  have h1 := hs i j (Nat.zero_le _) hij (by rw [← p1]; simpa using hj)
  rw [getElem!_pos _ i (by simpa using hi), getElem!_pos _ j (by simpa using hj)] at h1
  have h2 := List.pairwise_iff_getElem.1 hdd i j hi hj hij
  unfold ltOf cmpP at h1
  have h3 : ¬ kc d[j].1 d[i].1 < 0 := of_decide_eq_false h1
  rw [Array.getElem_toList, Array.getElem_toList] at h2 ⊢
  exact kc_tri h3 fun e => h2 e.symm

end Go.Proofs.YthnaanjhmehgcaaGreatDoor

/-
  slices.SortFunc AT PAIRS, BY THEIR KEYS. Conditions: how many there are; no key twice.
-/
namespace Go.Proofs.YthnaanjhmehgcaaGreatDoor
open Go.ChangeShapes Go.WideShapes Go.ChangeAt Go.RowKit Go.Lib
set_option linter.unusedVariables false
set_option linter.unusedSimpArgs false
set_option maxRecDepth 20000

theorem cmpk_ok (p q : ByteArray × ByteArray) (W : World) :
    Calls Tryz.prog 77 #[.agg #[.string p.1, .string p.2], .agg #[.string q.1, .string q.2]] W fun e w' => e = .returned (.int .i64 (cmpP p q)) ∧ ∃ n os, w' = Sort.grow (W.drewN n) os := by
  have hc := fun w => Tryz.strings_Compare p.1 q.1 w
  change ∀ w, Calls _ _ _ _ fun e w' => e = .returned (.int .i64 (cmpP p q)) ∧ w' = w at hc
  generalize cmpP p q = r at *
  go_enter Tryz.func77, Tryz.ntmps77
  go_wp2_with (go_at_call 110; refine (hc _).mono ?_; rintro e w1 ⟨rfl, hw1⟩; obtain rfl := hw1.symm)
  all_goals go_ret
  all_goals exact ⟨rfl, 0, _, by rw [Sort.alloc_eq_grow, Sort.alloc_eq_grow, Sort.grow_grow]; rfl⟩

theorem sort_ok {w : World} {B : Nat} {v : Value} {l : PL} (h : w.ownsRow B 50 2 v l.length (pcs2 l)) (hd : Dst l) (hf : Ful l) (hn : l.length ≤ 1000000) :
    Calls Tryz.prog 76 #[v, .func (.func 77) #[] #[]] w fun e w' => e = .returned (.tuple #[]) ∧ w'.ownsRow B 50 2 v (layL [] l).length (pcs2 (layL [] l)) ∧ Below B w w' := by
  rcases h.2 with ⟨rfl, h0⟩ | ⟨g, cap, cur, rfl, hb, hg, h1, h2, h3, h4⟩
  · have e : l = [] := by simpa using h0
    subst e
    have hcon := AnyF.slices_SortFunc_none Tryz.sortL none 0 (.func (.func 77) #[] #[]) w
    change Calls Tryz.prog 76 _ _ _ at hcon
    refine hcon.mono ?_
    rintro e w' ⟨rfl, rfl⟩
    exact ⟨rfl, h, Below.refl _ _⟩
  · obtain ⟨cur', hP⟩ := PRow.of h
    have eg : ∀ args w, (callFunc 77 args).run Tryz.prog w = .ok (.enter 77 args) w := enters_of Tryz.func77 (by kernel_rfl) rfl
    have hcmp : CmpLays Tryz.prog 77 #[] encP 2 cmpP g 0 l.toArray.size w := fun _ _ _ _ x y => cmpk_ok x y _
    have hlt : g < w.heap.size := (Array.getElem?_eq_some_iff.mp hg).1
    have hcon := AnyQ.slices_SortFunc Tryz.sortL 2 Tryz.isAgg50 Tryz.sizeOf50 encP (fun _ => rfl) (fun x v hv => by simp [encP] at hv; rcases hv with rfl | rfl <;> rfl) cmpP swoP 77 #[] g 0 cap l.toArray w eg hcmp (holds_of hP) hlt (by simp; omega)
    change Calls Tryz.prog 76 _ _ _ at hcon
    have es : l.toArray.size = l.length := by simp
    rw [es] at hcon
    refine hcon.mono ?_
    rintro e w' ⟨rfl, d', n, os, hp, hs, rfl⟩
    rw [← es] at hp hs
    obtain ⟨p1, p2⟩ := sorted_srt hd hp hs
    have e2 : d'.toList = layL [] l := sorted_lay hd hf p1.symm p2
    have hle : d'.toList.length = l.length := p1.length_eq
    have hq := put_own hP (m := d'.toList) hle n os
    rw [Array.toArray_toList] at hq
    rw [← e2, hle]
    exact ⟨rfl, hq⟩

end Go.Proofs.YthnaanjhmehgcaaGreatDoor
