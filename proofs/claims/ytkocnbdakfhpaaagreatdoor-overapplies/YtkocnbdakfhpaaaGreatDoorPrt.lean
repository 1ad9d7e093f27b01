/-
  SLICES OF PAIRS; THE RECORDS OF PAIRS. Conditions: how many pairs there are, and how many bytes their texts have; what the listed variables hold.
-/
import Derived.Test.YtkocnbdakfhpaaaGreatDoorRec
import Derived.Lib.AppendStr
namespace Go.Proofs.YtkocnbdakfhpaaaGreatDoor
open Go.ChangeShapes Go.WideShapes Go.ChangeAt Go.RowKit Go.Lib
set_option linter.unusedVariables false
set_option maxRecDepth 20000

/-- the cells of pairs, from offset 'off' of block 'b' on -/
def PCells (w : World) (b off : Nat) (l : List (ByteArray × ByteArray)) : Prop :=
  ∀ i, i < l.length → w.cell? ⟨b, off + i * 2, none⟩ = some (.string (l.getD i (⟨#[]⟩, ⟨#[]⟩)).1) ∧ w.cell? ⟨b, off + i * 2 + 1, none⟩ = some (.string (l.getD i (⟨#[]⟩, ⟨#[]⟩)).2)
/-- the pairs that a slice value holds -/
def Pys (w : World) (a : Option Addr) (n c : Nat) (l : List (ByteArray × ByteArray)) : Prop :=
  l.length = n ∧ n ≤ c ∧ c ≤ 9223372036854775807 ∧ ((l = [] ∧ n = 0) ∨ (0 < n ∧ ∃ b off, a = some ⟨b, off, none⟩ ∧ PCells w b off l))
/-- pairs that are no greater than are gone through -/
def Few (l : List (ByteArray × ByteArray)) : Prop := l.length ≤ 1000 ∧ ∀ p ∈ l, p.1.size ≤ 1000000 ∧ p.2.size ≤ 1000000

theorem PCells.below {w w' : World} (hb : Below w.heap.size w w') {b off : Nat} {l : List (ByteArray × ByteArray)} (h : PCells w b off l) : PCells w' b off l :=
  fun i hi => ⟨cell_later hb (h i hi).1, cell_later hb (h i hi).2⟩
theorem Pys.below {w w' : World} (hb : Below w.heap.size w w') {a : Option Addr} {n c : Nat} {l : List (ByteArray × ByteArray)} (h : Pys w a n c l) : Pys w' a n c l := by
  obtain ⟨h1, h2, h3, h4 | ⟨h0, b, off, rfl, hc⟩⟩ := h
  · exact ⟨h1, h2, h3, .inl h4⟩
  · exact ⟨h1, h2, h3, .inr ⟨h0, b, off, rfl, hc.below hb⟩⟩
theorem PCells.at {w : World} {b off : Nat} {l : List (ByteArray × ByteArray)} (h : PCells w b off l) (i : Nat) (hi : i < l.length) :
    ∃ k v : ByteArray, (k, v) ∈ l ∧ Hid (l.drop i = (k, v) :: l.drop (i + 1)) ∧ w.cell? ⟨b, off + i * 2, none⟩ = some (.string k) ∧ w.cell? ⟨b, off + i * 2 + 1, none⟩ = some (.string v) := by
  have := h i hi
  rw [List.getD_eq_getElem?_getD, List.getElem?_eq_getElem hi] at this
  exact ⟨l[i].1, l[i].2, List.getElem_mem hi, hid (List.drop_eq_getElem_cons hi), this.1, this.2⟩

/-- what Print answers: the records, or that a pair isn't right -/
def prn : List (ByteArray × ByteArray) → List Int → Option (List Int)
  | [], acc => some acc
  | (k, v) :: t, acc => if rightP (bs k) (bs v) then prn t (acc ++ nums (recB k v)) else none
def prnC (o : Option (List Int)) : Int := match o with | some _ => 0 | none => 15
def prnL (o : Option (List Int)) : List Int := match o with | some l => l | none => []

theorem strCells_nums (s : ByteArray) : strCells s = u8s (nums s) := by unfold strCells u8s nums; rw [List.map_map]; rfl

theorem rec_size (k v : ByteArray) (hk : k.size ≤ 1000000) (hv : v.size ≤ 1000000) : (recB k v).size ≤ 2000100 := by
  have hrs : restN k v ≤ 2000003 := by unfold restN; omega
  have hn := lenN_le (restN k v) (by omega)
  have hsz := dec_size (lenN (restN k v)) (by omega)
  unfold recB
  rw [ByteArray.size_append, ByteArray.size_append, ByteArray.size_append, ByteArray.size_append, ByteArray.size_append, one_size, one_size, one_size]
  omega

theorem Tryz.info5' : (Tryz.prog.info? 5).map (fun i => (i.zero, i.size, i.bytes)) = some (some (.int .u8 0), 1, 1) := by kernel_rfl

set_option maxHeartbeats 4000000 in
theorem print_ok {w : World} {a : Option Addr} {n c : Nat} {l : List (ByteArray × ByteArray)} (h : Pys w a n c l) (hf : Few l) (hL : Laid w) :
    Calls Tryz.prog 15 #[.slice a n c] w fun e w' => ∃ a' m c', e = .returned (.tuple #[.slice a' m c', .int .u8 (prnC (prn l []))]) ∧ Bys w' a' m c' (prnL (prn l [])) ∧ Below w.heap.size w w' := by
  obtain ⟨i0, hi, hz0, hz1, hz2⟩ := info_parts Tryz.info5'
  obtain ⟨hl, hlc, hm, ⟨rfl, rfl⟩ | ⟨h0, b, off, rfl, hc⟩⟩ := h
  · go_enter Tryz.func15, Tryz.ntmps15
    go_wp2
    refine wp_loop_rounds 1 ?_
    rw [rounds_succ]
    go_wp2
    go_ret2
    exact ⟨none, 0, 0, rfl, Bys.mk0 (by omega), Below.refl _ _⟩
  · obtain ⟨q, hq⟩ : ∃ q, q = prn l [] := ⟨_, rfl⟩
    rw [← hq]
    have hn1000 : n ≤ 1000 := by have := hf.1; omega
    have hl' := hid hl
    have hq' := hid hq
    have hf' := hid hf
    have hown0 := World.ownsRow_nil w w.heap.size 5 1
    clear hq hl hf
    go_enter Tryz.func15, Tryz.ntmps15
    go_wp2
    go_loopw [4, 9] (fun y x wr => ∃ (v : Value) (k : Nat) (acc : List Int), y = v ∧ x = .int .i64 k ∧ k ≤ n ∧ acc.length ≤ 2000100 * k ∧ wr.ownsRow w.heap.size 5 1 v acc.length (u8s acc) ∧ Below w.heap.size w wr ∧ Hid ((∀ z ∈ acc, 0 ≤ z ∧ z ≤ 255) ∧ q = prn (l.drop k) acc)) (fun _ x _ => n - (RowKit.intOf x).toNat)
    case atStart => exact ⟨_, 0, [], rfl, rfl, by omega, by simp, hown0, Below.refl _ _, hid ⟨by simp, hq'.out⟩⟩
    case round =>
      obtain ⟨v, k, acc, rfl, rfl, hk, hacc, hown, hb, hr⟩ := hrel
      have hBsz := hb.size
      by_cases hlt : k < n
      · obtain ⟨ky, vl, hmem, hd, c0, c1⟩ := (hc.below hb).at k (by rw [hl'.out]; exact hlt)
        obtain ⟨hs1, hs2⟩ := hf'.out.2 _ hmem
        simp only at hs1 hs2
        have hfr := (Below.refl wr.heap.size wr).alloc (Nat.le_refl _) (.cells #[.string ky, .string vl] 23)
        have hbn := hb.trans (hfr.mono hb.size)
        have hri := right_ok ky vl (by omega) (by omega) _ (hL.below hbn)
        have hrc := fun w' (hb : Below w.heap.size w w') => record_ok ky vl hs1 hs2 w' (hL.below hb)
        have hrs := rec_size ky vl hs1 hs2
        have hkI : (k : Int) < (n : Int) := by omega
        cases hR : rightP (bs ky) (bs vl)
        · have E := hid (by rw [hr.out.2, hd.out, prn, hR]; rfl : q = none)
          rw [hR] at hri
          clear hr hd hmem hR hrc
          go_wp2_with (go_at_call 9; refine hri.mono ?_; rintro e w1 ⟨rfl, hb1⟩)
          all_goals go_ret2
          all_goals exact ⟨none, 0, 0, ret_vc (by rw [E.out]; rfl), by rw [E.out]; exact Bys.mk0 (by omega), hbn.trans (hb1.mono hbn.size)⟩
        · have E := hid (And.intro (by intro z hz; rcases List.mem_append.1 hz with hz | hz; exact hr.out.1 z hz; exact nums_range _ z hz : ∀ z ∈ acc ++ nums (recB ky vl), 0 ≤ z ∧ z ≤ 255) (by rw [hr.out.2, hd.out, prn, hR]; rfl : q = prn (l.drop (k + 1)) (acc ++ nums (recB ky vl))))
          have hnl := hid (nums_length (recB ky vl))
          have hsn := hid (strCells_nums (recB ky vl))
          rw [hR] at hri
          generalize recB ky vl = S at *
          clear hr hd hmem hR
          go_wp2_with (first
            | (go_at_call 9; refine hri.mono ?_; rintro e w1 ⟨rfl, hb1⟩; obtain ⟨d0, d1⟩ := two_cells hb1; have hac := hbn.trans (hb1.mono hbn.size); have how := own_below hb1 (own_below hfr hown))
            | (go_at_call 42; refine (hrc _ hac).mono ?_; rintro e w2 ⟨rfl, hb2⟩; replace hac := hac.trans (hb2.mono hac.size); replace how := own_below hb2 how)
            | (at_builtin; refine wpList_append_own_string (P := Tryz.prog) (w := w2) rfl (.tmp 16) (.tmp 18) 31 9 rfl w.heap.size 5 i0 Tryz.underlying31 Tryz.underlying9 hi hz0 hz1 hz2 _ _ _ rfl how S rfl (by unfold maxLen; omega) (by omega) hac.size ?_; intro v' w3 hown' hgrow' _))
          go_roundw
          case rel => exact ⟨_, k + 1, acc ++ nums S, rfl, by go_num, by omega, by rw [List.length_append, hnl.out]; omega, by rw [hsn.out, u8s_app] at hown'; rw [List.length_append, hnl.out]; exact hown', hac.grown hgrow' hac.size (fun g hg => (how.lt g hg).1), E⟩
          case measure => simp [RowKit.intOf]; omega
      · obtain rfl : k = n := by omega
        have E := hid (by rw [hr.out.2, List.drop_eq_nil_iff.mpr (by rw [hl'.out]; exact Nat.le_refl _)]; rfl : q = some acc)
        obtain ⟨aa, cc, rfl, hby⟩ := own_bys hown rfl hr.out.1
        clear hr
        go_wp2
        go_ret2
        exact ⟨aa, _, cc, ret_vc (by rw [E.out]; rfl), by rw [E.out]; exact hby, hb⟩

end Go.Proofs.YtkocnbdakfhpaaaGreatDoor
