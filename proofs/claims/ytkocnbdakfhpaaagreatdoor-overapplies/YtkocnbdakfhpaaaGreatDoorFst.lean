/-
  THE RECORD AT THE BEGINNING OF BYTES. Conditions: how many bytes there are; what the listed variables hold.
-/
import Derived.Test.YtkocnbdakfhpaaaGreatDoorCut
import Derived.Deep.RegionHeld3
import Derived.BigRegion
namespace Go.Proofs.YtkocnbdakfhpaaaGreatDoor
open Go.ChangeShapes Go.WideShapes Go.ChangeAt Go.RowKit Go.Lib
set_option linter.unusedVariables false
set_option maxRecDepth 20000

theorem suffix_one (c : UInt8) (l : List UInt8) : hasSuffix l [c] = (l.getLast? == some c) := by
  unfold hasSuffix
  rw [Bool.eq_iff_iff, List.isSuffixOf_iff_suffix]
  constructor
  · rintro ⟨t, rfl⟩; simp
  · intro h
    have h' : l.getLast? = some c := by simpa using h
    rw [List.getLast?_eq_some_iff] at h'
    obtain ⟨t, rfl⟩ := h'
    exact ⟨t, rfl⟩

theorem end_is (c : Int) (h0 : 0 ≤ c) (h1 : c ≤ 255) (l : List Int) (hr : ∀ x ∈ l, 0 ≤ x ∧ x ≤ 255) : hasSuffix (bytesOf l) (bytesOf [c]) = endI c l := by
  have e : bytesOf [c] = [UInt8.ofNat c.toNat] := rfl
  rw [e, suffix_one]
  unfold endI bytesOf
  rw [List.getLast?_map]
  cases h : l.getLast? with
  | none => rfl
  | some x =>
    have hx := hr x (List.mem_of_getLast? h)
    rw [Bool.eq_iff_iff]
    simp only [Option.map_some, beq_iff_eq, Option.some.injEq]
    constructor
    · intro e
      have := congrArg UInt8.toNat e
      simp at this
      omega
    · rintro rfl; rfl

theorem bsuf {w : World} {a : Option Addr} {n c : Nat} {l : List Int} (h : Bys w a n c l) (b2 : Nat) (cv : Int) (h0 : 0 ≤ cv) (h1 : cv ≤ 255) (hc2 : w.cell? ⟨b2, 0, none⟩ = some (.int .u8 cv)) :
    Calls Tryz.prog 60 #[.slice a n c, .slice (some ⟨b2, 0, none⟩) 1 1] w fun e w' => (∃ n', e = .returned (.tuple #[.slice a n' c, .bool (endI cv l)]) ∧ Bys w' a n' c (trI cv l)) ∧ w' = w := by
  have hs := h
  obtain ⟨hl, hlc, hm, hr, h'⟩ := h
  have h2 : Lib.BytesIn w (some ⟨b2, 0, none⟩) 1 [cv] := fun _ => ⟨b2, 0, rfl, fun i hi => by obtain rfl : i = 0 := by omega
                                                                                              exact hc2⟩
  refine (Tryz.bytes_CutSuffix_all a (some ⟨b2, 0, none⟩) n c 1 1 l [cv] w hl rfl hlc (by omega) hs.in h2).mono ?_
  rintro e w' ⟨rfl, rfl⟩
  rw [end_is cv h0 h1 l hr]
  refine ⟨?_, rfl⟩
  unfold trI
  cases he : endI cv l
  · refine ⟨n, ?_, by simpa using hs⟩
    congr 2
    unfold Lib.trimSuffixV
    split
    · unfold Lib.bytesTrimSuffix
      rw [end_is cv h0 h1 l hr, he]; rfl
    · rfl
  · have hn : 0 < n := by
      cases l with
      | nil => simp [endI] at he
      | cons x t => simp at hl; omega
    refine ⟨n - 1, ?_, ?_⟩
    · rcases h' with ⟨rfl, rfl⟩ | ⟨_, b, off, rfl, hc⟩
      · omega
      · congr 2
        unfold Lib.trimSuffixV Lib.bytesTrimSuffix
        rw [end_is cv h0 h1 l hr, he]; rfl
    · rw [if_pos rfl, List.dropLast_eq_take, hl]
      exact hs.take (n - 1) (by omega)

/-- a block of cells -/
def Blk (w : World) (g : Nat) (cs : Array Value) (t : TypeId) : Prop := w.heap[g]? = some (.cells cs t (0, 0))
theorem Blk.lt {w : World} {g : Nat} {cs : Array Value} {t : TypeId} (h : Blk w g cs t) : g < w.heap.size := (Array.getElem?_eq_some_iff.mp h).1
theorem Blk.cell {w : World} {g : Nat} {cs : Array Value} {t : TypeId} (h : Blk w g cs t) (i : Nat) : w.cell? ⟨g, i, none⟩ = cs[i]? := Joins.cell_of_block h i
theorem Blk.free {w : World} {g : Nat} {cs : Array Value} {t : TypeId} (h : Blk w g cs t) (i : Nat) : w.frozen? ⟨g, i, none⟩ = false := Joins.unfrozen_of_block h i
theorem Blk.below {w w' : World} {g : Nat} {cs : Array Value} {t : TypeId} (h : Blk w g cs t) (hb : Below w.heap.size w w') : Blk w' g cs t := by
  have := h.lt
  unfold Blk at *
  rw [hb.block g this]; exact h
theorem Blk.new (w : World) (cs : Array Value) (t : TypeId) : Blk (w.alloc (.cells cs t)) w.heap.size cs t := by unfold Blk World.alloc; simp

theorem sep_cell (w : World) (c : Int) (k : Nat) (hk : w.heap.size = k) : (w.alloc (.cells #[.int .u8 c] 5 (1, 2))).cell? ⟨k, 0, none⟩ = some (.int .u8 c) := by
  subst hk; exact Joins.cell_alloc_mark_at w #[.int .u8 c] 5 (1, 2) w.heap.size 0 rfl
theorem conv_sep (w : World) (c : Int) (k : Nat) (hk : w.heap.size = k) : (convert 31 31 (.slice (some ⟨k, 0, none⟩) 1 1)).run Tryz.prog (w.alloc (.cells #[.int .u8 c] 5)) = .ok (.slice (some ⟨k, 0, none⟩) 1 1) (w.alloc (.cells #[.int .u8 c] 5 (1, 2))) :=
  Joins.run_convert_bytes_const_at w 31 5 #[.int .u8 c] 1 1 k hk.symm Tryz.underlying31 Tryz.underlying5

theorem bs_str (l : List Int) : bs (strOfNums l) = bytesOf l := by unfold bs strOfNums bytesOf; simp
theorem strN_size (l : List Int) : (strOfNums l).size = l.length := by rw [← bs_len, bs_str, bytesOf_length]
theorem Bys.some_of {w : World} {a : Option Addr} {n c : Nat} {l : List Int} (h : Bys w a n c l) (h0 : 0 < n) : ∃ b off, a = some ⟨b, off, none⟩ := by
  obtain ⟨_, _, _, _, ⟨_, e⟩ | ⟨_, b, off, rfl, _⟩⟩ := h
  · omega
  · exact ⟨b, off, rfl⟩

/-- the record at the beginning: its pair, and how many bytes it has -/
def frst (l : List Int) : Option (List Int × List Int × Nat) :=
  match nat63 (bytesOf (ahI 32 l)) with
  | none => none
  | some u => if u ≤ l.length then
      (if endI 10 (beI 32 (l.take u)) && (inI 61 (trI 10 (beI 32 (l.take u))) && rightP (bytesOf (ahI 61 (trI 10 (beI 32 (l.take u))))) (bytesOf (beI 61 (trI 10 (beI 32 (l.take u)))))) then some (ahI 61 (trI 10 (beI 32 (l.take u))), beI 61 (trI 10 (beI 32 (l.take u))), u) else none)
    else none

theorem ahI_len (c : Int) (l : List Int) : (ahI c l).length ≤ l.length := (List.takeWhile_sublist _).length_le
theorem beI_len (c : Int) (l : List Int) : (beI c l).length ≤ l.length := by
  unfold beI
  rw [List.length_drop]
  have := (List.dropWhile_sublist (l := l) (fun x => x != c)).length_le
  omega
theorem trI_len (c : Int) (l : List Int) : (trI c l).length ≤ l.length := by
  unfold trI
  split
  · rw [List.length_dropLast]; omega
  · exact Nat.le_refl _

theorem frst_pos {l K V : List Int} {u : Nat} (h : frst l = some (K, V, u)) : 0 < u ∧ u ≤ l.length := by
  unfold frst at h
  split at h
  · cases h
  · rename_i u' _
    split at h
    · rename_i hu
      split at h
      · rename_i hc
        simp only [Option.some.injEq, Prod.mk.injEq] at h
        obtain ⟨_, _, rfl⟩ := h
        refine ⟨?_, hu⟩
        rcases Nat.eq_zero_or_pos u' with e | e
        · subst e
          simp [beI, endI] at hc
        · exact e
      · cases h
    · cases h

set_option maxHeartbeats 4000000 in
theorem first_num {w : World} {a : Option Addr} {n c : Nat} {l : List Int} (h : Bys w a n c l) (h0 : 0 < n) (hn : n ≤ 1000000) (hL : Laid w) (hF : ¬ ∃ u, nat63 (bytesOf (ahI 32 l)) = some u ∧ u ≤ l.length) :
    Calls Tryz.prog 47 #[.slice a n c] w fun e w' => e = .returned (.tuple #[.agg #[.string ⟨#[]⟩, .string ⟨#[]⟩], .slice none 0 0, .bool false]) ∧ Below w.heap.size w w' := by
  obtain ⟨b, off, rfl⟩ := h.some_of h0
  have hb0 := (Below.refl w.heap.size w).alloc (Nat.le_refl _) (.cells #[.string ⟨#[]⟩, .string ⟨#[]⟩] 23)
  have hP := Blk.new w #[.string ⟨#[]⟩, .string ⟨#[]⟩] 23
  have hba := hb0.alloc hb0.size (.cells #[.int .u8 32] 5 (1, 2))
  have hcs := conv_sep (w.alloc (.cells #[.string ⟨#[]⟩, .string ⟨#[]⟩] 23)) 32 (w.heap.size + 1) (by simp)
  have hc1 := bcut ((h.alloc (.cells #[.string ⟨#[]⟩, .string ⟨#[]⟩] 23)).alloc (.cells #[.int .u8 32] 5 (1, 2))) (by omega) (fun e => by cases e) (w.heap.size + 1) 32 (by omega) (by omega) (sep_cell _ _ _ (by simp))
  obtain ⟨r, hr⟩ : ∃ r : Int, r = match nat63 (bytesOf (ahI 32 l)) with | some u => if u ≤ 9223372036854775807 then (u : Int) else 0 | none => 0 := ⟨_, rfl⟩
  obtain ⟨cd, hcd⟩ : ∃ c : Int, c = match nat63 (bytesOf (ahI 32 l)) with | some u => if u ≤ 9223372036854775807 then (0 : Int) else 15 | none => 15 := ⟨_, rfl⟩
  have hnum := fun w' (hb : Below w.heap.size w w') => number_ok (strOfNums (ahI 32 l)) (by rw [strN_size]; have := ahI_len 32 l; have := h.1; omega) w' (hL.below hb) r cd (by rw [bs_str]; exact hr) (by rw [bs_str]; exact hcd)
  have hbad : (cd = 15 ∧ r = 0) ∨ (cd = 0 ∧ (n : Int) < r) := by
    cases hN : nat63 (bytesOf (ahI 32 l)) with
    | none => rw [hN] at hr hcd; exact .inl ⟨hcd, hr⟩
    | some u =>
      rw [hN] at hr hcd
      simp only at hr hcd
      by_cases hu : u ≤ 9223372036854775807
      · rw [if_pos hu] at hr hcd
        right
        refine ⟨hcd, ?_⟩
        have : ¬ u ≤ l.length := fun hh => hF ⟨u, hN, hh⟩
        have := h.1
        omega
      · rw [if_neg hu] at hr hcd; exact .inl ⟨hcd, hr⟩
  clear hr hcd hF hL
  rcases hbad with ⟨rfl, rfl⟩ | ⟨rfl, hgt⟩
  all_goals
    go_enter Tryz.func47, Tryz.ntmps47
    go_wp2_with (first
      | (go_at_call 59; refine hc1.mono ?_; rintro e w1 ⟨⟨n1, c1, a2, n2, c2, rfl, hbA, hbB, hnB⟩, hb1⟩; have hacc := hba.trans (hb1.mono hba.size); have hcv := bys_string (P := Tryz.prog) Tryz.underlying31 Tryz.underlying5 Tryz.underlying9 hbA; have hP1 := (hP.below ((Below.refl _ _).alloc (Nat.le_refl _) (.cells #[.int .u8 32] 5 (1, 2)))).below hb1)
      | (go_at_call 51; refine (hnum _ hacc).mono ?_; rintro e w2 ⟨rfl, hb2⟩; replace hacc := hacc.trans (hb2.mono hacc.size); have hP2 := hP1.below hb2; have p0 := hP2.cell 0; have p1 := hP2.cell 1; have q0 := hP2.free 0; have q1 := hP2.free 1; simp at p0 p1))
    refine bodyPost_ret (v := .tuple #[.agg #[.string ⟨#[]⟩, .string ⟨#[]⟩], .slice none 0 0, .bool false]) ?_ rfl ⟨rfl, ?_⟩
    · simp [results, Tryz.results47, go_sem, p0, p1]
    · exact (hacc.setCell (by simp) _).setCell (by simp) _

end Go.Proofs.YtkocnbdakfhpaaaGreatDoor
