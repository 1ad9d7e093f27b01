/-
  THE DOCUMENT's Taken, SAME BYTES, PIECES THAT COME IN, WHETHER THEY ARE FEW. Conditions: how many bytes there are.
-/
import Derived.Test.YtlpkhaegfghdkaaKp
import Derived.Lib.Strings
import Derived.Deep.Matrix
import Derived.Deep.Grids
import Derived.OpenShut
import Derived.ShutString
import Derived.SizedLaws
namespace Go.Proofs.Ytlpkhaegfghdkaa
open Go.ChangeShapes Go.WideShapes Go.ChangeAt Go.RowKit Go.Lib Go.Deep
set_option linter.unusedVariables false
set_option linter.unusedSimpArgs false
set_option maxRecDepth 20000

theorem taken_ok {w : World} {v : Value} {A : List Int} {R : Nat → Prop} (h : Rng w v (u8s A) R) (room : Int) (hA : A.length ≤ 1000000000) (hr2 : room ≤ 9223372036854775807) :
    Calls Try.prog 9 #[v, .int .i64 room] w fun e w' => w' = w ∧ ∃ a c, e = .returned (.slice a (tkN room A).length c) ∧ Rng w (.slice a (tkN room A).length c) (u8s (tkN room A)) R := by
  obtain ⟨a, c, rfl, hc, hcm⟩ := h.shape
  rw [u8s_len'] at *
  by_cases h1 : 0 ≤ room ∧ room < A.length
  · have e : tkN room A = A.take room.toNat := by unfold tkN; rw [if_pos h1]
    have hk := h.upto (k := room.toNat) (by rw [u8s_len']; omega)
    rw [← u8s_take] at hk
    have hl : (A.take room.toNat).length = room.toNat := by rw [List.length_take]; omega
    rw [e, hl]
    obtain ⟨g, off, c', e', -⟩ := h.some (by rw [u8s_len']; omega)
    simp only [Value.slice.injEq] at e'
    obtain ⟨rfl, -, rfl⟩ := e'
    obtain ⟨r, rfl⟩ : ∃ r : Nat, room = r := ⟨room.toNat, by omega⟩
    simp only [Int.toNat_natCast] at hk ⊢
    generalize A.length = n at *
    have g1 : (0 : Int) ≤ (r : Int) := by omega
    have g2 : (r : Int) < (n : Int) := h1.2
    have g3 : (r : Int) ≤ (c : Int) := by omega
    replace e := hid e
    replace hl := hid hl
    clear h h1
    go_enter Try.func9, Try.ntmps9
    go_wp2
    go_ret
    exact ⟨rfl, _, _, rfl, hk⟩
  · have e : tkN room A = A := by unfold tkN; rw [if_neg h1]
    rw [e]
    by_cases h0 : 0 ≤ room
    · have g2 : ¬ room < (A.length : Int) := by omega
      generalize A.length = n at *
      replace e := hid e
      replace h1 := hid h1
      go_enter Try.func9, Try.ntmps9
      go_wp2
      go_ret
      exact ⟨rfl, _, _, rfl, h⟩
    · generalize A.length = n at *
      replace e := hid e
      replace h1 := hid h1
      go_enter Try.func9, Try.ntmps9
      go_wp2
      go_ret
      exact ⟨rfl, _, _, rfl, h⟩

/-- bytes -/
def IsB (l : List Int) : Prop := ∀ n ∈ l, 0 ≤ n ∧ n ≤ 255

theorem u8s_one' (l : List Int) : ∀ u ∈ u8s l, u.oneCell' = true := ints_oneCell _ _
theorem rng_bys {w : World} {v : Value} {l : List Int} {R : Nat → Prop} (h : Rng w v (u8s l) R) (hl : IsB l) : ∃ a c, v = .slice a l.length c ∧ Bys w a l.length c l := by
  obtain ⟨a, c, rfl, h1, h2, h4, h3⟩ := h
  rw [u8s_len'] at *
  refine ⟨a, c, rfl, ?_⟩
  rcases h3 with h3 | ⟨g, off, rfl, hR, hc⟩
  · have : l = [] := by cases l with
      | nil => rfl
      | cons x r => simp [u8s] at h3
    subst this
    exact Bys.mk0 (by unfold maxLen at h2; omega)
  · exact Bys.mk' rfl h1 (by unfold maxLen at h2; omega) ⟨hl, fun i hi => hc i _ (u8s_get l i hi)⟩
theorem bys_rng {w : World} {a : Option Addr} {n c : Nat} {l : List Int} (h : Bys w a n c l) : Rng w (.slice a n c) (u8s l) (fun _ => True) := by
  obtain ⟨hl, hlc, hm, hr, h⟩ := h
  refine ⟨a, c, by rw [u8s_len', hl], by rw [u8s_len', hl]; exact hlc, by unfold maxLen; omega, u8s_one' l, ?_⟩
  rcases h with ⟨rfl, -⟩ | ⟨-, b, off, rfl, hc⟩
  · exact .inl rfl
  · exact .inr ⟨b, off, rfl, trivial, fun j v hv => by
      have hj : j < l.length := by have := (List.getElem?_eq_some_iff.1 hv).1; rwa [u8s_len'] at this
      rw [hc.2 j hj, ← u8s_get l j hj]; exact hv⟩

theorem str_beq {a b : ByteArray} : (a.toList == b.toList) = true ↔ a = b := by
  rw [Lib.toList_data, Lib.toList_data]
  constructor
  · intro h
    have := eq_of_beq h
    apply ByteArray.ext
    exact Array.toList_inj.1 this
  · rintro rfl
    simp
theorem str_inj {l m : List Int} (hl : IsB l) (hm : IsB m) : ((strOfNums l).toList == (strOfNums m).toList) = decide (l = m) := by
  by_cases h : l = m
  · rw [h, str_beq.mpr rfl]; simp
  · have h2 : strOfNums l ≠ strOfNums m := fun e => h (by rw [← nums_str l hl, ← nums_str m hm, e])
    rw [decide_eq_false h]
    cases hb : (strOfNums l).toList == (strOfNums m).toList
    · rfl
    · exact absurd (str_beq.mp hb) h2

/-- Same -/
theorem same_ok {w : World} {v u : Value} {l m : List Int} {R R' : Nat → Prop} (h : Rng w v (u8s l) R) (h' : Rng w u (u8s m) R') (hl : IsB l) (hm : IsB m) :
    Calls Try.prog 11 #[v, u] w fun e w' => w' = w ∧ e = .returned (.bool (decide (l = m))) := by
  obtain ⟨a, c, rfl, hb⟩ := rng_bys h hl
  obtain ⟨a', c', rfl, hb'⟩ := rng_bys h' hm
  have k1 := bys_string (P := Try.prog) (s := 9) Try.underlying27 Try.underlying5 Try.underlying9 hb
  have k2 := bys_string (P := Try.prog) (s := 9) Try.underlying27 Try.underlying5 Try.underlying9 hb'
  have e := str_inj hl hm
  generalize strOfNums l = s at *
  generalize strOfNums m = s' at *
  generalize decide (l = m) = d at *
  go_enter Try.func11, Try.ntmps11
  go_wp2
  go_ret
  exact ⟨rfl, rfl⟩

/-! ### pieces -/

/-- the pieces P that a slice of slices of bytes holds -/
def PRow (w : World) (a : Option Addr) (n c : Nat) (P : List (List Int)) : Prop :=
  P.length = n ∧ n ≤ c ∧ c ≤ 9223372036854775807 ∧ (∀ x ∈ P, IsB x) ∧ (0 < n → ∃ g off, a = some ⟨g, off, none⟩ ∧ ∀ i, i < n → ∃ v, w.cell? ⟨g, off + i, none⟩ = some v ∧ Rng w v (u8s (P.getD i [])) (fun _ => True))

theorem PRow.below {w w' : World} (hb : Below w.heap.size w w') {a : Option Addr} {n c : Nat} {P : List (List Int)} (h : PRow w a n c P) : PRow w' a n c P := by
  obtain ⟨h1, h2, h3, h4, h5⟩ := h
  refine ⟨h1, h2, h3, h4, fun h0 => ?_⟩
  obtain ⟨g, off, rfl, h6⟩ := h5 h0
  refine ⟨g, off, rfl, fun i hi => ?_⟩
  obtain ⟨v, k1, k2⟩ := h6 i hi
  exact ⟨v, cell_later hb k1, k2.below hb⟩

theorem weights_all {H : Type} {P : Program} {e : TypeId} : ∀ {l : List (DataW H)} {d : DataW H}, d ∈ l → ∀ n ∈ d.weights P e, n ∈ DataW.weightsAll P e l
  | d0 :: l, d, h, n, hn => by
    simp only [DataW.weightsAll, List.mem_append]
    rcases List.mem_cons.1 h with rfl | h
    · exact Or.inl hn
    · exact Or.inr (weights_all h n hn)

theorem open_prow {H : Type} {enc : TypeId × Value → H} {W : World} {fuel : Nat} {a : Option Addr} {n c : Nat} {d : DataW H} {p : List MemPlace}
    (hf : DataW.trod enc Try.prog W 0 (fun _ => true) true fuel 22 [.slice a n c] = some (d, p)) (hw : ∀ x ∈ d.weights Try.prog 22, x ≤ reachBytes) : ∃ P, PRow W a n c P ∧ ∀ x ∈ P, x.length ≤ 140737488351232 := by
  rcases open_int_rows Try.underlying22 Try.underlying27 Try.underlying5 (by kernel_rfl) (by kernel_rfl) hf with ⟨hcs, hx⟩ | ⟨a', len, cap, A, L, C, Z, hcs, _, hl, hm, hx, hall⟩
  · simp only [List.cons.injEq, and_true, Value.slice.injEq] at hcs
    obtain ⟨rfl, rfl, rfl⟩ := hcs
    exact ⟨[], ⟨rfl, Nat.le_refl _, by omega, (fun x hx => by cases hx), fun h => by omega⟩, fun x hx => by cases hx⟩
  · simp only [List.cons.injEq, and_true, Value.slice.injEq] at hcs
    obtain ⟨rfl, rfl, rfl⟩ := hcs
    simp only [Prod.mk.injEq] at hx
    obtain ⟨rfl, rfl⟩ := hx
    have hrow : ∀ r, r < c → IsRow .u8 W (A r) (L r) (C r) (Z r) := by
      intro r hr
      obtain ⟨k1, k2, k3, k4, k5, k6, k7⟩ := hall r hr
      cases hA : A r with
      | none =>
        have h0 := k6 hA
        have hz : Z r = [] := List.eq_nil_of_length_eq_zero (by omega)
        exact .inl ⟨rfl, by omega, h0, hz⟩
      | some y => exact .inr ⟨y, rfl, k2, k3, k4, fun i hi => (k7 y hA).2 i (by omega), k5⟩
    have hbys : ∀ r, r < c → Bys W (A r) (L r) (C r) ((Z r).take (L r)) := fun r hr => row_bys (hrow r hr)
    refine ⟨(List.range n).map fun r => (Z r).take (L r), ⟨by simp, hl, by unfold maxLen at hm; omega, ?_, fun h0 => ?_⟩, ?_⟩
    · intro x hx
      obtain ⟨r, hr, rfl⟩ := List.mem_map.1 hx
      exact (hbys r (by have := List.mem_range.1 hr; omega)).2.2.2.1
    · obtain ⟨g, off, spot⟩ := a'
      have hspot : spot = none := by simpa [Addr.add] using World.cell?_spot (hall 0 (by omega)).1
      subst hspot
      refine ⟨g, off, rfl, fun i hi => ⟨_, by have := (hall i (by omega)).1; rw [add_mid] at this; exact this, ?_⟩⟩
      have e : ((List.range n).map fun r => (Z r).take (L r)).getD i [] = (Z i).take (L i) := by
        rw [List.getD_eq_getElem?_getD, List.getElem?_map, List.getElem?_range hi]; rfl
      rw [e]
      exact bys_rng (hbys i (by omega))
    · intro x hx
      obtain ⟨r, hr, rfl⟩ := List.mem_map.1 hx
      have hr' := List.mem_range.1 hr
      have hin : intRow (H := H) .u8 (A r) (L r) (Z r) ∈ (List.range n).map fun r => intRow (H := H) .u8 (A r) (L r) (Z r) := List.mem_map.2 ⟨r, hr, rfl⟩
      have hlen := (hbys r (by omega)).1
      rw [hlen]
      obtain ⟨k1, k2, k3, k4, k5, k6, k7⟩ := hall r (by omega)
      cases hA : A r with
      | none => have := k6 hA; omega
      | some y =>
        rw [hA] at hin
        have h2 : C r * Try.prog.bytesOf 5 ∈ (intRow (H := H) .u8 (some y) (L r) (Z r)).weights Try.prog 27 := by
          unfold intRow
          rw [DataW.weights, Try.underlying27]
          refine List.mem_cons.2 (.inl ?_)
          congr 1
          simp [lits]; omega
        have h3 : C r * Try.prog.bytesOf 5 ≤ reachBytes := hw _ (by
          rw [DataW.weights, Try.underlying22]
          exact List.mem_cons_of_mem _ (List.mem_append_left _ (weights_all hin _ h2)))
        have hb5 : Try.prog.bytesOf 5 = 1 := by kernel_rfl
        rw [hb5] at h3
        unfold reachBytes at h3
        omega

end Go.Proofs.Ytlpkhaegfghdkaa
