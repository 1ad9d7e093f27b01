/-
  ONE ACT, WHICHEVER; ACTS THAT ARE HANDED IN. Conditions: the lengths.
-/
import Derived.Test.YtekacaocijfepaaQap
import Derived.Test.YtekacaocijfepaaQas
import Derived.Test.YtekacaocijfepaaQaa
import Derived.Test.YtekacaocijfepaaQae
import Derived.Test.YtekacaocijfepaaQaf
import Derived.Test.YtekacaocijfepaaQag
import Derived.Test.YtekacaocijfepaaQav
import Derived.Deep.Slices
import Derived.Deep.Strs
import Derived.OpenShut
namespace Go.Proofs.Ytekacaocijfepaa
open Go.ChangeShapes Go.WideShapes Go.ChangeAt Go.RowKit Go.Conc Go.Deep
set_option linter.unusedVariables false
set_option linter.unusedSimpArgs false
set_option maxRecDepth 20000

theorem act_ok (k N : Int) (sec : Bool) (hk0 : 0 ≤ k) (hk1 : k ≤ 255) {w : World} {B B' C : Nat} {q0 q1 v0 v1 : Value} {m0 m1 : Nat} {ch0 ch1 : Option Nat} {l0 l1 : List Int} (hC : C ≤ w.heap.size) (H : Two2 w B B' C q0 q1 m0 m1 ch0 ch1 v0 v1 l0 l1)
    (hS : ∀ c, ch1 = some c → ¬ Of ch0 c) (hS' : ∀ c, ch0 = some c → ¬ Of ch1 c) :
    Calls Try.prog 8 #[.agg #[q0, q1], .agg #[v0, .int .i64 m0, v1, .int .i64 m1], .agg #[.int .u8 k, .int .i64 N, .bool sec]] w fun e w' => ActPost w' B B' C q0 q1 m0 m1 ch0 ch1 e ∧ Near (Two ch0 ch1) w w' := by
  have h5 : k % 5 = 0 ∨ k % 5 = 1 ∨ k % 5 = 2 ∨ k % 5 = 3 ∨ k % 5 = 4 := by omega
  cases sec
  · rcases h5 with h | h | h | h | h
    · exact act_push0 k N h hk0 hk1 hC H hS hS'
    · exact act_pop0 k N h hk0 hk1 hC H hS hS'
    · exact act_move0 k N h hk0 hk1 hC H hS hS'
    · rcases l0 with _ | ⟨x, R⟩
      · rcases l1 with _ | ⟨y, R⟩
        · exact act_either_00 (y := 0) (R := []) k N h hk0 hk1 hC H hS hS' rfl rfl
        · exact act_either_n0 k N h hk0 hk1 hC H hS hS' rfl rfl
      · exact act_either_y0 k N h hk0 hk1 hC H hS hS' rfl
    · exact act_all0 k N h hk0 hk1 hC H hS hS'
  · rcases h5 with h | h | h | h | h
    · exact act_push1 k N h hk0 hk1 hC H hS hS'
    · exact act_pop1 k N h hk0 hk1 hC H hS hS'
    · exact act_move1 k N h hk0 hk1 hC H hS hS'
    · rcases l1 with _ | ⟨x, R⟩
      · rcases l0 with _ | ⟨y, R⟩
        · exact act_either_01 (y := 0) (R := []) k N h hk0 hk1 hC H hS hS' rfl rfl
        · exact act_either_n1 k N h hk0 hk1 hC H hS hS' rfl rfl
      · exact act_either_y1 k N h hk0 hk1 hC H hS hS' rfl
    · exact act_all1 k N h hk0 hk1 hC H hS hS'

/-- the acts that a slice holds -/
def ARow (w : World) (a : Option Addr) (len cap : Nat) (L : List (Int × Int × Bool)) : Prop :=
  L.length = len ∧ len ≤ cap ∧ cap ≤ 9223372036854775807 ∧ (∀ x ∈ L, 0 ≤ x.1 ∧ x.1 ≤ 255) ∧ (0 < len → ∃ b off, a = some ⟨b, off, none⟩ ∧ ∀ i, i < len → w.cell? ⟨b, off + i * 3, none⟩ = some (.int .u8 (L.getD i (0, 0, false)).1) ∧ w.cell? ⟨b, off + i * 3 + 1, none⟩ = some (.int .i64 (L.getD i (0, 0, false)).2.1) ∧ w.cell? ⟨b, off + i * 3 + 2, none⟩ = some (.bool (L.getD i (0, 0, false)).2.2))

theorem cellsAct : Try.prog.cellsOf 35 = 3 := by kernel_rfl
theorem cells3 : Try.prog.cellsOf 3 = 1 ∧ Try.prog.cellsOf 4 = 1 ∧ Try.prog.cellsOf 5 = 1 := ⟨by kernel_rfl, by kernel_rfl, by kernel_rfl⟩
instance : Inhabited (Int × Int × Bool) := ⟨(0, 0, false)⟩

theorem open_arow {H : Type} {enc : TypeId × Value → H} {W : World} {fuel : Nat} {a : Option Addr} {n c : Nat} {d : DataW H} {p : List MemPlace}
    (hf : DataW.trod enc Try.prog W 0 (fun _ => true) true fuel 22 [.slice a n c] = some (d, p)) : ∃ L, ARow W a n c L := by
  rcases open_slice Try.underlying22 hf with ⟨hcs, hx⟩ | ⟨a', len, cap, m, k, D, Pl, hcs, _, hl, hm, hmm, hx, hall⟩
  · simp only [List.cons.injEq, and_true, Value.slice.injEq] at hcs
    obtain ⟨rfl, rfl, rfl⟩ := hcs
    exact ⟨[], rfl, Nat.le_refl _, by omega, (fun x hx => by cases hx), fun h => by omega⟩
  · simp only [List.cons.injEq, and_true, Value.slice.injEq] at hcs
    obtain ⟨rfl, rfl, rfl⟩ := hcs
    simp only [if_true] at hmm
    have each : ∀ i, i < n → ∃ x : Int × Int × Bool, (0 ≤ x.1 ∧ x.1 ≤ 255) ∧ W.cell? (a'.add (i * 3)) = some (.int .u8 x.1) ∧ W.cell? (a'.add (i * 3 + 1)) = some (.int .i64 x.2.1) ∧ W.cell? (a'.add (i * 3 + 2)) = some (.bool x.2.2) := by
      intro i hi
      obtain ⟨cs', h1, h2⟩ := hall i (by omega)
      rw [cellsAct] at h1
      obtain ⟨_, hlen, hcell⟩ := World.cells?_some h1
      obtain ⟨xs, kk, hk, hxy, _, hxl, hff⟩ := DataW.trod_struct Try.underlying35 h2
      match xs, hxl, cs', hlen with
      | [y0, y1, y2], _, [u0, u1, u2], _ =>
        have g0 := hff 0 _ rfl
        have g1 := hff 1 _ rfl
        have g2 := hff 2 _ rfl
        simp [cells3.1, cells3.2.1, cells3.2.2] at g0 g1 g2
        have e0 := hcell 0 (by omega)
        have e1 := hcell 1 (by omega)
        have e2 := hcell 2 (by omega)
        rw [add_add] at e0 e1 e2
        obtain ⟨k', r0, -, wf⟩ := DataW.trod_int Try.underlying5 g0
        obtain ⟨N', r1, -, -⟩ := DataW.trod_int Try.underlying3 g1
        obtain ⟨s', r2, -⟩ := DataW.trod_bool Try.underlying4 g2
        obtain rfl : u0 = .int .u8 k' := by simpa using r0
        obtain rfl : u1 = .int .i64 N' := by simpa using r1
        obtain rfl : u2 = .bool s' := by simpa using r2
        exact ⟨(k', N', s'), bounds_u8 wf, by simpa using e0, by simpa using e1, by simpa using e2⟩
    obtain ⟨f, hf'⟩ := choose_lt each
    refine ⟨(List.range n).map f, by simp, hl, by unfold maxLen at hm; omega, ?_, fun h0 => ?_⟩
    · intro x hx
      obtain ⟨i, hi, rfl⟩ := List.mem_map.1 hx
      exact (hf' i (List.mem_range.1 hi)).1
    · obtain ⟨sb, so, spot⟩ := a'
      have hspot : spot = none := by simpa [Addr.add] using World.cell?_spot (hf' 0 (by omega)).2.1
      subst hspot
      refine ⟨sb, so, rfl, fun i hi => ?_⟩
      have eg : (List.map f (List.range n)).getD i (0, 0, false) = f i := by
        rw [List.getD_eq_getElem?_getD, List.getElem?_map, List.getElem?_range hi]; rfl
      rw [eg]
      obtain ⟨_, k0, k1, k2⟩ := hf' i hi
      rw [show ∀ j, (⟨sb, so, none⟩ : Addr).add j = ⟨sb, so + j, none⟩ from fun j => by simp [Addr.add]] at k0 k1 k2
      exact ⟨k0, by rw [Nat.add_assoc]; exact k1, by rw [Nat.add_assoc]; exact k2⟩

end Go.Proofs.Ytekacaocijfepaa
