/-
  A HEAD THAT IS HANDED IN (a struct by value, one of its fields a struct, one a slice of pairs), OPENED. No condition.
-/
import Derived.Test.YthnaanjhmehgcaaGreatDoorN13
import Derived.Test.YthnaanjhmehgcaaGreatDoorN12
import Derived.Lib.SmallJoins
import Derived.SizedLaws
import Derived.DataShut
namespace Go.Proofs.YthnaanjhmehgcaaGreatDoor
open Go.ChangeShapes Go.WideShapes Go.ChangeAt Go.RowKit Go.Joins Go.Deep
set_option linter.unusedVariables false
set_option maxRecDepth 20000

theorem array14 {α : Type} {cs : Array α} (h : cs.size = 14) : ∃ c0 c1 c2 c3 c4 c5 c6 c7 c8 c9 c10 c11 c12 c13, cs = #[c0, c1, c2, c3, c4, c5, c6, c7, c8, c9, c10, c11, c12, c13] := by
  obtain ⟨l⟩ := cs
  match l, h with
  | [c0, c1, c2, c3, c4, c5, c6, c7, c8, c9, c10, c11, c12, c13], _ => exact ⟨c0, c1, c2, c3, c4, c5, c6, c7, c8, c9, c10, c11, c12, c13, rfl⟩

/-- some cells of a struct by value -/
theorem agg_part {H : Type} {enc : TypeId × Value → H} {P : Program} {w : World} {base : Nat} {spare : Nat → Bool} {held : Bool} {fs : Array Field} {xs : List (DataW H × List MemPlace)} {n : Nat} {cs : List Value} (hlen : xs.length = fs.size)
    (hf : ∀ (i : Nat) (f : Field), fs[i]? = some f → DataW.trod enc P w base spare held n f.type ((cs.drop f.offset).take (P.cellsOf f.type)) = xs[i]?) (i : Nat) (f : Field) (hi : fs[i]? = some f) (k : Nat) (hk : P.cellsOf f.type = k) (l : List Value) (hl : (cs.drop f.offset).take k = l) :
    ∃ d q, xs[i]? = some (d, q) ∧ DataW.trod enc P w base spare held n f.type l = some (d, q) := by
  have h := hf i f hi
  rw [hk, hl] at h
  have hi2 : i < fs.size := (Array.getElem?_eq_some_iff.1 hi).1
  exact ⟨(xs[i]'(by omega)).1, (xs[i]'(by omega)).2, List.getElem?_eq_getElem (by omega), by rw [h, List.getElem?_eq_getElem (by omega)]⟩

/-- numbers of 64 bits -/
def I64 (h : Hd) : Prop := (-9223372036854775808 ≤ h.uid ∧ h.uid ≤ 9223372036854775807) ∧ (-9223372036854775808 ≤ h.gid ∧ h.gid ≤ 9223372036854775807) ∧ (-9223372036854775808 ≤ h.size ∧ h.size ≤ 9223372036854775807) ∧ (-9223372036854775808 ≤ h.sec ∧ h.sec ≤ 9223372036854775807)
theorem wf64 {n : Int} (h : (Lit.int .i64 n).wf = true) : -9223372036854775808 ≤ n ∧ n ≤ 9223372036854775807 := (Lit.wf_int_iff _ _).1 h
theorem cells2 : Tryz.prog.cellsOf 2 = 1 := by kernel_rfl
theorem cells3 : Tryz.prog.cellsOf 3 = 1 := by kernel_rfl
theorem cellsTime : Tryz.prog.cellsOf 23 = 2 := by kernel_rfl
theorem cellsPairs : Tryz.prog.cellsOf 24 = 1 := by kernel_rfl
theorem cellsHead : Tryz.prog.cellsOf 26 = 14 := by kernel_rfl

set_option maxHeartbeats 4000000 in
theorem open_head {H : Type} {enc : TypeId × Value → H} {W : World} {r : Reach} {b0 : Nat} {v : Value} {d : DataW H} {p : List MemPlace}
    (hv : Value.okWide Tryz.prog W r b0 26 v) (h : DataW.Trod enc Tryz.prog W 0 (fun _ => true) true 26 v d p) :
    ∃ (hd : Hd) (xa : Option Addr) (xn xc : Nat) (ext : List (ByteArray × ByteArray)), v = .agg #[.int .i64 hd.kind, .string hd.name, .string hd.link, .int .i64 hd.mode, .int .i64 hd.uid, .int .i64 hd.gid, .int .i64 hd.size, .int .i64 hd.sec, .int .i64 hd.nano, .string hd.user, .string hd.group, .int .i64 hd.major, .int .i64 hd.minor, .slice xa xn xc] ∧ Pys W xa xn xc ext ∧ (xa = none → xn = 0 ∧ xc = 0) ∧ (hd.name.size ∈ d.weights Tryz.prog 26 ∧ hd.link.size ∈ d.weights Tryz.prog 26 ∧ hd.user.size ∈ d.weights Tryz.prog 26 ∧ hd.group.size ∈ d.weights Tryz.prog 26) ∧ I64 hd ∧ ∀ q ∈ ext, q.1.size ∈ d.weights Tryz.prog 26 ∧ q.2.size ∈ d.weights Tryz.prog 26 := by
  obtain ⟨cs, rfl, hsz⟩ := okWide_struct Tryz.underlying26 hv
  obtain ⟨c0, c1, c2, c3, c4, c5, c6, c7, c8, c9, c10, c11, c12, c13, rfl⟩ := array14 (hsz.trans cellsHead)
  obtain ⟨fuel, hf⟩ := h
  obtain ⟨xs, n, _, hx, hl, hlen, hfld⟩ := DataW.trod_struct Tryz.underlying26 hf
  obtain ⟨y0, r0, g0, t0⟩ := agg_part hlen hfld 0 _ rfl 1 cells3 [c0] rfl
  obtain ⟨a0, e0, -, -⟩ := DataW.trod_int Tryz.underlying3 t0
  obtain ⟨y1, r1, g1, t1⟩ := agg_part hlen hfld 1 _ rfl 1 cellsStr [c1] rfl
  obtain ⟨a1, e1, x1, -⟩ := DataW.trod_string Tryz.underlying9 t1
  obtain ⟨y2, r2, g2, t2⟩ := agg_part hlen hfld 2 _ rfl 1 cellsStr [c2] rfl
  obtain ⟨a2, e2, x2, -⟩ := DataW.trod_string Tryz.underlying9 t2
  obtain ⟨y3, r3, g3, t3⟩ := agg_part hlen hfld 3 _ rfl 1 cells2 [c3] rfl
  obtain ⟨a3, e3, -, -⟩ := DataW.trod_int Tryz.underlying2 t3
  obtain ⟨y4, r4, g4, t4⟩ := agg_part hlen hfld 4 _ rfl 1 cells2 [c4] rfl
  obtain ⟨a4, e4, -, wf4⟩ := DataW.trod_int Tryz.underlying2 t4
  obtain ⟨y5, r5, g5, t5⟩ := agg_part hlen hfld 5 _ rfl 1 cells2 [c5] rfl
  obtain ⟨a5, e5, -, wf5⟩ := DataW.trod_int Tryz.underlying2 t5
  obtain ⟨y6, r6, g6, t6⟩ := agg_part hlen hfld 6 _ rfl 1 cells2 [c6] rfl
  obtain ⟨a6, e6, -, wf6⟩ := DataW.trod_int Tryz.underlying2 t6
  obtain ⟨y7, r7, g7, t7⟩ := agg_part hlen hfld 7 _ rfl 2 cellsTime [c7, c8] rfl
  obtain ⟨xt, nt, _, _, _, hlent, hfldt⟩ := DataW.trod_struct Tryz.underlying23 t7
  obtain ⟨_, _, _, u0⟩ := agg_part hlent hfldt 0 _ rfl 1 cells2 [c7] rfl
  obtain ⟨_, _, _, u1⟩ := agg_part hlent hfldt 1 _ rfl 1 cells2 [c8] rfl
  obtain ⟨a7, e7, -, wf7⟩ := DataW.trod_int Tryz.underlying2 u0
  obtain ⟨a8, e8, -, -⟩ := DataW.trod_int Tryz.underlying2 u1
  obtain ⟨y8, r8, g8, t8⟩ := agg_part hlen hfld 8 _ rfl 1 cellsStr [c9] rfl
  obtain ⟨a9, e9, x9, -⟩ := DataW.trod_string Tryz.underlying9 t8
  obtain ⟨y9, r9, g9, t9⟩ := agg_part hlen hfld 9 _ rfl 1 cellsStr [c10] rfl
  obtain ⟨a10, e10, x10, -⟩ := DataW.trod_string Tryz.underlying9 t9
  obtain ⟨y10, r10, g10, t10⟩ := agg_part hlen hfld 10 _ rfl 1 cells2 [c11] rfl
  obtain ⟨a11, e11, -, -⟩ := DataW.trod_int Tryz.underlying2 t10
  obtain ⟨y11, r11, g11, t11⟩ := agg_part hlen hfld 11 _ rfl 1 cells2 [c12] rfl
  obtain ⟨a12, e12, -, -⟩ := DataW.trod_int Tryz.underlying2 t11
  obtain ⟨y12, r12, g12, t12⟩ := agg_part hlen hfld 12 _ rfl 1 cellsPairs [c13] rfl
  obtain ⟨xa, xn, xc, e13⟩ : ∃ a n c, c13 = Value.slice a n c := by
    rcases open_slice_pairs Tryz.underlying24 Tryz.underlying50 cellsPair rfl rfl cellsStr cellsStr t12 with ⟨hcs, _⟩ | ⟨a', len, cap, m, k, V0, V1, D0, D1, P0, P1, hcs, _⟩
    · simp only [List.cons.injEq, and_true] at hcs
      exact ⟨_, _, _, hcs⟩
    · simp only [List.cons.injEq, and_true] at hcs
      exact ⟨_, _, _, hcs⟩
  simp only [List.cons.injEq, and_true] at e0 e1 e2 e3 e4 e5 e6 e7 e8 e9 e10 e11 e12
  subst e0 e1 e2 e3 e4 e5 e6 e7 e8 e9 e10 e11 e12 e13
  obtain ⟨ext, hpy, hzz⟩ := open_pairs t12
  simp only [Prod.mk.injEq] at hx
  have hd := hx.1
  have e : d.weights Tryz.prog 26 = DataW.weightsEach Tryz.prog [3, 9, 9, 2, 2, 2, 2, 23, 9, 9, 2, 2, 24] (xs.map (·.1)) := by
    rw [hd, DataW.weights, Tryz.underlying26]; rfl
  have G : ∀ x ∈ y12.weights Tryz.prog 24, x ∈ d.weights Tryz.prog 26 := by
    intro x hx
    rw [e]
    exact DataW.weights_mem_each (j := 12) (t := 24) (d := y12) rfl (by rw [List.getElem?_map, g12]; rfl) _ hx
  have GS : ∀ (j : Nat) (s : ByteArray) (yj : DataW H) (rj : List MemPlace), [3, 9, 9, 2, 2, 2, 2, 23, 9, 9, 2, 2, 24][j]? = some 9 → xs[j]? = some (yj, rj) → yj = .lit (.string s.data.toList) → s.size ∈ d.weights Tryz.prog 26 := by
    intro j s yj rj h1 h2 h3
    rw [e]
    refine DataW.weights_mem_each (j := j) (t := 9) (d := yj) h1 (by rw [List.getElem?_map, h2]; rfl) _ ?_
    subst h3
    rw [DataW.weights, List.mem_singleton, Array.length_toList]
    rfl
  have nl := pairs_nil t12
  simp only [Prod.mk.injEq] at x1 x2 x9 x10
  exact ⟨⟨a0, a1, a2, a3, a4, a5, a6, a7, a8, a9, a10, a11, a12⟩, xa, xn, xc, ext, rfl, hpy, nl, ⟨GS 1 a1 _ _ rfl g1 x1.1, GS 2 a2 _ _ rfl g2 x2.1, GS 8 a9 _ _ rfl g8 x9.1, GS 9 a10 _ _ rfl g9 x10.1⟩, ⟨wf64 wf4, wf64 wf5, wf64 wf6, wf64 wf7⟩, fun q hq => ⟨G _ (hzz q hq).1, G _ (hzz q hq).2⟩⟩

end Go.Proofs.YthnaanjhmehgcaaGreatDoor
