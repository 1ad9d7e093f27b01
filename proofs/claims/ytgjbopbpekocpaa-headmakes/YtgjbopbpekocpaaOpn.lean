/-
  A HEADER's THINGS AS AN ARGUMENT (a struct of fourteen fields, by value), OPENED. No condition.
-/
import Derived.Test.YtgjbopbpekocpaaMp
import Derived.Lib.SmallJoins
import Derived.SizedLaws
namespace Go.Proofs.Ytgjbopbpekocpaa
open Go.ChangeShapes Go.WideShapes Go.ChangeAt Go.RowKit Go.Joins Go.Deep
set_option linter.unusedVariables false
set_option maxRecDepth 20000

theorem array14 {α : Type} {cs : Array α} (h : cs.size = 14) : ∃ c0 c1 c2 c3 c4 c5 c6 c7 c8 c9 c10 c11 c12 c13, cs = #[c0, c1, c2, c3, c4, c5, c6, c7, c8, c9, c10, c11, c12, c13] := by
  obtain ⟨l⟩ := cs
  match l, h with
  | [c0, c1, c2, c3, c4, c5, c6, c7, c8, c9, c10, c11, c12, c13], _ => exact ⟨c0, c1, c2, c3, c4, c5, c6, c7, c8, c9, c10, c11, c12, c13, rfl⟩

section
variable {H : Type} {enc : TypeId × Value → H} {P : Program} {w : World} {base : Nat} {spare : Nat → Bool} {held : Bool}

/-- one field of a struct by value -/
theorem agg_field {fs : Array Field} {xs : List (DataW H × List MemPlace)} {n : Nat} {cs : List Value} (hone : oneCellFields P fs = true) (hlen : xs.length = fs.size)
    (hf : ∀ (i : Nat) (f : Field), fs[i]? = some f → DataW.trod enc P w base spare held n f.type ((cs.drop f.offset).take (P.cellsOf f.type)) = xs[i]?) (i : Nat) (f : Field) (hi : fs[i]? = some f) (c : Value) (hc : cs[i]? = some c) :
    ∃ y, xs[i]? = some y ∧ DataW.trod enc P w base spare held n f.type [c] = some y := by
  obtain ⟨o, k⟩ := hone_of hone i f hi
  have h := hf i f hi
  rw [o, k] at h
  have hi2 : i < fs.size := (Array.getElem?_eq_some_iff.1 hi).1
  have hlt : i < cs.length := (List.getElem?_eq_some_iff.1 hc).1
  have e : (cs.drop i).take 1 = [c] := by
    rw [List.drop_eq_getElem_cons hlt, List.take_succ_cons, List.take_zero]
    have := (List.getElem?_eq_some_iff.1 hc).2
    rw [this]
  rw [e] at h
  exact ⟨xs[i]'(by omega), List.getElem?_eq_getElem (by omega), by rw [h, List.getElem?_eq_getElem (by omega)]⟩
end

theorem one25 : ∀ fs, Try.prog.underlying 25 = some (.struct fs) → oneCellFields Try.prog fs = true := by
  intro fs h
  rw [Try.underlying25] at h
  simp only [Option.some.injEq, TypeDesc.struct.injEq] at h
  subst h
  kernel_rfl
theorem cellsOf25 : Try.prog.cellsOf 25 = 14 := by kernel_rfl

theorem open_raw {H : Type} {enc : TypeId × Value → H} {w : World} {base : Nat} {spare : Nat → Bool} {held : Bool} {r : Reach} {b0 : Nat} {v : Value} {d : DataW H} {p : List MemPlace}
    (hv : Value.okWide Try.prog w r b0 25 v) (h : DataW.Trod enc Try.prog w base spare held 25 v d p) :
    ∃ R : RawV, v = .agg R.arr ∧ (0 ≤ R.x ∧ R.x ≤ 255) ∧ (∀ k, -9223372036854775808 ≤ R.N k ∧ R.N k ≤ 9223372036854775807) ∧ ∀ k, (R.T k).size = 0 ∨ ((R.T k).size ∈ d.weights Try.prog 25 ∧ 2 ≤ k ∧ k ≤ 6) := by
  obtain ⟨cs, rfl, hsz⟩ := okWide_struct Try.underlying25 hv
  obtain ⟨c0, c1, c2, c3, c4, c5, c6, c7, c8, c9, c10, c11, c12, c13, rfl⟩ := array14 (hsz.trans cellsOf25)
  obtain ⟨fuel, hf⟩ := h
  obtain ⟨xs, n, _, hx, hl, hlen, hfld⟩ := DataW.trod_struct Try.underlying25 hf
  have G := fun i f hi c hc => agg_field (one25 _ Try.underlying25) hlen hfld i f hi c hc
  obtain ⟨y0, g0, t0⟩ := G 0 _ rfl c0 rfl
  obtain ⟨y1, g1, t1⟩ := G 1 _ rfl c1 rfl
  obtain ⟨y2, g2, t2⟩ := G 2 _ rfl c2 rfl
  obtain ⟨y3, g3, t3⟩ := G 3 _ rfl c3 rfl
  obtain ⟨y4, g4, t4⟩ := G 4 _ rfl c4 rfl
  obtain ⟨y5, g5, t5⟩ := G 5 _ rfl c5 rfl
  obtain ⟨y6, g6, t6⟩ := G 6 _ rfl c6 rfl
  obtain ⟨y7, g7, t7⟩ := G 7 _ rfl c7 rfl
  obtain ⟨y8, g8, t8⟩ := G 8 _ rfl c8 rfl
  obtain ⟨y9, g9, t9⟩ := G 9 _ rfl c9 rfl
  obtain ⟨y10, g10, t10⟩ := G 10 _ rfl c10 rfl
  obtain ⟨y11, g11, t11⟩ := G 11 _ rfl c11 rfl
  obtain ⟨y12, g12, t12⟩ := G 12 _ rfl c12 rfl
  obtain ⟨y13, g13, t13⟩ := G 13 _ rfl c13 rfl
  obtain ⟨a0, e0, -, wf0⟩ := DataW.trod_int Try.underlying3 t0
  obtain ⟨a1, e1, -, wf1⟩ := DataW.trod_int Try.underlying5 t1
  obtain ⟨s2, e2, z2, -⟩ := DataW.trod_string Try.underlying9 t2
  obtain ⟨s3, e3, z3, -⟩ := DataW.trod_string Try.underlying9 t3
  obtain ⟨s4, e4, z4, -⟩ := DataW.trod_string Try.underlying9 t4
  obtain ⟨s5, e5, z5, -⟩ := DataW.trod_string Try.underlying9 t5
  obtain ⟨s6, e6, z6, -⟩ := DataW.trod_string Try.underlying9 t6
  obtain ⟨a7, e7, -, wf7⟩ := DataW.trod_int Try.underlying2 t7
  obtain ⟨a8, e8, -, wf8⟩ := DataW.trod_int Try.underlying2 t8
  obtain ⟨a9, e9, -, wf9⟩ := DataW.trod_int Try.underlying2 t9
  obtain ⟨a10, e10, -, wf10⟩ := DataW.trod_int Try.underlying2 t10
  obtain ⟨a11, e11, -, wf11⟩ := DataW.trod_int Try.underlying2 t11
  obtain ⟨a12, e12, -, wf12⟩ := DataW.trod_int Try.underlying2 t12
  obtain ⟨a13, e13, -, wf13⟩ := DataW.trod_int Try.underlying2 t13
  simp only [List.cons.injEq, and_true] at e0 e1 e2 e3 e4 e5 e6 e7 e8 e9 e10 e11 e12 e13
  subst e0 e1 e2 e3 e4 e5 e6 e7 e8 e9 e10 e11 e12 e13
  simp only [Prod.mk.injEq] at hx
  have hd := hx.1
  have W : ∀ (i : Nat) (y : DataW H × List MemPlace) (s : ByteArray) (t : TypeId), xs[i]? = some y → y = (.lit (.string s.data.toList), []) → [(3 : TypeId), 5, 9, 9, 9, 9, 9, 2, 2, 2, 2, 2, 2, 2][i]? = some t → s.size ∈ d.weights Try.prog 25 := by
    intro i y s t hy hz ht
    have e : d.weights Try.prog 25 = DataW.weightsEach Try.prog [3, 5, 9, 9, 9, 9, 9, 2, 2, 2, 2, 2, 2, 2] (xs.map (·.1)) := by
      rw [hd, DataW.weights, Try.underlying25]; rfl
    rw [e]
    refine DataW.weights_mem_each (j := i) (t := t) (d := .lit (.string s.data.toList)) ht (by rw [List.getElem?_map, hy, hz]; rfl) _ ?_
    simp only [DataW.weights, List.mem_singleton, Array.length_toList]
    rfl
  refine ⟨⟨a0, a1, fun k => if k = 2 then s2 else if k = 3 then s3 else if k = 4 then s4 else if k = 5 then s5 else if k = 6 then s6 else ⟨#[]⟩, fun k => if k = 7 then a7 else if k = 8 then a8 else if k = 9 then a9 else if k = 10 then a10 else if k = 11 then a11 else if k = 12 then a12 else if k = 13 then a13 else 0⟩, rfl, bounds_u8 wf1, ?_, ?_⟩
  · intro k
    show -9223372036854775808 ≤ (if k = 7 then a7 else if k = 8 then a8 else if k = 9 then a9 else if k = 10 then a10 else if k = 11 then a11 else if k = 12 then a12 else if k = 13 then a13 else 0) ∧ (if k = 7 then a7 else if k = 8 then a8 else if k = 9 then a9 else if k = 10 then a10 else if k = 11 then a11 else if k = 12 then a12 else if k = 13 then a13 else 0) ≤ 9223372036854775807
    repeat' split
    · exact bounds_i64 wf7
    · exact bounds_i64 wf8
    · exact bounds_i64 wf9
    · exact bounds_i64 wf10
    · exact bounds_i64 wf11
    · exact bounds_i64 wf12
    · exact bounds_i64 wf13
    · decide
  · intro k
    show (if k = 2 then s2 else if k = 3 then s3 else if k = 4 then s4 else if k = 5 then s5 else if k = 6 then s6 else ⟨#[]⟩ : ByteArray).size = 0 ∨ ((if k = 2 then s2 else if k = 3 then s3 else if k = 4 then s4 else if k = 5 then s5 else if k = 6 then s6 else ⟨#[]⟩ : ByteArray).size ∈ d.weights Try.prog 25 ∧ 2 ≤ k ∧ k ≤ 6)
    repeat' split
    · exact .inr ⟨W 2 y2 s2 9 g2 z2 rfl, by omega, by omega⟩
    · exact .inr ⟨W 3 y3 s3 9 g3 z3 rfl, by omega, by omega⟩
    · exact .inr ⟨W 4 y4 s4 9 g4 z4 rfl, by omega, by omega⟩
    · exact .inr ⟨W 5 y5 s5 9 g5 z5 rfl, by omega, by omega⟩
    · exact .inr ⟨W 6 y6 s6 9 g6 z6 rfl, by omega, by omega⟩
    · exact .inl rfl

end Go.Proofs.Ytgjbopbpekocpaa
