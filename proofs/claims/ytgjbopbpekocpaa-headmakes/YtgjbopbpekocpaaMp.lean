/-
  BYTES LAID INTO BYTES, AND WHAT Make MAKES, AS A FUNCTION OF LISTS. No conditions but lengths.
-/
import Derived.Test.YtgjbopbpekocpaaGg
import Derived.Lib.BufferWrite
namespace Go.Proofs.Ytgjbopbpekocpaa
open Go.ChangeShapes Go.WideShapes Go.ChangeAt Go.RowKit
set_option linter.unusedVariables false
set_option maxRecDepth 20000

/-- bytes, laid over others from a place on -/
def layB (L : List Int) (st : Nat) (bs : List Int) : List Int := L.take st ++ bs ++ L.drop (st + bs.length)

theorem layB_length (L : List Int) (st : Nat) (bs : List Int) (h : st + bs.length ≤ L.length) : (layB L st bs).length = L.length := by
  unfold layB; simp only [List.length_append, List.length_take, List.length_drop]; omega

theorem layB_range (L : List Int) (st : Nat) (bs : List Int) (h : ∀ x ∈ L, 0 ≤ x ∧ x ≤ 255) (h' : ∀ x ∈ bs, 0 ≤ x ∧ x ≤ 255) : ∀ x ∈ layB L st bs, 0 ≤ x ∧ x ≤ 255 := by
  intro x hx
  unfold layB at hx
  simp only [List.mem_append] at hx
  rcases hx with (hx | hx) | hx
  · exact h x (List.mem_of_mem_take hx)
  · exact h' x hx
  · exact h x (List.mem_of_mem_drop hx)

theorem set_range (L : List Int) (j : Nat) (v : Int) (h : ∀ x ∈ L, 0 ≤ x ∧ x ≤ 255) (h0 : 0 ≤ v) (h1 : v ≤ 255) : ∀ x ∈ L.set j v, 0 ≤ x ∧ x ≤ 255 := by
  intro x hx
  rcases List.mem_or_eq_of_mem_set hx with hx | rfl
  · exact h x hx
  · exact ⟨h0, h1⟩

/-- copy of a string into an owned row, from some place on, where it fits -/
theorem run_copy_str_at {P : Program} (w : World) {dT sT ty e : TypeId} (hu : P.underlying dT = some (.slice e)) (hs : (P.info? e).map (·.size) = some 1) {B g n c o dLen dCap : Nat} {l : List Int}
    (hown : w.ownsRow B e 1 (.slice (some ⟨g, 0, none⟩) n c) n (u8s l)) (hl : l.length = n) (s : ByteArray) (hle : s.size ≤ dLen) (hfit : o + s.size ≤ n) :
    ∃ w', (Builtin.copy_ #[dT, sT] ty #[.slice (some ⟨g, o, none⟩) dLen dCap, .string s]).run P w = .ok (goInt s.size) w' ∧
      w'.ownsRow B e 1 (.slice (some ⟨g, 0, none⟩) n c) n (u8s (layB l o (nums s))) ∧ w.grownBy w' (some g) := by
  obtain ⟨hlen, ⟨h, _⟩ | ⟨g', cap, cur, hvv, hB, hg, hnc, hcm, hcs, htake⟩⟩ := hown
  · cases h
  simp only [Value.slice.injEq, Option.some.injEq, Addr.mk.injEq, and_true, true_and] at hvv
  obtain ⟨rfl, rfl⟩ := hvv
  rw [Nat.mul_one] at hcs htake
  have hns := nums_length s
  have hr := Lib.run_copy_row_string (P := P) w dT sT ty e g o dLen dCap s cur e hu hs hg hle (by omega)
  have hbc : Lib.byteCells s.data.toList = u8s (nums s) := by unfold u8s nums; rw [List.map_map]; rfl
  rw [hbc] at hr
  refine ⟨_, hr, ⟨?_, .inr ⟨g, c, _, rfl, hB, setRow_heap w g cur _ e _ hg, hnc, hcm, ?_, ?_⟩⟩, ⟨rfl, rfl, rfl, by simp, fun j _ hj => setRow_other w g j _ (fun e => hj (by simp [e]))⟩⟩
  · rw [u8s_len, layB_length _ _ _ (by omega), hl]
  · simp only [List.size_toArray, List.length_append, u8s_len, hns, List.length_take, List.length_drop, Array.length_toList]; omega
  · have h1 : cur.toList.take o = u8s (l.take o) := by
      have := congrArg (List.take o) htake
      rw [List.take_take, Nat.min_eq_left (by omega)] at this
      rw [this]; simp [u8s, List.map_take]
    have h2 : (u8s (l.take o) ++ u8s (nums s)).length = o + s.size := by simp [u8s, hns]; omega
    unfold layB
    rw [Nat.mul_one, List.toList_toArray, h1, List.take_append, h2, List.take_of_length_le (by rw [h2]; omega), List.take_drop, show o + s.size + (n - (o + s.size)) = n by omega, htake, u8s_app, ← u8s_app _ (l.drop _), hns]
    simp [u8s, List.map_drop]

theorem wpList_copy_str_at {P : Program} (w : World) {ops : Array Oper} {rest : List Oper} {o : Oper} {a : Act} {Q : Exit → Act → World → Prop} (hgd : o.guard = none) (d x : Operand) (dT sT : TypeId)
    (ho : o.op = .call { callee := .builtin .copy, args := #[d, x], argTypes := #[dT, sT] }) {e : TypeId} (hu : P.underlying dT = some (.slice e)) (hs : (P.info? e).map (·.size) = some 1) {B g n c j dLen dCap : Nat} {l : List Int}
    (hd : a.eval d = .slice (some ⟨g, j, none⟩) dLen dCap) (s : ByteArray) (hx : a.eval x = .string s)
    (hown : w.ownsRow B e 1 (.slice (some ⟨g, 0, none⟩) n c) n (u8s l)) (hl : l.length = n) (hle : s.size ≤ dLen) (hfit : j + s.size ≤ n)
    (h : ∀ w', w'.ownsRow B e 1 (.slice (some ⟨g, 0, none⟩) n c) n (u8s (layB l j (nums s))) → w.grownBy w' (some g) → wpList P ops Q rest (a.put o.dst (goInt s.size)) w') : wpList P ops Q (o :: rest) a w := by
  refine wpList_plain hgd fun K hK => ?_
  obtain ⟨w', hr, h2, h3⟩ := run_copy_str_at (P := P) w (sT := sT) (ty := o.type) (dCap := dCap) hu hs hown hl s hle hfit
  unfold Oper.wp execOp
  simp only [ho, resolve, invoke, builtin, Sem.run_bind, Sem.run_pure, Result.andThen_ok, List.map_toArray, List.map_cons, List.map_nil, hd, hx, hr]
  exact hK _ _ (h w' h2 h3)

theorem Blk.grown {w w' : World} {g r : Nat} {cs : Array Value} {t : TypeId} (h : Blk w g cs t) (hg : w.grownBy w' (some r)) (hne : g ≠ r) : Blk w' g cs t := by
  have hl := h.lt
  unfold Blk at *
  rw [hg.block g hl (by simpa using hne)]; exact h
theorem Tab.grown {w w' : World} {t g r : Nat} (h : Tab w t g) (hg : w.grownBy w' (some r)) (hne : t ≠ r) : Tab w' t g := by
  have hl : t < w.heap.size := (Array.getElem?_eq_some_iff.mp h).1
  unfold Tab at *
  rw [hg.block t hl (by simpa using hne)]; exact h

/-- what a header has: mark, flag, its texts and numbers by their cells -/
structure RawV where
  m : Int
  x : Int
  T : Nat → ByteArray
  N : Nat → Int

def RawV.arr (R : RawV) : Array Value := #[.int .i64 R.m, .int .u8 R.x, .string (R.T 2), .string (R.T 3), .string (R.T 4), .string (R.T 5), .string (R.T 6), .int .i64 (R.N 7), .int .i64 (R.N 8), .int .i64 (R.N 9), .int .i64 (R.N 10), .int .i64 (R.N 11), .int .i64 (R.N 12), .int .i64 (R.N 13)]
def RawV.ok (R : RawV) : Prop := 0 ≤ R.x ∧ R.x ≤ 255 ∧ (∀ k, (R.T k).size ≤ 3000) ∧ ∀ k, -9223372036854775808 ≤ R.N k ∧ R.N k ≤ 9223372036854775807

theorem RawV.txt (R : RawV) : ∀ r ∈ rowsD, r.txt = true → R.arr[r.fld]? = some (.string (R.T r.fld)) := by
  intro r hr
  simp only [rowsD, List.mem_cons, List.not_mem_nil, or_false] at hr
  rcases hr with rfl | rfl | rfl | rfl | rfl | rfl | rfl | rfl | rfl | rfl | rfl | rfl <;> intro h <;> first | rfl | cases h
theorem RawV.num (R : RawV) : ∀ r ∈ rowsD, r.txt = false → R.arr[r.fld]? = some (.int .i64 (R.N r.fld)) := by
  intro r hr
  simp only [rowsD, List.mem_cons, List.not_mem_nil, or_false] at hr
  rcases hr with rfl | rfl | rfl | rfl | rfl | rfl | rfl | rfl | rfl | rfl | rfl | rfl <;> intro h <;> first | rfl | cases h

/-- a field's code, and its bytes -/
def fldC (R : RawV) (wide : Bool) (r : RowD) : Int := if r.txt then tputC (R.T r.fld) r.wd else numC r.id (R.N r.fld) r.wd wide
def fldL (R : RawV) (wide : Bool) (r : RowD) : List Int := if r.txt then txtL (R.T r.fld) r.wd else numL r.id (R.N r.fld) r.wd wide

/-- the fields, one behind the other: the first error, or the bytes -/
def mkR (R : RawV) (wide dev : Bool) : List RowD → List Int → Int × List Int
  | [], L => (0, L)
  | r :: t, L => if isInB r.inn R.m dev = false then mkR R wide dev t L else if fldC R wide r ≠ 0 then (fldC R wide r, []) else mkR R wide dev t (layB L r.st (fldL R wide r))

theorem txtL_length {s : ByteArray} {n : Nat} (h : tputC s n = 0) : (txtL s n).length = n := by unfold txtL; rw [if_pos h, fillL_length]; rfl
theorem txtL_range (s : ByteArray) (n : Int) : ∀ x ∈ txtL s n, 0 ≤ x ∧ x ≤ 255 := by
  unfold txtL; split
  · exact fillL_range _ _ (nums_range s)
  · simp
theorem numL_length {id n : Int} {wd : Nat} {wide : Bool} (h0 : 2 ≤ wd) (h1 : wd ≤ 32) (h : numC id n wd wide = 0) (h3 : -9223372036854775808 ≤ n) (h4 : n ≤ 9223372036854775807) : (numL id n wd wide).length = wd := by
  unfold numC at h
  unfold numL
  cases hm : mayB id n
  · rw [hm] at h; simp at h
  · rw [hm] at h
    simp only [if_true] at h ⊢
    rcases put_back n wd wide h3 h4 with ⟨_, _, h⟩ | ⟨h', _⟩
    · omega
    · exact absurd h h'
theorem numL_range (id n : Int) (wd : Int) (wide : Bool) : ∀ x ∈ numL id n wd wide, 0 ≤ x ∧ x ≤ 255 := by
  unfold numL; split
  · exact putL_range _ _ _
  · simp

theorem row_num : ∀ r ∈ rowsD, r.txt = false → 2 ≤ r.wd ∧ r.wd ≤ 32 := by decide

theorem fldL_length {R : RawV} (hR : R.ok) {wide : Bool} {r : RowD} (hr : r ∈ rowsD) (h : fldC R wide r = 0) : (fldL R wide r).length = r.wd := by
  unfold fldC at h
  unfold fldL
  cases ht : r.txt
  · rw [ht] at h
    simp only [Bool.false_eq_true, if_false] at h ⊢
    obtain ⟨h0, h1⟩ := row_num r hr ht
    exact numL_length h0 h1 h (hR.2.2.2 _).1 (hR.2.2.2 _).2
  · rw [ht] at h
    simp only [if_true] at h ⊢
    exact txtL_length h
theorem fldL_range (R : RawV) (wide : Bool) (r : RowD) : ∀ x ∈ fldL R wide r, 0 ≤ x ∧ x ≤ 255 := by
  unfold fldL; split
  · exact txtL_range _ _
  · exact numL_range _ _ _ _

def zeros : List Int := List.replicate 512 0
/-- a header's bytes ahead of its sum -/
def rawB (R : RawV) (L : List Int) : List Int := layB (L.set 156 R.x) 257 (nums (markS R.m))
def makeC (R : RawV) (wide dev : Bool) : Int := if ¬ (0 ≤ R.m ∧ R.m ≤ 2) then 2 else if flagB R.x = false then 9 else (mkR R wide dev rowsD zeros).1
def makeL (R : RawV) (wide dev : Bool) : List Int := if makeC R wide dev = 0 then sealL (rawB R (mkR R wide dev rowsD zeros).2) else []

end Go.Proofs.Ytgjbopbpekocpaa
