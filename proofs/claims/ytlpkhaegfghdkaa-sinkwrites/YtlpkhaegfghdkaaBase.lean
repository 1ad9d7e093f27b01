/-
  WHAT EVERY PROOF OF THIS Ytlpkhaegfghdkaa LEANS ON: bytes that a slice holds, rows of bytes that a call owns, strings of bytes. Nothing of the program. No condition.
-/
import Derived.WalkKit
import Derived.ProofKit
import Derived.OpenShut
import Derived.Below
import Derived.Handy
import Derived.WalkSpells
import Derived.Deep.CutBlock
import Derived.Deep.DeepCutAuto
import Derived.Laws.BitsAllLaws
import Derived.Laws.Shifts
import Derived.Laws.BytesArg
import Derived.Laws.AppendOwnNone
namespace Go.Proofs.Ytlpkhaegfghdkaa
open Go.ChangeShapes Go.WideShapes Go.ChangeAt Go.RowKit
set_option linter.unusedVariables false

theorem hid {p : Prop} (h : p) : Hid p := h

theorem ret_bool {a b : Bool} (h : a = b) : Ending.returned (.bool a) = .returned (.bool b) := by rw [h]
theorem ret_int {k : IntKind} {a b : Int} (h : a = b) : Ending.returned (.int k a) = .returned (.int k b) := by rw [h]
theorem ret_string {a b : ByteArray} (h : a = b) : Ending.returned (.string a) = .returned (.string b) := by rw [h]
theorem ret_two {k j : IntKind} {a b c d : Int} (h : a = b) (h' : c = d) : Ending.returned (.tuple #[.int k a, .int j c]) = .returned (.tuple #[.int k b, .int j d]) := by rw [h, h']
theorem ret_vb {k : IntKind} {a b : Int} {c d : Bool} (h : a = b) (h' : c = d) : Ending.returned (.tuple #[.int k a, .bool c]) = .returned (.tuple #[.int k b, .bool d]) := by rw [h, h']
theorem ret_vc {v : Value} {k : IntKind} {a b : Int} (h : a = b) : Ending.returned (.tuple #[v, .int k a]) = .returned (.tuple #[v, .int k b]) := by rw [h]
theorem ret_sc {s t : ByteArray} {k : IntKind} {a b : Int} (h : s = t) (h' : a = b) : Ending.returned (.tuple #[.string s, .int k a]) = .returned (.tuple #[.string t, .int k b]) := by rw [h, h']
theorem ret_sb {s t : ByteArray} {a b : Bool} (h : s = t) (h' : a = b) : Ending.returned (.tuple #[.string s, .bool a]) = .returned (.tuple #[.string t, .bool b]) := by rw [h, h']

/-! ### bytes that a slice holds -/

/-- the cells of 'l' as bytes, from offset 'off' of block 'b' on -/
def Cells (w : World) (b off : Nat) (l : List Int) : Prop :=
  (∀ n ∈ l, 0 ≤ n ∧ n ≤ 255) ∧ ∀ i, i < l.length → w.cell? ⟨b, off + i, none⟩ = some (.int .u8 (l.getD i 0))

/-- the bytes 'l' that a slice value holds -/
def Bys (w : World) (a : Option Addr) (len cap : Nat) (l : List Int) : Prop :=
  l.length = len ∧ len ≤ cap ∧ cap ≤ 9223372036854775807 ∧ (∀ n ∈ l, 0 ≤ n ∧ n ≤ 255) ∧
  ((l = [] ∧ len = 0) ∨ (0 < len ∧ ∃ b off, a = some ⟨b, off, none⟩ ∧ Cells w b off l))

theorem Cells.at {w : World} {b off k : Nat} {l : List Int} (h : Cells w b off l) (hk : k < l.length) :
    ∃ c : Int, Hid (l.drop k = c :: l.drop (k + 1)) ∧ 0 ≤ c ∧ c ≤ 255 ∧ w.cell? ⟨b, off + k, none⟩ = some (.int .u8 c) := by
  refine ⟨l[k], hid (List.drop_eq_getElem_cons hk), (h.1 _ (List.getElem_mem hk)).1, (h.1 _ (List.getElem_mem hk)).2, ?_⟩
  rw [h.2 k hk]; simp [hk]

theorem Cells.drop {w : World} {b off : Nat} {l : List Int} (h : Cells w b off l) (k : Nat) : Cells w b (off + k) (l.drop k) := by
  refine ⟨fun n hn => h.1 n (List.mem_of_mem_drop hn), fun i hi => ?_⟩
  have := h.2 (k + i) (by simp at hi; omega)
  rw [Nat.add_assoc, this]; simp [List.getElem?_drop]

theorem Cells.take {w : World} {b off : Nat} {l : List Int} (h : Cells w b off l) (k : Nat) : Cells w b off (l.take k) := by
  refine ⟨fun n hn => h.1 n (List.mem_of_mem_take hn), fun i hi => ?_⟩
  have hi' : i < k ∧ i < l.length := by simp at hi; omega
  rw [h.2 i hi'.2]; simp [hi'.1]

theorem Cells.below {w w' : World} (hb : Below w.heap.size w w') {b off : Nat} {l : List Int} (h : Cells w b off l) : Cells w' b off l :=
  ⟨h.1, fun i hi => cell_later hb (h.2 i hi)⟩

theorem Bys.mk' {w : World} {b off len cap : Nat} {l : List Int} (hl : l.length = len) (hlc : len ≤ cap) (hm : cap ≤ 9223372036854775807) (h : Cells w b off l) :
    Bys w (some ⟨b, off, none⟩) len cap l := by
  refine ⟨hl, hlc, hm, h.1, ?_⟩
  by_cases h0 : len = 0
  · exact .inl ⟨by subst hl; simpa using h0, h0⟩
  · exact .inr ⟨by omega, b, off, rfl, h⟩

theorem Bys.mk0 {w : World} {a : Option Addr} {cap : Nat} (hm : cap ≤ 9223372036854775807) : Bys w a 0 cap [] :=
  ⟨rfl, Nat.zero_le _, hm, by simp, .inl ⟨rfl, rfl⟩⟩

theorem Bys.below {w w' : World} (hb : Below w.heap.size w w') {a : Option Addr} {n c : Nat} {l : List Int} (h : Bys w a n c l) : Bys w' a n c l := by
  obtain ⟨hl, hlc, hm, hr, h' | ⟨h0, b, off, rfl, hc⟩⟩ := h
  · exact ⟨hl, hlc, hm, hr, .inl h'⟩
  · exact ⟨hl, hlc, hm, hr, .inr ⟨h0, b, off, rfl, hc.below hb⟩⟩

theorem Bys.alloc {w : World} {a : Option Addr} {n c : Nat} {l : List Int} (h : Bys w a n c l) (o : Obj) : Bys (w.alloc o) a n c l :=
  h.below ((Below.refl _ _).alloc (Nat.le_refl _) _)

theorem hd_cell {w : World} {b off len : Nat} {l : List Int} (hc : Cells w b off l) (hl : l.length = len) (h0 : 0 < len) :
    ∃ c t, l = c :: t ∧ 0 ≤ c ∧ c ≤ 255 ∧ w.cell? ⟨b, off, none⟩ = some (.int .u8 c) := by
  obtain ⟨c, hd, hc0, hc1, hck⟩ := hc.at (k := 0) (by omega)
  exact ⟨c, l.drop 1, by simpa using hd.out, hc0, hc1, hck⟩

/-- what the walk is told of a slice of integers that came in -/
def IsRow (k : IntKind) (w : World) (a : Option Addr) (len cap : Nat) (zs : List Int) : Prop :=
  (a = none ∧ len = 0 ∧ cap = 0 ∧ zs = []) ∨
  ∃ x, a = some x ∧ len ≤ cap ∧ cap ≤ maxLen ∧ zs.length = cap ∧ (∀ i, i < zs.length → w.cell? (x.add i) = some (.int k (zs.getD i 0))) ∧ ∀ n ∈ zs, (Lit.int k n).wf = true

theorem row_bys {w : World} {a : Option Addr} {len cap : Nat} {zs : List Int} (h : IsRow .u8 w a len cap zs) : Bys w a len cap (zs.take len) := by
  rcases h with ⟨rfl, rfl, rfl, rfl⟩ | ⟨x, rfl, hl, hm, hz, hcell, hwz⟩
  · exact Bys.mk0 (by omega)
  · unfold maxLen at hm
    have hr : ∀ n ∈ zs.take len, 0 ≤ n ∧ n ≤ 255 := fun n hn => bounds_u8 (hwz n (List.mem_of_mem_take hn))
    by_cases h0 : len = 0
    · subst h0; exact Bys.mk0 (by omega)
    · obtain ⟨b, off, spot⟩ := x
      have hc := hcell 0 (by omega)
      have hspot : spot = none := by simpa [Addr.add] using World.cell?_spot hc
      subst hspot
      refine Bys.mk' (by simp; omega) hl (by omega) ⟨hr, fun i hi => ?_⟩
      have hi' : i < len := by simp at hi; omega
      have := hcell i (by omega)
      rw [show (⟨b, off, none⟩ : Addr).add i = ⟨b, off + i, none⟩ by simp [Addr.add]] at this
      rw [this]
      simp [hi']

theorem row_nil {w : World} {a : Option Addr} {len cap : Nat} {zs : List Int} (h : IsRow .u8 w a len cap zs) : (a = none ∧ len = 0 ∧ cap = 0) ∨ ∃ x, a = some x := by
  rcases h with ⟨rfl, rfl, rfl, rfl⟩ | ⟨x, rfl, _⟩
  · exact .inl ⟨rfl, rfl, rfl⟩
  · exact .inr ⟨x, rfl⟩

/-! ### rows of bytes that the call owns ('e': the type of a byte) -/

def u8s (l : List Int) : List Value := l.map (Value.int .u8)

theorem u8s_get (l : List Int) (j : Nat) (h : j < l.length) : (u8s l)[j]? = some (.int .u8 (l.getD j 0)) := by unfold u8s; simp [h]
theorem u8s_app (a b : List Int) : u8s a ++ u8s b = u8s (a ++ b) := by simp [u8s]
theorem u8s_one (l : List Int) : ∀ u ∈ u8s l, u.oneCell' = true := ints_oneCell _ _
theorem u8s_len (l : List Int) : (u8s l).length = l.length * 1 := by simp [u8s]
theorem one_one (v : Int) : ∀ u ∈ [Value.int .u8 v], u.oneCell' = true := by intro u hu; simp at hu; subst hu; rfl

theorem madeBytes (n : Nat) : (madeCells #[Value.int .u8 0] n).toList = u8s (List.replicate n 0) := by
  rw [toList_madeCells_one]; simp [u8s]
theorem madeBytes' (n : Nat) : (madeCells (Value.int .u8 0).cells n).toList = u8s (List.replicate n 0) := madeBytes n

theorem own_bys {w : World} {B n : Nat} {e : TypeId} {v : Value} {l : List Int} (h : w.ownsRow B e 1 v n (u8s l)) (hl : l.length = n) (hr : ∀ x ∈ l, 0 ≤ x ∧ x ≤ 255) : ∃ a c, v = .slice a n c ∧ Bys w a n c l := by
  rcases h.2 with ⟨rfl, rfl⟩ | ⟨g, cap, cur, rfl, hb, hg, hnc, hcm, hcs, htake⟩
  · have : l = [] := by simpa using hl
    subst this
    exact ⟨none, 0, rfl, Bys.mk0 (by omega)⟩
  · refine ⟨_, cap, rfl, Bys.mk' hl hnc (by unfold maxLen at hcm; omega) ⟨hr, fun i hi => ?_⟩⟩
    have := h.cellAt i (by omega)
    rw [Nat.zero_add, this, u8s_get _ _ hi]

theorem own_below {w w' : World} (hb : Below w.heap.size w w') {base : Nat} {e : TypeId} {size n : Nat} {v : Value} {xs : List Value} (h : w.ownsRow base e size v n xs) : w'.ownsRow base e size v n xs := by
  obtain ⟨h1, h2 | ⟨g, cap, cur, hv, hbs, hg, hr⟩⟩ := h
  · exact ⟨h1, .inl h2⟩
  · refine ⟨h1, .inr ⟨g, cap, cur, hv, hbs, ?_, hr⟩⟩
    rw [hb.block g (by have := Array.getElem?_eq_some_iff.mp hg; exact this.1)]; exact hg

theorem own_mono {w : World} {base base' : Nat} (hb : base ≤ base') {e : TypeId} {size n : Nat} {v : Value} {xs : List Value} (h : w.ownsRow base' e size v n xs) : w.ownsRow base e size v n xs := by
  obtain ⟨h1, h2 | ⟨g, cap, cur, hv, hbs, hr⟩⟩ := h
  · exact ⟨h1, .inl h2⟩
  · exact ⟨h1, .inr ⟨g, cap, cur, hv, by omega, hr⟩⟩

theorem own_shape {w : World} {B n : Nat} {e : TypeId} {v : Value} {xs : List Value} (h : w.ownsRow B e 1 v n xs) (hn : 0 < n) : ∃ g c, v = .slice (some ⟨g, 0, none⟩) n c ∧ B ≤ g := by
  obtain ⟨h1, ⟨_, h2⟩ | ⟨g, cap, cur, hv, hbs, hg, hr⟩⟩ := h
  · omega
  · exact ⟨g, cap, hv, hbs⟩

theorem own_ge {w : World} {B n g c m : Nat} {e : TypeId} {xs : List Value} (h : w.ownsRow B e 1 (.slice (some ⟨g, 0, none⟩) m c) n xs) : B ≤ g := (h.lt g rfl).1

theorem own_more {w : World} {B n : Nat} {e : TypeId} {v : Value} {l : List Int} {x : Int} (h : w.ownsRow B e 1 v n (u8s l ++ [.int .u8 x])) : w.ownsRow B e 1 v n (u8s (l ++ [x])) := by
  rw [← u8s_app]; exact h

/-- one store into a row of bytes -/
theorem row_store {w : World} {B g k c j : Nat} {e : TypeId} {l : List Int} (v : Int) (hl : l.length = k) (hj : j < k) (h : w.ownsRow B e 1 (.slice (some ⟨g, 0, none⟩) k c) k (u8s l)) :
    w.cell? ⟨g, j, none⟩ = some (.int .u8 (l.getD j 0)) ∧ w.frozen? ⟨g, j, none⟩ = false ∧
    (w.setCell ⟨g, j, none⟩ (.int .u8 v)).ownsRow B e 1 (.slice (some ⟨g, 0, none⟩) k c) k (u8s (l.set j v)) := by
  refine ⟨?_, h.frozenAt j, ?_⟩
  · rw [h.cellAt j (by omega), u8s_get _ _ (by omega)]
  · have : u8s (l.set j v) = (u8s l).set j (.int .u8 v) := by unfold u8s; rw [List.map_set]
    rw [this]; exact (h.stored j _).1

theorem bys_news {w : World} {x : Addr} {n c : Nat} {l : List Int} (h : Bys w (some x) n c l) : ∀ j u, (u8s l)[j]? = some u → w.cell? (x.add j) = some u := by
  obtain ⟨hl, hlc, hm, hr, ⟨rfl, rfl⟩ | ⟨h0, b, off, e, hc⟩⟩ := h
  · intro j u hj; simp [u8s] at hj
  · intro j u hj
    simp only [Option.some.injEq] at e
    subst e
    have hjl : j < l.length := by
      rcases Nat.lt_or_ge j l.length with h | h
      · exact h
      · simp [u8s, List.getElem?_eq_none h] at hj
    rw [u8s_get l j hjl] at hj
    rw [show (⟨b, off, none⟩ : Addr).add j = ⟨b, off + j, none⟩ by simp [Addr.add], hc.2 j hjl]; exact hj

theorem bys_lit {w : World} (e : TypeId) (l : List Int) (hl : l.length ≤ 1000) (hr : ∀ x ∈ l, 0 ≤ x ∧ x ≤ 255) : Bys (w.alloc (.cells (u8s l).toArray e)) (some ⟨w.heap.size, 0, none⟩) l.length l.length l := by
  have h := World.ownsRow_lit (base := 0) (e := e) (size := 1) w (u8s l).toArray l.length (Nat.zero_le _) (by unfold maxLen; omega) (by simp [u8s])
  obtain ⟨a, c, e, h'⟩ := own_bys (l := l) (by simpa using h) rfl hr
  simp only [Value.slice.injEq] at e
  obtain ⟨rfl, -, rfl⟩ := e
  exact h'

/-! ### strings ('t' the type of a slice of bytes, 'e' of a byte, 's' of a string) -/

theorem bys_string {P : Program} {t e s : TypeId} (ht : P.underlying t = some (.slice e)) (he : P.underlying e = some (.int .u8)) (hs : P.underlying s = some .string)
    {w : World} {a : Option Addr} {n c : Nat} {l : List Int} (h : Bys w a n c l) : (convert t s (.slice a n c)).run P w = .ok (.string (strOfNums l)) w := by
  obtain ⟨hl, hlc, hm, hb, ⟨rfl, rfl⟩ | ⟨h0, b, off, rfl, hc⟩⟩ := h
  · match a with
    | none => exact run_convert_bytes_nil w t e ht he 0 c s hs
    | some x =>
      have hld : (loadCells x 0).run P w = .ok (([] : List Int).map (Value.int .u8)).toArray w := by
        have := run_loadCells_list (P := P) w x [] (by simp)
        simpa using this
      rw [run_convert_bytes_string w t s e _ 0 c ht he hs, run_bytesToString w _ 0 c [] hld]
      rfl
  · exact run_convert_bytes_arg w t e ht he b off n c l hl (fun i hi => hc.2 i (by omega)) s hs

/-- a string's bytes as numbers -/
def nums (s : ByteArray) : List Int := s.data.toList.map fun c => (c.toNat : Int)
theorem nums_length (s : ByteArray) : (nums s).length = s.size := by unfold nums; rw [List.length_map, Array.length_toList]; rfl
theorem nums_range (s : ByteArray) : ∀ x ∈ nums s, 0 ≤ x ∧ x ≤ 255 := by
  intro x hx
  simp only [nums, List.mem_map] at hx
  obtain ⟨c, _, rfl⟩ := hx
  have := c.toNat_lt
  omega
theorem str_nums (s : ByteArray) : strOfNums (nums s) = s := by
  unfold strOfNums nums
  rw [List.map_map]
  have : ((fun n : Int => UInt8.ofNat n.toNat) ∘ fun c : UInt8 => (c.toNat : Int)) = id := by
    funext c; simp
  rw [this]; simp
theorem nums_str (l : List Int) (h : ∀ x ∈ l, 0 ≤ x ∧ x ≤ 255) : nums (strOfNums l) = l := by
  unfold nums strOfNums
  rw [List.toList_toArray, List.map_map]
  conv => rhs; rw [← List.map_id l]
  apply List.map_congr_left
  intro x hx
  have := h x hx
  simp only [Function.comp_apply, UInt8.toNat_ofNat', id]
  omega
theorem nums_inj {s t : ByteArray} (h : nums s = nums t) : s = t := by rw [← str_nums s, ← str_nums t, h]

end Go.Proofs.Ytlpkhaegfghdkaa
