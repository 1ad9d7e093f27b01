/-
  WHAT EVERY PROOF OF THIS YthnaanjhmehgcaaGreatDoor LEANS ON: bytes that a slice holds, rows of bytes that a call owns, strings of bytes. Nothing of the program. No condition.; AND WHAT FOLLOWS OF IT. Conditions: those that each part names.
-/
import Derived.WalkKit
import Derived.ProofKit
import Derived.OpenShut
import Derived.Below
import Derived.Handy
import Derived.WalkSpells
import Derived.Deep.CutBlock
import Derived.Deep.DeepCutAuto
import Derived.Laws.BitsAllLaws
import Derived.Laws.Shifts
import Derived.Laws.BytesArg
import Derived.Laws.AppendOwnNone
import Derived.Lib.FrozenHead2
import Derived.Laws.IdiomStrings
import Derived.Laws.IdiomCopy
/-
  WHAT EVERY PROOF OF THIS YthnaanjhmehgcaaGreatDoor LEANS ON: bytes that a slice holds, rows of bytes that a call owns, strings of bytes. Nothing of the program. No condition.
-/
namespace Go.Proofs.YthnaanjhmehgcaaGreatDoor
open Go.ChangeShapes Go.WideShapes Go.ChangeAt Go.RowKit
set_option linter.unusedVariables false

theorem hid {p : Prop} (h : p) : Hid p := h

theorem ret_bool {a b : Bool} (h : a = b) : Ending.returned (.bool a) = .returned (.bool b) := by rw [h]
theorem ret_int {k : IntKind} {a b : Int} (h : a = b) : Ending.returned (.int k a) = .returned (.int k b) := by rw [h]
theorem ret_string {a b : ByteArray} (h : a = b) : Ending.returned (.string a) = .returned (.string b) := by rw [h]
theorem ret_two {k j : IntKind} {a b c d : Int} (h : a = b) (h' : c = d) : Ending.returned (.tuple #[.int k a, .int j c]) = .returned (.tuple #[.int k b, .int j d]) := by rw [h, h']
theorem ret_vb {k : IntKind} {a b : Int} {c d : Bool} (h : a = b) (h' : c = d) : Ending.returned (.tuple #[.int k a, .bool c]) = .returned (.tuple #[.int k b, .bool d]) := by rw [h, h']
theorem ret_vc {v : Value} {k : IntKind} {a b : Int} (h : a = b) : Ending.returned (.tuple #[v, .int k a]) = .returned (.tuple #[v, .int k b]) := by rw [h]
theorem ret_sc {s t : ByteArray} {k : IntKind} {a b : Int} (h : s = t) (h' : a = b) : Ending.returned (.tuple #[.string s, .int k a]) = .returned (.tuple #[.string t, .int k b]) := by rw [h, h']
theorem ret_sb {s t : ByteArray} {a b : Bool} (h : s = t) (h' : a = b) : Ending.returned (.tuple #[.string s, .bool a]) = .returned (.tuple #[.string t, .bool b]) := by rw [h, h']

/-! ### bytes that a slice holds -/

/-- the cells of 'l' as bytes, from offset 'off' of block 'b' on -/
def Cells (w : World) (b off : Nat) (l : List Int) : Prop :=
  (∀ n ∈ l, 0 ≤ n ∧ n ≤ 255) ∧ ∀ i, i < l.length → w.cell? ⟨b, off + i, none⟩ = some (.int .u8 (l.getD i 0))

/-- the bytes 'l' that a slice value holds -/
def Bys (w : World) (a : Option Addr) (len cap : Nat) (l : List Int) : Prop :=
  l.length = len ∧ len ≤ cap ∧ cap ≤ 9223372036854775807 ∧ (∀ n ∈ l, 0 ≤ n ∧ n ≤ 255) ∧
  ((l = [] ∧ len = 0) ∨ (0 < len ∧ ∃ b off, a = some ⟨b, off, none⟩ ∧ Cells w b off l))

theorem Cells.at {w : World} {b off k : Nat} {l : List Int} (h : Cells w b off l) (hk : k < l.length) :
    ∃ c : Int, Hid (l.drop k = c :: l.drop (k + 1)) ∧ 0 ≤ c ∧ c ≤ 255 ∧ w.cell? ⟨b, off + k, none⟩ = some (.int .u8 c) := by
  refine ⟨l[k], hid (List.drop_eq_getElem_cons hk), (h.1 _ (List.getElem_mem hk)).1, (h.1 _ (List.getElem_mem hk)).2, ?_⟩
  rw [h.2 k hk]; simp [hk]

theorem Cells.drop {w : World} {b off : Nat} {l : List Int} (h : Cells w b off l) (k : Nat) : Cells w b (off + k) (l.drop k) := by
  refine ⟨fun n hn => h.1 n (List.mem_of_mem_drop hn), fun i hi => ?_⟩
  have := h.2 (k + i) (by simp at hi; omega)
  rw [Nat.add_assoc, this]; simp [List.getElem?_drop]

theorem Cells.take {w : World} {b off : Nat} {l : List Int} (h : Cells w b off l) (k : Nat) : Cells w b off (l.take k) := by
  refine ⟨fun n hn => h.1 n (List.mem_of_mem_take hn), fun i hi => ?_⟩
  have hi' : i < k ∧ i < l.length := by simp at hi; omega
  rw [h.2 i hi'.2]; simp [hi'.1]

theorem Cells.below {w w' : World} (hb : Below w.heap.size w w') {b off : Nat} {l : List Int} (h : Cells w b off l) : Cells w' b off l :=
  ⟨h.1, fun i hi => cell_later hb (h.2 i hi)⟩

theorem Bys.mk' {w : World} {b off len cap : Nat} {l : List Int} (hl : l.length = len) (hlc : len ≤ cap) (hm : cap ≤ 9223372036854775807) (h : Cells w b off l) :
    Bys w (some ⟨b, off, none⟩) len cap l := by
  refine ⟨hl, hlc, hm, h.1, ?_⟩
  by_cases h0 : len = 0
  · exact .inl ⟨by subst hl; simpa using h0, h0⟩
  · exact .inr ⟨by omega, b, off, rfl, h⟩

theorem Bys.mk0 {w : World} {a : Option Addr} {cap : Nat} (hm : cap ≤ 9223372036854775807) : Bys w a 0 cap [] :=
  ⟨rfl, Nat.zero_le _, hm, by simp, .inl ⟨rfl, rfl⟩⟩

theorem Bys.below {w w' : World} (hb : Below w.heap.size w w') {a : Option Addr} {n c : Nat} {l : List Int} (h : Bys w a n c l) : Bys w' a n c l := by
  obtain ⟨hl, hlc, hm, hr, h' | ⟨h0, b, off, rfl, hc⟩⟩ := h
  · exact ⟨hl, hlc, hm, hr, .inl h'⟩
  · exact ⟨hl, hlc, hm, hr, .inr ⟨h0, b, off, rfl, hc.below hb⟩⟩

theorem Bys.alloc {w : World} {a : Option Addr} {n c : Nat} {l : List Int} (h : Bys w a n c l) (o : Obj) : Bys (w.alloc o) a n c l :=
  h.below ((Below.refl _ _).alloc (Nat.le_refl _) _)

theorem hd_cell {w : World} {b off len : Nat} {l : List Int} (hc : Cells w b off l) (hl : l.length = len) (h0 : 0 < len) :
    ∃ c t, l = c :: t ∧ 0 ≤ c ∧ c ≤ 255 ∧ w.cell? ⟨b, off, none⟩ = some (.int .u8 c) := by
  obtain ⟨c, hd, hc0, hc1, hck⟩ := hc.at (k := 0) (by omega)
  exact ⟨c, l.drop 1, by simpa using hd.out, hc0, hc1, hck⟩

/-- what the walk is told of a slice of integers that came in -/
def IsRow (k : IntKind) (w : World) (a : Option Addr) (len cap : Nat) (zs : List Int) : Prop :=
  (a = none ∧ len = 0 ∧ cap = 0 ∧ zs = []) ∨
  ∃ x, a = some x ∧ len ≤ cap ∧ cap ≤ maxLen ∧ zs.length = cap ∧ (∀ i, i < zs.length → w.cell? (x.add i) = some (.int k (zs.getD i 0))) ∧ ∀ n ∈ zs, (Lit.int k n).wf = true

theorem row_bys {w : World} {a : Option Addr} {len cap : Nat} {zs : List Int} (h : IsRow .u8 w a len cap zs) : Bys w a len cap (zs.take len) := by
  rcases h with ⟨rfl, rfl, rfl, rfl⟩ | ⟨x, rfl, hl, hm, hz, hcell, hwz⟩
  · exact Bys.mk0 (by omega)
  · unfold maxLen at hm
    have hr : ∀ n ∈ zs.take len, 0 ≤ n ∧ n ≤ 255 := fun n hn => bounds_u8 (hwz n (List.mem_of_mem_take hn))
    by_cases h0 : len = 0
    · subst h0; exact Bys.mk0 (by omega)
    · obtain ⟨b, off, spot⟩ := x
      have hc := hcell 0 (by omega)
      have hspot : spot = none := by simpa [Addr.add] using World.cell?_spot hc
      subst hspot
      refine Bys.mk' (by simp; omega) hl (by omega) ⟨hr, fun i hi => ?_⟩
      have hi' : i < len := by simp at hi; omega
      have := hcell i (by omega)
      rw [show (⟨b, off, none⟩ : Addr).add i = ⟨b, off + i, none⟩ by simp [Addr.add]] at this
      rw [this]
      simp [hi']

theorem row_nil {w : World} {a : Option Addr} {len cap : Nat} {zs : List Int} (h : IsRow .u8 w a len cap zs) : (a = none ∧ len = 0 ∧ cap = 0) ∨ ∃ x, a = some x := by
  rcases h with ⟨rfl, rfl, rfl, rfl⟩ | ⟨x, rfl, _⟩
  · exact .inl ⟨rfl, rfl, rfl⟩
  · exact .inr ⟨x, rfl⟩

/-! ### rows of bytes that the call owns ('e': the type of a byte) -/

def u8s (l : List Int) : List Value := l.map (Value.int .u8)

theorem u8s_get (l : List Int) (j : Nat) (h : j < l.length) : (u8s l)[j]? = some (.int .u8 (l.getD j 0)) := by unfold u8s; simp [h]
theorem u8s_app (a b : List Int) : u8s a ++ u8s b = u8s (a ++ b) := by simp [u8s]
theorem u8s_one (l : List Int) : ∀ u ∈ u8s l, u.oneCell' = true := ints_oneCell _ _
theorem u8s_len (l : List Int) : (u8s l).length = l.length * 1 := by simp [u8s]
theorem one_one (v : Int) : ∀ u ∈ [Value.int .u8 v], u.oneCell' = true := by intro u hu; simp at hu; subst hu; rfl

theorem madeBytes (n : Nat) : (madeCells #[Value.int .u8 0] n).toList = u8s (List.replicate n 0) := by
  rw [toList_madeCells_one]; simp [u8s]
theorem madeBytes' (n : Nat) : (madeCells (Value.int .u8 0).cells n).toList = u8s (List.replicate n 0) := madeBytes n

theorem own_bys {w : World} {B n : Nat} {e : TypeId} {v : Value} {l : List Int} (h : w.ownsRow B e 1 v n (u8s l)) (hl : l.length = n) (hr : ∀ x ∈ l, 0 ≤ x ∧ x ≤ 255) : ∃ a c, v = .slice a n c ∧ Bys w a n c l := by
  rcases h.2 with ⟨rfl, rfl⟩ | ⟨g, cap, cur, rfl, hb, hg, hnc, hcm, hcs, htake⟩
  · have : l = [] := by simpa using hl
    subst this
    exact ⟨none, 0, rfl, Bys.mk0 (by omega)⟩
  · refine ⟨_, cap, rfl, Bys.mk' hl hnc (by unfold maxLen at hcm; omega) ⟨hr, fun i hi => ?_⟩⟩
    have := h.cellAt i (by omega)
    rw [Nat.zero_add, this, u8s_get _ _ hi]

theorem own_below {w w' : World} (hb : Below w.heap.size w w') {base : Nat} {e : TypeId} {size n : Nat} {v : Value} {xs : List Value} (h : w.ownsRow base e size v n xs) : w'.ownsRow base e size v n xs := by
  obtain ⟨h1, h2 | ⟨g, cap, cur, hv, hbs, hg, hr⟩⟩ := h
  · exact ⟨h1, .inl h2⟩
  · refine ⟨h1, .inr ⟨g, cap, cur, hv, hbs, ?_, hr⟩⟩
    rw [hb.block g (by have := Array.getElem?_eq_some_iff.mp hg; exact this.1)]; exact hg

theorem own_mono {w : World} {base base' : Nat} (hb : base ≤ base') {e : TypeId} {size n : Nat} {v : Value} {xs : List Value} (h : w.ownsRow base' e size v n xs) : w.ownsRow base e size v n xs := by
  obtain ⟨h1, h2 | ⟨g, cap, cur, hv, hbs, hr⟩⟩ := h
  · exact ⟨h1, .inl h2⟩
  · exact ⟨h1, .inr ⟨g, cap, cur, hv, by omega, hr⟩⟩

theorem own_shape {w : World} {B n : Nat} {e : TypeId} {v : Value} {xs : List Value} (h : w.ownsRow B e 1 v n xs) (hn : 0 < n) : ∃ g c, v = .slice (some ⟨g, 0, none⟩) n c ∧ B ≤ g := by
  obtain ⟨h1, ⟨_, h2⟩ | ⟨g, cap, cur, hv, hbs, hg, hr⟩⟩ := h
  · omega
  · exact ⟨g, cap, hv, hbs⟩

theorem own_ge {w : World} {B n g c m : Nat} {e : TypeId} {xs : List Value} (h : w.ownsRow B e 1 (.slice (some ⟨g, 0, none⟩) m c) n xs) : B ≤ g := (h.lt g rfl).1

theorem own_more {w : World} {B n : Nat} {e : TypeId} {v : Value} {l : List Int} {x : Int} (h : w.ownsRow B e 1 v n (u8s l ++ [.int .u8 x])) : w.ownsRow B e 1 v n (u8s (l ++ [x])) := by
  rw [← u8s_app]; exact h

/-- one store into a row of bytes -/
theorem row_store {w : World} {B g k c j : Nat} {e : TypeId} {l : List Int} (v : Int) (hl : l.length = k) (hj : j < k) (h : w.ownsRow B e 1 (.slice (some ⟨g, 0, none⟩) k c) k (u8s l)) :
    w.cell? ⟨g, j, none⟩ = some (.int .u8 (l.getD j 0)) ∧ w.frozen? ⟨g, j, none⟩ = false ∧
    (w.setCell ⟨g, j, none⟩ (.int .u8 v)).ownsRow B e 1 (.slice (some ⟨g, 0, none⟩) k c) k (u8s (l.set j v)) := by
  refine ⟨?_, h.frozenAt j, ?_⟩
  · rw [h.cellAt j (by omega), u8s_get _ _ (by omega)]
  · have : u8s (l.set j v) = (u8s l).set j (.int .u8 v) := by unfold u8s; rw [List.map_set]
    rw [this]; exact (h.stored j _).1

theorem bys_news {w : World} {x : Addr} {n c : Nat} {l : List Int} (h : Bys w (some x) n c l) : ∀ j u, (u8s l)[j]? = some u → w.cell? (x.add j) = some u := by
  obtain ⟨hl, hlc, hm, hr, ⟨rfl, rfl⟩ | ⟨h0, b, off, e, hc⟩⟩ := h
  · intro j u hj; simp [u8s] at hj
  · intro j u hj
    simp only [Option.some.injEq] at e
    subst e
    have hjl : j < l.length := by
      rcases Nat.lt_or_ge j l.length with h | h
      · exact h
      · simp [u8s, List.getElem?_eq_none h] at hj
    rw [u8s_get l j hjl] at hj
    rw [show (⟨b, off, none⟩ : Addr).add j = ⟨b, off + j, none⟩ by simp [Addr.add], hc.2 j hjl]; exact hj

theorem bys_lit {w : World} (e : TypeId) (l : List Int) (hl : l.length ≤ 1000) (hr : ∀ x ∈ l, 0 ≤ x ∧ x ≤ 255) : Bys (w.alloc (.cells (u8s l).toArray e)) (some ⟨w.heap.size, 0, none⟩) l.length l.length l := by
  have h := World.ownsRow_lit (base := 0) (e := e) (size := 1) w (u8s l).toArray l.length (Nat.zero_le _) (by unfold maxLen; omega) (by simp [u8s])
  obtain ⟨a, c, e, h'⟩ := own_bys (l := l) (by simpa using h) rfl hr
  simp only [Value.slice.injEq] at e
  obtain ⟨rfl, -, rfl⟩ := e
  exact h'

/-! ### strings ('t' the type of a slice of bytes, 'e' of a byte, 's' of a string) -/

theorem bys_string {P : Program} {t e s : TypeId} (ht : P.underlying t = some (.slice e)) (he : P.underlying e = some (.int .u8)) (hs : P.underlying s = some .string)
    {w : World} {a : Option Addr} {n c : Nat} {l : List Int} (h : Bys w a n c l) : (convert t s (.slice a n c)).run P w = .ok (.string (strOfNums l)) w := by
  obtain ⟨hl, hlc, hm, hb, ⟨rfl, rfl⟩ | ⟨h0, b, off, rfl, hc⟩⟩ := h
  · match a with
    | none => exact run_convert_bytes_nil w t e ht he 0 c s hs
    | some x =>
      have hld : (loadCells x 0).run P w = .ok (([] : List Int).map (Value.int .u8)).toArray w := by
        have := run_loadCells_list (P := P) w x [] (by simp)
        simpa using this
      rw [run_convert_bytes_string w t s e _ 0 c ht he hs, run_bytesToString w _ 0 c [] hld]
      rfl
  · exact run_convert_bytes_arg w t e ht he b off n c l hl (fun i hi => hc.2 i (by omega)) s hs

/-- a string's bytes as numbers -/
def nums (s : ByteArray) : List Int := s.data.toList.map fun c => (c.toNat : Int)
theorem nums_length (s : ByteArray) : (nums s).length = s.size := by unfold nums; rw [List.length_map, Array.length_toList]; rfl
theorem nums_range (s : ByteArray) : ∀ x ∈ nums s, 0 ≤ x ∧ x ≤ 255 := by
  intro x hx
  simp only [nums, List.mem_map] at hx
  obtain ⟨c, _, rfl⟩ := hx
  have := c.toNat_lt
  omega
theorem str_nums (s : ByteArray) : strOfNums (nums s) = s := by
  unfold strOfNums nums
  rw [List.map_map]
  have : ((fun n : Int => UInt8.ofNat n.toNat) ∘ fun c : UInt8 => (c.toNat : Int)) = id := by
    funext c; simp
  rw [this]; simp
theorem nums_str (l : List Int) (h : ∀ x ∈ l, 0 ≤ x ∧ x ≤ 255) : nums (strOfNums l) = l := by
  unfold nums strOfNums
  rw [List.toList_toArray, List.map_map]
  conv => rhs; rw [← List.map_id l]
  apply List.map_congr_left
  intro x hx
  have := h x hx
  simp only [Function.comp_apply, UInt8.toNat_ofNat', id]
  omega
theorem nums_inj {s t : ByteArray} (h : nums s = nums t) : s = t := by rw [← str_nums s, ← str_nums t, h]

end Go.Proofs.YthnaanjhmehgcaaGreatDoor

/-
  APPEND ONTO A ROW OF BYTES THAT THE CALL OWNS AND THAT MAY COME OF A STRING (then its block is marked behind its last cell): the bytes stand behind those it holds. Nothing of the program. No conditions but the length (at most 2^47 bytes).
-/
namespace Go.Proofs.YthnaanjhmehgcaaGreatDoor
open Go.ChangeShapes Go.WideShapes Go.ChangeAt Go.RowKit
set_option linter.unusedVariables false

/-- The slice 'v' of n bytes owns the cells xs, in a block from 'base' on; the block may be marked behind its cells. -/
def OwnM (w : World) (base : Nat) (e : TypeId) (v : Value) (n : Nat) (xs : List Value) : Prop :=
  xs.length = n ∧
  ((v = .slice none 0 0 ∧ n = 0) ∨
   ∃ g cap cur fz, v = .slice (some ⟨g, 0, none⟩) n cap ∧ base ≤ g ∧ w.heap[g]? = some (.cells cur e fz) ∧ (fz.2 = 0 ∨ cur.size ≤ fz.1) ∧ n ≤ cap ∧ cap ≤ maxLen ∧ cur.size = cap ∧ cur.toList.take n = xs)

theorem OwnM.of {w : World} {base : Nat} {e : TypeId} {v : Value} {n : Nat} {xs : List Value} (h : w.ownsRow base e 1 v n xs) : OwnM w base e v n xs := by
  refine ⟨by simpa using h.1, ?_⟩
  rcases h.2 with hn | ⟨g, cap, cur, hv, hb, hg, h1, h2, h3, h4⟩
  · exact .inl hn
  · exact .inr ⟨g, cap, cur, (0, 0), hv, hb, hg, .inl rfl, h1, h2, by simpa using h3, by simpa using h4⟩

theorem OwnM.lt {w : World} {base : Nat} {e : TypeId} {v : Value} {n : Nat} {xs : List Value} (h : OwnM w base e v n xs) : ∀ k, v.ownBlock = some k → base ≤ k ∧ k < w.heap.size := by
  intro k hk
  rcases h.2 with ⟨rfl, _⟩ | ⟨g, cap, cur, fz, rfl, hb, hg, _⟩
  · simp [Value.ownBlock] at hk
  · simp [Value.ownBlock] at hk
    subst hk
    exact ⟨hb, (Array.getElem?_eq_some_iff.1 hg).1⟩

theorem OwnM.cells {w : World} {base : Nat} {e : TypeId} {v : Value} {n : Nat} {xs : List Value} (h : OwnM w base e v n xs) {g : Nat} (hg : v.ownBlock = some g) : ∀ j u, xs[j]? = some u → w.cell? ((⟨g, 0, none⟩ : Addr).add j) = some u := by
  intro j u hu
  rcases h.2 with ⟨rfl, _⟩ | ⟨g', cap, cur, fz, rfl, _, hgg, _, _, _, _, htake⟩
  · simp [Value.ownBlock] at hg
  · simp [Value.ownBlock] at hg
    subst hg
    have hadd : (⟨g', 0, none⟩ : Addr).add j = ⟨g', j, none⟩ := by unfold Addr.add; split <;> simp_all
    rw [hadd, cell_of_row w g' j cur e fz hgg]
    rw [← htake, List.getElem?_take] at hu
    split at hu
    · simpa using hu
    · cases hu

theorem OwnM.alloc {w : World} {base : Nat} {e : TypeId} {v : Value} {n : Nat} {xs : List Value} (h : OwnM w base e v n xs) (o : Obj) : OwnM (w.alloc o) base e v n xs := by
  refine ⟨h.1, ?_⟩
  rcases h.2 with hn | ⟨g, cap, cur, fz, rfl, hb, hgg, rest⟩
  · exact .inl hn
  · exact .inr ⟨g, cap, cur, fz, rfl, hb, by rw [Below.heap_alloc w o g (Array.getElem?_eq_some_iff.1 hgg).1]; exact hgg, rest⟩

theorem OwnM.below {w w' : World} (hb : Below w.heap.size w w') {base : Nat} {e : TypeId} {v : Value} {n : Nat} {xs : List Value} (h : OwnM w base e v n xs) : OwnM w' base e v n xs := by
  refine ⟨h.1, ?_⟩
  rcases h.2 with hn | ⟨g, cap, cur, fz, rfl, hbg, hgg, rest⟩
  · exact .inl hn
  · exact .inr ⟨g, cap, cur, fz, rfl, hbg, by rw [hb.block g (Array.getElem?_eq_some_iff.1 hgg).1]; exact hgg, rest⟩

/-- What a reader of bytes gets. -/
theorem OwnM.bys {w : World} {B n : Nat} {e : TypeId} {v : Value} {l : List Int} (h : OwnM w B e v n (u8s l)) (hl : l.length = n) (hr : ∀ x ∈ l, 0 ≤ x ∧ x ≤ 255) : ∃ a c, v = .slice a n c ∧ Bys w a n c l := by
  rcases h.2 with ⟨rfl, rfl⟩ | ⟨g, cap, cur, fz, rfl, hbg, hgg, hfz, hnc, hcm, hcs, htake⟩
  · obtain rfl := List.length_eq_zero_iff.1 hl
    exact ⟨none, 0, rfl, Bys.mk0 (by omega)⟩
  · refine ⟨_, _, rfl, Bys.mk' hl hnc (by unfold maxLen at hcm; omega) ⟨fun x hx => ?_, fun i hi => ?_⟩⟩
    · exact hr x hx
    · have := h.cells (g := g) rfl i (.int .u8 (l.getD i 0)) (u8s_get l i hi)
      rw [show (⟨g, 0, none⟩ : Addr).add i = ⟨g, 0 + i, none⟩ by unfold Addr.add; split <;> simp_all] at this
      exact this

/-- The row of a string's bytes. -/
theorem own_string {w : World} {e : TypeId} (base : Nat) (s : ByteArray) (hb : base ≤ w.heap.size) (hs : s.size ≤ 140737488355328) (k : Nat) (hk : k = grownCap w s.size 0 e) :
    OwnM (w.drew.alloc (.cells (bytesRow s k) e ((bytesRow s k).size, (bytesRow s k).size + 1))) base e (.slice (some ⟨w.heap.size, 0, none⟩) s.size k) s.size (u8s (nums s)) := by
  have hge : s.size ≤ k := by rw [hk]; exact grownCap_ge w s.size 0 e
  have hle : k ≤ maxLen := by rw [hk]; exact grownCap_le_maxLen w s.size 0 e (by unfold maxLen; omega)
  have hds : s.data.size = s.size := rfl
  refine ⟨by simp [u8s, nums, hds], .inr ⟨w.heap.size, k, _, _, rfl, hb, heap_alloc_new w.drew _, .inr (Nat.le_refl _), hge, hle, ?_, ?_⟩⟩
  · simp only [bytesRow, Array.size_append, Array.size_map, Array.size_replicate, hds]
    omega
  · simp only [bytesRow, Array.toList_append, Array.toList_map]
    rw [List.take_append_of_le_length (by simp [hds]), List.take_of_length_le (by simp [hds])]
    simp [u8s, nums]

theorem below_string {w w0 : World} {e : TypeId} {base : Nat} (h : Below base w0 w) (hb : base ≤ w.heap.size) (cs : Array Value) (fz : Nat × Nat) : Below base w0 (w.drew.alloc (.cells cs e fz)) :=
  h.drew.alloc hb _

/-- '[]byte(s)': what it gives, whatever the capacity. -/
theorem conv_string {P : Program} {src dst e : TypeId} (hs : P.underlying src = some .string) (hd : P.underlying dst = some (.slice e)) (he : P.underlying e = some (.int .u8)) (w : World) (s : ByteArray) (hl : s.size ≤ 140737488355328) :
    ∃ k w1, (convert src dst (.string s)).run P w = .ok (.slice (some ⟨w.heap.size, 0, none⟩) s.size k) w1 ∧ OwnM w1 w.heap.size e (.slice (some ⟨w.heap.size, 0, none⟩) s.size k) s.size (u8s (nums s)) ∧ Bys w1 (some ⟨w.heap.size, 0, none⟩) s.size k (nums s) ∧ Below w.heap.size w w1 := by
  have hown := own_string (w := w) (e := e) w.heap.size s (Nat.le_refl _) hl _ rfl
  refine ⟨_, _, run_bytes_of_string w src dst e s hs hd he, hown, ?_, below_string (Below.refl _ w) (Nat.le_refl _) _ _⟩
  obtain ⟨a, c, hv, hb⟩ := hown.bys (nums_length s) (nums_range s)
  simp only [Value.slice.injEq] at hv
  obtain ⟨rfl, -, rfl⟩ := hv
  exact hb

/-- Cells that are set one by one, as one new row. -/
theorem setCells_row (g : Nat) (t : TypeId) (fz : Nat × Nat) (vs : List Value) : ∀ (o : Nat) (cur : Array Value) (w : World), w.heap[g]? = some (.cells cur t fz) → o + vs.length ≤ cur.size →
    w.setCells g o vs = w.setRow g (cur.toList.take o ++ vs ++ cur.toList.drop (o + vs.length)).toArray := by
  induction vs with
  | nil =>
    intro o cur w hg _
    have e : (cur.toList.take o ++ [] ++ cur.toList.drop (o + ([] : List Value).length)).toArray = cur := by simp
    rw [e, setRow_self w g cur t fz hg]
    rfl
  | cons v r ih =>
    intro o cur w hg hl
    simp only [List.length_cons] at hl
    have h1 : w.setCells g o (v :: r) = (w.setCell ⟨g, o, none⟩ v).setCells g (o + 1) r := rfl
    rw [h1, setCell_eq_setRow w g o cur t fz v hg, ih (o + 1) _ _ (setRow_heap w g cur _ t _ hg) (by simp; omega), setRow_setRow]
    congr 2
    have e := list_seg_step cur.toList o v r (by simp; omega)
    simpa [Array.toList_setIfInBounds, Nat.add_assoc, Nat.add_comm, Nat.add_left_comm] using e

theorem run_storeCells_atM (P : Program) (g o : Nat) (t : TypeId) (fz : Nat × Nat) (vs : List Value) (cur : Array Value) (w : World) (hg : w.heap[g]? = some (.cells cur t fz)) (hfz : fz.2 = 0 ∨ cur.size ≤ fz.1) (hl : o + vs.length ≤ cur.size) (h1 : ∀ v ∈ vs, v.oneCell' = true) :
    (storeCells ⟨g, o, none⟩ vs 0).run P w = .ok () (w.setRow g (cur.toList.take o ++ vs ++ cur.toList.drop (o + vs.length)).toArray) := by
  rw [run_storeCells_cells g o vs 0 w ?_ ?_ h1, Nat.add_zero, setCells_row g t fz vs o cur w hg hl]
  · intro k hk
    rw [cell_of_row w g (o + 0 + k) cur t fz hg]
    simp; omega
  · intro k hk
    obtain ⟨lo, hi⟩ := fz
    simp only [World.frozen?, hg, Bool.and_eq_false_iff, decide_eq_false_iff_not]
    simp only at hfz
    omega

theorem run_append_roomM {P : Program} (w : World) (t ty e : TypeId) (i : TypeInfo) (ht : P.underlying t = some (.slice e)) (hi : P.info? e = some i) (hs1 : i.size = 1)
    (g sLen sCap : Nat) (cur : Array Value) (fz : Nat × Nat) (hg : w.heap[g]? = some (.cells cur e fz)) (hfz : fz.2 = 0 ∨ cur.size ≤ fz.1)
    (a : Addr) (m c : Nat) (news : List Value) (hl : news.length = m) (hnews : ∀ j u, news[j]? = some u → w.cell? (a.add j) = some u) (h1 : ∀ u ∈ news, u.oneCell' = true)
    (hroom : sLen + m ≤ sCap) (hfit : sLen + news.length ≤ cur.size) :
    (Builtin.append_ #[t, t] ty #[.slice (some ⟨g, 0, none⟩) sLen sCap, .slice (some a) m c]).run P w =
      .ok (.slice (some ⟨g, 0, none⟩) (sLen + m) sCap) (w.setRow g (cur.toList.take sLen ++ news ++ cur.toList.drop (sLen + news.length)).toArray) := by
  have hf := run_firstCells_some (P := P) w i.size m a m c news (by rw [hs1, hl]; omega) hnews
  have hst := run_storeCells_atM P g sLen e fz news cur w hg hfz hfit h1
  rw [hs1] at hf
  simp [Builtin.append_, run_underlying ht, sizeOf, typeInfo, hi, Builtin.lenOf, hroom, hf, hs1, Addr.add_lit, hst]

theorem run_append_ownM {P : Program} (w : World) (base : Nat) (t ty e : TypeId) (i : TypeInfo) (z : Value) (ht : P.underlying t = some (.slice e)) (hi : P.info? e = some i) (hz : i.zero = some z)
    (hsize : i.size = 1) (hby : i.bytes = 1) (hzs : z.cells.size = 1)
    (v : Value) (n : Nat) (xs : List Value) (hown : OwnM w base e v n xs)
    (a : Addr) (m c : Nat) (news : List Value) (hl : news.length = m) (hnews : ∀ j u, news[j]? = some u → w.cell? (a.add j) = some u) (h1 : ∀ u ∈ news, u.oneCell' = true)
    (hbytes : n + m ≤ 140737488355328) (hbase : base ≤ w.heap.size) :
    ∃ v' w', (Builtin.append_ #[t, t] ty #[v, .slice (some a) m c]).run P w = .ok v' w' ∧ OwnM w' base e v' (n + m) (xs ++ news) ∧ w.grownBy w' v.ownBlock := by
  have h63 : n + m ≤ maxLen := by unfold maxLen; omega
  rcases hown.2 with ⟨rfl, rfl⟩ | ⟨g, cap, cur, fz, rfl, hbg, hg, hfz, hnc, hcm, hcs, htake⟩
  · obtain ⟨v', w', r1, r2, r3, r4⟩ := run_append_own (P := P) w base t ty e i z 1 1 ht hi hz hsize hby hzs (by decide) (.slice none 0 0) 0 xs ⟨by simpa using hown.1, .inl ⟨rfl, rfl⟩⟩ a m c news (by omega) hnews h1 h63 (by omega) hbase
    exact ⟨v', w', r1, OwnM.of r2, r3⟩
  · have hlen : (xs ++ news).length = n + m := by rw [List.length_append, hown.1, hl]
    by_cases hroom : n + m ≤ cap
    · have hfit : n + news.length ≤ cur.size := by omega
      have hr := run_append_roomM (P := P) w t ty e i ht hi hsize g n cap cur fz hg hfz a m c news hl hnews h1 hroom hfit
      have hsz : (cur.toList.take n ++ news ++ cur.toList.drop (n + news.length)).toArray.size = cur.size := by
        simp only [List.size_toArray, List.length_append, List.length_take, List.length_drop, Array.length_toList]
        omega
      refine ⟨_, _, hr, ⟨hlen, .inr ⟨g, cap, _, fz, rfl, hbg, setRow_heap w g cur _ e _ hg, by rw [hsz]; exact hfz, hroom, hcm, by rw [hsz]; exact hcs, ?_⟩⟩, ⟨rfl, rfl, rfl, by simp, fun k _ hk => setRow_other w g k _ (fun e => hk (by simp [Value.ownBlock, e]))⟩⟩
      rw [htake, ← hlen]
      exact List.take_left
    · have holds : ∀ j u, xs[j]? = some u → w.cell? ((⟨g, 0, none⟩ : Addr).add j) = some u := hown.cells (g := g) rfl
      have hr := run_append_grow (P := P) w t ty e i z ht hi hz ⟨g, 0, none⟩ n cap xs (by rw [hsize, hown.1]; omega) holds a m c news (by rw [hsize, hl]; omega) hnews (by omega) (by unfold maxLen at h63; omega) (growslice_fits (by omega) (by rw [hby]; omega))
      have hge := grownCap_ge w (n + m) cap e
      have hcm2 : grownCap w (n + m) cap e ≤ maxLen := grownCap_le_maxLen w (n + m) cap e h63
      refine ⟨_, _, hr, ⟨hlen, .inr ⟨w.heap.size, _, _, (0, 0), rfl, hbase, heap_alloc_new w.drew _, .inl rfl, hge, hcm2, ?_, ?_⟩⟩, ⟨rfl, rfl, rfl, by simp, fun k hk _ => Below.heap_alloc w.drew _ k hk⟩⟩
      · simp only [Array.size_append, List.size_toArray, size_zeroCells, hzs, hown.1, hl]
        omega
      · simp only [Array.toList_append, List.append_assoc]
        rw [← List.append_assoc, ← hlen]
        exact List.take_left

/-- 'append' in a walk. -/
theorem wpList_append_ownM {P : Program} (w : World) {ops : Array Oper} {rest : List Oper} {o : Oper} {a : Act} {Q : Exit → Act → World → Prop} (hgd : o.guard = none) (s x : Operand) (t : TypeId)
    (ho : o.op = .call { callee := .builtin .append, args := #[s, x], argTypes := #[t, t] })
    (base : Nat) (e : TypeId) (i : TypeInfo) (z : Value) (ht : P.underlying t = some (.slice e)) (hi : P.info? e = some i) (hz : i.zero = some z)
    (hsize : i.size = 1) (hby : i.bytes = 1) (hzs : z.cells.size = 1)
    (v : Value) (n : Nat) (xs : List Value) (hs : a.eval s = v) (hown : OwnM w base e v n xs)
    (ad : Addr) (m c : Nat) (news : List Value) (hx : a.eval x = .slice (some ad) m c) (hl : news.length = m) (hnews : ∀ j u, news[j]? = some u → w.cell? (ad.add j) = some u) (h1 : ∀ u ∈ news, u.oneCell' = true)
    (hbytes : n + m ≤ 140737488355328) (hbase : base ≤ w.heap.size)
    (h : ∀ v' w', OwnM w' base e v' (n + m) (xs ++ news) → w.grownBy w' v.ownBlock → wpList P ops Q rest (a.put o.dst v') w') : wpList P ops Q (o :: rest) a w := by
  refine wpList_plain hgd fun K hK => ?_
  obtain ⟨v', w', hr, h2, h3⟩ := run_append_ownM (P := P) w base t o.type e i z ht hi hz hsize hby hzs v n xs hown ad m c news hl hnews h1 hbytes hbase
  unfold Oper.wp execOp
  simp only [ho, resolve, invoke, builtin, Sem.run_bind, Sem.run_pure, Result.andThen_ok, List.map_toArray, List.map_cons, List.map_nil, hs, hx, hr]
  exact hK _ _ (h v' w' h2 h3)

end Go.Proofs.YthnaanjhmehgcaaGreatDoor
