/-
  STRINGS AS LISTS OF NUMBERS; A REGION THAT DRAWS ITS ORDER AND WHOSE CALLEES MAKE MEMORY. Nothing of the program. No conditions.
-/
import Derived.Test.YthnaanjhmehgcaaGreatDoorN02
import Derived.Lib.Strings
import Derived.BigQuiet
namespace Go.Proofs.YthnaanjhmehgcaaGreatDoor
open Go.ChangeShapes Go.WideShapes Go.ChangeAt Go.RowKit
set_option linter.unusedVariables false

theorem nums_at (s : ByteArray) (k : Nat) (hk : k < s.size) : ((s[k]'hk).toNat : Int) = (nums s).getD k 0 := by
  have h' : k < s.data.toList.length := by rw [Array.length_toList]; exact hk
  unfold nums
  rw [List.getD_eq_getElem?_getD, List.getElem?_map, List.getElem?_eq_getElem h']
  rfl

theorem nums_at_range (s : ByteArray) (k : Nat) : 0 ≤ (nums s).getD k 0 ∧ (nums s).getD k 0 ≤ 255 := by
  rw [List.getD_eq_getElem?_getD]
  cases h : (nums s)[k]? with
  | none => simp
  | some x => exact nums_range s x (List.mem_of_getElem? h)

theorem nums_extract (s : ByteArray) (a b : Nat) : nums (s.extract a b) = ((nums s).drop a).take (b - a) := by
  unfold nums
  rw [show (s.extract a b).data.toList = _ from Lib.extract_data s a b, List.map_take, List.map_drop]

theorem nums_extract_end (s : ByteArray) (a : Nat) : nums (s.extract a s.size) = (nums s).drop a := by
  rw [nums_extract, List.take_of_length_le]
  rw [List.length_drop, nums_length]
  exact Nat.le_refl _

theorem str_app (a b : List Int) : strOfNums a ++ strOfNums b = strOfNums (a ++ b) := by
  apply ByteArray.ext
  simp [strOfNums]

theorem str_size (l : List Int) : (strOfNums l).size = l.length := by
  show (l.map _).toArray.size = l.length
  simp

theorem str_beq {a b : ByteArray} : (a.toList == b.toList) = true ↔ a = b := by
  rw [Lib.toList_data, Lib.toList_data]
  constructor
  · intro h
    have := eq_of_beq h
    apply ByteArray.ext
    exact Array.toList_inj.1 this
  · rintro rfl
    simp

def strSize : Value → Nat
  | .string s => s.size
  | _ => 0

def sliceLen : Value → Nat
  | .slice _ n _ => n
  | _ => 0

theorem OwnM.shape {w : World} {base n : Nat} {e : TypeId} {v : Value} {xs : List Value} (h : OwnM w base e v n xs) : ∃ a c, v = .slice a n c := by
  rcases h.2 with ⟨rfl, rfl⟩ | ⟨g, cap, cur, fz, rfl, _⟩
  · exact ⟨_, _, rfl⟩
  · exact ⟨_, _, rfl⟩

theorem Bys.take {w : World} {a : Option Addr} {n c : Nat} {l : List Int} (h : Bys w a n c l) (k : Nat) (hk : k ≤ n) : Bys w a k c (l.take k) := by
  obtain ⟨hl, hlc, hm, hb, h'⟩ := h
  refine ⟨by rw [List.length_take]; omega, by omega, hm, fun x hx => hb x (List.mem_of_mem_take hx), ?_⟩
  rcases Nat.eq_zero_or_pos k with rfl | h0
  · exact .inl ⟨by simp, rfl⟩
  · rcases h' with ⟨rfl, rfl⟩ | ⟨hn, b, off, rfl, hc⟩
    · omega
    · exact .inr ⟨h0, b, off, rfl, hc.take k⟩

theorem join8i (n d : Int) (h0 : 0 ≤ n) (h1 : n < 1000000) (h2 : 0 ≤ d) (h3 : d < 8) : bits BinOp.or IntKind.i64 (n * 8) d = 8 * n + d := by
  obtain ⟨A, rfl⟩ := Int.eq_ofNat_of_zero_le h0
  obtain ⟨B, rfl⟩ := Int.eq_ofNat_of_zero_le h2
  have hA : (BitVec.ofInt 64 ((A : Int) * 8)).toNat = A * 8 := by
    rw [show (A : Int) * 8 = ((A * 8 : Nat) : Int) by omega, BitVec.ofInt_natCast, BitVec.toNat_ofNat]; omega
  have hB : (BitVec.ofInt 64 (B : Int)).toNat = B := by
    rw [BitVec.ofInt_natCast, BitVec.toNat_ofNat]; omega
  show IntKind.i64.wrap ((BitVec.ofInt 64 ((A : Int) * 8) ||| BitVec.ofInt 64 (B : Int)).toNat : Int) = _
  rw [BitVec.toNat_or, hA, hB, nat_join 3 _ _ (by omega) (by omega), IntKind.wrap_i64]
  omega

/-- A world that a call may leave: the old blocks stand. -/
structure After (w : World) where
  out : World
  bel : Below w.heap.size w out

/-- A region that draws its order, and whose callees may make memory of their own: one walk, in the order of the text. -/
theorem wp_region_after {P : Program} {id : Nat} {Q : Exit → Act → World → Prop} {a : Act} {w : World} {l : List Oper} (hm : P.follows .mixedOrders = true) (hB : Region.lexB .any l.toArray = true)
    (h : wpQuiet P l.toArray (fun w' => ∃ p : After w, w' = p.out) (fun a' => ∀ w', (∃ p : After w, w' = p.out) → Q .normal a' w') l a) : (Code.region id l.toArray true).wp P Q a w :=
  wp_region_quiet (C := fun w' => ∃ p : After w, w' = p.out) hm hB ⟨⟨_, (Below.refl _ w).drew⟩, rfl⟩ (by simpa using h)

theorem after_same {P : Program} {f : FuncId} {args : Array Value} {w : World} {v : Value} (p : After w) (h : Calls P f args p.out fun e w' => w' = p.out ∧ e = .returned v) :
    Calls P f args p.out fun e w'' => e = .returned v ∧ ∃ p : After w, w'' = p.out :=
  h.mono fun _ _ ⟨hw, he⟩ => ⟨he, p, hw⟩

theorem after_below {P : Program} {f : FuncId} {args : Array Value} {w : World} {v : Value} (p : After w) (h : Calls P f args p.out fun e w' => e = .returned v ∧ Below p.out.heap.size p.out w') :
    Calls P f args p.out fun e w'' => e = .returned v ∧ ∃ p : After w, w'' = p.out :=
  h.mono fun _ w' ⟨he, hb⟩ => ⟨he, ⟨w', p.bel.trans (hb.mono p.bel.size)⟩, rfl⟩

end Go.Proofs.YthnaanjhmehgcaaGreatDoor
