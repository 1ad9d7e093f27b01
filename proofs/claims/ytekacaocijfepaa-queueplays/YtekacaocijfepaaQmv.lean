/-
  MOVE's TWO ROWS IN VARIABLES OF THEIR OWN, in whatever order these are made. Nothing of the program. No condition.
-/
import Derived.Test.YtekacaocijfepaaQab
namespace Go.Proofs.Ytekacaocijfepaa
open Go.ChangeShapes Go.WideShapes Go.ChangeAt Go.RowKit Go.Conc
set_option linter.unusedVariables false

def MovRel (w : World) (b B B' C : Nat) (q0 q1 : Value) (m0 m1 : Nat) (ch0 ch1 : Option Nat) (l0 l1 : List Int) (LA LB : List Int) (o0 o1 o2 o3 : Obj) (K : Nat) (t : TypeId) (p q r : Value) (X : World) : Prop :=
  ∃ g g' a2 c2 a3 c3, p = .pointer (some ⟨g, 0, none⟩) ∧ q = .pointer (some ⟨g', 0, none⟩) ∧ r = .int .i64 K ∧ Bse w X b B B' C q0 q1 m0 m1 ch0 ch1 l0 l1 (.slice a2 LA.length c2) LA (.slice a3 LB.length c3) LB o0 o1 o2 o3 ∧
    X.heap[g]? = some (.cells #[.slice a2 LA.length c2, .int .i64 m0] t (0, 0)) ∧ X.heap[g']? = some (.cells #[.slice a3 LB.length c3, .int .i64 m1] t (0, 0)) ∧ b + 4 ≤ g ∧ b + 4 ≤ g' ∧ g ≠ g'

variable {w w2 : World} {b B B' C s : Nat} {q0 q1 : Value} {m0 m1 : Nat} {ch0 ch1 : Option Nat} {l0 l1 : List Int} {LA LB : List Int} {o0 o1 o2 o3 : Obj} {K : Nat} {t : TypeId} {a2 a3 : Option Addr} {c2 c3 : Nat} {x y x' y' : Value} {a a' : Option Addr} {n c n' c' : Nat}

theorem mv1 (H : Bse w w2 b B B' C q0 q1 m0 m1 ch0 ch1 l0 l1 (.slice a2 LA.length c2) LA (.slice a3 LB.length c3) LB o0 o1 o2 o3) :
    MovRel w b B B' C q0 q1 m0 m1 ch0 ch1 l0 l1 LA LB o0 o1 o2 o3 K t (.pointer (some ⟨w2.heap.size, 0, none⟩)) (.pointer (some ⟨w2.heap.size + 1, 0, none⟩)) (.int .i64 K) ((w2.alloc (.cells #[.slice a2 LA.length c2, .int .i64 m0] t)).alloc (.cells #[.slice a3 LB.length c3, .int .i64 m1] t)) :=
  have hs := H.sz
  ⟨_, _, _, _, _, _, rfl, rfl, rfl, (H.al _).al _, heap_al (heap_alloc_new _ _), new2 _ _ _, hs, by omega, by omega⟩
theorem mv2 (H : Bse w w2 b B B' C q0 q1 m0 m1 ch0 ch1 l0 l1 (.slice a2 LA.length c2) LA (.slice a3 LB.length c3) LB o0 o1 o2 o3) :
    MovRel w b B B' C q0 q1 m0 m1 ch0 ch1 l0 l1 LA LB o0 o1 o2 o3 K t (.pointer (some ⟨w2.heap.size + 1, 0, none⟩)) (.pointer (some ⟨w2.heap.size, 0, none⟩)) (.int .i64 K) ((w2.alloc (.cells #[.slice a3 LB.length c3, .int .i64 m1] t)).alloc (.cells #[.slice a2 LA.length c2, .int .i64 m0] t)) :=
  have hs := H.sz
  ⟨_, _, _, _, _, _, rfl, rfl, rfl, (H.al _).al _, new2 _ _ _, heap_al (heap_alloc_new _ _), by omega, hs, by omega⟩
theorem mv3 (H : Bse w w2 b B B' C q0 q1 m0 m1 ch0 ch1 l0 l1 (.slice a2 LA.length c2) LA (.slice a3 LB.length c3) LB o0 o1 o2 o3) (y9 : w2.heap[s]? = some (.cells #[.slice a n c, x] t (0, 0))) (ht : t ≠ 3) (h4 : b + 4 ≤ s) :
    MovRel w b B B' C q0 q1 m0 m1 ch0 ch1 l0 l1 LA LB o0 o1 o2 o3 K t (.pointer (some ⟨s, 0, none⟩)) (.pointer (some ⟨w2.heap.size, 0, none⟩)) (.int .i64 K) (((w2.setCell ⟨s, 0, none⟩ (.slice a2 LA.length c2)).setCell ⟨s, 1, none⟩ (.int .i64 m0)).alloc (.cells #[.slice a3 LB.length c3, .int .i64 m1] t)) :=
  have hs := H.sz
  have hm := (Array.getElem?_eq_some_iff.mp y9).1
  ⟨_, _, _, _, _, _, rfl, rfl, rfl, (H.set2 y9 ht h4 _ _ _ _).al _, heap_al (box_two y9), new3 _ _ _ _ _ _, h4, hs, by omega⟩
theorem mv5 (H : Bse w w2 b B B' C q0 q1 m0 m1 ch0 ch1 l0 l1 (.slice a2 LA.length c2) LA (.slice a3 LB.length c3) LB o0 o1 o2 o3) (y9 : w2.heap[s]? = some (.cells #[.slice a n c, x] t (0, 0))) (ht : t ≠ 3) (h4 : b + 4 ≤ s) :
    MovRel w b B B' C q0 q1 m0 m1 ch0 ch1 l0 l1 LA LB o0 o1 o2 o3 K t (.pointer (some ⟨w2.heap.size, 0, none⟩)) (.pointer (some ⟨s, 0, none⟩)) (.int .i64 K) (((w2.setCell ⟨s, 0, none⟩ (.slice a3 LB.length c3)).setCell ⟨s, 1, none⟩ (.int .i64 m1)).alloc (.cells #[.slice a2 LA.length c2, .int .i64 m0] t)) :=
  have hs := H.sz
  have hm := (Array.getElem?_eq_some_iff.mp y9).1
  ⟨_, _, _, _, _, _, rfl, rfl, rfl, (H.set2 y9 ht h4 _ _ _ _).al _, new3 _ _ _ _ _ _, heap_al (box_two y9), hs, h4, by omega⟩
theorem mv4 {s' : Nat} (H : Bse w w2 b B B' C q0 q1 m0 m1 ch0 ch1 l0 l1 (.slice a2 LA.length c2) LA (.slice a3 LB.length c3) LB o0 o1 o2 o3) (y9 : w2.heap[s]? = some (.cells #[.slice a n c, x] t (0, 0))) (y8 : w2.heap[s']? = some (.cells #[.slice a' n' c', x'] t (0, 0))) (ht : t ≠ 3) (h4 : b + 4 ≤ s) (h4' : b + 4 ≤ s') (hne : s ≠ s') :
    MovRel w b B B' C q0 q1 m0 m1 ch0 ch1 l0 l1 LA LB o0 o1 o2 o3 K t (.pointer (some ⟨s, 0, none⟩)) (.pointer (some ⟨s', 0, none⟩)) (.int .i64 K) ((((w2.setCell ⟨s, 0, none⟩ (.slice a2 LA.length c2)).setCell ⟨s, 1, none⟩ (.int .i64 m0)).setCell ⟨s', 0, none⟩ (.slice a3 LB.length c3)).setCell ⟨s', 1, none⟩ (.int .i64 m1)) :=
  have y8' := heap_set_ne (o := 1) (u := .int .i64 m0) (heap_set_ne (o := 0) (u := .slice a2 LA.length c2) y8 hne.symm) hne.symm
  ⟨_, _, _, _, _, _, rfl, rfl, rfl, (H.set2 y9 ht h4 _ _ _ _).set2 y8' ht h4' _ _ _ _, heap_set_ne (heap_set_ne (box_two y9) hne) hne, box_two y8', h4, h4', hne⟩

end Go.Proofs.Ytekacaocijfepaa
