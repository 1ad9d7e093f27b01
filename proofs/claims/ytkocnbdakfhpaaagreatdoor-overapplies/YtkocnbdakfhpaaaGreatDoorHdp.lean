/-
  HEADS, AND WHAT PAIRS SAY OF THEM. Nothing of the program. No condition.
-/
import Derived.Test.YtkocnbdakfhpaaaGreatDoorOvb
import Derived.Test.YtkocnbdakfhpaaaGreatDoorRrg
namespace Go.Proofs.YtkocnbdakfhpaaaGreatDoor
open Go.ChangeShapes Go.WideShapes Go.ChangeAt Go.RowKit Go.Lib
set_option linter.unusedVariables false
set_option linter.unusedSimpArgs false
set_option maxRecDepth 20000

/-- a head, its list aside -/
structure Hd where
  kind : Int
  name : ByteArray
  link : ByteArray
  mode : Int
  uid : Int
  gid : Int
  size : Int
  sec : Int
  nano : Int
  user : ByteArray
  group : ByteArray
  major : Int
  minor : Int

/-- its cells -/
def Hd.cs (h : Hd) (x : Value) : Array Value := #[.int .i64 h.kind, .string h.name, .string h.link, .int .i64 h.mode, .int .i64 h.uid, .int .i64 h.gid, .int .i64 h.size, .int .i64 h.sec, .int .i64 h.nano, .string h.user, .string h.group, .int .i64 h.major, .int .i64 h.minor, x]

def numL (l : List UInt8) : Int := match nat63 l with | some u => if u ≤ 9223372036854775807 then (u : Int) else 0 | none => 0
def timA (l : List UInt8) : Int := ((timeOf l).getD (0, 0)).1
def timB (l : List UInt8) : Int := ((timeOf l).getD (0, 0)).2

/-- what a pair says of a head -/
def sayH (k v : ByteArray) (h : Hd) : Hd :=
  if whichK (bs k) = 0 then { h with name := v } else if whichK (bs k) = 1 then { h with link := v } else if whichK (bs k) = 2 then { h with user := v } else if whichK (bs k) = 3 then { h with group := v }
  else if whichK (bs k) = 4 then { h with uid := numL (bs v) } else if whichK (bs k) = 5 then { h with gid := numL (bs v) } else if whichK (bs k) = 6 then { h with size := numL (bs v) }
  else if whichK (bs k) = 7 then { h with sec := timA (bs v), nano := timB (bs v) } else h
def sayE (k v : ByteArray) (e : PL) : PL := if whichK (bs k) = -1 then e ++ [(k, v)] else e
/-- what pairs say of a head -/
def appH : PL → Hd → Hd
  | [], h => h
  | p :: t, h => appH t (sayH p.1 p.2 h)
def appE : PL → PL → PL
  | [], e => e
  | p :: t, e => appE t (sayE p.1 p.2 e)
theorem sayE_len (k v : ByteArray) (e : PL) : (sayE k v e).length ≤ e.length + 1 := by
  unfold sayE; split
  · simp
  · omega

/-- a head in memory, behind a call that said something of it -/
def Sd (w w' : World) (B g : Nat) (h : Hd) (ext : PL) : Prop :=
  (∃ x', Blk w' g (h.cs x') 46 ∧ w'.ownsRow B 23 2 x' ext.length (pcs2 ext)) ∧ (∀ C, C ≤ g → Below C w w') ∧ ∀ j, j ≠ g → j < B → w'.heap[j]? = w.heap[j]?

theorem Sd.store {w w1 : World} {B g : Nat} {h h' : Hd} {x : Value} {ext : PL} (hb : Below w.heap.size w w1) (hH : Blk w g (h.cs x) 46) (hg : g < B) (hB : B ≤ w.heap.size) (hx : w.ownsRow B 23 2 x ext.length (pcs2 ext)) (i : Nat) (u : Value) (he : (h.cs x).setIfInBounds i u = h'.cs x) :
    Sd w (w1.setCell ⟨g, i, none⟩ u) B g h' ext := by
  have hH1 := (hH.below hb).set (i := i) u
  rw [he] at hH1
  refine ⟨⟨x, hH1, ownsRow_setCell_below (own_below hb hx) hg u⟩, ?_, ?_⟩
  · intro C hC
    exact (hb.mono (by omega)).setCell hC _
  · intro j hj hjB
    rw [Below.heap_setCell w1 ⟨g, i, none⟩ u j hj, hb.block j (by omega)]

theorem Sd.store2 {w w1 : World} {B g : Nat} {h : Hd} {x : Value} {ext : PL} (hb : Below w.heap.size w w1) (hH : Blk w g (h.cs x) 46) (hg : g < B) (hB : B ≤ w.heap.size) (hx : w.ownsRow B 23 2 x ext.length (pcs2 ext)) (p q : Int) :
    Sd w ((w1.setCell ⟨g, 7, none⟩ (.int .i64 p)).setCell ⟨g, 8, none⟩ (.int .i64 q)) B g { h with sec := p, nano := q } ext := by
  have hH1 : Blk (w1.setCell ⟨g, 7, none⟩ (.int .i64 p)) g (({ h with sec := p } : Hd).cs x) 46 := (hH.below hb).set (i := 7) (.int .i64 p)
  have hH2 : Blk ((w1.setCell ⟨g, 7, none⟩ (.int .i64 p)).setCell ⟨g, 8, none⟩ (.int .i64 q)) g (({ h with sec := p, nano := q } : Hd).cs x) 46 := hH1.set (i := 8) (.int .i64 q)
  refine ⟨⟨x, hH2, ownsRow_setCell_below (ownsRow_setCell_below (own_below hb hx) hg _) hg _⟩, ?_, ?_⟩
  · intro C hC
    exact ((hb.mono (by omega)).setCell (p := ⟨g, 7, none⟩) hC _).setCell (p := ⟨g, 8, none⟩) hC _
  · intro j hj hjB
    rw [Below.heap_setCell _ ⟨g, 8, none⟩ _ j hj, Below.heap_setCell w1 ⟨g, 7, none⟩ _ j hj, hb.block j (by omega)]

theorem Sd.alloc {w w' : World} {B g : Nat} {h : Hd} {ext : PL} (hs : Sd w w' B g h ext) (hB : B ≤ w'.heap.size) (hg : g < B) (o : Obj) : Sd w (w'.alloc o) B g h ext := by
  obtain ⟨⟨x, h1, h2⟩, h3, h4⟩ := hs
  refine ⟨⟨x, h1.below ((Below.refl _ _).alloc (Nat.le_refl _) _), h2.alloc _⟩, fun C hC => (h3 C hC).alloc (by omega) _, fun j hj hjB => ?_⟩
  rw [Below.heap_alloc _ _ j (by omega)]
  exact h4 j hj hjB

/-- a pair more in its list: W is the world at the append, v' and w' what it leaves -/
theorem Sd.more {w W w' : World} {B g : Nat} {h : Hd} {x : Value} {ext : PL} {k v : ByteArray} (hb : Below w.heap.size w W) (hH : Blk w g (h.cs x) 46) (hg : g < B) (hB : B ≤ w.heap.size) (hx : w.ownsRow B 23 2 x ext.length (pcs2 ext))
    {v' : Value} (hown : w'.ownsRow B 23 2 v' (ext.length + 1) (pcs2 ext ++ [.string k, .string v])) (hgr : W.grownBy w' x.ownBlock) :
    Blk w' g (h.cs x) 46 ∧ (∃ g' cap, v' = .slice (some ⟨g', 0, none⟩) (ext.length + 1) cap) ∧ Sd w (w'.setCell ⟨g, 13, none⟩ v') B g h (ext ++ [(k, v)]) := by
  have hHW := hH.below hb
  have hne : ∀ j, j < B → some j ≠ x.ownBlock := fun j hj e => by have := (hx.lt j e.symm).1; omega
  have hB' : Blk w' g (h.cs x) 46 := by unfold Blk; rw [hgr.block g hHW.lt (hne g hg)]; exact hHW
  refine ⟨hB', ?_, ⟨v', hB'.set (i := 13) v', ?_⟩, ?_, ?_⟩
  · rcases hown.2 with ⟨_, h0⟩ | ⟨g', cap, _, hv, _⟩
    · omega
    · exact ⟨g', cap, hv⟩
  · rw [List.length_append, pcs2_app]
    exact ownsRow_setCell_below hown hg v'
  · intro C hC
    exact ((hb.mono (by omega)).grown hgr (by have := hb.size; omega) (fun j hj => by have := (hx.lt j hj).1; omega)).setCell (p := ⟨g, 13, none⟩) hC _
  · intro j hj hjB
    rw [Below.heap_setCell w' ⟨g, 13, none⟩ _ j hj, hgr.block j (by have := hb.size; omega) (hne j hjB), hb.block j (by omega)]

theorem tim_or (l : List UInt8) : ∃ c : Int, timeOf l = some (timA l, timB l) ∧ c = 0 ∨ timeOf l = none ∧ timA l = 0 ∧ timB l = 0 ∧ c = 15 := by
  unfold timA timB
  cases timeOf l with
  | none => exact ⟨15, .inr ⟨rfl, rfl, rfl, rfl⟩⟩
  | some q => exact ⟨0, .inl ⟨rfl, rfl⟩⟩

end Go.Proofs.YtkocnbdakfhpaaaGreatDoor
