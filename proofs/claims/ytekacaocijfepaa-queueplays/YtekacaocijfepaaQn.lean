/-
  QUEUES IN MEMORY: what a queue's pointer, its channel and its things' cells are; which blocks a step may turn. Nothing of the program. No condition.
-/
import Derived.Test.YtekacaocijfepaaBase
import Derived.Conc.LoneSelect
import Derived.Conc.LoneSelectN
namespace Go.Proofs.Ytekacaocijfepaa
open Go.ChangeShapes Go.WideShapes Go.ChangeAt Go.RowKit Go.Conc
set_option linter.unusedVariables false

/-- the one channel -/
def Of (ch : Option Nat) (k : Nat) : Prop := ch = some k

def isCh : Obj → Bool
  | .chan .. => true
  | _ => false

/-- of what was there, at most the channels of S have turned -/
structure Near (S : Nat → Prop) (w w' : World) : Prop where
  os : w'.os = w.os
  tape : w'.tape = w.tape
  output : w'.output = w.output
  size : w.heap.size ≤ w'.heap.size
  keep : ∀ k o, w.heap[k]? = some o → (isCh o = true → ¬ S k) → w'.heap[k]? = some o

theorem Near.refl (S : Nat → Prop) (w : World) : Near S w w := ⟨rfl, rfl, rfl, Nat.le_refl _, fun _ _ h _ => h⟩
theorem Near.trans {S : Nat → Prop} {a b c : World} (h : Near S a b) (k : Near S b c) : Near S a c :=
  ⟨k.os.trans h.os, k.tape.trans h.tape, k.output.trans h.output, Nat.le_trans h.size k.size, fun i o ho hS => k.keep i o (h.keep i o ho hS) hS⟩
theorem Near.mono {S S' : Nat → Prop} {w w' : World} (h : Near S w w') (hS : ∀ k, S k → S' k) : Near S' w w' :=
  ⟨h.os, h.tape, h.output, h.size, fun k o ho hk => h.keep k o ho fun hc hs => hk hc (hS k hs)⟩
theorem Near.of_below {S : Nat → Prop} {w w' : World} (h : Below w.heap.size w w') : Near S w w' :=
  ⟨h.os, h.tape, h.output, h.size, fun k o ho _ => by rw [h.block k (Array.getElem?_eq_some_iff.mp ho).1]; exact ho⟩
theorem Near.below {S : Nat → Prop} {B : Nat} {w w' : World} (h : Near S w w') (hB : B ≤ w.heap.size) (hS : ∀ k, S k → B ≤ k) : Below B w w' :=
  ⟨h.os, h.tape, h.output, h.size, fun k hk => by
    have hlt : k < w.heap.size := by omega
    rw [h.keep k w.heap[k] (Array.getElem?_eq_some_iff.mpr ⟨hlt, rfl⟩) (fun _ hs => by have := hS k hs; omega)]
    exact (Array.getElem?_eq_some_iff.mpr ⟨hlt, rfl⟩).symm⟩
theorem Near.setChan {S : Nat → Prop} {w : World} {c : Nat} (hc : S c) {o : Obj} (ho : w.heap[c]? = some o) (hch : isCh o = true) (cap : Nat) (buf : Array Value) (cl : Bool) (s r : Nat) (tm : Bool) : Near S w (w.setChan c cap buf cl s r tm) :=
  ⟨rfl, rfl, rfl, by simp [World.setChan], fun k u hu hk => by
    have : c ≠ k := fun e => by subst e; rw [ho] at hu; cases hu; exact hk hch hc
    simp only [World.setChan]; rw [Array.getElem?_setIfInBounds_ne this]; exact hu⟩

theorem block_of_cell {w : World} {p : Addr} {v : Value} (h : w.cell? p = some v) : ∃ c t f, w.heap[p.block]? = some (.cells c t f) := by
  unfold World.cell? at h
  split at h
  · exact ⟨_, _, _, by assumption⟩
  · cases h

theorem Near.cell {S : Nat → Prop} {w w' : World} (h : Near S w w') {p : Addr} {v : Value} (hv : w.cell? p = some v) : w'.cell? p = some v := by
  obtain ⟨c, t, f, hb⟩ := block_of_cell hv
  rw [← hv]
  exact World.cell?_of_block (w := w) ((h.keep _ _ hb (fun e => by cases e)).trans hb.symm)

theorem Near.own {S : Nat → Prop} {w w' : World} (h : Near S w w') {base : Nat} {e : TypeId} {size n : Nat} {v : Value} {xs : List Value} (ho : w.ownsRow base e size v n xs) : w'.ownsRow base e size v n xs := by
  obtain ⟨h1, h2 | ⟨g, cap, cur, hv, hbs, hg, hr⟩⟩ := ho
  · exact ⟨h1, .inl h2⟩
  · exact ⟨h1, .inr ⟨g, cap, cur, hv, hbs, h.keep _ _ hg (fun e => by cases e), hr⟩⟩

/-! ### a queue -/

def pt (g : Nat) : Value := .pointer (some ⟨g, 0, none⟩)

/-- the cells at which the things lie -/
def Els (w : World) : List Nat → List Value → Prop
  | [], [] => True
  | g :: gs, v :: l => w.cell? ⟨g, 0, none⟩ = some v ∧ Els w gs l
  | _, _ => False

theorem Els.near {S : Nat → Prop} {w w' : World} (h : Near S w w') : ∀ {gs : List Nat} {l : List Value}, Els w gs l → Els w' gs l
  | [], [], _ => trivial
  | _ :: _, _ :: _, ⟨a, b⟩ => ⟨h.cell a, Els.near h b⟩
  | [], _ :: _, e => e.elim
  | _ :: _, [], e => e.elim
theorem Els.len {w : World} : ∀ {gs : List Nat} {l : List Value}, Els w gs l → gs.length = l.length
  | [], [], _ => rfl
  | _ :: _, _ :: _, ⟨_, b⟩ => by simp [Els.len b]
  | [], _ :: _, e => e.elim
  | _ :: _, [], e => e.elim
theorem Els.more {w : World} {g : Nat} {v : Value} (hv : w.cell? ⟨g, 0, none⟩ = some v) : ∀ {gs : List Nat} {l : List Value}, Els w gs l → Els w (gs ++ [g]) (l ++ [v])
  | [], [], _ => ⟨hv, trivial⟩
  | _ :: _, _ :: _, ⟨a, b⟩ => ⟨a, Els.more hv b⟩
  | [], _ :: _, e => e.elim
  | _ :: _, [], e => e.elim
theorem Els.cons {w : World} {gs : List Nat} {v : Value} {l : List Value} (h : Els w gs (v :: l)) : ∃ g gs', gs = g :: gs' ∧ w.cell? ⟨g, 0, none⟩ = some v ∧ Els w gs' l := by
  cases gs with
  | nil => exact h.elim
  | cons g gs' => exact ⟨g, gs', rfl, h.1, h.2⟩
theorem Els.nil {w : World} {gs : List Nat} (h : Els w gs []) : gs = [] := by
  cases gs with
  | nil => rfl
  | cons g gs' => exact h.elim

/-- q is a queue with room for cap, its channel is ch, its things are l -/
def Qu (w : World) (B : Nat) (q : Value) (cap : Nat) (ch : Option Nat) (l : List Value) : Prop :=
  (q = .pointer none ∧ ch = none ∧ cap = 0 ∧ l = []) ∨
  ∃ (h c s r : Nat) (gs : List Nat), q = .pointer (some ⟨h, 0, none⟩) ∧ ch = some c ∧ B ≤ c ∧ 1 ≤ cap ∧ cap ≤ 4096 ∧ l.length ≤ cap ∧
    w.cell? ⟨h, 0, none⟩ = some (.chan (some c)) ∧ w.heap[c]? = some (.chan cap (gs.map pt).toArray false s r false) ∧ Els w gs l

theorem Qu.near {S : Nat → Prop} {w w' : World} (hn : Near S w w') {B : Nat} {q : Value} {cap : Nat} {ch : Option Nat} {l : List Value} (h : Qu w B q cap ch l) (hS : ∀ c, ch = some c → ¬ S c) : Qu w' B q cap ch l := by
  rcases h with h | ⟨hd, c, s, r, gs, rfl, rfl, hB, h1, h2, h3, h4, h5, h6⟩
  · exact .inl h
  · exact .inr ⟨hd, c, s, r, gs, rfl, rfl, hB, h1, h2, h3, hn.cell h4, hn.keep _ _ h5 (fun _ => hS c rfl), h6.near hn⟩
theorem Qu.below {w w' : World} (hn : Below w.heap.size w w') {B : Nat} {q : Value} {cap : Nat} {ch : Option Nat} {l : List Value} (h : Qu w B q cap ch l) : Qu w' B q cap ch l :=
  h.near (Near.of_below (S := fun _ => False) hn) (fun _ _ h => h)
theorem Qu.len {w : World} {B : Nat} {q : Value} {cap : Nat} {ch : Option Nat} {l : List Value} (h : Qu w B q cap ch l) : l.length ≤ cap ∧ cap ≤ 4096 := by
  rcases h with ⟨-, -, rfl, rfl⟩ | ⟨hd, c, s, r, gs, -, -, -, -, h2, h3, -⟩
  · simp
  · omega
theorem Qu.ge {w : World} {B : Nat} {q : Value} {cap : Nat} {ch : Option Nat} {l : List Value} (h : Qu w B q cap ch l) : ∀ k, ch = some k → B ≤ k := by
  rcases h with ⟨-, rfl, -, -⟩ | ⟨hd, c, s, r, gs, -, rfl, hB, -⟩
  · intro k e; cases e
  · intro k e; cases e; exact hB

theorem buf_size (gs : List Nat) : (gs.map pt).toArray.size = gs.length := by simp
theorem buf_push (gs : List Nat) (g : Nat) : (gs.map pt).toArray.push (pt g) = ((gs ++ [g]).map pt).toArray := by simp
theorem buf_tail (g : Nat) (gs : List Nat) : ((g :: gs).map pt).toArray.extract 1 ((g :: gs).map pt).toArray.size = (gs.map pt).toArray := by
  apply Array.ext' ; simp [List.take_of_length_le]
theorem buf_head (g : Nat) (gs : List Nat) (u : Value) : ((g :: gs).map pt).toArray.getD 0 u = pt g := by simp

/-- the queue behind a send of a thing's address -/
theorem qu_push {w : World} {B hd c cap s r g : Nat} {gs : List Nat} {l : List Value} {v : Value} (hB : B ≤ c) (h1 : 1 ≤ cap) (h2 : cap ≤ 4096) (h3 : l.length < cap)
    (h4 : w.cell? ⟨hd, 0, none⟩ = some (.chan (some c))) (h5 : w.heap[c]? = some (.chan cap (gs.map pt).toArray false s r false)) (h6 : Els w gs l) (hg : w.cell? ⟨g, 0, none⟩ = some v) (s' r' : Nat) :
    Qu (w.setChan c cap ((gs ++ [g]).map pt).toArray false s' r' false) B (.pointer (some ⟨hd, 0, none⟩)) cap (some c) (l ++ [v]) := by
  have hn : Near (Of (some c)) w (w.setChan c cap ((gs ++ [g]).map pt).toArray false s' r' false) := Near.setChan (S := Of (some c)) (show some c = some c from rfl) h5 rfl _ _ _ _ _ _
  exact .inr ⟨hd, c, s', r', gs ++ [g], rfl, rfl, hB, h1, h2, by simp; omega, hn.cell h4, heap_setChan _ _ _ _ _ _ _ _ (Array.getElem?_eq_some_iff.mp h5).1, (h6.near hn).more (hn.cell hg)⟩

/-- the queue behind a receive -/
theorem qu_pop {w : World} {B hd c cap s r g : Nat} {gs : List Nat} {l : List Value} (hB : B ≤ c) (h1 : 1 ≤ cap) (h2 : cap ≤ 4096) (h3 : l.length + 1 ≤ cap)
    (h4 : w.cell? ⟨hd, 0, none⟩ = some (.chan (some c))) (h5 : w.heap[c]? = some (.chan cap ((g :: gs).map pt).toArray false s r false)) (h6 : Els w gs l) (s' r' : Nat) :
    Qu (w.setChan c cap (gs.map pt).toArray false s' r' false) B (.pointer (some ⟨hd, 0, none⟩)) cap (some c) l := by
  have hn : Near (Of (some c)) w (w.setChan c cap (gs.map pt).toArray false s' r' false) := Near.setChan (S := Of (some c)) (show some c = some c from rfl) h5 rfl _ _ _ _ _ _
  exact .inr ⟨hd, c, s', r', gs, rfl, rfl, hB, h1, h2, by omega, hn.cell h4, heap_setChan _ _ _ _ _ _ _ _ (Array.getElem?_eq_some_iff.mp h5).1, h6.near hn⟩

theorem run_len_nilchan {P : Program} {w : World} {dir : ChanDir} {e : TypeId} (t ty : TypeId) (ht : P.underlying t = some (.chan dir e)) : (Builtin.len_ #[t] ty #[.chan none]).run P w = .ok (goInt (0 : Nat)) w := by
  simp [Builtin.len_, run_underlying ht]
theorem run_cap_nilchan {P : Program} {w : World} {dir : ChanDir} {e : TypeId} (t ty : TypeId) (ht : P.underlying t = some (.chan dir e)) : (Builtin.cap_ #[t] ty #[.chan none]).run P w = .ok (goInt (0 : Nat)) w := by
  simp [Builtin.cap_, run_underlying ht]

theorem run_equalIn_chan {P : Program} {t : TypeId} {dir : ChanDir} {e : TypeId} (n : Nat) (ht : P.underlying t = some (.chan dir e)) (a b : Option Nat) (w : World) : (Op.equalIn (n + 1) t (.chan a) (.chan b)).run P w = .ok (a == b) w := by
  simp [Op.equalIn, run_underlying ht]
theorem run_eql_chan {P : Program} {t : TypeId} {dir : ChanDir} {e : TypeId} (ht : P.underlying t = some (.chan dir e)) (a b : Option Nat) (w : World) : (binOp .eql t (.chan a) (.chan b)).run P w = .ok (.bool (a == b)) w := by
  have h := run_equalIn_chan 9999 ht a b w
  simp only [binOp]
  simp [Op.equal, Op.maxDepth, h]

/-- the room that New gives -/
def roomC (a : Int) : Nat := if 1 ≤ a ∧ a ≤ 4096 then a.toNat else 0

end Go.Proofs.Ytekacaocijfepaa
