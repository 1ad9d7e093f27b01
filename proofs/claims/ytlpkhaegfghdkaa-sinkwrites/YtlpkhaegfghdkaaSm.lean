/-
  ROWS IN MEMORY THAT ARE CUT AT THEIR FRONT AND GROW AT THEIR END: what may turn, what lies where, an append. Nothing of the program. No condition.
-/
import Derived.Test.YtlpkhaegfghdkaaBase
import Derived.Deep.MidRow
import Derived.Deep.WholeRow
import Derived.Deep.AppendSrc
import Derived.Deep.Upon
import Derived.Lib.SmallJoins
namespace Go.Proofs.Ytlpkhaegfghdkaa
open Go.ChangeShapes Go.WideShapes Go.ChangeAt Go.RowKit Go.Lib
set_option linter.unusedVariables false

/-- of what was there, at most the blocks of S have turned -/
structure Nr (S : Nat → Prop) (w w' : World) : Prop where
  os : w'.os = w.os
  tape : w'.tape = w.tape
  output : w'.output = w.output
  size : w.heap.size ≤ w'.heap.size
  keep : ∀ k, k < w.heap.size → ¬ S k → w'.heap[k]? = w.heap[k]?

def No : Nat → Prop := fun _ => False

theorem Nr.refl (S : Nat → Prop) (w : World) : Nr S w w := ⟨rfl, rfl, rfl, Nat.le_refl _, fun _ _ _ => rfl⟩
theorem Nr.trans {S : Nat → Prop} {a b c : World} (h : Nr S a b) (k : Nr S b c) : Nr S a c :=
  ⟨k.os.trans h.os, k.tape.trans h.tape, k.output.trans h.output, Nat.le_trans h.size k.size, fun i hi hS => (k.keep i (Nat.lt_of_lt_of_le hi h.size) hS).trans (h.keep i hi hS)⟩
/-- the second step may turn what the first one made too -/
theorem Nr.trans' {S T : Nat → Prop} {a b c : World} (h : Nr S a b) (k : Nr T b c) (hT : ∀ i, T i → S i ∨ a.heap.size ≤ i) : Nr S a c :=
  ⟨k.os.trans h.os, k.tape.trans h.tape, k.output.trans h.output, Nat.le_trans h.size k.size, fun i hi hS => (k.keep i (Nat.lt_of_lt_of_le hi h.size) (fun ht => (hT i ht).elim hS (fun _ => by omega))).trans (h.keep i hi hS)⟩
theorem Nr.mono {S S' : Nat → Prop} {w w' : World} (h : Nr S w w') (hS : ∀ k, S k → S' k) : Nr S' w w' :=
  ⟨h.os, h.tape, h.output, h.size, fun k hk hn => h.keep k hk (fun hs => hn (hS k hs))⟩
theorem Nr.of_below {S : Nat → Prop} {w w' : World} (h : Below w.heap.size w w') : Nr S w w' := ⟨h.os, h.tape, h.output, h.size, fun k hk _ => h.block k hk⟩
theorem Nr.below {S : Nat → Prop} {B : Nat} {w w' : World} (h : Nr S w w') (hB : B ≤ w.heap.size) (hS : ∀ k, S k → B ≤ k) : Below B w w' :=
  ⟨h.os, h.tape, h.output, h.size, fun k hk => h.keep k (by omega) (fun hs => by have := hS k hs; omega)⟩
theorem Nr.alloc {S : Nat → Prop} {a w : World} (h : Nr S a w) (o : Obj) : Nr S a (w.alloc o) := h.trans (Nr.of_below ((Below.refl _ _).alloc (Nat.le_refl _) _))
theorem Nr.drew {S : Nat → Prop} {a w : World} (h : Nr S a w) : Nr S a w.drew := h.trans (Nr.of_below (Below.refl _ _).drew)
theorem Nr.setCell {S : Nat → Prop} {a w : World} (h : Nr S a w) {p : Addr} (hp : S p.block) (u : Value) : Nr S a (w.setCell p u) :=
  h.trans ⟨rfl, rfl, rfl, by simp [World.setCell], fun k hk hn => Below.heap_setCell _ _ _ _ (fun e => hn (e ▸ hp))⟩
theorem Nr.setCells {S : Nat → Prop} {b : Nat} (hb : S b) : ∀ (vs : List Value) (o : Nat) (a w : World), Nr S a w → Nr S a (w.setCells b o vs)
  | [], _, _, _, h => h
  | v :: r, o, a, w, h => Nr.setCells hb r (o + 1) a _ (h.setCell (p := ⟨b, o, none⟩) hb v)
theorem Nr.cell {S : Nat → Prop} {w w' : World} (h : Nr S w w') {p : Addr} {v : Value} (hS : ¬ S p.block) (hv : w.cell? p = some v) : w'.cell? p = some v :=
  (World.cell?_of_block (h.keep p.block (World.block_lt_of_cell? w p hv) hS)).trans hv
theorem Nr.range {S : Nat → Prop} {w w' : World} (h : Nr S w w') {b o : Nat} {cs : List Value} (hS : ¬ S b) (hr : w.rangeAt b o cs) : w'.rangeAt b o cs := fun j v hv => h.cell hS (hr j v hv)
theorem Nr.there {S : Nat → Prop} {w w' : World} (h : Nr S w w') {b o n : Nat} (hS : ¬ S b) (hr : w.there b o n) : w'.there b o n := fun j hj => by
  obtain ⟨h1, h2⟩ := hr j hj
  obtain ⟨u, hu⟩ := Option.isSome_iff_exists.1 h1
  have hb := h.keep b (World.block_lt_of_cell? w _ hu) hS
  exact ⟨by rw [h.cell hS hu]; rfl, by rw [World.frozen?_of_block (w := w) (a := ⟨b, o + j, none⟩) hb]; exact h2⟩

/-- the things xs lie where v says, to be read, in blocks of R -/
def Rng (w : World) (v : Value) (xs : List Value) (R : Nat → Prop) : Prop :=
  ∃ a cap, v = .slice a xs.length cap ∧ xs.length ≤ cap ∧ cap ≤ maxLen ∧ (∀ u ∈ xs, u.oneCell' = true) ∧ (xs = [] ∨ ∃ g off, a = some ⟨g, off, none⟩ ∧ R g ∧ w.rangeAt g off xs)

/-- the things xs lie where v says, and behind them is room up to the row's end, in a block of R -/
def Kp (w : World) (v : Value) (xs : List Value) (R : Nat → Prop) : Prop :=
  (v = .slice none 0 0 ∧ xs = []) ∨ ∃ g off cap, v = .slice (some ⟨g, off, none⟩) xs.length cap ∧ xs.length ≤ cap ∧ cap ≤ maxLen ∧ (∀ u ∈ xs, u.oneCell' = true) ∧ R g ∧ w.rangeAt g off xs ∧ w.there g off cap ∧ g < w.heap.size

theorem Rng.nr {S R : Nat → Prop} {w w' : World} (h : Nr S w w') {v : Value} {xs : List Value} (hr : Rng w v xs R) (hd : ∀ k, R k → ¬ S k) : Rng w' v xs R := by
  obtain ⟨a, cap, e, h1, h2, h4, h3⟩ := hr
  refine ⟨a, cap, e, h1, h2, h4, ?_⟩
  rcases h3 with h3 | ⟨g, off, ea, hR, hc⟩
  · exact .inl h3
  · exact .inr ⟨g, off, ea, hR, h.range (hd g hR) hc⟩
theorem Rng.below {R : Nat → Prop} {w w' : World} (h : Below w.heap.size w w') {v : Value} {xs : List Value} (hr : Rng w v xs R) : Rng w' v xs R := hr.nr (S := No) (Nr.of_below h) (fun _ _ h => h)
theorem Rng.mono {R R' : Nat → Prop} {w : World} {v : Value} {xs : List Value} (hr : Rng w v xs R) (h : ∀ k, k < w.heap.size → R k → R' k) : Rng w v xs R' := by
  obtain ⟨a, cap, e, h1, h2, h4, h3⟩ := hr
  refine ⟨a, cap, e, h1, h2, h4, ?_⟩
  rcases h3 with h3 | ⟨g, off, ea, hR, hc⟩
  · exact .inl h3
  · by_cases hx : xs = []
    · exact .inl hx
    · obtain ⟨x, hx⟩ := List.exists_mem_of_ne_nil xs hx
      obtain ⟨i, hi⟩ := List.getElem?_of_mem hx
      exact .inr ⟨g, off, ea, h g (World.block_lt_of_cell? w _ (hc i x hi)) hR, hc⟩
theorem Kp.nr {S R : Nat → Prop} {w w' : World} (h : Nr S w w') {v : Value} {xs : List Value} (hr : Kp w v xs R) (hd : ∀ k, R k → ¬ S k) : Kp w' v xs R := by
  rcases hr with hr | ⟨g, off, cap, e, h1, h2, h4, hR, h5, h6, h7⟩
  · exact .inl hr
  · exact .inr ⟨g, off, cap, e, h1, h2, h4, hR, h.range (hd g hR) h5, h.there (hd g hR) h6, Nat.lt_of_lt_of_le h7 h.size⟩
theorem Kp.mono {R R' : Nat → Prop} {w : World} {v : Value} {xs : List Value} (hr : Kp w v xs R) (h : ∀ k, k < w.heap.size → R k → R' k) : Kp w v xs R' := by
  rcases hr with hr | ⟨g, off, cap, e, h1, h2, h4, hR, h5, h6, h7⟩
  · exact .inl hr
  · exact .inr ⟨g, off, cap, e, h1, h2, h4, h g h7 hR, h5, h6, h7⟩
theorem Kp.rng {R : Nat → Prop} {w : World} {v : Value} {xs : List Value} (hr : Kp w v xs R) : Rng w v xs R := by
  rcases hr with ⟨rfl, rfl⟩ | ⟨g, off, cap, e, h1, h2, h4, hR, h5, h6, h7⟩
  · exact ⟨none, 0, rfl, Nat.le_refl _, by unfold maxLen; omega, by simp, .inl rfl⟩
  · exact ⟨_, cap, e, h1, h2, h4, .inr ⟨g, off, rfl, hR, h5⟩⟩
theorem Kp.nil (w : World) (R : Nat → Prop) : Kp w (.slice none 0 0) [] R := .inl ⟨rfl, rfl⟩

theorem add_mid (b o j : Nat) : (⟨b, o, none⟩ : Addr).add j = ⟨b, o + j, none⟩ := Addr.add_mid b o j

theorem Rng.src {P : Program} {R : Nat → Prop} {w : World} {v : Value} {xs : List Value} {t e' : TypeId} (hk : P.underlying t = some (.slice e')) (hr : Rng w v xs R) : Src P 1 t v xs.length xs w := by
  obtain ⟨a, cap, rfl, h1, h2, h4, h3⟩ := hr
  rcases h3 with rfl | ⟨g, off, rfl, hR, hc⟩
  · match a with
    | none => exact Src.ofNil w hk cap
    | some x => exact Src.ofSlice w hk x 0 cap [] (by simp) (by simp) (by simp)
  · exact Src.ofSlice w hk _ _ cap xs (by simp) (fun j u hj => by rw [add_mid]; exact hc j u hj) h4

theorem range_app {w : World} {b o : Nat} {xs ys : List Value} (h1 : w.rangeAt b o xs) (h2 : w.rangeAt b (o + xs.length) ys) : w.rangeAt b o (xs ++ ys) := fun j v hv => by
  by_cases hj : j < xs.length
  · rw [List.getElem?_append_left hj] at hv; exact h1 j v hv
  · rw [List.getElem?_append_right (by omega)] at hv
    have := h2 (j - xs.length) v hv
    rw [show o + xs.length + (j - xs.length) = o + j by omega] at this
    exact this
theorem range_drop {w : World} {b o : Nat} {xs : List Value} (h : w.rangeAt b o xs) (n : Nat) : w.rangeAt b (o + n) (xs.drop n) := fun j v hv => by
  rw [List.getElem?_drop] at hv
  rw [Nat.add_assoc]; exact h _ v hv
theorem range_take {w : World} {b o : Nat} {xs : List Value} (h : w.rangeAt b o xs) (n : Nat) : w.rangeAt b o (xs.take n) := fun j v hv => by
  rw [List.getElem?_take] at hv
  split at hv
  · exact h _ v hv
  · cases hv
theorem there_drop {w : World} {b o n : Nat} (h : w.there b o n) (k : Nat) : w.there b (o + k) (n - k) := fun j hj => by
  rw [Nat.add_assoc]; exact h _ (by omega)

/-- an append -/
theorem run_append_kp {P : Program} {w : World} {t ty e : TypeId} {i : TypeInfo} {z : Value} {bytes : Nat} (ht : P.underlying t = some (.slice e)) (hi : P.info? e = some i) (hz : i.zero = some z)
    (hsize : i.size = 1) (hby : i.bytes = bytes) (hzs : z.cells.size = 1) {R R' : Nat → Prop} {v u : Value} {xs news : List Value} (h : Kp w v xs R) (hu : Rng w u news R')
    (h63 : xs.length + news.length ≤ maxLen) (hbytes : (xs.length + news.length) * bytes ≤ 140737488355328) :
    ∃ v' w', (Builtin.append_ #[t, t] ty #[v, u]).run P w = .ok v' w' ∧ Kp w' v' (xs ++ news) (fun k => R k ∨ w.heap.size ≤ k) ∧ Nr R w w' := by
  have hs : Src P 1 t u news.length news w := hu.src ht
  have h63' : ((xs.length + news.length : Nat) : Int) ≤ 9223372036854775807 := by unfold maxLen at h63; omega
  have hone : ∀ x ∈ news, x.oneCell' = true := hs.one
  have new : ∀ cap, xs.length + news.length ≤ cap → cap ≤ maxLen → (∀ x ∈ xs, x.oneCell' = true) →
      Kp (w.drew.alloc (.cells ((xs ++ news).toArray ++ Builtin.zeroCells z.cells (cap - (xs.length + news.length))) e)) (.slice (some ⟨w.heap.size, 0, none⟩) (xs.length + news.length) cap) (xs ++ news) (fun k => R k ∨ w.heap.size ≤ k) ∧
      Nr R w (w.drew.alloc (.cells ((xs ++ news).toArray ++ Builtin.zeroCells z.cells (cap - (xs.length + news.length))) e)) := by
    intro cap hc hm hx
    have hblk : (w.drew.alloc (.cells ((xs ++ news).toArray ++ Builtin.zeroCells z.cells (cap - (xs.length + news.length))) e)).heap[w.heap.size]? = some (.cells ((xs ++ news).toArray ++ Builtin.zeroCells z.cells (cap - (xs.length + news.length))) e (0, 0)) := by
      exact heap_alloc_last w.drew _
    have hsz : ((xs ++ news).toArray ++ Builtin.zeroCells z.cells (cap - (xs.length + news.length))).size = cap := by
      rw [Array.size_append, size_zeroCells, hzs]; simp; omega
    refine ⟨.inr ⟨w.heap.size, 0, cap, by simp, by simpa using hc, hm, ?_, .inr (Nat.le_refl _), ?_, ?_, by simp⟩, ((Nr.refl R w).drew).alloc _⟩
    · intro x hx'
      rcases List.mem_append.mp hx' with h | h
      · exact hx x h
      · exact hone x h
    · intro j y hy
      rw [Nat.zero_add, cell_of_row _ _ j _ e (0, 0) hblk]
      have hj : j < (xs ++ news).length := (List.getElem?_eq_some_iff.1 hy).1
      rw [Array.getElem?_append_left (by simpa using hj)]
      simpa using hy
    · intro j hj
      rw [Nat.zero_add]
      refine ⟨?_, ?_⟩
      · rw [cell_of_row _ _ j _ e (0, 0) hblk, Array.getElem?_eq_getElem (by rw [hsz]; exact hj)]; rfl
      · exact Joins.unfrozen_of_block hblk j
  rcases h with ⟨rfl, rfl⟩ | ⟨g, off, cap, rfl, h1, h2, h4, hR, h5, h6, h7⟩
  · by_cases hn : news.length = 0
    · have hn' : news = [] := List.eq_nil_of_length_eq_zero hn
      subst hn'
      have hr := run_append_nothing (P := P) w t t ty e i ht hi none 0 0 (Nat.le_refl _) u (by rw [hsize]; exact hs)
      exact ⟨_, _, hr, .inl ⟨rfl, rfl⟩, Nr.refl _ _⟩
    · have hr := run_append_grow_src (P := P) w t t ty e i z ht hi hz none 0 0 [] (by rw [hsize]; exact run_firstCells_none w.drew 1 0 0 0) u news.length news (by rw [hsize]; exact hs) (by omega) (by simp at h63'; omega) (growslice_fits (by omega) (by rw [hby]; simpa using hbytes))
      obtain ⟨k1, k2⟩ := new _ (by simpa using grownCap_ge w (0 + news.length) 0 e) (grownCap_le_maxLen w (0 + news.length) 0 e (by simpa using h63)) (by simp)
      exact ⟨_, _, hr, k1, k2⟩
  · by_cases hroom : xs.length + news.length ≤ cap
    · have ht' : w.there g (off + xs.length) news.length := fun j hj => by
        have := h6 (xs.length + j) (by omega)
        rw [Nat.add_assoc]; exact this
      have hr := run_append_room_src (P := P) w t t ty e i ht hi g off xs.length cap u news.length news (by rw [hsize]; exact hs) hroom (fun j hj => by rw [hsize, Nat.mul_one]; exact (ht' j hj).1) (fun j hj => by rw [hsize, Nat.mul_one]; exact (ht' j hj).2)
      rw [hsize, Nat.mul_one] at hr
      refine ⟨_, _, hr, .inr ⟨g, off, cap, by simp, by simpa using hroom, h2, ?_, .inl hR, ?_, ?_, ?_⟩, Nr.setCells hR _ _ _ _ (Nr.refl _ _)⟩
      · intro x hx'
        rcases List.mem_append.mp hx' with h | h
        · exact h4 x h
        · exact hone x h
      · exact range_app (World.rangeAt_setCells_apart h5 _ _ _ (.inr (.inl (Nat.le_refl _)))) (World.rangeAt_setCells_same _ _ _ _ ht')
      · exact World.there_setCells h6 _ _ _
      · exact Nat.lt_of_lt_of_le h7 (Nr.setCells (S := fun _ => True) trivial _ _ _ _ (Nr.refl _ _)).size
    · have hr := run_append_grow_src (P := P) w t t ty e i z ht hi hz (some ⟨g, off, none⟩) xs.length cap xs (by rw [hsize]; exact run_firstCells_some w.drew 1 xs.length _ xs.length cap xs (by simp) (fun j u hj => by rw [add_mid]; simpa using h5 j u hj)) u news.length news (by rw [hsize]; exact hs) (by omega) h63' (growslice_fits (by omega) (by rw [hby]; exact hbytes))
      obtain ⟨k1, k2⟩ := new _ (grownCap_ge w (xs.length + news.length) cap e) (grownCap_le_maxLen w _ cap e h63) h4
      exact ⟨_, _, hr, k1, k2⟩

end Go.Proofs.Ytlpkhaegfghdkaa
