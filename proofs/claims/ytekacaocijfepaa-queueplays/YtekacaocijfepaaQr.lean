/-
  append ONTO A ROW OF ONE's OWN, out of nothing or out of cells, as a step of a region and of a list of operations. Nothing of the program. No condition.
-/
import Derived.Test.YtekacaocijfepaaQal
import Derived.Deep.RegionLaw
import Derived.Deep.RegionHeld3
import Derived.Lib.FrozenHead2
import Derived.Laws.AppendOwnNone
namespace Go.Proofs.Ytekacaocijfepaa
open Go.ChangeShapes Go.WideShapes Go.ChangeAt Go.RowKit Go.Conc
set_option linter.unusedVariables false
set_option linter.unusedSimpArgs false
set_option maxRecDepth 20000

/-- m cells that a slice value holds -/
def Src (w : World) (u : Value) (m : Nat) (news : List Value) : Prop :=
  (u = .slice none 0 0 ∧ m = 0 ∧ news = []) ∨ ∃ ad c, u = .slice (some ad) m c ∧ news.length = m ∧ (∀ j x, news[j]? = some x → w.cell? (ad.add j) = some x) ∧ ∀ x ∈ news, x.oneCell' = true

theorem Src.near {w w' : World} {u : Value} {m : Nat} {news : List Value} (h : Src w u m news) (hb : Below w.heap.size w w') : Src w' u m news := by
  rcases h with h | ⟨ad, c, h1, h2, h3, h4⟩
  · exact .inl h
  · exact .inr ⟨ad, c, h1, h2, fun j x hj => cell_later hb (h3 j x hj), h4⟩

theorem grown_refl (w : World) (row : Option Nat) : w.grownBy w row := ⟨rfl, rfl, rfl, Nat.le_refl _, fun _ _ _ => rfl⟩

theorem run_app {P : Program} {w : World} {base : Nat} {t ty e : TypeId} {i : TypeInfo} {z : Value} {bytes : Nat} (ht : P.underlying t = some (.slice e)) (hi : P.info? e = some i) (hz : i.zero = some z)
    (hsize : i.size = 1) (hby : i.bytes = bytes) (hzs : z.cells.size = 1) {v u : Value} {n m : Nat} {xs news : List Value} (hown : w.ownsRow base e 1 v n xs) (hs : Src w u m news)
    (h63 : n + m ≤ maxLen) (hbytes : (n + m) * bytes ≤ 140737488355328) (hbase : base ≤ w.heap.size) :
    ∃ v' w', (Builtin.append_ #[t, t] ty #[v, u]).run P w = .ok v' w' ∧ w'.ownsRow base e 1 v' (n + m) (xs ++ news) ∧ w.grownBy w' v.ownBlock := by
  rcases hs with ⟨rfl, rfl, rfl⟩ | ⟨ad, c, rfl, hl, hc, h1⟩
  · exact ⟨v, w, run_append_owned_none (P := P) (w := w) base t ty e i 1 ht hi v n xs hown, by simpa using hown, grown_refl _ _⟩
  · obtain ⟨v', w', hrun, r1, r2, -⟩ := run_append_own (P := P) w base t ty e i z 1 bytes ht hi hz hsize hby hzs (by decide) v n xs hown ad m c news (by simpa using hl) hc h1 h63 hbytes hbase
    exact ⟨v', w', hrun, r1, r2⟩

theorem step_app {P : Program} {ops : Array Oper} {o : Oper} {a : Act} {w : World} {K : Act → World → Prop} {Q : Exit → Act → World → Prop} {E : Prop}
    (hg : o.guard = none) (s x : Operand) (t : TypeId) (hop : o.op = Op.call { callee := Callee.builtin Builtin.append, args := #[s, x], argTypes := #[t, t] })
    (base : Nat) {e : TypeId} {i : TypeInfo} {z : Value} {bytes : Nat} (ht : P.underlying t = some (.slice e)) (hi : P.info? e = some i) (hz : i.zero = some z)
    (hsize : i.size = 1) (hby : i.bytes = bytes) (hzs : z.cells.size = 1) (v u : Value) {n m : Nat} {xs news : List Value} (hs : a.eval s = v) (hx : a.eval x = u) (hown : w.ownsRow base e 1 v n xs) (hsrc : Src w u m news)
    (h63 : n + m ≤ maxLen) (hbytes : (n + m) * bytes ≤ 140737488355328) (hbase : base ≤ w.heap.size)
    (hK : ∀ v' w', w'.ownsRow base e 1 v' (n + m) (xs ++ news) → w.grownBy w' v.ownBlock → K (a.put o.dst v') w') :
    if Region.wanted o (yielded ops a.tmps) = true then Oper.wp P o a w K Q else E := by
  obtain ⟨v', w', hrun, r1, r2⟩ := run_app (P := P) (ty := o.type) ht hi hz hsize hby hzs hown hsrc h63 hbytes hbase
  have hw : Region.wanted o (yielded ops a.tmps) = true := by simp [Region.wanted, hg]
  rw [if_pos hw]
  unfold Oper.wp
  simp [execOp, hop, resolve, invoke, builtin, hs, hx, hrun, Result.andThen]
  exact hK v' w' r1 r2

theorem wpList_app {P : Program} {w : World} {ops : Array Oper} {rest : List Oper} {o : Oper} {a : Act} {Q : Exit → Act → World → Prop} (hgd : o.guard = none) (s x : Operand) (t : TypeId)
    (ho : o.op = .call { callee := .builtin .append, args := #[s, x], argTypes := #[t, t] })
    (base : Nat) {e : TypeId} {i : TypeInfo} {z : Value} {bytes : Nat} (ht : P.underlying t = some (.slice e)) (hi : P.info? e = some i) (hz : i.zero = some z)
    (hsize : i.size = 1) (hby : i.bytes = bytes) (hzs : z.cells.size = 1) (v u : Value) {n m : Nat} {xs news : List Value} (hs : a.eval s = v) (hx : a.eval x = u) (hown : w.ownsRow base e 1 v n xs) (hsrc : Src w u m news)
    (h63 : n + m ≤ maxLen) (hbytes : (n + m) * bytes ≤ 140737488355328) (hbase : base ≤ w.heap.size)
    (hK : ∀ v' w', w'.ownsRow base e 1 v' (n + m) (xs ++ news) → w.grownBy w' v.ownBlock → wpList P ops Q rest (a.put o.dst v') w') : wpList P ops Q (o :: rest) a w := by
  obtain ⟨v', w', hrun, r1, r2⟩ := run_app (P := P) (ty := o.type) ht hi hz hsize hby hzs hown hsrc h63 hbytes hbase
  refine wpList_plain hgd fun K hK' => ?_
  unfold Oper.wp
  simp [execOp, ho, resolve, invoke, builtin, hs, hx, hrun, Result.andThen]
  exact hK' _ _ (hK v' w' r1 r2)

/-- a cell of another block stands -/
theorem cell_far {w w' : World} {row : Option Nat} (hg : w.grownBy w' row) {b o : Nat} {u : Value} (hc : w.cell? ⟨b, o, none⟩ = some u) (hne : some b ≠ row) : w'.cell? ⟨b, o, none⟩ = some u := by
  obtain ⟨c, t, f, hb⟩ := block_of_cell hc
  rw [← hc]
  exact World.cell?_of_block (w := w) (hg.block b (Array.getElem?_eq_some_iff.mp hb).1 hne)
/-- a row of another block stands -/
theorem own_far {w w' : World} {row : Option Nat} (hg : w.grownBy w' row) {base : Nat} {e : TypeId} {size n : Nat} {v : Value} {xs : List Value} (ho : w.ownsRow base e size v n xs) (hne : ∀ k, v.ownBlock = some k → some k ≠ row) : w'.ownsRow base e size v n xs := by
  obtain ⟨h1, h2 | ⟨g, cap, cur, hv, hbs, hb, hr⟩⟩ := ho
  · exact ⟨h1, .inl h2⟩
  · exact ⟨h1, .inr ⟨g, cap, cur, hv, hbs, by rw [hg.block g (Array.getElem?_eq_some_iff.mp hb).1 (hne g (by rw [hv]; rfl))]; exact hb, hr⟩⟩
theorem blk_far {w w' : World} {row : Option Nat} (hg : w.grownBy w' row) {b : Nat} {o : Obj} (hc : w.heap[b]? = some o) (hne : some b ≠ row) : w'.heap[b]? = some o := by
  rw [hg.block b (Array.getElem?_eq_some_iff.mp hc).1 hne]; exact hc

theorem add_z (g j : Nat) : (⟨g, 0, none⟩ : Addr).add j = ⟨g, j, none⟩ := by
  unfold Addr.add
  by_cases h : j = 0
  · subst h; rfl
  · simp [h]

/-- an owned row is a source -/
theorem own_src {w : World} {B n : Nat} {v : Value} {l : List Int} (h : w.ownsRow B 3 1 v n (vsi l)) : Src w v l.length (vsi l) := by
  have hn : l.length = n := by have := h.1; rw [vsi_len] at this; omega
  rcases h.2 with ⟨rfl, h0⟩ | ⟨g, cap, cur, rfl, hb, hg, hnc, hcm, hcs, htake⟩
  · have : l = [] := List.eq_nil_of_length_eq_zero (by omega)
    subst this
    exact .inl ⟨rfl, rfl, rfl⟩
  · subst hn
    refine .inr ⟨_, cap, rfl, vsi_len l, fun j x hj => ?_, vsi_one l⟩
    have hjl : j < l.length := by have := (List.getElem?_eq_some_iff.mp hj).1; rwa [vsi_len] at this
    have := h.cellAt j (by omega)
    rw [add_z, this, hj]

theorem src_one {w : World} {g : Nat} {x : Value} (h : w.cell? ⟨g, 0, none⟩ = some x) (h1 : x.oneCell' = true) : Src w (.slice (some ⟨g, 0, none⟩) 1 1) 1 [x] :=
  .inr ⟨_, 1, rfl, rfl, fun j u hj => by
    rcases j with _ | j
    · simp at hj; subst hj; exact h
    · simp at hj, fun u hu => by simp at hu; subst hu; exact h1⟩

/-- append onto a row that was just made without a cell -/
theorem step_lit {P : Program} {ops : Array Oper} {o : Oper} {a : Act} {w : World} {K : Act → World → Prop} {Q : Exit → Act → World → Prop} {E : Prop}
    (hg : o.guard = none) (s x : Operand) (t : TypeId) (hop : o.op = Op.call { callee := Callee.builtin Builtin.append, args := #[s, x], argTypes := #[t, t] })
    (base : Nat) {i : TypeInfo} {z : Value} {bytes : Nat} (ht : P.underlying t = some (.slice 3)) (hi : P.info? 3 = some i) (hz : i.zero = some z)
    (hsize : i.size = 1) (hby : i.bytes = bytes) (hzs : z.cells.size = 1) (d : Nat) (u : Value) (news : List Value) (hs : a.eval s = .slice (some ⟨d, 0, none⟩) 0 0) (hx : a.eval x = u) (hd : w.heap[d]? = some (.cells #[] 3 (0, 0))) (hB : base ≤ d) (hsrc : Src w u news.length news)
    (h63 : news.length ≤ maxLen) (hbytes : news.length * bytes ≤ 140737488355328)
    (hK : ∀ v' w', w'.ownsRow base 3 1 v' news.length news → w.grownBy w' (some d) → K (a.put o.dst v') w') :
    if Region.wanted o (yielded ops a.tmps) = true then Oper.wp P o a w K Q else E := by
  have hdl := (Array.getElem?_eq_some_iff.mp hd).1
  have hown : w.ownsRow base 3 1 (.slice (some ⟨d, 0, none⟩) 0 0) 0 [] := ⟨rfl, .inr ⟨d, 0, #[], rfl, hB, hd, by simp, by unfold maxLen; omega, by simp, by simp⟩⟩
  refine step_app hg s x t hop base ht hi hz hsize hby hzs _ u hs hx hown hsrc (by omega) (by simpa using hbytes) (by omega) ?_
  intro v' w' h1 h2
  exact hK v' w' (by simpa using h1) h2

theorem rinfo : (Try.prog.info? 3).map (fun i => (i.zero, i.size, i.bytes)) = some (some (.int .i64 0), 1, 8) := by kernel_rfl

end Go.Proofs.Ytekacaocijfepaa
