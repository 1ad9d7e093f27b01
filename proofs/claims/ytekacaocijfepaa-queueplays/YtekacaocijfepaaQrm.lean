/-
  THE DOCUMENT's OWN QUEUE: MOVE. Conditions: the length.
-/
import Derived.Test.YtekacaocijfepaaQro
import Derived.ArgAppend
namespace Go.Proofs.Ytekacaocijfepaa
open Go.ChangeShapes Go.WideShapes Go.ChangeAt Go.RowKit Go.Conc
set_option linter.unusedVariables false
set_option linter.unusedSimpArgs false
set_option maxRecDepth 20000

theorem run_lit {P : Program} {w : World} {t ty : TypeId} {i : TypeInfo} {z : Value} {bytes : Nat} (ht : P.underlying t = some (.slice 3)) (hi : P.info? 3 = some i) (hz : i.zero = some z)
    (hsize : i.size = 1) (hby : i.bytes = bytes) (hzs : z.cells.size = 1) {d base : Nat} {u : Value} {news : List Value} (hd : w.heap[d]? = some (.cells #[] 3 (0, 0))) (hB : base ≤ d) (hs : Src w u news.length news)
    (h63 : news.length ≤ maxLen) (hbytes : news.length * bytes ≤ 140737488355328) :
    ∃ v' w', (Builtin.append_ #[t, t] ty #[.slice (some ⟨d, 0, none⟩) 0 0, u]).run P w = .ok v' w' ∧ w'.ownsRow base 3 1 v' news.length news ∧ Below w.heap.size w w' ∧ ∀ k, v'.ownBlock = some k → k = d ∨ w.heap.size ≤ k := by
  have hdl := (Array.getElem?_eq_some_iff.mp hd).1
  have hown : w.ownsRow base 3 1 (.slice (some ⟨d, 0, none⟩) 0 0) 0 [] := ⟨rfl, .inr ⟨d, 0, #[], rfl, hB, hd, by simp, by unfold maxLen; omega, by simp, by simp⟩⟩
  rcases hs with ⟨rfl, hm, hn⟩ | ⟨ad, c, rfl, -, hc, h1⟩
  · rw [hn]
    exact ⟨_, w, run_append_owned_none (P := P) (w := w) base t ty 3 i 1 ht hi _ 0 [] hown, hown, Below.refl _ _, fun k e => by cases e; exact .inl rfl⟩
  · by_cases hn : news = []
    · subst hn
      have hr := run_append_room (P := P) w t ty 3 i ht hi d 0 0 #[] hd ad 0 c [] (by simp) hc h1 (by omega) (by simp)
      refine ⟨_, _, hr, ?_, ?_, fun k e => by cases e; exact .inl rfl⟩
      · exact ⟨rfl, .inr ⟨d, 0, _, rfl, hB, setRow_heap w d #[] _ 3 _ hd, by simp, by unfold maxLen; omega, by simp, by simp⟩⟩
      · refine ⟨rfl, rfl, rfl, by simp [World.setRow], fun k hk => ?_⟩
        by_cases e : k = d
        · subst e
          rw [setRow_heap w k #[] _ 3 _ hd, hd]; simp
        · exact setRow_other w d k _ e
    · have hpos : 0 < news.length := List.length_pos_iff.2 hn
      obtain ⟨v', w', hr, r1, r2⟩ := run_append_arg_grows (P := P) (w := w) t ty 3 i z 1 bytes ht hi hz hsize hby hzs (by decide) ⟨d, 0, none⟩ 0 0 [] rfl (by simp) ad news.length c news (by simp) hc (by omega) (by omega) (by simpa using hbytes)
      rw [List.nil_append, Nat.zero_add] at r1
      exact ⟨v', w', hr, own_mono (by omega) r1, (Below.refl _ _).grown r2 (Nat.le_refl _) (fun k e => by cases e), fun k e => .inr (r1.lt k e).1⟩

theorem step_lit2 {P : Program} {ops : Array Oper} {o : Oper} {a : Act} {w : World} {K : Act → World → Prop} {Q : Exit → Act → World → Prop} {E : Prop}
    (hg : o.guard = none) (s x : Operand) (t : TypeId) (hop : o.op = Op.call { callee := Callee.builtin Builtin.append, args := #[s, x], argTypes := #[t, t] })
    (base : Nat) {i : TypeInfo} {z : Value} {bytes : Nat} (ht : P.underlying t = some (.slice 3)) (hi : P.info? 3 = some i) (hz : i.zero = some z)
    (hsize : i.size = 1) (hby : i.bytes = bytes) (hzs : z.cells.size = 1) (d : Nat) (u : Value) (news : List Value) (hs : a.eval s = .slice (some ⟨d, 0, none⟩) 0 0) (hx : a.eval x = u) (hd : w.heap[d]? = some (.cells #[] 3 (0, 0))) (hB : base ≤ d) (hsrc : Src w u news.length news)
    (h63 : news.length ≤ maxLen) (hbytes : news.length * bytes ≤ 140737488355328)
    (hK : ∀ v' w', w'.ownsRow base 3 1 v' news.length news → Below w.heap.size w w' → (∀ k, v'.ownBlock = some k → k = d ∨ w.heap.size ≤ k) → K (a.put o.dst v') w') :
    if Region.wanted o (yielded ops a.tmps) = true then Oper.wp P o a w K Q else E := by
  obtain ⟨v', w', hrun, r1, r2, r3⟩ := run_lit (P := P) (ty := o.type) ht hi hz hsize hby hzs hd hB hsrc h63 hbytes
  have hw : Region.wanted o (yielded ops a.tmps) = true := by simp [Region.wanted, hg]
  rw [if_pos hw]
  unfold Oper.wp
  simp [execOp, hop, resolve, invoke, builtin, hs, hx, hrun, Result.andThen]
  exact hK v' w' r1 r2 r3

theorem wpList_lit {P : Program} {w : World} {ops : Array Oper} {rest : List Oper} {o : Oper} {a : Act} {Q : Exit → Act → World → Prop} (hgd : o.guard = none) (s x : Operand) (t : TypeId)
    (hop : o.op = .call { callee := .builtin .append, args := #[s, x], argTypes := #[t, t] })
    (base : Nat) {i : TypeInfo} {z : Value} {bytes : Nat} (ht : P.underlying t = some (.slice 3)) (hi : P.info? 3 = some i) (hz : i.zero = some z)
    (hsize : i.size = 1) (hby : i.bytes = bytes) (hzs : z.cells.size = 1) (d : Nat) (u : Value) (news : List Value) (hs : a.eval s = .slice (some ⟨d, 0, none⟩) 0 0) (hx : a.eval x = u) (hd : w.heap[d]? = some (.cells #[] 3 (0, 0))) (hB : base ≤ d) (hsrc : Src w u news.length news)
    (h63 : news.length ≤ maxLen) (hbytes : news.length * bytes ≤ 140737488355328)
    (hK : ∀ v' w', w'.ownsRow base 3 1 v' news.length news → Below w.heap.size w w' → (∀ k, v'.ownBlock = some k → k = d ∨ w.heap.size ≤ k) → wpList P ops Q rest (a.put o.dst v') w') : wpList P ops Q (o :: rest) a w := by
  obtain ⟨v', w', hrun, r1, r2, r3⟩ := run_lit (P := P) (ty := o.type) ht hi hz hsize hby hzs hd hB hsrc h63 hbytes
  refine wpList_plain hgd fun K hK' => ?_
  unfold Oper.wp
  simp [execOp, hop, resolve, invoke, builtin, hs, hx, hrun, Result.andThen]
  exact hK' _ _ (hK v' w' r1 r2 r3)

theorem four_allocs (w : World) (o0 o1 o2 o3 : Obj) :
    ((((w.alloc o0).alloc o1).alloc o2).alloc o3).heap[w.heap.size]? = some o0 ∧ ((((w.alloc o0).alloc o1).alloc o2).alloc o3).heap[w.heap.size + 1]? = some o1 ∧ ((((w.alloc o0).alloc o1).alloc o2).alloc o3).heap[w.heap.size + 1 + 1]? = some o2 ∧
    ((((w.alloc o0).alloc o1).alloc o2).alloc o3).heap[w.heap.size + 1 + 1 + 1]? = some o3 ∧ ((((w.alloc o0).alloc o1).alloc o2).alloc o3).heap.size = w.heap.size + 4 ∧ Below w.heap.size w ((((w.alloc o0).alloc o1).alloc o2).alloc o3) := by
  refine ⟨?_, ?_, ?_, ?_, by simp, ((((Below.refl _ _).alloc (Nat.le_refl _) _).alloc (by simp) _).alloc (by simp; omega) _).alloc (by simp; omega) _⟩
  · rw [Below.heap_alloc _ _ _ (by simp; omega), Below.heap_alloc _ _ _ (by simp; omega), Below.heap_alloc _ _ _ (by simp)]; exact heap_alloc_new _ _
  · rw [Below.heap_alloc _ _ _ (by simp), Below.heap_alloc _ _ _ (by simp)]; simpa only [World.size_alloc] using heap_alloc_new (w.alloc o0) o1
  · rw [Below.heap_alloc _ _ _ (by simp)]; simpa only [World.size_alloc] using heap_alloc_new ((w.alloc o0).alloc o1) o2
  · simpa only [World.size_alloc] using heap_alloc_new (((w.alloc o0).alloc o1).alloc o2) o3

theorem blk_keep {w w' : World} {k : Nat} {o : Obj} (hb : Below w.heap.size w w') (h : w.heap[k]? = some o) : w'.heap[k]? = some o := by
  rw [hb.block k (Array.getElem?_eq_some_iff.mp h).1]; exact h

def MovePost (w' : World) (B m m' : Nat) (L L' : List Int) (k : Nat) (e : Ending) : Prop :=
  ∃ v u, e = .returned (.tuple #[.agg #[v, .int .i64 m], .agg #[u, .int .i64 m'], .int .i64 k]) ∧ w'.ownsRow B 3 1 v L.length (vsi L) ∧ w'.ownsRow B 3 1 u L'.length (vsi L')

set_option maxHeartbeats 8000000 in
theorem rmove_some (most : Int) (a b : List Int) (ha : a.length ≤ 4096) (m m' : Nat) (hb : b.length ≤ m') (hm : m' ≤ 4096) {w : World} {B g c : Nat} {u : Value} (hB : B ≤ w.heap.size)
    (h : w.ownsRow B 3 1 (.slice (some ⟨g, 0, none⟩) a.length c) a.length (vsi a)) (h' : w.ownsRow B 3 1 u b.length (vsi b)) :
    Calls Try.prog 24 #[.agg #[.slice (some ⟨g, 0, none⟩) a.length c, .int .i64 m], .agg #[u, .int .i64 m'], .int .i64 most] w fun e w' =>
      MovePost w' B m m' (a.drop (moveN most a.length m' b.length)) (b ++ a.take (moveN most a.length m' b.length)) (moveN most a.length m' b.length) e ∧ Below w.heap.size w w' := by
  obtain ⟨i0, hi, hz0, hz1, hz2⟩ := info_parts rinfo
  obtain ⟨ub, uc, rfl⟩ := own_slice h'
  obtain ⟨K, hK⟩ : ∃ K, K = moveN most a.length m' b.length := ⟨_, rfl⟩
  rw [← hK]
  have hK' : K ≤ a.length ∧ K + b.length ≤ m' := by rw [hK]; unfold moveN; omega
  obtain ⟨M, hM⟩ : ∃ M : Int, M = max most 0 := ⟨_, rfl⟩
  have hmax : ∀ ts ty w, (Builtin.max_ ts ty #[.int .i64 most, .int .i64 0]).run Try.prog w = .ok (.int .i64 M) w := fun ts ty w => by
    have h0 : (Builtin.max_ ts ty #[.int .i64 most, .int .i64 0]).run Try.prog w = .ok (.int .i64 (if (0 : Int) > most then 0 else most)) w := by simp [Builtin.max_, Builtin.max2]
    rw [h0]
    have h1 : (if (0 : Int) > most then 0 else most) = M := by rw [hM]; split <;> omega
    rw [h1]
  have hmin : ∀ ts ty w, (Builtin.min_ ts ty #[.int .i64 M, .int .i64 (a.length : Int), .int .i64 ((m' : Int) - (b.length : Int))]).run Try.prog w = .ok (.int .i64 (K : Int)) w := fun ts ty w => by
    have h0 : (Builtin.min_ ts ty #[.int .i64 M, .int .i64 (a.length : Int), .int .i64 ((m' : Int) - (b.length : Int))]).run Try.prog w = .ok (.int .i64 (if (m' : Int) - (b.length : Int) < (if (a.length : Int) < M then (a.length : Int) else M) then (m' : Int) - (b.length : Int) else (if (a.length : Int) < M then (a.length : Int) else M))) w := by simp [Builtin.min_, Builtin.min2]
    rw [h0]
    have h1 : (if (m' : Int) - (b.length : Int) < (if (a.length : Int) < M then (a.length : Int) else M) then (m' : Int) - (b.length : Int) else (if (a.length : Int) < M then (a.length : Int) else M)) = (K : Int) := by
      rw [hM, hK]; unfold moveN; split <;> split <;> omega
    rw [h1]
  obtain ⟨n, hn⟩ : ∃ n, n = a.length := ⟨_, rfl⟩
  obtain ⟨nb, hnb⟩ : ∃ nb, nb = b.length := ⟨_, rfl⟩
  rw [← hn] at h hmin hK' ha ⊢
  rw [← hnb] at h' hmin hK' hb ⊢
  replace hK := hid hK
  replace hM := hid hM
  replace hn := hid hn
  replace hnb := hid hnb
  have hnc : n ≤ c ∧ c ≤ 9223372036854775807 := by
    rcases h.2 with ⟨h0, -⟩ | ⟨g', cap, cur, h0, -, -, hnc, hcm, -⟩
    · cases h0
    · cases h0; exact ⟨hnc, by unfold maxLen at hcm; omega⟩
  have hla : a.length = n := hn.out.symm
  have hcell : ∀ j, j < n → w.cell? ⟨g, j, none⟩ = (vsi a)[j]? := fun j hj => h.cellAt j (by omega)
  have hsT : Src w (.slice (some ⟨g, 0, none⟩) K c) (vsi (a.take K)).length (vsi (a.take K)) := .inr ⟨_, _, by rw [vsi_len]; congr 1; simp; omega, rfl, fun j u hj => by
    have hjl : j < K := by have := (List.getElem?_eq_some_iff.mp hj).1; rw [vsi_len] at this; simp at this; omega
    have h1 := hcell j (by omega)
    have e2 : (vsi (a.take K))[j]? = (vsi a)[j]? := by unfold vsi; rw [List.map_take, List.getElem?_take_of_lt hjl]
    rw [add_z, h1, ← e2]; exact hj, vsi_one _⟩
  have hsD : Src w (.slice (if c = K then some ⟨g, 0, none⟩ else some ⟨g, K, none⟩) (n - K) (c - K)) (vsi (a.drop K)).length (vsi (a.drop K)) := by
    by_cases hc1 : c = K
    · rw [if_pos hc1]
      have hR : a.drop K = [] := List.drop_eq_nil_of_le (by omega)
      exact .inr ⟨_, _, by rw [vsi_len]; congr 1; simp; omega, rfl, fun j u hj => by rw [hR] at hj; simp [vsi] at hj, vsi_one _⟩
    · rw [if_neg hc1]
      refine .inr ⟨_, _, by rw [vsi_len]; congr 1; simp; omega, rfl, fun j u hj => ?_, vsi_one _⟩
      have hjl : K + j < n := by have := (List.getElem?_eq_some_iff.mp hj).1; rw [vsi_len] at this; simp at this; omega
      have h1 := hcell (K + j) hjl
      have e2 : (vsi (a.drop K))[j]? = (vsi a)[K + j]? := by unfold vsi; rw [List.map_drop, List.getElem?_drop]
      have e1 : (⟨g, K, none⟩ : Addr).add j = ⟨g, K + j, none⟩ := by
        unfold Addr.add
        by_cases h : j = 0
        · subst h; rfl
        · simp [h]
      rw [e1, h1, ← e2]; exact hj
  have hsB := own_src h'
  have lT : (vsi (a.take K)).length = K := by rw [vsi_len]; simp; omega
  have lD : (vsi (a.drop K)).length = n - K := by rw [vsi_len]; simp; omega
  have lB : b.length = nb := hnb.out.symm
  rw [lB] at hsB
  replace hla := hid hla
  replace lB := hid lB
  clear hcell
  have i1 : (0 : Int) ≤ (K : Int) := by omega
  have i2 : (K : Int) ≤ (n : Int) := by omega
  have i3 : (n : Int) ≤ (c : Int) := by omega
  have i4 : (K : Int) ≤ (c : Int) := by omega
  go_enter Try.func24, Try.ntmps24
  go_upto_region 2 with fail
  obtain ⟨z0, z1, z2, z3, hsz, hb0⟩ := four_allocs w (.cells #[.slice (some ⟨g, 0, none⟩) n c, .int .i64 m] 29) (.cells #[.slice ub nb uc, .int .i64 m'] 29) (.cells #[.slice none 0 0, .int .i64 0] 29) (.cells #[.slice none 0 0, .int .i64 0] 29)
  have hsT' := hsT.near hb0
  have hsD' := hsD.near hb0
  have hsB' := hsB.near hb0
  clear hsT hsD hsB hmax hmin
  generalize ((((w.alloc (.cells #[.slice (some ⟨g, 0, none⟩) n c, .int .i64 m] 29)).alloc (.cells #[.slice ub nb uc, .int .i64 m'] 29)).alloc (.cells #[.slice none 0 0, .int .i64 0] 29)).alloc (.cells #[.slice none 0 0, .int .i64 0] 29)) = W at *
  generalize hbw : w.heap.size = d at *
  replace hbw := hid hbw
  have c0 : W.cell? ⟨d, 0, none⟩ = some (.slice (some ⟨g, 0, none⟩) n c) := by unfold World.cell?; rw [z0]; rfl
  have c1 : W.cell? ⟨d, 1, none⟩ = some (.int .i64 m) := by unfold World.cell?; rw [z0]; rfl
  have c2 : W.cell? ⟨d + 1, 0, none⟩ = some (.slice ub nb uc) := by unfold World.cell?; rw [z1]; rfl
  have c3 : W.cell? ⟨d + 1, 1, none⟩ = some (.int .i64 m') := by unfold World.cell?; rw [z1]; rfl
  have r0 : W.cell? ⟨d + 1 + 1, 0, none⟩ = some (.slice none 0 0) := by unfold World.cell?; rw [z2]; rfl
  have r1 : W.cell? ⟨d + 1 + 1, 1, none⟩ = some (.int .i64 0) := by unfold World.cell?; rw [z2]; rfl
  have r2 : W.cell? ⟨d + 1 + 1 + 1, 0, none⟩ = some (.slice none 0 0) := by unfold World.cell?; rw [z3]; rfl
  have r3 : W.cell? ⟨d + 1 + 1 + 1, 1, none⟩ = some (.int .i64 0) := by unfold World.cell?; rw [z3]; rfl
  have f0 : W.frozen? ⟨d + 1 + 1, 0, none⟩ = false := by unfold World.frozen?; rw [z2]; rfl
  have f1 : W.frozen? ⟨d + 1 + 1, 1, none⟩ = false := by unfold World.frozen?; rw [z2]; rfl
  have f2 : W.frozen? ⟨d + 1 + 1 + 1, 0, none⟩ = false := by unfold World.frozen?; rw [z3]; rfl
  have f3 : W.frozen? ⟨d + 1 + 1 + 1, 1, none⟩ = false := by unfold World.frozen?; rw [z3]; rfl
  have hs4 : d + 4 ≤ W.heap.size := by omega
  clear hsz z0 z1 z2 z3
  have cA : ∀ o, (W.alloc o).cell? ⟨d, 0, none⟩ = some (.slice (some ⟨g, 0, none⟩) n c) := fun o => cell_later ((Below.refl _ _).alloc (Nat.le_refl _) _) c0
  go_upto_region 3 with (first | (at_builtin; refine wpList_lit rfl (.tmp 23) (.tmp 27) 27 rfl W.heap.size Try.underlying27 hi hz0 hz1 hz2 rfl _ (.slice (some ⟨g, 0, none⟩) K c) (vsi (a.take K)) rfl rfl (heap_alloc_new W _) (Nat.le_refl _) (hsT'.near ((Below.refl _ _).alloc (Nat.le_refl _) _)) (by unfold maxLen; omega) (by omega) ?_; intro v1 w1 ho1 hb1' hk1))
  have hb1 : Below W.heap.size W w1 := ((Below.refl _ _).alloc (Nat.le_refl _) _).trans (hb1'.mono (by simp))
  have hs1 := hb1.size
  rw [lT] at ho1
  have hx1 : Src w1 v1 (vsi (a.take K)).length (vsi (a.take K)) := by
    have := own_src (l := a.take K) ho1
    rw [← vsi_len (a.take K)] at this; exact this
  have hsD1 := hsD'.near hb1
  have hlb : (vsi b).length = nb := by rw [vsi_len]; exact lB.out
  have hsB1 : Src w1 (.slice ub nb uc) (vsi b).length (vsi b) := by rw [hlb]; exact hsB'.near hb1
  have hx1K : Src w1 v1 K (vsi (a.take K)) := by rw [lT] at hx1; exact hx1
  have hnb2 : nb ≤ 4096 := by omega
  have pk : ∀ X : World, Below w1.heap.size w1 X → X.cell? ⟨d, 0, none⟩ = some (.slice (some ⟨g, 0, none⟩) n c) ∧ X.cell? ⟨d, 1, none⟩ = some (.int .i64 m) ∧ X.cell? ⟨d + 1, 0, none⟩ = some (.slice ub nb uc) ∧ X.cell? ⟨d + 1, 1, none⟩ = some (.int .i64 m') := fun X hX =>
    ⟨cell_later hX (cell_later hb1 c0), cell_later hX (cell_later hb1 c1), cell_later hX (cell_later hb1 c2), cell_later hX (cell_later hb1 c3)⟩
  have pq : ∀ X : World, Below w1.heap.size w1 X → X.cell? ⟨d + 1 + 1, 0, none⟩ = some (.slice none 0 0) ∧ X.cell? ⟨d + 1 + 1, 1, none⟩ = some (.int .i64 0) ∧ X.cell? ⟨d + 1 + 1 + 1, 0, none⟩ = some (.slice none 0 0) ∧ X.cell? ⟨d + 1 + 1 + 1, 1, none⟩ = some (.int .i64 0) ∧
      X.frozen? ⟨d + 1 + 1, 0, none⟩ = false ∧ X.frozen? ⟨d + 1 + 1, 1, none⟩ = false ∧ X.frozen? ⟨d + 1 + 1 + 1, 0, none⟩ = false ∧ X.frozen? ⟨d + 1 + 1 + 1, 1, none⟩ = false := fun X hX =>
    ⟨cell_later hX (cell_later hb1 r0), cell_later hX (cell_later hb1 r1), cell_later hX (cell_later hb1 r2), cell_later hX (cell_later hb1 r3),
     (hX.frozen (by show d + 1 + 1 < _; omega)).trans ((hb1.frozen (by show d + 1 + 1 < _; omega)).trans f0), (hX.frozen (by show d + 1 + 1 < _; omega)).trans ((hb1.frozen (by show d + 1 + 1 < _; omega)).trans f1),
     (hX.frozen (by show d + 1 + 1 + 1 < _; omega)).trans ((hb1.frozen (by show d + 1 + 1 + 1 < _; omega)).trans f2), (hX.frozen (by show d + 1 + 1 + 1 < _; omega)).trans ((hb1.frozen (by show d + 1 + 1 + 1 < _; omega)).trans f3)⟩
  clear c0 c1 c2 c3 r0 r1 r2 r3 f0 f1 f2 f3 cA hsT' hsD' hsB' hb1' hk1
  obtain ⟨e0, e1, e2, e3⟩ := pk w1 (Below.refl _ _)
  have B1 : Below w1.heap.size w1 (w1.alloc (.cells #[] 3)).drew := ((Below.refl _ _).alloc (Nat.le_refl _) _).drew
  have B2 : Below w1.heap.size w1 ((w1.alloc (.cells #[] 3)).alloc (.cells #[] 3)).drew := (((Below.refl _ _).alloc (Nat.le_refl _) _).alloc (by simp) _).drew
  have D1 : (w1.alloc (.cells #[] 3)).drew.heap[w1.heap.size]? = some (.cells #[] 3 (0, 0)) := heap_alloc_new w1 _
  have D2 : ((w1.alloc (.cells #[] 3)).alloc (.cells #[] 3)).drew.heap[w1.heap.size]? = some (.cells #[] 3 (0, 0)) := (Below.heap_alloc _ _ _ (by simp)).trans (heap_alloc_new w1 _)
  have D3 : ((w1.alloc (.cells #[] 3)).alloc (.cells #[] 3)).drew.heap[w1.heap.size + 1]? = some (.cells #[] 3 (0, 0)) := by
    have := heap_alloc_new (w1.alloc (.cells #[] 3)) (.cells #[] 3)
    simp only [World.size_alloc] at this
    exact this
  have T1 : w1.heap.size + 1 ≤ (w1.alloc (.cells #[] 3)).drew.heap.size := by show _ ≤ (w1.alloc _).heap.size; simp
  have T2 : w1.heap.size + 2 ≤ ((w1.alloc (.cells #[] 3)).alloc (.cells #[] 3)).drew.heap.size := by show _ ≤ ((w1.alloc _).alloc _).heap.size; simp
  have T3 : ∀ (X : World) o, X.heap.size + 1 ≤ (X.alloc o).heap.size := fun X o => by simp
  have n1 : ¬ d = d + 1 + 1 := by omega
  have n2 : ¬ d + 1 + 1 = d := by omega
  have n3 : ¬ d = d + 1 + 1 + 1 := by omega
  have n4 : ¬ d + 1 + 1 + 1 = d := by omega
  have n5 : ¬ d + 1 = d + 1 + 1 + 1 := by omega
  have n6 : ¬ d + 1 + 1 + 1 = d + 1 := by omega
  have n7 : d ≠ d + 1 + 1 := by omega
  have n8 : d + 1 + 1 ≠ d := by omega
  have n9 : d ≠ d + 1 + 1 + 1 := by omega
  have n10 : d + 1 + 1 + 1 ≠ d := by omega
  have n11 : d + 1 ≠ d + 1 + 1 + 1 := by omega
  have n12 : d + 1 + 1 + 1 ≠ d + 1 := by omega
  go_region_held3 (fun w' => w'.cell? ⟨d, 0, none⟩ = some (.slice (some ⟨g, 0, none⟩) n c) ∧ w'.cell? ⟨d, 1, none⟩ = some (.int .i64 m) ∧ w'.cell? ⟨d + 1, 0, none⟩ = some (.slice ub nb uc) ∧ w'.cell? ⟨d + 1, 1, none⟩ = some (.int .i64 m')) (go_keep) (first | (refine step_lit2 rfl (.tmp 29) (.tmp 33) 27 rfl w1.heap.size Try.underlying27 hi hz0 hz1 hz2 rfl _ (.slice (if c = K then some ⟨g, 0, none⟩ else some ⟨g, K, none⟩) (n - K) (c - K)) (vsi (a.drop K)) rfl rfl (by first | exact D1 | exact D2 | exact D3) (by omega) (hsD1.near (by first | exact B1 | exact B2)) (by unfold maxLen; omega) (by omega) ?_; intro v2 w2 ho2 hb2' hk2; have hb2 : Below w1.heap.size w1 w2 := (by first | exact B1.trans (hb2'.mono B1.size) | exact B2.trans (hb2'.mono B2.size)); obtain ⟨k0, k1, k2, k3⟩ := pk w2 hb2; rw [lD] at ho2; obtain ⟨a2, x2, rfl⟩ := own_slice ho2; first | (have kA := blk_keep hb2' D2; have kC := blk_keep hb2' D3) | skip) | (refine step_lit2 rfl (.tmp 38) (.tmp 40) 27 rfl w1.heap.size Try.underlying27 hi hz0 hz1 hz2 rfl _ (.slice ub nb uc) (vsi b) rfl rfl (by first | exact heap_alloc_new _ _ | exact kC | exact kA) (by have := hb2.size; omega) (by first | exact (hsB1.near hb2) | exact (hsB1.near hb2).near ((Below.refl _ _).alloc (Nat.le_refl _) _)) (by unfold maxLen; omega) (by omega) ?_; intro v3 w3 ho3 hb3' hk3; rw [hlb] at ho3; have hb3 : Below w1.heap.size w1 w3 := (by first | exact hb2.trans (hb3'.mono hb2.size) | exact (hb2.alloc hb2.size _).trans (hb3'.mono (Nat.le_trans hb2.size (by simp)))); have ho2b : w3.ownsRow w1.heap.size 3 1 (.slice a2 (n - K) x2) (n - K) (vsi (a.drop K)) := (by first | exact own_below hb3' ho2 | exact own_below hb3' (own_al ho2 _)); have hne : ∀ k, (Value.slice a2 (n - K) x2).ownBlock = some k → some k ≠ v3.ownBlock := (fun k e e' => by have y1 := hk2 k e; have y2 := hk3 k e'.symm; have y3 := (ho2.lt k e).2; have y4 := hb2.size; have y5 := T3 w2 (.cells #[] 3); omega); clear k0 k1 k2 k3; obtain ⟨k0, k1, k2, k3⟩ := pk w3 hb3) | (refine step_app (n := nb) (m := K) (xs := vsi b) (news := vsi (a.take K)) rfl (.tmp 41) (.tmp 42) 27 rfl w1.heap.size Try.underlying27 hi hz0 hz1 hz2 rfl v3 v1 rfl rfl ho3 (hx1K.near hb3) (by unfold maxLen; omega) (by omega) hb3.size ?_; intro v4 w4 ho4 hg4; have hb4 : Below w1.heap.size w1 w4 := hb3.grown hg4 hb3.size (fun k e => (ho3.lt k e).1); have ho2c := own_far hg4 ho2b hne; obtain ⟨a4, x4, rfl⟩ := own_slice ho4; clear k0 k1 k2 k3; obtain ⟨k0, k1, k2, k3⟩ := pk w4 hb4; obtain ⟨j0, j1, j2, j3, j4, j5, j6, j7⟩ := pq w4 hb4))
  all_goals
    go_wp2
    all_goals
      have four : ∀ {nn : Nat} {v : Value} {xs : List Value}, w4.ownsRow w1.heap.size 3 1 v nn xs → ((((w4.setCell ⟨d + 1 + 1, 0, none⟩ (.slice a2 (n - K) x2)).setCell ⟨d + 1 + 1, 1, none⟩ (.int .i64 m)).setCell ⟨d + 1 + 1 + 1, 0, none⟩ (.slice a4 (nb + K) x4)).setCell ⟨d + 1 + 1 + 1, 1, none⟩ (.int .i64 m')).ownsRow B 3 1 v nn xs := fun ho =>
        own_mono (by omega) (ownsRow_setCell_below (ownsRow_setCell_below (ownsRow_setCell_below (ownsRow_setCell_below ho (a := ⟨d + 1 + 1, 0, none⟩) (by show d + 1 + 1 < _; omega) _) (a := ⟨d + 1 + 1, 1, none⟩) (by show d + 1 + 1 < _; omega) _) (a := ⟨d + 1 + 1 + 1, 0, none⟩) (by show d + 1 + 1 + 1 < _; omega) _) (a := ⟨d + 1 + 1 + 1, 1, none⟩) (by show d + 1 + 1 + 1 < _; omega) _)
      have p1 := four ho2c
      have p2 := four ho4
      have l1 : (a.drop K).length = n - K := by rw [← vsi_len]; exact lD
      have l2 : (b ++ a.take K).length = nb + K := by rw [List.length_append, lB.out]; congr 1; rw [← vsi_len]; exact lT
      have hbE : Below d w w4 := hb0.trans ((hb1.trans (hb4.mono hs1)).mono (by omega))
      refine bodyPost_ret (v := .tuple #[.agg #[.slice a2 (n - K) x2, .int .i64 m], .agg #[.slice a4 (nb + K) x4, .int .i64 m'], .int .i64 K]) ?_ rfl ⟨⟨_, _, rfl, by rw [l1]; exact p1, by rw [l2, vsi_app]; exact p2⟩, by
        rw [hbw.out]
        exact (((hbE.setCell (by show d ≤ d + 1 + 1; omega) _).setCell (by show d ≤ d + 1 + 1; omega) _).setCell (by show d ≤ d + 1 + 1 + 1; omega) _).setCell (by show d ≤ d + 1 + 1 + 1; omega) _⟩
      simp [results, Try.results24, go_sem, j0, j1, j2, j3]

end Go.Proofs.Ytekacaocijfepaa
