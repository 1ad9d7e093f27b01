/-
  TWO COPIES OF ONE ITEM IN ONE STATEMENT, in whatever order: the region of ItemSame. Conditions: those of item.Copy.
-/
import Derived.Test.YtbkgbnjiibhmhaaRg7
namespace Go.Proofs.Ytbkgbnjiibhmhaa
open Go.ChangeShapes Go.WideShapes Go.ChangeAt Go.RowKit Go.Lib
set_option linter.unusedVariables false
set_option linter.unusedSimpArgs false
set_option maxRecDepth 20000

/-- the statement's operations -/
abbrev op0 : Oper := { dst := some 42, op := Op.load 29 (Operand.tmp 2), type := 29, pos := "law.go:79", after := #[], guard := none }
abbrev op1 : Oper := { dst := some 43, op := Op.call { callee := Callee.value (Operand.func 11), args := #[Operand.tmp 42], argTypes := #[29] }, type := 29, pos := "law.go:79", after := #[{ on := 0, ground := Ground.data }], guard := none }
abbrev op2 : Oper := { dst := some 44, op := Op.load 29 (Operand.tmp 2), type := 29, pos := "law.go:79", after := #[], guard := none }
abbrev op3 : Oper := { dst := some 45, op := Op.call { callee := Callee.value (Operand.func 11), args := #[Operand.tmp 44], argTypes := #[29] }, type := 29, pos := "law.go:79", after := #[{ on := 2, ground := Ground.data }, { on := 1, ground := Ground.chain }], guard := none }
abbrev op4 : Oper := { dst := some 5, op := Op.alloc 29, type := 0, pos := "law.go:79", after := #[], guard := none }
abbrev op5 : Oper := { dst := some 6, op := Op.alloc 29, type := 0, pos := "law.go:79", after := #[], guard := none }
abbrev op6 : Oper := { dst := none, op := Op.store 29 (Operand.tmp 5) (Operand.tmp 43), type := 0, pos := "law.go:79", after := #[{ on := 4, ground := Ground.data }, { on := 1, ground := Ground.data }, { on := 3, ground := Ground.chain }, { on := 0, ground := Ground.phase }, { on := 1, ground := Ground.phase }, { on := 2, ground := Ground.textOnly Departure.lateStores }, { on := 3, ground := Ground.textOnly Departure.lateStoresUnsure }, { on := 4, ground := Ground.phase }, { on := 5, ground := Ground.phase }], guard := none }
abbrev op7 : Oper := { dst := none, op := Op.store 29 (Operand.tmp 6) (Operand.tmp 45), type := 0, pos := "law.go:79", after := #[{ on := 5, ground := Ground.data }, { on := 3, ground := Ground.data }, { on := 6, ground := Ground.chain }, { on := 0, ground := Ground.phase }, { on := 1, ground := Ground.phase }, { on := 2, ground := Ground.phase }, { on := 3, ground := Ground.phase }, { on := 4, ground := Ground.phase }, { on := 5, ground := Ground.phase }, { on := 6, ground := Ground.phase }], guard := none }
/-- all of them -/
abbrev ops7 : Array Oper := #[op0, op1, op2, op3, op4, op5, op6, op7]

theorem ready_all : ∀ b0 b1 b2 b3 b4 b5 b6 b7 : Bool, Region.ready .any ops7 #[b0, b1, b2, b3, b4, b5, b6, b7] = [] → (b0 = true ∧ b1 = true ∧ b2 = true ∧ b3 = true) ∧ b4 = true ∧ b5 = true ∧ b6 = true ∧ b7 = true := by decide +kernel
theorem ready_oneB : ∀ b0 b1 b2 b3 b4 b5 b6 b7 : Bool, (Region.ready .any ops7 #[b0, b1, b2, b3, b4, b5, b6, b7]).all (fun i => (i == 0 && !b0) || (i == 1 && !b1 && b0) || (i == 2 && !b2) || (i == 3 && !b3 && b2 && b1) || (i == 4 && !b4) || (i == 5 && !b5) || (i == 6 && !b6 && b1 && b3 && b4 && b5) || (i == 7 && !b7 && b1 && b3 && b4 && b5 && b6)) = true := by decide +kernel
theorem ready_one (b0 b1 b2 b3 b4 b5 b6 b7 : Bool) (i : Nat) (hi : i ∈ Region.ready .any ops7 #[b0, b1, b2, b3, b4, b5, b6, b7]) : (i = 0 ∧ b0 = false) ∨ (i = 1 ∧ b1 = false ∧ b0 = true) ∨ (i = 2 ∧ b2 = false) ∨ (i = 3 ∧ b3 = false ∧ b2 = true ∧ b1 = true) ∨ (i = 4 ∧ b4 = false) ∨ (i = 5 ∧ b5 = false) ∨
    (i = 6 ∧ b6 = false ∧ b1 = true ∧ b3 = true ∧ b4 = true ∧ b5 = true) ∨ (i = 7 ∧ b7 = false ∧ b1 = true ∧ b3 = true ∧ b4 = true ∧ b5 = true ∧ b6 = true) := by
  have h := List.all_eq_true.1 (ready_oneB b0 b1 b2 b3 b4 b5 b6 b7) i hi
  simp only [Bool.or_eq_true, Bool.and_eq_true, beq_iff_eq, Bool.not_eq_true'] at h
  rcases h with (((((((⟨h1, h2⟩ | ⟨⟨h1, h2⟩, h3⟩) | ⟨h1, h2⟩) | ⟨⟨⟨h1, h2⟩, h3⟩, h4⟩) | ⟨h1, h2⟩) | ⟨h1, h2⟩) | ⟨⟨⟨⟨⟨h1, h2⟩, h3⟩, h4⟩, h5⟩, h6⟩) | ⟨⟨⟨⟨⟨⟨h1, h2⟩, h3⟩, h4⟩, h5⟩, h6⟩, h7⟩)
  · exact .inl ⟨h1, h2⟩
  · exact .inr (.inl ⟨h1, h2, h3⟩)
  · exact .inr (.inr (.inl ⟨h1, h2⟩))
  · exact .inr (.inr (.inr (.inl ⟨h1, h2, h3, h4⟩)))
  · exact .inr (.inr (.inr (.inr (.inl ⟨h1, h2⟩))))
  · exact .inr (.inr (.inr (.inr (.inr (.inl ⟨h1, h2⟩)))))
  · exact .inr (.inr (.inr (.inr (.inr (.inr (.inl ⟨h1, h2, h3, h4, h5, h6⟩))))))
  · exact .inr (.inr (.inr (.inr (.inr (.inr (.inr ⟨h1, h2, h3, h4, h5, h6, h7⟩))))))

/-- what holds while the statement is done -/
def Inv (tm : Array Value) (w0 : World) (h : Hd) (A : Array Value) (n m : Nat) (l : PL) (s : List Int) (L : Array Bool) (a : Act) (w' : World) : Prop :=
  ∃ b0 b1 b2 b3 b4 b5 b6 b7 : Bool, L = #[b0, b1, b2, b3, b4, b5, b6, b7] ∧ ∃ v42 v43 v44 v45 v5 v6 x1 y1 x2 y2 lo1 hi1 lo2 hi2 g5 g6, a = Fr tm v42 v43 v44 v45 v5 v6 ∧ St w0 h A n m l s b0 b1 b2 b3 b4 b5 b6 b7 v42 v43 v44 v45 v5 v6 x1 y1 x2 y2 lo1 hi1 lo2 hi2 g5 g6 w'
set_option maxHeartbeats 1000000 in
theorem step0 {a : Act} {Q : Exit → Act → World → Prop} {tm : Array Value} {w0 w : World} {h : Hd} {A : Array Value} {n m : Nat} {l : PL} {s : List Int} {b0 b1 b2 b3 b4 b5 b6 b7 : Bool} {v42 v43 v44 v45 v5 v6 x1 y1 x2 y2 : Value} {lo1 hi1 lo2 hi2 g5 g6 : Nat} (ha0 : a = Fr tm v42 v43 v44 v45 v5 v6) (hz : tm.size = 103) (h2 : tm.getD 2 undef = .pointer (some ⟨w0.heap.size, 0, none⟩)) (hAz : A.size = 15) (H : St w0 h A n m l s b0 b1 b2 b3 b4 b5 b6 b7 v42 v43 v44 v45 v5 v6 x1 y1 x2 y2 lo1 hi1 lo2 hi2 g5 g6 w) : op0.wp Try.prog a w (Inv tm w0 h A n m l s #[true, b1, b2, b3, b4, b5, b6, b7]) Q := by
  have hinfA : (Try.prog.info? 29).map (·.size) = some A.size := by rw [hAz]; kernel_rfl
  have hx : a.eval (.tmp 2) = .pointer (some ⟨w0.heap.size, 0, none⟩) := by rw [ha0]; exact (fr_eval2 hz v42 v43 v44 v45 v5 v6).trans h2
  have K := @wp_load_row Try.prog op0 a w (Inv tm w0 h A n m l s #[true, b1, b2, b3, b4, b5, b6, b7]) Q 29 (.tmp 2) rfl w0.heap.size hx 29 A (0, 0) _ H.box Try.underlying29 rfl hinfA
  exact K ⟨true, _, _, _, _, _, _, _, rfl, _, _, _, _, _, _, _, _, _, _, _, _, _, _, _, _, by rw [ha0]; exact fr_put42 _ _ _ _ _ _ _ _, H.s0⟩

set_option maxHeartbeats 1000000 in
theorem step2 {a : Act} {Q : Exit → Act → World → Prop} {tm : Array Value} {w0 w : World} {h : Hd} {A : Array Value} {n m : Nat} {l : PL} {s : List Int} {b0 b1 b2 b3 b4 b5 b6 b7 : Bool} {v42 v43 v44 v45 v5 v6 x1 y1 x2 y2 : Value} {lo1 hi1 lo2 hi2 g5 g6 : Nat} (ha0 : a = Fr tm v42 v43 v44 v45 v5 v6) (hz : tm.size = 103) (h2 : tm.getD 2 undef = .pointer (some ⟨w0.heap.size, 0, none⟩)) (hAz : A.size = 15) (H : St w0 h A n m l s b0 b1 b2 b3 b4 b5 b6 b7 v42 v43 v44 v45 v5 v6 x1 y1 x2 y2 lo1 hi1 lo2 hi2 g5 g6 w) : op2.wp Try.prog a w (Inv tm w0 h A n m l s #[b0, b1, true, b3, b4, b5, b6, b7]) Q := by
  have hinfA : (Try.prog.info? 29).map (·.size) = some A.size := by rw [hAz]; kernel_rfl
  have hx : a.eval (.tmp 2) = .pointer (some ⟨w0.heap.size, 0, none⟩) := by rw [ha0]; exact (fr_eval2 hz v42 v43 v44 v45 v5 v6).trans h2
  have K := @wp_load_row Try.prog op2 a w (Inv tm w0 h A n m l s #[b0, b1, true, b3, b4, b5, b6, b7]) Q 29 (.tmp 2) rfl w0.heap.size hx 29 A (0, 0) _ H.box Try.underlying29 rfl hinfA
  exact K ⟨_, _, true, _, _, _, _, _, rfl, _, _, _, _, _, _, _, _, _, _, _, _, _, _, _, _, by rw [ha0]; exact fr_put44 _ _ _ _ _ _ _ _, H.s2⟩

set_option maxHeartbeats 1000000 in
theorem step1 {a : Act} {Q : Exit → Act → World → Prop} {tm : Array Value} {w0 w : World} {h : Hd} {A : Array Value} {n m : Nat} {l : PL} {s : List Int} {b2 b3 b4 b5 b6 b7 : Bool} {v42 v43 v44 v45 v5 v6 x1 y1 x2 y2 : Value} {lo1 hi1 lo2 hi2 g5 g6 : Nat} (ha0 : a = Fr tm v42 v43 v44 v45 v5 v6) (hz : tm.size = 103) (hl : l.length = n) (hsl : s.length = m) (hsr : ∀ x ∈ s, 0 ≤ x ∧ x ≤ 255) (cC : ∀ wr, Below w0.heap.size w0 wr → Calls Try.prog 11 #[.agg A] wr fun e w' => ∃ x y, e = .returned (.agg (h.it x y)) ∧ w'.ownsRow (wr.heap.size + 2) 37 2 x n (pcs2 l) ∧ w'.ownsRow (wr.heap.size + 2) 5 1 y m (u8s s) ∧ Below wr.heap.size wr w') (H : St w0 h A n m l s true false b2 b3 b4 b5 b6 b7 v42 v43 v44 v45 v5 v6 x1 y1 x2 y2 lo1 hi1 lo2 hi2 g5 g6 w) : op1.wp Try.prog a w (Inv tm w0 h A n m l s #[true, true, b2, b3, b4, b5, b6, b7]) Q := by
  obtain rfl := H.e0 rfl
  have ha : a.eval (.tmp 42) = .agg A := by rw [ha0]; exact fr_eval42 hz (.agg A) v43 v44 v45 v5 v6
  refine wp_call_fn (P := Try.prog) (o := op1) (w := w) (K := (Inv tm w0 h A n m l s #[true, true, b2, b3, b4, b5, b6, b7])) (a := a) (Q := Q) 11 (.tmp 42) 29 (.agg A) rfl ha (enter_copy _ _) ((cC _ H.bel).mono ?_)
  rintro e w1 ⟨x, y, rfl, hx, hy, hb⟩
  obtain ⟨p1, p2, p3, -⟩ := own_pys hx hl
  obtain ⟨q1, q2, q3, -⟩ := own_bys hy hsl hsr
  exact ⟨_, rfl, _, true, _, _, _, _, _, _, rfl, _, _, _, _, _, _, _, _, _, _, _, _, _, _, _, _, by rw [ha0]; exact fr_put43 _ _ _ _ _ _ _ _, H.s1 hb hx hy ⟨_, _, p3⟩ ⟨_, _, q3⟩⟩

set_option maxHeartbeats 1000000 in
theorem step3 {a : Act} {Q : Exit → Act → World → Prop} {tm : Array Value} {w0 w : World} {h : Hd} {A : Array Value} {n m : Nat} {l : PL} {s : List Int} {b0 b4 b5 b6 b7 : Bool} {v42 v43 v44 v45 v5 v6 x1 y1 x2 y2 : Value} {lo1 hi1 lo2 hi2 g5 g6 : Nat} (ha0 : a = Fr tm v42 v43 v44 v45 v5 v6) (hz : tm.size = 103) (hl : l.length = n) (hsl : s.length = m) (hsr : ∀ x ∈ s, 0 ≤ x ∧ x ≤ 255) (cC : ∀ wr, Below w0.heap.size w0 wr → Calls Try.prog 11 #[.agg A] wr fun e w' => ∃ x y, e = .returned (.agg (h.it x y)) ∧ w'.ownsRow (wr.heap.size + 2) 37 2 x n (pcs2 l) ∧ w'.ownsRow (wr.heap.size + 2) 5 1 y m (u8s s) ∧ Below wr.heap.size wr w') (H : St w0 h A n m l s b0 true true false b4 b5 b6 b7 v42 v43 v44 v45 v5 v6 x1 y1 x2 y2 lo1 hi1 lo2 hi2 g5 g6 w) : op3.wp Try.prog a w (Inv tm w0 h A n m l s #[b0, true, true, true, b4, b5, b6, b7]) Q := by
  obtain rfl := H.e2 rfl
  have ha : a.eval (.tmp 44) = .agg A := by rw [ha0]; exact fr_eval44 hz v42 v43 (.agg A) v45 v5 v6
  refine wp_call_fn (P := Try.prog) (o := op3) (w := w) (K := (Inv tm w0 h A n m l s #[b0, true, true, true, b4, b5, b6, b7])) (a := a) (Q := Q) 11 (.tmp 44) 29 (.agg A) rfl ha (enter_copy _ _) ((cC _ H.bel).mono ?_)
  rintro e w1 ⟨x, y, rfl, hx, hy, hb⟩
  obtain ⟨p1, p2, p3, -⟩ := own_pys hx hl
  obtain ⟨q1, q2, q3, -⟩ := own_bys hy hsl hsr
  exact ⟨_, rfl, _, _, _, true, _, _, _, _, rfl, _, _, _, _, _, _, _, _, _, _, _, _, _, _, _, _, by rw [ha0]; exact fr_put45 _ _ _ _ _ _ _ _, H.s3 hb hx hy ⟨_, _, p3⟩ ⟨_, _, q3⟩⟩

set_option maxHeartbeats 1000000 in
theorem step4 {a : Act} {Q : Exit → Act → World → Prop} {tm : Array Value} {w0 w : World} {h : Hd} {A : Array Value} {n m : Nat} {l : PL} {s : List Int} {b0 b1 b2 b3 b5 b6 b7 : Bool} {v42 v43 v44 v45 v5 v6 x1 y1 x2 y2 : Value} {lo1 hi1 lo2 hi2 g5 g6 : Nat} (ha0 : a = Fr tm v42 v43 v44 v45 v5 v6)  (H : St w0 h A n m l s b0 b1 b2 b3 false b5 b6 b7 v42 v43 v44 v45 v5 v6 x1 y1 x2 y2 lo1 hi1 lo2 hi2 g5 g6 w) : op4.wp Try.prog a w (Inv tm w0 h A n m l s #[b0, b1, b2, b3, true, b5, b6, b7]) Q := by
  have K := @wp_alloc_zero Try.prog Q op4 (Inv tm w0 h A n m l s #[b0, b1, b2, b3, true, b5, b6, b7]) a w 29 rfl zI (alloc_item w)
  exact K ⟨_, _, _, _, true, _, _, _, rfl, _, _, _, _, _, _, _, _, _, _, _, _, _, _, _, _, by rw [ha0]; exact fr_put5 _ _ _ _ _ _ _ _, H.s4⟩

set_option maxHeartbeats 1000000 in
theorem step5 {a : Act} {Q : Exit → Act → World → Prop} {tm : Array Value} {w0 w : World} {h : Hd} {A : Array Value} {n m : Nat} {l : PL} {s : List Int} {b0 b1 b2 b3 b4 b6 b7 : Bool} {v42 v43 v44 v45 v5 v6 x1 y1 x2 y2 : Value} {lo1 hi1 lo2 hi2 g5 g6 : Nat} (ha0 : a = Fr tm v42 v43 v44 v45 v5 v6)  (H : St w0 h A n m l s b0 b1 b2 b3 b4 false b6 b7 v42 v43 v44 v45 v5 v6 x1 y1 x2 y2 lo1 hi1 lo2 hi2 g5 g6 w) : op5.wp Try.prog a w (Inv tm w0 h A n m l s #[b0, b1, b2, b3, b4, true, b6, b7]) Q := by
  have K := @wp_alloc_zero Try.prog Q op5 (Inv tm w0 h A n m l s #[b0, b1, b2, b3, b4, true, b6, b7]) a w 29 rfl zI (alloc_item w)
  exact K ⟨_, _, _, _, _, true, _, _, rfl, _, _, _, _, _, _, _, _, _, _, _, _, _, _, _, _, by rw [ha0]; exact fr_put6 _ _ _ _ _ _ _ _, H.s5⟩

set_option maxHeartbeats 1000000 in
theorem step6 {a : Act} {Q : Exit → Act → World → Prop} {tm : Array Value} {w0 w : World} {h : Hd} {A : Array Value} {n m : Nat} {l : PL} {s : List Int} {b0 b2 b7 : Bool} {v42 v43 v44 v45 v5 v6 x1 y1 x2 y2 : Value} {lo1 hi1 lo2 hi2 g5 g6 : Nat} (ha0 : a = Fr tm v42 v43 v44 v45 v5 v6) (hz : tm.size = 103) (H : St w0 h A n m l s b0 true b2 true true true false b7 v42 v43 v44 v45 v5 v6 x1 y1 x2 y2 lo1 hi1 lo2 hi2 g5 g6 w) : op6.wp Try.prog a w (Inv tm w0 h A n m l s #[b0, true, b2, true, true, true, true, b7]) Q := by
  have hinf : (Try.prog.info? 29).map (·.size) = some 15 := by kernel_rfl
  obtain rfl := (H.c1 rfl).1
  obtain rfl := (H.p5 rfl).1
  have hc := (H.c1 rfl).2
  have hone : (h.it x1 y1).all (·.oneCell') = true := by
    obtain ⟨a1, c1, rfl⟩ := hc.s1
    obtain ⟨a2, c2, rfl⟩ := hc.s2
    exact it_one _ _ _ _ _ _ _
  have hB : Blk w g5 zI 29 := by simpa using (H.p5 rfl).2
  have ha : a.eval (.tmp 5) = .pointer (some ⟨g5, 0, none⟩) := by rw [ha0]; exact fr_eval5 hz v42 (.agg (h.it x1 y1)) v44 v45 (.pointer (some ⟨g5, 0, none⟩)) v6
  have hb : a.eval (.tmp 43) = .agg (h.it x1 y1) := by rw [ha0]; exact fr_eval43 hz v42 (.agg (h.it x1 y1)) v44 v45 (.pointer (some ⟨g5, 0, none⟩)) v6
  have K := @wp_store_row Try.prog op6 a w (Inv tm w0 h A n m l s #[b0, true, b2, true, true, true, true, b7]) Q 29 (.tmp 5) (.tmp 43) rfl g5 (h.it x1 y1) ha hb 29 zI hB hinf rfl hone
  exact K ⟨_, _, _, _, _, _, true, _, rfl, _, _, _, _, _, _, _, _, _, _, _, _, _, _, _, _, ha0, H.s6⟩

set_option maxHeartbeats 1000000 in
theorem step7 {a : Act} {Q : Exit → Act → World → Prop} {tm : Array Value} {w0 w : World} {h : Hd} {A : Array Value} {n m : Nat} {l : PL} {s : List Int} {b0 b2 : Bool} {v42 v43 v44 v45 v5 v6 x1 y1 x2 y2 : Value} {lo1 hi1 lo2 hi2 g5 g6 : Nat} (ha0 : a = Fr tm v42 v43 v44 v45 v5 v6) (hz : tm.size = 103) (H : St w0 h A n m l s b0 true b2 true true true true false v42 v43 v44 v45 v5 v6 x1 y1 x2 y2 lo1 hi1 lo2 hi2 g5 g6 w) : op7.wp Try.prog a w (Inv tm w0 h A n m l s #[b0, true, b2, true, true, true, true, true]) Q := by
  have hinf : (Try.prog.info? 29).map (·.size) = some 15 := by kernel_rfl
  obtain rfl := (H.c2 rfl).1
  obtain rfl := (H.p6 rfl).1
  have hc := (H.c2 rfl).2
  have hone : (h.it x2 y2).all (·.oneCell') = true := by
    obtain ⟨a1, c1, rfl⟩ := hc.s1
    obtain ⟨a2, c2, rfl⟩ := hc.s2
    exact it_one _ _ _ _ _ _ _
  have hB : Blk w g6 zI 29 := by simpa using (H.p6 rfl).2
  have ha : a.eval (.tmp 6) = .pointer (some ⟨g6, 0, none⟩) := by rw [ha0]; exact fr_eval6 hz v42 v43 v44 (.agg (h.it x2 y2)) v5 (.pointer (some ⟨g6, 0, none⟩))
  have hb : a.eval (.tmp 45) = .agg (h.it x2 y2) := by rw [ha0]; exact fr_eval45 hz v42 v43 v44 (.agg (h.it x2 y2)) v5 (.pointer (some ⟨g6, 0, none⟩))
  have K := @wp_store_row Try.prog op7 a w (Inv tm w0 h A n m l s #[b0, true, b2, true, true, true, true, true]) Q 29 (.tmp 6) (.tmp 45) rfl g6 (h.it x2 y2) ha hb 29 zI hB hinf rfl hone
  exact K ⟨_, _, _, _, _, _, _, true, rfl, _, _, _, _, _, _, _, _, _, _, _, _, _, _, _, _, ha0, H.s7⟩

set_option maxHeartbeats 4000000 in
theorem region7 {id : Nat} {Q : Exit → Act → World → Prop} {tm : Array Value} {w0 w : World} {h : Hd} {A : Array Value} {n m : Nat} {l : PL} {s : List Int} (hz : tm.size = 103) (h2 : tm.getD 2 undef = .pointer (some ⟨w0.heap.size, 0, none⟩)) (hbox : Blk w w0.heap.size A 29) (hAz : A.size = 15)
    (hbel : Below w0.heap.size w0 w) (hsz : w0.heap.size + 2 ≤ w.heap.size) (hl : l.length = n) (hsl : s.length = m) (hsr : ∀ x ∈ s, 0 ≤ x ∧ x ≤ 255)
    (u42 u43 u44 u45 u5 u6 : Value) (h0 : ({ tmps := tm, defers := [] } : Act) = Fr tm u42 u43 u44 u45 u5 u6)
    (cC : ∀ wr, Below w0.heap.size w0 wr → Calls Try.prog 11 #[.agg A] wr fun e w' => ∃ x y, e = .returned (.agg (h.it x y)) ∧ w'.ownsRow (wr.heap.size + 2) 37 2 x n (pcs2 l) ∧ w'.ownsRow (wr.heap.size + 2) 5 1 y m (u8s s) ∧ Below wr.heap.size wr w')
    (hQ : ∀ x1 y1 x2 y2 lo1 hi1 lo2 hi2 g5 g6 w', St w0 h A n m l s true true true true true true true true (.agg A) (.agg (h.it x1 y1)) (.agg A) (.agg (h.it x2 y2)) (.pointer (some ⟨g5, 0, none⟩)) (.pointer (some ⟨g6, 0, none⟩)) x1 y1 x2 y2 lo1 hi1 lo2 hi2 g5 g6 w' → Q .normal (Fr tm (.agg A) (.agg (h.it x1 y1)) (.agg A) (.agg (h.it x2 y2)) (.pointer (some ⟨g5, 0, none⟩)) (.pointer (some ⟨g6, 0, none⟩))) w') :
    (Code.region id ops7 true).wp Try.prog Q { tmps := tm, defers := [] } w := by
  refine wp_region_inv (by kernel_rfl) (Inv tm w0 h A n m l s) ?_ ?_ ?_
  · show Inv tm w0 h A n m l s #[false, false, false, false, false, false, false, false] _ _
    refine ⟨false, false, false, false, false, false, false, false, rfl, u42, u43, u44, u45, u5, u6, undef, undef, undef, undef, 0, 0, 0, 0, 0, 0, h0, ?_⟩
    have hb := (Below.refl w.heap.size w).drew
    exact ⟨hbox.below hb, hbel.trans (hb.mono hbel.size), by simpa using hsz, (fun e => by cases e), (fun e => by cases e), (fun e => by cases e), (fun e => by cases e), (fun e => by cases e), (fun e => by cases e), (fun e => by cases e), (fun e => by cases e), (fun e => by cases e), (fun e => by cases e), (fun e => by cases e), (fun e => by cases e), (fun e => by cases e), (fun e => by cases e)⟩
  · rintro L a w' ⟨b0, b1, b2, b3, b4, b5, b6, b7, rfl, v42, v43, v44, v45, v5, v6, x1, y1, x2, y2, lo1, hi1, lo2, hi2, g5, g6, rfl, H⟩ hr
    obtain ⟨⟨rfl, rfl, rfl, rfl⟩, rfl, rfl, rfl, rfl⟩ := ready_all _ _ _ _ _ _ _ _ hr
    obtain rfl := H.e0 rfl
    obtain rfl := H.e2 rfl
    obtain rfl := (H.c1 rfl).1
    obtain rfl := (H.c2 rfl).1
    obtain rfl := (H.p5 rfl).1
    obtain rfl := (H.p6 rfl).1
    exact hQ _ _ _ _ _ _ _ _ _ _ _ H
  · rintro L a w' ⟨b0, b1, b2, b3, b4, b5, b6, b7, rfl, v42, v43, v44, v45, v5, v6, x1, y1, x2, y2, lo1, hi1, lo2, hi2, g5, g6, ha0, H⟩ i hi
    rcases ready_one _ _ _ _ _ _ _ _ i hi with ⟨rfl, rfl⟩ | ⟨rfl, rfl, rfl⟩ | ⟨rfl, rfl⟩ | ⟨rfl, rfl, rfl, rfl⟩ | ⟨rfl, rfl⟩ | ⟨rfl, rfl⟩ | ⟨rfl, rfl, rfl, rfl, rfl, rfl⟩ | ⟨rfl, rfl, rfl, rfl, rfl, rfl, rfl⟩
    · exact wpOp_plain (o := op0) rfl rfl (step0 ha0 hz h2 hAz H)
    · exact wpOp_plain (o := op1) rfl rfl (step1 ha0 hz hl hsl hsr cC H)
    · exact wpOp_plain (o := op2) rfl rfl (step2 ha0 hz h2 hAz H)
    · exact wpOp_plain (o := op3) rfl rfl (step3 ha0 hz hl hsl hsr cC H)
    · exact wpOp_plain (o := op4) rfl rfl (step4 ha0 H)
    · exact wpOp_plain (o := op5) rfl rfl (step5 ha0 H)
    · exact wpOp_plain (o := op6) rfl rfl (step6 ha0 hz H)
    · exact wpOp_plain (o := op7) rfl rfl (step7 ha0 hz H)

end Go.Proofs.Ytbkgbnjiibhmhaa
