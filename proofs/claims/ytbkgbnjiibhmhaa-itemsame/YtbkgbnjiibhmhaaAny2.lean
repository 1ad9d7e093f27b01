/-
  A REGION THAT DRAWS ITS ORDER, BY WHAT EVERY OPERATION THAT MAY COME NEXT KEEPS. Nothing of the program. No condition.
-/
import Derived.Test.YtbkgbnjiibhmhaaCpc
import Derived.Orders
import Derived.Conc.MuLone
namespace Go.Proofs.Ytbkgbnjiibhmhaa
open Go.ChangeShapes Go.WideShapes Go.ChangeAt Go.RowKit Go.Lib
set_option linter.unusedVariables false
set_option linter.unusedSimpArgs false
set_option maxRecDepth 20000

theorem ready_mem {md : Region.Mode} {ops : Array Oper} {L : Array Bool} {i : Nat} (h : i ∈ Region.ready md ops L) : i < ops.size ∧ L.getD i true = false ∧ ((ops[i]?).map (·.after.all fun e => !Region.binds md e || L.getD e.on false)).getD false = true := by
  unfold Region.ready at h
  rw [List.mem_filter, List.mem_range] at h
  obtain ⟨h1, h2⟩ := h
  simp only [Bool.and_eq_true, Bool.not_eq_true'] at h2
  exact ⟨h1, h2.1, h2.2⟩

theorem ready_none {md : Region.Mode} {ops : Array Oper} {L : Array Bool} (h : ∀ b ∈ L.toList, b = true) : Region.ready md ops L = [] := by
  unfold Region.ready
  rw [List.filter_eq_nil_iff]
  intro i _
  have : L.getD i true = true := by
    unfold Array.getD
    split
    · exact h _ (Array.mem_toList_iff.2 (Array.getElem_mem _))
    · rfl
  rw [this]
  simp

/-- what every operation that may come next keeps holds at the end -/
theorem wpAny_inv {P : Program} {md : Region.Mode} {ops : Array Oper} {Q : Exit → Act → World → Prop} (I : Array Bool → Act → World → Prop)
    (hd : ∀ L a w, I L a w → Region.ready md ops L = [] → Q .normal a w)
    (hs : ∀ L a w, I L a w → ∀ i ∈ Region.ready md ops L, wpOp P ops Q i (I (L.setIfInBounds i true)) a w) :
    ∀ (fuel : Nat) (L : Array Bool) (a : Act) (w : World), L.size = ops.size → L.toList.count false ≤ fuel → I L a w → wpAny P md ops Q fuel L a w
  | 0, L, a, w, hz, hc, hI => by
    have hr : Region.ready md ops L = [] := ready_none fun b hb => by
      cases b
      · have := List.count_pos_iff.2 hb
        omega
      · rfl
    exact ⟨hr, hd L a w hI hr⟩
  | fuel + 1, L, a, w, hz, hc, hI => by
    refine ⟨fun hr => hd L a w hI hr, fun i hi => ?_⟩
    obtain ⟨h1, h2, _⟩ := ready_mem hi
    have hiL : i < L.size := by rw [hz]; exact h1
    have hf : L[i] = false := by simpa [Array.getD, hiL] using h2
    refine wpOp_mono (fun a' w' h' => ?_) (hs L a w hI i hi)
    refine wpAny_inv I hd hs fuel _ a' w' (by simpa using hz) ?_ h'
    have hlen : i < L.toList.length := by simpa using hiL
    rw [Array.toList_setIfInBounds, List.count_set hlen]
    have e : L.toList[i] = false := by simpa using hf
    rw [e]
    have := List.count_pos_iff.2 (e ▸ List.getElem_mem hlen : false ∈ L.toList)
    rw [if_pos (by rfl), if_neg (by simp)]
    omega

/-- the region, by what every operation that may come next keeps -/
theorem wp_region_inv {P : Program} {id : Nat} {ops : Array Oper} {Q : Exit → Act → World → Prop} {a : Act} {w : World} (hm : P.follows .mixedOrders = true) (I : Array Bool → Act → World → Prop)
    (h0 : I (Array.replicate ops.size false) a w.drew)
    (hd : ∀ L a w, I L a w → Region.ready .any ops L = [] → Q .normal a w)
    (hs : ∀ L a w, I L a w → ∀ i ∈ Region.ready .any ops L, wpOp P ops Q i (I (L.setIfInBounds i true)) a w) : (Code.region id ops true).wp P Q a w :=
  wp_region_any hm (wpAny_inv I hd hs _ _ _ _ (by simp) (by simp [List.count_replicate]) h0)

/-- an operation without a guard -/
theorem wpOp_plain {P : Program} {ops : Array Oper} {Q : Exit → Act → World → Prop} {i : Nat} {o : Oper} {K : Act → World → Prop} {a : Act} {w : World} (ho : ops[i]? = some o) (hg : o.guard = none) (h : o.wp P a w K Q) : wpOp P ops Q i K a w := by
  unfold wpOp
  rw [ho]
  simp only
  have hw : Region.wanted o (yielded ops a.tmps) = true := by simp [Region.wanted, hg]
  rw [if_pos hw]
  exact .inl h

/-- a call of a function that is the program's own -/
theorem wp_call_fn {P : Program} {Q : Exit → Act → World → Prop} {o : Oper} {K : Act → World → Prop} {a : Act} {w : World} (f : FuncId) (x : Operand) (t : TypeId) (v : Value) (ho : o.op = .call { callee := .value (.func f), args := #[x], argTypes := #[t] }) (hx : a.eval x = v)
    (hf : (callFunc f #[v]).run P w = .ok (.enter f #[v]) w) (h : Calls P f #[v] w fun e w' => ∃ r, e = .returned r ∧ K (a.put o.dst r) w') : o.wp P a w K Q := by
  unfold Oper.wp execOp
  simp only [ho]
  have e1 : a.eval (Operand.func f) = .func (.func f) #[] #[] := rfl
  simp [resolve, invoke, hx, e1, Deferred.ofValue, hf, Oper.upon]
  refine h.mono ?_
  rintro e w' ⟨r, rfl, hk⟩
  exact hk

theorem enter_copy (v : Value) (w : World) : (callFunc 11 #[v]).run Try.prog w = .ok (.enter 11 #[v]) w := by
  exact Go.MuLone.run_callFunc_enter Try.func11 (by kernel_rfl) rfl _ _

/-- an alloc -/
theorem wp_alloc_zero {P : Program} {Q : Exit → Act → World → Prop} {o : Oper} {K : Act → World → Prop} {a : Act} {w : World} (t : TypeId) (ho : o.op = .alloc t) (z : Array Value)
    (hz : (Instr.alloc t true (.tuple #[])).run P w = .ok (.pointer (some ⟨w.heap.size, 0, none⟩)) (w.alloc (.cells z t))) (h : K (a.put o.dst (.pointer (some ⟨w.heap.size, 0, none⟩))) (w.alloc (.cells z t))) : o.wp P a w K Q := by
  unfold Oper.wp execOp
  simp only [ho]
  simp [hz, Oper.upon]
  exact h

theorem alloc_item (w : World) : (Instr.alloc 29 true (.tuple #[])).run Try.prog w = .ok (.pointer (some ⟨w.heap.size, 0, none⟩)) (w.alloc (.cells zI 29)) := by
  unfold zI
  first
    | (go_simp; done)
    | (simp [Instr.alloc, go_sem]; done)

end Go.Proofs.Ytbkgbnjiibhmhaa
