/-
  SINKS: what one is in memory, New, fitting, Take, Bytes. Conditions: how many bytes there are.
-/
import Derived.Test.YtlpkhaegfghdkaaKc
import Derived.Deep.RegionLaw
namespace Go.Proofs.Ytlpkhaegfghdkaa
open Go.ChangeShapes Go.WideShapes Go.ChangeAt Go.RowKit Go.Lib
set_option linter.unusedVariables false
set_option linter.unusedSimpArgs false
set_option maxRecDepth 20000

/-- an append whose run is known, as one step of a region that draws its order -/
theorem step_append_run {P : Program} {ops : Array Oper} {o : Oper} {a : Act} {w : World} {K : Act → World → Prop} {Q : Exit → Act → World → Prop} {E : Prop}
    (hg : o.guard = none) (s x : Operand) (sT xT : TypeId) (hop : o.op = Op.call { callee := Callee.builtin Builtin.append, args := #[s, x], argTypes := #[sT, xT] })
    (v u : Value) (hs : a.eval s = v) (hx : a.eval x = u) {v' : Value} {w' : World} (hr : (Builtin.append_ #[sT, xT] o.type #[v, u]).run P w = .ok v' w') (hK : K (a.put o.dst v') w') :
    if Region.wanted o (yielded ops a.tmps) = true then Oper.wp P o a w K Q else E := by
  have hw : Region.wanted o (yielded ops a.tmps) = true := by simp [Region.wanted, hg]
  rw [if_pos hw]
  unfold Oper.wp
  simp [execOp, hop, resolve, invoke, builtin, hs, hx, hr, Result.andThen]
  exact hK

theorem Rng.upto {w : World} {a : Option Addr} {n c k : Nat} {xs : List Value} {R : Nat → Prop} (h : Rng w (.slice a n c) xs R) (hk : k ≤ xs.length) : Rng w (.slice a k c) (xs.take k) R := by
  obtain ⟨a', c', e, h1, h2, h4, h3⟩ := h
  simp only [Value.slice.injEq] at e
  obtain ⟨rfl, rfl, rfl⟩ := e
  refine ⟨_, c, by rw [List.length_take, Nat.min_eq_left hk], by rw [List.length_take]; omega, h2, fun u hu => h4 u (List.mem_of_mem_take hu), ?_⟩
  rcases h3 with rfl | ⟨g', off', rfl, hR, hc⟩
  · left; simp
  · exact .inr ⟨g', off', rfl, hR, range_take hc k⟩

/-- how many of n bytes there is room for, behind t -/
def fitN (room : Int) (t n : Nat) : Nat := if room < 0 then n else min n (room.toNat - t)
theorem fitN_le (room : Int) (t n : Nat) : fitN room t n ≤ n := by unfold fitN; split <;> omega

/-- the sink in block s -/
def Sk (w : World) (s : Nat) (room : Int) (T : List Int) (R : Nat → Prop) : Prop :=
  ∃ tv, R s ∧ Blk w s #[.int .i64 room, tv] 45 ∧ Kp w tv (u8s T) (fun k => R k ∧ k ≠ s)

theorem Sk.nr {S R : Nat → Prop} {w w' : World} {s : Nat} {room : Int} {T : List Int} (h : Sk w s room T R) (hn : Nr S w w') (hd : ∀ k, R k → ¬ S k) : Sk w' s room T R := by
  obtain ⟨tv, h1, h2, h3⟩ := h
  exact ⟨tv, h1, h2.nr hn (hd s h1), h3.nr hn (fun k hk => hd k hk.1)⟩
theorem Sk.below {R : Nat → Prop} {w w' : World} {s : Nat} {room : Int} {T : List Int} (h : Sk w s room T R) (hb : Below w.heap.size w w') : Sk w' s room T R := h.nr (S := No) (Nr.of_below hb) (fun _ _ h => h)
theorem Sk.mono {R R' : Nat → Prop} {w : World} {s : Nat} {room : Int} {T : List Int} (h : Sk w s room T R) (hd : ∀ k, k < w.heap.size → R k → R' k) : Sk w s room T R' := by
  obtain ⟨tv, h1, h2, h3⟩ := h
  exact ⟨tv, hd s h2.lt h1, h2, h3.mono (fun k hk h => ⟨hd k hk h.1, h.2⟩)⟩

theorem snew_ok (w : World) (room : Int) : Calls Try.prog 8 #[.int .i64 room] w fun e w' => (∃ s, e = .returned (.pointer (some ⟨s, 0, none⟩)) ∧ w.heap.size ≤ s ∧ Sk w' s room [] (fun k => w.heap.size ≤ k)) ∧ Below w.heap.size w w' := by
  go_enter Try.func8, Try.ntmps8
  go_wp2
  go_ret
  exact ⟨⟨_, rfl, Nat.le_refl _, _, Nat.le_refl _, Blk.new _ _ _, Kp.nil _ _⟩, (Below.refl _ _).alloc (Nat.le_refl _) _⟩

theorem fitting_ok {w : World} {s : Nat} {room : Int} {T : List Int} {R : Nat → Prop} (h : Sk w s room T R) (n : Nat) (hn : n ≤ 1000000000) (hT : T.length ≤ 1000000000) (hr : room < 0 ∨ (T.length : Int) ≤ room) (hr2 : room ≤ 9223372036854775807) :
    Calls Try.prog 18 #[.pointer (some ⟨s, 0, none⟩), .int .i64 n] w fun e w' => e = .returned (.int .i64 (fitN room T.length n : Nat)) ∧ Below w.heap.size w w' := by
  obtain ⟨tv, h1, h2, h3⟩ := h
  obtain ⟨a, c, rfl, hc, hcm⟩ := h3.rng.shape
  rw [u8s_len'] at h2 hc
  have c0 : w.cell? ⟨s, 0, none⟩ = some (.int .i64 room) := by have := h2.cell 0; simpa using this
  have c1 : w.cell? ⟨s, 1, none⟩ = some (.slice a T.length c) := by have := h2.cell 1; simpa using this
  clear h2 h3
  generalize T.length = t at *
  by_cases hneg : room < 0
  · have e : fitN room t n = n := by unfold fitN; rw [if_pos hneg]
    rw [e]
    replace e := hid e
    clear hr hr2
    go_enter Try.func18, Try.ntmps18
    go_wp2
    go_ret
    exact ⟨rfl, Below.refl _ _⟩
  · have hr' : (t : Int) ≤ room := by omega
    obtain ⟨K, hK⟩ : ∃ K, K = fitN room t n := ⟨_, rfl⟩
    have e : (K : Int) = min (n : Int) (room - t) := by rw [hK]; unfold fitN; rw [if_neg hneg]; omega
    rw [← hK]
    have hmin : ∀ ts ty w, (Builtin.min_ ts ty #[.int .i64 (n : Int), .int .i64 (room - t)]).run Try.prog w = .ok (.int .i64 (K : Int)) w := fun ts ty w => by
      have h1 : (Builtin.min_ ts ty #[.int .i64 (n : Int), .int .i64 (room - t)]).run Try.prog w = .ok (.int .i64 (if room - t < (n : Int) then room - t else (n : Int))) w := by simp [Builtin.min_, Builtin.min2]
      rw [h1]
      have : (if room - t < (n : Int) then room - t else (n : Int)) = K := by split <;> omega
      rw [this]
    have hsub : IntKind.i64.wrap (room - t) = room - t := by rw [IntKind.wrap_i64]; omega
    replace hK := hid hK
    replace e := hid e
    clear hr hr'
    go_enter Try.func18, Try.ntmps18
    go_wp2
    go_region
    all_goals go_wp2
    all_goals go_ret
    exact ⟨rfl, (Below.refl _ _).drew⟩

end Go.Proofs.Ytlpkhaegfghdkaa
