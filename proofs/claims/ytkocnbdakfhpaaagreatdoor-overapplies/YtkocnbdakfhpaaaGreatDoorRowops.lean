/-
  copy OF A STRING INTO A ROW OF BYTES THAT THE CALL OWNS, AND clear OF SUCH A ROW FROM SOME PLACE ON. Nothing of the program. No conditions.
-/
import Derived.Test.YtkocnbdakfhpaaaGreatDoorMarked
import Derived.Laws.CopyRow
namespace Go.Proofs.YtkocnbdakfhpaaaGreatDoor
open Go.ChangeShapes Go.WideShapes Go.ChangeAt Go.RowKit
set_option linter.unusedVariables false

theorem run_copy_own {P : Program} (w : World) {dT sT ty e : TypeId} {i : TypeInfo} (hu : P.underlying dT = some (.slice e)) (hi : P.info? e = some i) (hs1 : i.size = 1) {B g n c : Nat} {l : List Int}
    (hown : w.ownsRow B e 1 (.slice (some ⟨g, 0, none⟩) n c) n (u8s l)) (hl : l.length = n) (s : ByteArray) :
    ∃ w', (Builtin.copy_ #[dT, sT] ty #[.slice (some ⟨g, 0, none⟩) n c, .string s]).run P w = .ok (goInt (Nat.min s.size n)) w' ∧
      w'.ownsRow B e 1 (.slice (some ⟨g, 0, none⟩) n c) n (u8s ((nums s).take n ++ l.drop (Nat.min s.size n))) ∧ w.grownBy w' (some g) := by
  obtain ⟨hlen, ⟨h, _⟩ | ⟨g', cap, cur, hv, hB, hg, hnc, hcm, hcs, htake⟩⟩ := hown
  · cases h
  simp only [Value.slice.injEq, Option.some.injEq, Addr.mk.injEq, and_true, true_and] at hv
  obtain ⟨rfl, rfl⟩ := hv
  have hns := nums_length s
  have hvl : (u8s ((nums s).take n)).length = Nat.min s.size n := by
    simp only [u8s, List.length_map, List.length_take, hns]
    exact Nat.min_comm _ _
  have hle : Nat.min s.size n ≤ n := Nat.min_le_right _ _
  have hst := run_storeCells_at P g 0 e (u8s ((nums s).take n)) 0 cur w hg (by rw [hvl]; omega) (u8s_one _)
  rw [hvl] at hst
  simp only [Nat.add_zero, Nat.zero_add, List.take_zero, List.nil_append] at hst
  have htk : List.take (Nat.min s.size n) (List.map (fun b : UInt8 => Value.int IntKind.u8 (b.toNat : Int)) s.data.toList) = u8s ((nums s).take n) := by
    have e1 : List.map (fun b : UInt8 => Value.int IntKind.u8 (b.toNat : Int)) s.data.toList = u8s (nums s) := by simp [u8s, nums]
    rw [e1]
    unfold u8s
    rw [← List.map_take]
    congr 1
    rcases Nat.le_total s.size n with h | h
    · rw [show Nat.min s.size n = s.size from Nat.min_eq_left h, List.take_of_length_le (by omega), List.take_of_length_le (by omega)]
    · rw [show Nat.min s.size n = n from Nat.min_eq_right h]
  refine ⟨w.setRow g (u8s ((nums s).take n) ++ cur.toList.drop (Nat.min s.size n)).toArray, ?_, ⟨?_, .inr ⟨g, c, _, rfl, hB, setRow_heap w g cur _ e _ hg, hnc, hcm, ?_, ?_⟩⟩, ⟨rfl, rfl, rfl, by simp, fun k _ hk => setRow_other w g k _ (fun e => hk (by simp [e]))⟩⟩
  · simp [Builtin.copy_, run_underlying hu, Builtin.lenOf, Builtin.firstCells, sizeOf, typeInfo, hi]
    rw [htk, hst]
    simp [Result.andThen]
  · simp only [u8s, List.length_map, List.length_append, List.length_take, List.length_drop, hns]
    have : min n s.size = Nat.min s.size n := Nat.min_comm _ _
    omega
  · simp only [List.size_toArray, List.length_append, hvl, List.length_drop, Array.length_toList]
    omega
  · rw [List.toList_toArray, List.take_append, hvl, Nat.mul_one, List.take_of_length_le (by rw [hvl]; exact hle), List.take_drop, ← u8s_app]
    congr 1
    rw [show Nat.min s.size n + (n - Nat.min s.size n) = n by omega]
    rw [Nat.mul_one] at htake
    rw [htake]
    simp [u8s, List.map_drop]

theorem wpList_copy_str {P : Program} (w : World) {ops : Array Oper} {rest : List Oper} {o : Oper} {a : Act} {Q : Exit → Act → World → Prop} (hgd : o.guard = none) (d x : Operand) (dT sT : TypeId)
    (ho : o.op = .call { callee := .builtin .copy, args := #[d, x], argTypes := #[dT, sT] }) {e : TypeId} {i : TypeInfo} (hu : P.underlying dT = some (.slice e)) (hi : P.info? e = some i) (hs1 : i.size = 1) {B g n c : Nat} {l : List Int} (s : ByteArray)
    (hd : a.eval d = .slice (some ⟨g, 0, none⟩) n c) (hx : a.eval x = .string s) (hown : w.ownsRow B e 1 (.slice (some ⟨g, 0, none⟩) n c) n (u8s l)) (hl : l.length = n)
    (h : ∀ w', w'.ownsRow B e 1 (.slice (some ⟨g, 0, none⟩) n c) n (u8s ((nums s).take n ++ l.drop (Nat.min s.size n))) → w.grownBy w' (some g) → wpList P ops Q rest (a.put o.dst (goInt (Nat.min s.size n))) w') : wpList P ops Q (o :: rest) a w := by
  refine wpList_plain hgd fun K hK => ?_
  obtain ⟨w', hr, h2, h3⟩ := run_copy_own (P := P) w (sT := sT) (ty := o.type) hu hi hs1 hown hl s
  unfold Oper.wp execOp
  simp only [ho, resolve, invoke, builtin, Sem.run_bind, Sem.run_pure, Result.andThen_ok, List.map_toArray, List.map_cons, List.map_nil, hd, hx, hr]
  exact hK _ _ (h w' h2 h3)

theorem run_clear_own {P : Program} (w : World) {t ty e : TypeId} (hu : P.underlying t = some (.slice e)) (hv : ∀ w, (zeroValue e).run P w = .ok (.int .u8 0) w) {B g n c : Nat} {l : List Int}
    (hown : w.ownsRow B e 1 (.slice (some ⟨g, 0, none⟩) n c) n (u8s l)) (hl : l.length = n) (k m c' : Nat) (hk : k + m = n) (ad : Option Addr) (had : 0 < m → ad = some ⟨g, k, none⟩) :
    ∃ w', (Builtin.clear_ #[t] ty #[.slice ad m c']).run P w = .ok (.tuple #[]) w' ∧
      w'.ownsRow B e 1 (.slice (some ⟨g, 0, none⟩) n c) n (u8s (l.take k ++ List.replicate m 0)) ∧ w.grownBy w' (some g) := by
  rcases Nat.eq_zero_or_pos m with rfl | hm
  · refine ⟨w, ?_, ?_, ⟨rfl, rfl, rfl, Nat.le_refl _, fun _ _ _ => rfl⟩⟩
    · cases ad <;> simp [Builtin.clear_, run_underlying hu]
    · rw [List.take_of_length_le (by omega)]; simpa using hown
  obtain rfl := had hm
  obtain ⟨hlen, ⟨h, _⟩ | ⟨g', cap, cur, hvv, hB, hg, hnc, hcm, hcs, htake⟩⟩ := hown
  · cases h
  simp only [Value.slice.injEq, Option.some.injEq, Addr.mk.injEq, and_true, true_and] at hvv
  obtain ⟨rfl, rfl⟩ := hvv
  have hst := run_storeCells_at P g k e (List.replicate m (.int .u8 0)) 0 cur w hg (by simp; omega) (by intro v hv'; rw [List.eq_of_mem_replicate hv']; rfl)
  simp only [Nat.add_zero, List.length_replicate] at hst
  have hzc : (Builtin.zeroCells #[Value.int .u8 0] m).toList = List.replicate m (.int .u8 0) := by
    simp [Builtin.zeroCells]
    apply List.ext_getElem
    · simp
    · intro i h1 h2
      simp [Nat.mod_one]
  have hcl : (Value.int IntKind.u8 0).cells = #[.int .u8 0] := rfl
  refine ⟨w.setRow g (cur.toList.take k ++ List.replicate m (Value.int .u8 0) ++ cur.toList.drop (k + m)).toArray, ?_, ⟨?_, .inr ⟨g, c, _, rfl, hB, setRow_heap w g cur _ e _ hg, hnc, hcm, ?_, ?_⟩⟩, ⟨rfl, rfl, rfl, by simp, fun k _ hk => setRow_other w g k _ (fun e => hk (by simp [e]))⟩⟩
  · obtain ⟨m', rfl⟩ : ∃ m', m = m' + 1 := ⟨m - 1, by omega⟩
    simp [Builtin.clear_, run_underlying hu, hv, hzc, hst, hcl]
  · simp [u8s]; omega
  · simp; omega
  · rw [Nat.mul_one] at htake ⊢
    have h1 : cur.toList.take k = u8s (l.take k) := by
      have := congrArg (List.take k) htake
      rw [List.take_take, Nat.min_eq_left (by omega)] at this
      rw [this]; simp [u8s, List.map_take]
    have h2 : (u8s (l.take k) ++ List.replicate m (Value.int .u8 0)).length = n := by simp [u8s]; omega
    rw [List.toList_toArray, h1, List.take_append, h2, Nat.sub_self, List.take_zero, List.append_nil, List.take_of_length_le (Nat.le_of_eq h2)]
    simp [u8s]

theorem wpList_clear_own {P : Program} (w : World) {ops : Array Oper} {rest : List Oper} {o : Oper} {a : Act} {Q : Exit → Act → World → Prop} (hgd : o.guard = none) (x : Operand) (t : TypeId)
    (ho : o.op = .call { callee := .builtin .clear, args := #[x], argTypes := #[t] }) {e : TypeId} (hu : P.underlying t = some (.slice e)) (hv : ∀ w, (zeroValue e).run P w = .ok (.int .u8 0) w) {B g n c : Nat} {l : List Int}
    (hown : w.ownsRow B e 1 (.slice (some ⟨g, 0, none⟩) n c) n (u8s l)) (hl : l.length = n) (k m c' : Nat) (hk : k + m = n) (ad : Option Addr) (had : 0 < m → ad = some ⟨g, k, none⟩) (hx : a.eval x = .slice ad m c')
    (h : ∀ w', w'.ownsRow B e 1 (.slice (some ⟨g, 0, none⟩) n c) n (u8s (l.take k ++ List.replicate m 0)) → w.grownBy w' (some g) → wpList P ops Q rest (a.put o.dst (.tuple #[])) w') : wpList P ops Q (o :: rest) a w := by
  refine wpList_plain hgd fun K hK => ?_
  obtain ⟨w', hr, h2, h3⟩ := run_clear_own (P := P) w (ty := o.type) hu hv hown hl k m c' hk ad had
  unfold Oper.wp execOp
  simp only [ho, resolve, invoke, builtin, Sem.run_bind, Sem.run_pure, Result.andThen_ok, List.map_toArray, List.map_cons, List.map_nil, hx, hr]
  exact hK _ _ (h w' h2 h3)

end Go.Proofs.YtkocnbdakfhpaaaGreatDoor
