/-
  copy OF BYTES INTO A ROW OF BYTES THAT THE CALL OWNS, FROM ANY PLACE OF IT ON; A ROW AS A COPY OF BYTES ('append' onto an empty literal). Nothing of the program. No conditions but the length (at most 2^47 bytes).
-/
import Derived.Test.YtgjbopbpekocpaaRowops
import Derived.Maps.AppendAt
namespace Go.Proofs.Ytgjbopbpekocpaa
open Go.ChangeShapes Go.WideShapes Go.ChangeAt Go.RowKit
set_option linter.unusedVariables false

theorem set_mid (A B : List Int) (x v : Int) (k : Nat) (hk : A.length = k) : (A ++ x :: B).set k v = A ++ v :: B := by
  subst hk
  rw [List.set_append, if_neg (by omega), Nat.sub_self, List.set_cons_zero]

theorem run_copy_at {P : Program} (w : World) {dT sT ty e : TypeId} (hu : P.underlying dT = some (.slice e)) (hs : (P.info? e).map (·.size) = some 1) {B g n c o dLen dCap : Nat} {l : List Int}
    (hown : w.ownsRow B e 1 (.slice (some ⟨g, 0, none⟩) n c) n (u8s l)) (hl : l.length = n) {a : Addr} {m k : Nat} {s : List Int} (hb : Bys w (some a) m k s) (q : Nat) (hq : q = Nat.min m dLen) (hfit : o + q ≤ n) :
    ∃ w', (Builtin.copy_ #[dT, sT] ty #[.slice (some ⟨g, o, none⟩) dLen dCap, .slice (some a) m k]).run P w = .ok (goInt q) w' ∧
      w'.ownsRow B e 1 (.slice (some ⟨g, 0, none⟩) n c) n (u8s (l.take o ++ s.take q ++ l.drop (o + q))) ∧ w.grownBy w' (some g) := by
  obtain ⟨hlen, ⟨h, _⟩ | ⟨g', cap, cur, hvv, hB, hg, hnc, hcm, hcs, htake⟩⟩ := hown
  · cases h
  simp only [Value.slice.injEq, Option.some.injEq, Addr.mk.injEq, and_true, true_and] at hvv
  obtain ⟨rfl, rfl⟩ := hvv
  have hsl : s.length = m := hb.1
  have hqm : q ≤ m := by rw [hq]; exact Nat.min_le_left _ _
  have hcl : (u8s (s.take q)).length = q := by simp [u8s, hsl]; omega
  have hsrc : ∀ j v, (u8s (s.take q))[j]? = some v → w.cell? (a.add j) = some v := by
    intro j v hj
    refine bys_news hb j v ?_
    unfold u8s at hj ⊢
    rw [List.map_take, List.getElem?_take] at hj
    split at hj
    · exact hj
    · cases hj
  rw [Nat.mul_one] at hcs htake
  have hr := run_copy_row (P := P) w dT sT ty e g o dLen dCap a m k cur e (u8s (s.take q)) hu hs hg (by rw [hcl, hq]) hsrc (by rw [hcl]; omega) (u8s_one _)
  rw [hcl] at hr
  refine ⟨_, hr, ⟨?_, .inr ⟨g, c, _, rfl, hB, setRow_heap w g cur _ e _ hg, hnc, hcm, ?_, ?_⟩⟩, ⟨rfl, rfl, rfl, by simp, fun j _ hj => setRow_other w g j _ (fun e => hj (by simp [e]))⟩⟩
  · simp [u8s, hsl]; omega
  · simp only [List.size_toArray, List.length_append, hcl, List.length_take, List.length_drop, Array.length_toList]; omega
  · have h1 : cur.toList.take o = u8s (l.take o) := by
      have := congrArg (List.take o) htake
      rw [List.take_take, Nat.min_eq_left (by omega)] at this
      rw [this]; simp [u8s, List.map_take]
    have h2 : (u8s (l.take o) ++ u8s (s.take q)).length = o + q := by simp [u8s, hsl]; omega
    rw [Nat.mul_one, List.toList_toArray, h1, List.take_append, h2, List.take_of_length_le (by rw [h2]; omega), List.take_drop, show o + q + (n - (o + q)) = n by omega, htake, u8s_app, ← u8s_app _ (l.drop (o + q))]
    simp [u8s, List.map_drop]

theorem wpList_copy_at {P : Program} (w : World) {ops : Array Oper} {rest : List Oper} {o : Oper} {a : Act} {Q : Exit → Act → World → Prop} (hgd : o.guard = none) (d x : Operand) (dT sT : TypeId)
    (ho : o.op = .call { callee := .builtin .copy, args := #[d, x], argTypes := #[dT, sT] }) {e : TypeId} (hu : P.underlying dT = some (.slice e)) (hs : (P.info? e).map (·.size) = some 1) {B g n c j dLen dCap : Nat} {l : List Int}
    (hd : a.eval d = .slice (some ⟨g, j, none⟩) dLen dCap) {ad : Addr} {m k : Nat} {s : List Int} (hx : a.eval x = .slice (some ad) m k)
    (hown : w.ownsRow B e 1 (.slice (some ⟨g, 0, none⟩) n c) n (u8s l)) (hl : l.length = n) (hb : Bys w (some ad) m k s) (q : Nat) (hq : q = Nat.min m dLen) (hfit : j + q ≤ n)
    (h : ∀ w', w'.ownsRow B e 1 (.slice (some ⟨g, 0, none⟩) n c) n (u8s (l.take j ++ s.take q ++ l.drop (j + q))) → w.grownBy w' (some g) → wpList P ops Q rest (a.put o.dst (goInt q)) w') : wpList P ops Q (o :: rest) a w := by
  refine wpList_plain hgd fun K hK => ?_
  obtain ⟨w', hr, h2, h3⟩ := run_copy_at (P := P) w (sT := sT) (ty := o.type) (dCap := dCap) hu hs hown hl hb q hq hfit
  unfold Oper.wp execOp
  simp only [ho, resolve, invoke, builtin, Sem.run_bind, Sem.run_pure, Result.andThen_ok, List.map_toArray, List.map_cons, List.map_nil, hd, hx, hr]
  exact hK _ _ (h w' h2 h3)

theorem own_cap {w : World} {B n g c m : Nat} {e : TypeId} {xs : List Value} (h : w.ownsRow B e 1 (.slice (some ⟨g, 0, none⟩) m c) n xs) : m = n ∧ n ≤ c ∧ c ≤ 9223372036854775807 := by
  obtain ⟨h1, ⟨h2, _⟩ | ⟨g, cap, cur, hv, hbs, hg, hnc, hcm, hr⟩⟩ := h
  · cases h2
  · simp only [Value.slice.injEq] at hv
    obtain ⟨-, rfl, rfl⟩ := hv
    unfold maxLen at hcm
    exact ⟨rfl, hnc, by omega⟩

end Go.Proofs.Ytgjbopbpekocpaa
