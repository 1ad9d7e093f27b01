/-
  THE PAIRS WHOSE RECORDS BYTES ARE. Conditions: how many bytes there are; what the listed variables hold.
-/
import Derived.Test.YtkocnbdakfhpaaaGreatDoorFgo
namespace Go.Proofs.YtkocnbdakfhpaaaGreatDoor
open Go.ChangeShapes Go.WideShapes Go.ChangeAt Go.RowKit Go.Lib
set_option linter.unusedVariables false
set_option maxRecDepth 20000

/-- the pairs, or that they are none: so many records at most -/
def prsF : Nat → List Int → List (ByteArray × ByteArray) → Option (List (ByteArray × ByteArray))
  | 0, _, _ => none
  | f + 1, l, acc => if l = [] then some acc else match frst l with
    | none => none
    | some (K, V, u) => prsF f (l.drop u) (acc ++ [(strOfNums K, strOfNums V)])
def prs (l : List Int) : Option (List (ByteArray × ByteArray)) := prsF (l.length + 1) l []

theorem prsF_fuel : ∀ (f g : Nat) (l : List Int) (acc : List (ByteArray × ByteArray)), l.length < f → l.length < g → prsF f l acc = prsF g l acc := by
  intro f
  induction f with
  | zero => intro g l acc h _; omega
  | succ f ih =>
    intro g l acc h1 h2
    cases g with
    | zero => omega
    | succ g =>
      rw [prsF, prsF]
      split
      · rfl
      · cases hf : frst l with
        | none => rfl
        | some p =>
          obtain ⟨K, V, u⟩ := p
          have := frst_pos hf
          simp only
          exact ih g _ _ (by rw [List.length_drop]; omega) (by rw [List.length_drop]; omega)

theorem prs_step {l : List Int} (hne : l ≠ []) (acc : List (ByteArray × ByteArray)) : prsF (l.length + 1) l acc = match frst l with
    | none => none
    | some (K, V, u) => prsF ((l.drop u).length + 1) (l.drop u) (acc ++ [(strOfNums K, strOfNums V)]) := by
  rw [prsF, if_neg hne]
  cases hf : frst l with
  | none => rfl
  | some p =>
    obtain ⟨K, V, u⟩ := p
    have := frst_pos hf
    simp only
    exact prsF_fuel _ _ _ _ (by rw [List.length_drop]; omega) (by omega)
theorem prs_end (acc : List (ByteArray × ByteArray)) : prsF (([] : List Int).length + 1) [] acc = some acc := by rw [prsF, if_pos rfl]

/-- the cells of pairs -/
def pcs2 (l : List (ByteArray × ByteArray)) : List Value := l.flatMap fun p => [.string p.1, .string p.2]
theorem pcs2_len (l : List (ByteArray × ByteArray)) : (pcs2 l).length = l.length * 2 := by
  unfold pcs2
  induction l with
  | nil => rfl
  | cons p t ih => rw [List.flatMap_cons, List.length_append, ih, List.length_cons]; simp; omega
theorem pcs2_app (l : List (ByteArray × ByteArray)) (k v : ByteArray) : pcs2 (l ++ [(k, v)]) = pcs2 l ++ [.string k, .string v] := by unfold pcs2; simp
theorem pcs2_at : ∀ (l : List (ByteArray × ByteArray)) (i : Nat), i < l.length → (pcs2 l)[i * 2]? = some (.string (l.getD i (⟨#[]⟩, ⟨#[]⟩)).1) ∧ (pcs2 l)[i * 2 + 1]? = some (.string (l.getD i (⟨#[]⟩, ⟨#[]⟩)).2)
  | p :: t, 0, _ => ⟨rfl, rfl⟩
  | p :: t, i + 1, h => by
    have ih := pcs2_at t i (by simpa using h)
    have e : pcs2 (p :: t) = .string p.1 :: .string p.2 :: pcs2 t := rfl
    rw [e, show (i + 1) * 2 = i * 2 + 1 + 1 by omega]
    exact ⟨by simpa using ih.1, by simpa using ih.2⟩

theorem own_pys {w : World} {B n : Nat} {v : Value} {l : List (ByteArray × ByteArray)} (h : w.ownsRow B 23 2 v n (pcs2 l)) (hl : l.length = n) : ∃ a c, v = .slice a n c ∧ Pys w a n c l := by
  rcases h.2 with ⟨rfl, rfl⟩ | ⟨g, cap, cur, rfl, hb, hg, hnc, hcm, hcs, htake⟩
  · have : l = [] := by simpa using hl
    subst this
    exact ⟨none, 0, rfl, rfl, by omega, by omega, .inl ⟨rfl, rfl⟩⟩
  · refine ⟨_, cap, rfl, hl, hnc, by unfold maxLen at hcm; omega, ?_⟩
    rcases Nat.eq_zero_or_pos n with e | e
    · exact .inl ⟨by subst e; simpa using hl, e⟩
    · refine .inr ⟨e, g, 0, rfl, fun i hi => ?_⟩
      obtain ⟨p1, p2⟩ := pcs2_at l i hi
      have l2 := pcs2_len l
      have key : ∀ j, j < n * 2 → w.cell? ⟨g, j, none⟩ = (pcs2 l)[j]? := by
        intro j hj
        have hc : w.cell? ⟨g, j, none⟩ = cur[j]? := by simp [World.cell?, hg]
        rw [hc, ← htake, List.getElem?_take_of_lt hj, Array.getElem?_toList]
      rw [Nat.zero_add]
      exact ⟨(key _ (by omega)).trans p1, (key _ (by omega)).trans p2⟩

def prsC (o : Option (List (ByteArray × ByteArray))) : Int := match o with | some _ => 0 | none => 6
def prsP (o : Option (List (ByteArray × ByteArray))) : List (ByteArray × ByteArray) := match o with | some p => p | none => []

theorem infoPair : (Tryz.prog.info? 23).map (fun i => (i.zero, i.size, i.bytes)) = some (some (.agg #[.string ⟨#[]⟩, .string ⟨#[]⟩]), 2, 32) := by kernel_rfl
theorem pair_new (w : World) (k v : ByteArray) : ∀ j u, ([.string k, .string v] : List Value)[j]? = some u → (w.alloc (.cells #[.string k, .string v] 23)).cell? ((⟨w.heap.size, 0, none⟩ : Addr).add j) = some u := by
  obtain ⟨h1, h2⟩ := new_two w (.string k) (.string v) 23
  intro j u hj
  match j, hj with
  | 0, hj => cases hj; exact h1
  | 1, hj => cases hj; simp [Addr.add]

theorem pair_new2 (w : World) (k v : ByteArray) : ∀ j u, ([.string k, .string v] : List Value)[j]? = some u → ((w.alloc (.cells #[.string k, .string v] 23)).alloc (.cells #[.string k, .string v] 23)).cell? ((⟨w.heap.size + 1, 0, none⟩ : Addr).add j) = some u := by
  have h := pair_new (w.alloc (.cells #[.string k, .string v] 23)) k v
  rw [show (w.alloc (.cells #[.string k, .string v] 23)).heap.size = w.heap.size + 1 by simp] at h
  exact h

set_option maxHeartbeats 4000000 in
theorem parse_w {w : World} {a : Option Addr} {n c : Nat} {l : List Int} (h : Bys w a n c l) (hn : n ≤ 1000000) (hL : Laid w) :
    Calls Tryz.prog 30 #[.slice a n c] w fun e w' => ∃ a' m c', e = .returned (.tuple #[.slice a' m c', .int .u8 (prsC (prs l))]) ∧ Pys w' a' m c' (prsP (prs l)) ∧ Below w.heap.size w w' := by
  obtain ⟨i0, hi, hz0, hz1, hz2⟩ := info_parts infoPair
  obtain ⟨q, hq⟩ : ∃ q, q = prs l := ⟨_, rfl⟩
  rw [← hq]
  have hq' := hid hq
  have hl := hid h.1
  have hown0 := World.ownsRow_nil w w.heap.size 23 2
  clear hq
  go_enter Tryz.func30, Tryz.ntmps30
  go_wp2
  go_loopw [0, 4] (fun x y wr => ∃ (a1 : Option Addr) (m1 c1 : Nat) (r : List Int) (v : Value) (acc : List (ByteArray × ByteArray)), x = .slice a1 m1 c1 ∧ y = v ∧ Bys w a1 m1 c1 r ∧ acc.length + m1 ≤ n ∧ wr.ownsRow w.heap.size 23 2 v acc.length (pcs2 acc) ∧ Below w.heap.size w wr ∧ Hid (q = prsF (r.length + 1) r acc)) (fun x _ _ => sliceLen x)
  case atStart => exact ⟨a, n, c, l, _, [], rfl, rfl, h, by simp, hown0, Below.refl _ _, hid hq'.out⟩
  case round =>
    obtain ⟨a1, m1, c1, r, v, acc, rfl, rfl, hby, hlen, hown, hb, hr⟩ := hrel
    have hBsz := hb.size
    by_cases hm : m1 = 0
    · subst hm
      have hr0 : r = [] := by simpa using hby.1
      have E := hid (by rw [hr.out, hr0, prs_end] : q = some acc)
      obtain ⟨aa, cc, rfl, hpy⟩ := own_pys hown rfl
      clear hr hown
      go_wp2
      go_ret2
      exact ⟨aa, _, cc, ret_vc (by rw [E.out]; rfl), by rw [E.out]; exact hpy, hb⟩
    · have hmI : (0 : Int) < (m1 : Int) := by omega
      have hrl := hby.1
      have hne : r ≠ [] := by intro e; rw [e] at hrl; simp at hrl; omega
      have hst := hid (prs_step hne acc)
      by_cases hF : ∃ u, nat63 (bytesOf (ahI 32 r)) = some u ∧ u ≤ r.length
      · obtain ⟨u, hN, hu⟩ := hF
        have hgo := first_go (hby.below hb) (by omega) (by omega) (hL.below hb) u hN hu
        have hfr : frst r = if endI 10 (beI 32 (r.take u)) && (inI 61 (trI 10 (beI 32 (r.take u))) && rightP (bytesOf (ahI 61 (trI 10 (beI 32 (r.take u))))) (bytesOf (beI 61 (trI 10 (beI 32 (r.take u)))))) then some (ahI 61 (trI 10 (beI 32 (r.take u))), beI 61 (trI 10 (beI 32 (r.take u))), u) else none := by
          unfold frst; rw [hN]; simp only; rw [if_pos hu]
        generalize (endI 10 (beI 32 (r.take u)) && (inI 61 (trI 10 (beI 32 (r.take u))) && rightP (bytesOf (ahI 61 (trI 10 (beI 32 (r.take u))))) (bytesOf (beI 61 (trI 10 (beI 32 (r.take u))))))) = B at *
        cases B
        · have E := hid (by rw [hr.out, hst.out, hfr]; rfl : q = none)
          clear hr hst hfr hN hne
          go_wp2_with (go_at_call 47; refine hgo.mono ?_; rintro e w1 ⟨k, v, a2, rfl, -, -, -, hb1⟩)
          all_goals go_ret2
          all_goals exact ⟨none, 0, 0, ret_vc (by rw [E.out]; rfl), by rw [E.out]; exact ⟨rfl, Nat.le_refl _, by omega, .inl ⟨rfl, rfl⟩⟩, by have hx := hb.trans (hb1.mono hb.size); exact hx.alloc hx.size _⟩
        · have hpos := frst_pos (by rw [hfr]; rfl : frst r = some (_, _, u))
          have E := hid (by rw [hr.out, hst.out, hfr]; rfl : q = prsF ((r.drop u).length + 1) (r.drop u) (acc ++ [(strOfNums (ahI 61 (trI 10 (beI 32 (r.take u)))), strOfNums (beI 61 (trI 10 (beI 32 (r.take u)))))]))
          clear hr hst hfr hN hne
          generalize strOfNums (ahI 61 (trI 10 (beI 32 (r.take u)))) = K at *
          generalize strOfNums (beI 61 (trI 10 (beI 32 (r.take u)))) = V at *
          go_wp2_with (first
            | (go_at_call 47; refine hgo.mono ?_; rintro e w1 ⟨k, v, a2, rfl, rfl, rfl, hby2, hb1⟩; have hx := hb.trans (hb1.mono hb.size); have hfr1 := (Below.refl w1.heap.size w1).alloc (Nat.le_refl _) (.cells #[.string k, .string v] 23); have hx2 := hx.trans (hfr1.mono hx.size); have how := own_below hfr1 (own_below hb1 hown); have hbyn := hby2 w hby)
            | (at_builtin; refine wpList_append_own (P := Tryz.prog) _ rfl (.tmp 19) (.tmp 21) 26 rfl w.heap.size 23 i0 (.agg #[.string ⟨#[]⟩, .string ⟨#[]⟩]) 2 32 Tryz.underlying26 hi hz0 hz1 hz2 rfl (by decide) _ _ _ rfl (how.alloc _) ⟨w1.heap.size + 1, 0, none⟩ 1 1 [.string k, .string v] rfl rfl (pair_new2 w1 k v) (by intro z hz; simp at hz; rcases hz with rfl | rfl <;> rfl) (by unfold maxLen; omega) (by omega) (by have := hx2.size; simp at this ⊢; omega) ?_; intro v' w3 hown' hgrow' _))
          go_roundw
          case rel =>
            refine ⟨a2, m1 - u, c1 - u, r.drop u, _, acc ++ [(k, v)], rfl, rfl, hbyn, by simp; omega, ?_, ?_, E⟩
            · rw [pcs2_app, List.length_append]; exact hown'
            · exact (hx2.alloc hx2.size _).grown hgrow' (by have := hx2.size; simp at this ⊢; omega) (fun g hg => (how.lt g hg).1)
          case measure => simp [sliceLen]; omega
      · have hgo := first_num (hby.below hb) (by omega) (by omega) (hL.below hb) hF
        have hfr : frst r = none := by
          unfold frst
          cases hN : nat63 (bytesOf (ahI 32 r)) with
          | none => rfl
          | some u => simp only; rw [if_neg (fun hu => hF ⟨u, hN, hu⟩)]
        have E := hid (by rw [hr.out, hst.out, hfr] : q = none)
        clear hr hst hfr hF hne
        go_wp2_with (go_at_call 47; refine hgo.mono ?_; rintro e w1 ⟨rfl, hb1⟩)
        all_goals go_ret2
        all_goals exact ⟨none, 0, 0, ret_vc (by rw [E.out]; rfl), by rw [E.out]; exact ⟨rfl, Nat.le_refl _, by omega, .inl ⟨rfl, rfl⟩⟩, by have hx := hb.trans (hb1.mono hb.size); exact hx.alloc hx.size _⟩

end Go.Proofs.YtkocnbdakfhpaaaGreatDoor
