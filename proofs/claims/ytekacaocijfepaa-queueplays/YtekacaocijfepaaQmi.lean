/-
  WHAT A QUEUE's MOVE AND ALL GIVE (things of type int). Conditions: none.
-/
import Derived.Test.YtekacaocijfepaaQpi
import Derived.OwnWalk
namespace Go.Proofs.Ytekacaocijfepaa
open Go.ChangeShapes Go.WideShapes Go.ChangeAt Go.RowKit Go.Conc
set_option linter.unusedVariables false
set_option linter.unusedSimpArgs false
set_option maxRecDepth 100000

/-- the things as values -/
def vsi (l : List Int) : List Value := l.map fun x => .int .i64 x
theorem vsi_len (l : List Int) : (vsi l).length = l.length := by simp [vsi]
theorem vsi_app (a b : List Int) : vsi (a ++ b) = vsi a ++ vsi b := by simp [vsi]
theorem vsi_cons (x : Int) (b : List Int) : vsi (x :: b) = (.int .i64 x) :: vsi b := rfl
theorem vsi_one (l : List Int) : ∀ u ∈ vsi l, u.oneCell' = true := by
  intro u hu; obtain ⟨x, -, rfl⟩ := List.mem_map.1 hu; rfl

theorem move_i_same (n : Int) {w : World} {B C : Nat} {q p : Value} {cap cap' : Nat} {ch : Option Nat} {l l' : List Value} (h : Qu w B q cap ch l) (h' : Qu w C p cap' ch l') :
    Calls Try.prog 20 #[q, p, .int .i64 n] w fun e w' => w' = w ∧ e = .returned (.int .i64 0) := by
  have h1 := channel_i h
  have h2 := channel_i h'
  have heq := fun w => run_eql_chan (w := w) Try.underlying54 ch ch
  simp only [beq_self_eq_true] at heq
  go_enter Try.func20, Try.ntmps20
  go_wp2_with (first | (go_at_call 29; refine h1.mono ?_; clear h1; rintro e w' ⟨hw, rfl⟩; obtain rfl := hw.symm) | (go_at_call 29; refine h2.mono ?_; clear h2; rintro e w' ⟨hw, rfl⟩; obtain rfl := hw.symm))
  go_ret
  exact ⟨rfl, rfl⟩

/-- how many are moved -/
def moveN (n : Int) (a cap b : Nat) : Nat := min (min (max n 0).toNat a) (cap - b)
def Two (c d : Option Nat) (k : Nat) : Prop := c = some k ∨ d = some k

set_option maxHeartbeats 2000000 in
theorem move_i_two (n : Int) {w : World} {B C : Nat} {q p : Value} {cap cap' : Nat} {ch ch' : Option Nat} (a b : List Int) (h : Qu w B q cap ch (vsi a)) (h' : Qu w C p cap' ch' (vsi b)) (hne : ¬ ch = ch') :
    Calls Try.prog 20 #[q, p, .int .i64 n] w fun e w' => e = .returned (.int .i64 (moveN n a.length cap' b.length)) ∧
      Qu w' B q cap ch (vsi (a.drop (moveN n a.length cap' b.length))) ∧ Qu w' C p cap' ch' (vsi (b ++ a.take (moveN n a.length cap' b.length))) ∧ Near (Two ch ch') w w' := by
  have hl1 := h.len
  have hl2 := h'.len
  rw [vsi_len] at hl1 hl2
  have hS1 : ∀ c, ch' = some c → ¬ Of ch c := fun c e e' => hne (by unfold Of at e'; rw [e, e'])
  have hS2 : ∀ c, ch = some c → ¬ Of ch' c := fun c e e' => hne (by unfold Of at e'; rw [e, e'])
  obtain ⟨m, hm⟩ : ∃ m, m = moveN n a.length cap' b.length := ⟨_, rfl⟩
  rw [← hm]
  have hm' : m ≤ a.length ∧ m + b.length ≤ cap' ∧ (0 < m → (m : Int) ≤ n) := by rw [hm]; unfold moveN; omega
  have hmx : m < a.length → m + b.length < cap' → n ≤ (m : Int) := by rw [hm]; unfold moveN; omega
  replace hm := hid hm
  clear hm
  have c1 := channel_i h
  have c2 := channel_i h'
  have heq := fun w => run_eql_chan (w := w) Try.underlying54 ch ch'
  rw [show (ch == ch') = false by simpa using hne] at heq
  go_enter Try.func20, Try.ntmps20
  go_wp2_with (first | (go_at_call 29; refine c1.mono ?_; clear c1; rintro e w' ⟨hw, rfl⟩; obtain rfl := hw.symm) | (go_at_call 29; refine c2.mono ?_; clear c2; rintro e w' ⟨hw, rfl⟩; obtain rfl := hw.symm))
  go_loopw [7] (fun y wr => ∃ k : Nat, y = .int .i64 k ∧ k ≤ m ∧ Qu wr B q cap ch (vsi (a.drop k)) ∧ Qu wr C p cap' ch' (vsi (b ++ a.take k)) ∧ Near (Two ch ch') w wr) (fun y _ => m - (RowKit.intOf y).toNat)
  case atStart => exact ⟨0, by go_num, Nat.zero_le _, by simpa using h, by simpa using h', Near.refl _ _⟩
  case round =>
    obtain ⟨k, rfl, hk, hq, hp, hnear⟩ := hrel
    have hroom := room_i hp
    obtain ⟨rm, hrm⟩ : ∃ rm : Int, rm = (cap' : Int) - (vsi (b ++ a.take k)).length := ⟨_, rfl⟩
    rw [← hrm] at hroom
    have hlen : (vsi (b ++ a.take k)).length = b.length + k := by rw [vsi_len]; simp; omega
    rw [hlen] at hrm
    by_cases hlt : k < m
    · have g1 : (k : Int) < n := by have := hm'.2.2 (by omega); omega
      have g2 : 0 < rm := by omega
      have hka : k < a.length := by omega
      have had : a.drop k = a[k] :: a.drop (k + 1) := List.drop_eq_getElem_cons hka
      have hat : b ++ a.take (k + 1) = (b ++ a.take k) ++ [a[k]] := by rw [List.take_succ_eq_append_getElem hka]; simp
      rw [had, vsi_cons] at hq
      have hlt2 : (vsi (b ++ a.take k)).length < cap' := by rw [hlen]; omega
      have hpu : pushL_i cap' (vsi (b ++ a.take k)) a[k] = vsi (b ++ a.take (k + 1)) := by unfold pushL_i; rw [if_pos hlt2, hat, vsi_app (b ++ a.take k)]; rfl
      have hpop := pop_i_y a[k] hq
      have hpush := fun w (z : Qu w C p cap' ch' (vsi (b ++ a.take k))) => push_i a[k] z
      rw [hpu] at hpush
      generalize a[k] = x at *
      generalize decide ((vsi (b ++ a.take k)).length < cap') = ok at *
      replace hrm := hid hrm
      replace hlen := hid hlen
      replace hpu := hid hpu
      replace had := hid had
      replace hat := hid hat
      clear hm' hmx
      go_wp2_with (first | (go_at_call 19; refine hroom.mono ?_; clear hroom; rintro e w' ⟨hw, rfl⟩; obtain rfl := hw.symm) | (go_at_call 15; refine hpop.mono ?_; clear hpop; rintro e w1 ⟨rfl, hq1, hn1⟩; have hp1 := hp.near hn1 hS1) | (go_at_call 17; refine (hpush _ hp1).mono ?_; clear hpush; rintro e w2 ⟨rfl, hp2, hn2⟩))
      go_roundw
      case rel => exact ⟨k + 1, by go_num, by omega, hq1.near hn2 hS2, hp2, (hnear.trans (hn1.mono (fun c e => .inl e))).trans (hn2.mono (fun c e => .inr e))⟩
      case measure => simp [RowKit.intOf]; omega
    · obtain rfl : k = m := by omega
      by_cases g1 : (k : Int) < n
      · by_cases g2 : 0 < rm
        · have hka : a.drop k = [] := List.drop_eq_nil_of_le (by rcases Nat.lt_or_ge k a.length with h1 | h1; · have := hmx h1 (by omega); omega
                                                                 · exact h1)
          have hq0 := hq
          rw [hka] at hq0
          have hpop := pop_i_e hq0
          replace hrm := hid hrm
          replace hlen := hid hlen
          clear hm' hmx hka
          go_wp2_with (first | (go_at_call 19; refine hroom.mono ?_; clear hroom; rintro e w' ⟨hw, rfl⟩; obtain rfl := hw.symm) | (go_at_call 15; refine hpop.mono ?_; clear hpop; rintro e w1 ⟨rfl, hw⟩; obtain rfl := hw.symm))
          go_ret
          exact ⟨rfl, hq, hp, hnear⟩
        · replace hrm := hid hrm
          replace hlen := hid hlen
          clear hm' hmx
          go_wp2_with (first | (go_at_call 19; refine hroom.mono ?_; clear hroom; rintro e w' ⟨hw, rfl⟩; obtain rfl := hw.symm))
          go_ret
          exact ⟨rfl, hq, hp, hnear⟩
      · replace hrm := hid hrm
        replace hlen := hid hlen
        clear hm' hmx
        go_wp2
        go_ret
        exact ⟨rfl, hq, hp, hnear⟩

theorem tinfo_i : (Try.prog.info? 3).map (fun i => (i.zero, i.size, i.bytes)) = some (some (.int .i64 0), 1, 8) := by kernel_rfl

def lenOf : Value → Nat | .slice _ n _ => n | _ => 0
theorem own_lenOf {w : World} {B n : Nat} {e : TypeId} {v : Value} {xs : List Value} (h : w.ownsRow B e 1 v n xs) : lenOf v = n := by
  rcases h.2 with ⟨rfl, rfl⟩ | ⟨g, cap, cur, rfl, hb, hg, hnc, hcm, hcs, htake⟩
  · have := h.1; simp at this; simp [lenOf, this]
  · rfl
theorem Near.grown {S : Nat → Prop} {a w w' : World} {row : Option Nat} (h : Near S a w) (hg : w.grownBy w' row) (hr : ∀ k, row = some k → a.heap.size ≤ k) : Near S a w' :=
  ⟨hg.os.trans h.os, hg.tape.trans h.tape, hg.output.trans h.output, Nat.le_trans h.size hg.size, fun k o ho hk => by
    have h1 := h.keep k o ho hk
    have h2 := (Array.getElem?_eq_some_iff.mp ho).1
    rw [hg.block k (Array.getElem?_eq_some_iff.mp h1).1 (fun e => by have := hr k e.symm; omega)]
    exact h1⟩
theorem Near.alloc {S : Nat → Prop} {a w : World} (h : Near S a w) (o : Obj) : Near S a (w.alloc o) := h.trans (Near.of_below ((Below.refl _ _).alloc (Nat.le_refl _) _))

set_option maxHeartbeats 2000000 in
theorem all_i_some {w : World} {hd c cap s r : Nat} {gs : List Nat} (l : List Int) (h2 : cap ≤ 4096) (h3 : l.length ≤ cap)
    (h4 : w.cell? ⟨hd, 0, none⟩ = some (.chan (some c))) (h5 : w.heap[c]? = some (.chan cap (gs.map pt).toArray false s r false)) (h6 : Els w gs (vsi l)) (hlen : Calls Try.prog 18 #[.pointer (some ⟨hd, 0, none⟩)] w fun e w' => w' = w ∧ e = .returned (.int .i64 l.length)) :
    Calls Try.prog 21 #[.pointer (some ⟨hd, 0, none⟩)] w fun e w' => (∃ v, e = .returned v ∧ w'.ownsRow w.heap.size 3 1 v l.length (vsi l) ∧ ∃ r', w'.heap[c]? = some (.chan cap #[] false s r' false)) ∧ Near (Of (some c)) w w' := by
  obtain ⟨i0, hi, hz0, hz1, hz2⟩ := info_parts tinfo_i
  obtain ⟨n, hln⟩ : ∃ n, n = l.length := ⟨_, rfl⟩
  rw [← hln] at hlen h3 ⊢
  have hcl := (Array.getElem?_eq_some_iff.mp h5).1
  replace hln := hid hln
  go_enter Try.func21, Try.ntmps21
  go_upto_region 2 with (first | (go_at_call 18; refine hlen.mono ?_; clear hlen; rintro e w' ⟨hw, rfl⟩; obtain rfl := hw.symm) | (refine wpList_make_own _ rfl _ _ 27 rfl w.heap.size 3 i0 (.int .i64 0) 1 Try.underlying27 hi hz0 hz1 _ _ _ n rfl rfl rfl (by rw [hz2]; omega) (by unfold maxLen; omega) (Nat.le_refl _) ?_; intro w1 hown hg1))
  have hnear1 : Near (Of (some c)) w w1 := (Near.refl _ w).grown hg1 (by intro k e; cases e)
  have hc1 : w1.heap[c]? = some (.chan cap (gs.map pt).toArray false s r false) := by rw [hg1.block c hcl (by intro e; cases e)]; exact h5
  have h41 := hnear1.cell h4
  clear h5
  have step : ∀ (wx : World) (gs : List Nat) (r : Nat) (acc R : List Int), Near (Of (some c)) w wx → wx.heap[c]? = some (.chan cap (gs.map pt).toArray false s r false) → Els w gs (vsi R) → l = acc ++ R →
      Calls Try.prog 15 #[.pointer (some ⟨hd, 0, none⟩)] wx fun e w' => (∃ x y, e = .returned (.tuple #[x, y]) ∧ ((∃ z R' gs' r', l = acc ++ z :: R' ∧ x = .int .i64 z ∧ y = .bool true ∧ w'.heap[c]? = some (.chan cap (gs'.map pt).toArray false s r' false) ∧ Els w gs' (vsi R')) ∨
        (l = acc ∧ y = .bool false ∧ ∃ r', w'.heap[c]? = some (.chan cap #[] false s r' false)))) ∧ Near (Of (some c)) w w' ∧ (∀ B v n xs, w.heap.size ≤ B → wx.ownsRow B 3 1 v n xs → w'.ownsRow B 3 1 v n xs) := by
    intro wx gs r acc R hnx hcx hex hlx
    cases R with
    | nil =>
      obtain rfl := hex.nil
      refine (pop_i_none (hnx.cell h4) hcx).mono ?_
      rintro e w' ⟨rfl, rfl⟩
      exact ⟨⟨_, _, rfl, .inr ⟨by simpa using hlx, rfl, r, hcx⟩⟩, hnx, fun B v n xs _ h => h⟩
    | cons z R' =>
      obtain ⟨g, gs', rfl, hg, hex'⟩ := hex.cons
      refine (pop_i_some z (hnx.cell h4) hcx (hnx.cell hg)).mono ?_
      rintro e w' ⟨rfl, rfl⟩
      have hst : Near (Of (some c)) wx (wx.setChan c cap (gs'.map pt).toArray false s (r + 1) false) := Near.setChan (S := Of (some c)) (show some c = some c from rfl) hcx rfl _ _ _ _ _ _
      exact ⟨⟨_, _, rfl, .inl ⟨z, R', gs', r + 1, hlx, rfl, rfl, heap_setChan _ _ _ _ _ _ _ _ (Array.getElem?_eq_some_iff.mp hcx).1, hex'⟩⟩, hnx.trans hst, fun B v n xs _ h => hst.own h⟩
  have hpop := step w1 gs r [] l hnear1 hc1 h6 rfl
  go_upto_region 3 with (first | (go_at_call 15; refine hpop.mono ?_; clear hpop; rintro e w2 ⟨⟨x, y, rfl, hxy⟩, hnear2, hownk⟩))
  have hown2 := hownk _ _ _ _ (Nat.le_refl _) hown
  clear hownk hown hnear1 hc1 h41 hg1
  go_loopw [3, 4, 5] (fun a x y wr => ∃ (v : Value) (acc : List Int), a = v ∧ wr.ownsRow w.heap.size 3 1 v acc.length (vsi acc) ∧ Near (Of (some c)) w wr ∧
      ((∃ z R' gs' r', l = acc ++ z :: R' ∧ x = .int .i64 z ∧ y = .bool true ∧ wr.heap[c]? = some (.chan cap (gs'.map pt).toArray false s r' false) ∧ Els w gs' (vsi R')) ∨
        (l = acc ∧ y = .bool false ∧ ∃ r', wr.heap[c]? = some (.chan cap #[] false s r' false)))) (fun a _ _ _ => n - lenOf a)
  case atStart => exact ⟨_, [], rfl, hown2, hnear2, by simpa using hxy⟩
  case round =>
    obtain ⟨v, acc, rfl, hown, hnr, ⟨z, R', gs', r', hl, rfl, rfl, hc, hex⟩ | ⟨hl, rfl, r', hc⟩⟩ := hrel
    · have hlv := own_lenOf hown
      have hal : acc.length < n := by rw [hln.out, hl]; simp
      have hn4 : n ≤ 4096 := by omega
      have hl' : l = (acc ++ [z]) ++ R' := by rw [hl]; simp
      have hstep := fun wx hn1 h1 => step wx gs' r' (acc ++ [z]) R' hn1 h1 hex hl'
      have hcl := (Array.getElem?_eq_some_iff.mp hc).1
      have hwr := hnr.size
      replace hl := hid hl
      replace hl' := hid hl'
      replace hlv := hid hlv
      clear step hxy hown2 hnear2
      go_wp2_with (first | (at_builtin; refine wpList_append_own _ rfl _ _ 27 rfl w.heap.size 3 i0 (.int .i64 0) 1 8 Try.underlying27 hi hz0 hz1 hz2 rfl (by decide) _ _ _ rfl (hown.alloc _) ⟨wr.heap.size, 0, none⟩ 1 1 [.int .i64 z] rfl rfl (cell_one_new _ _ _) (by intro u hu; simp at hu; subst hu; rfl) (by unfold maxLen; omega) (by omega) (by simp; omega) ?_; intro v' w3 hown3 hgrow3 _; have hn3 := (hnr.alloc _).grown hgrow3 (fun k hk => (hown.lt k hk).1); have hc3 : w3.heap[c]? = _ := (hgrow3.block c (by simp; omega) (fun e => by have := (hown.lt c e.symm).1; omega)).trans ((Below.heap_alloc _ _ _ hcl).trans hc)) | (go_at_call 15; refine (hstep _ hn3 hc3).mono ?_; clear hstep; rintro e w4 ⟨⟨x, y, rfl, hxy⟩, hnear4, hownk⟩))
      have hown4 := hownk _ _ _ _ (Nat.le_refl _) hown3
      go_roundw
      case rel => exact ⟨_, acc ++ [z], rfl, by simpa [vsi] using hown4, hnear4, hxy⟩
      case measure => rw [hlv.out, own_lenOf hown3]; omega
    · obtain rfl := hl
      clear step
      go_wp2
      go_ret
      exact ⟨⟨_, rfl, by rw [hln.out]; exact hown, r', hc⟩, hnr⟩

theorem all_i {w : World} {B : Nat} {q : Value} {cap : Nat} {ch : Option Nat} (l : List Int) (h : Qu w B q cap ch (vsi l)) :
    Calls Try.prog 21 #[q] w fun e w' => (∃ v, e = .returned v ∧ w'.ownsRow w.heap.size 3 1 v l.length (vsi l)) ∧ Qu w' B q cap ch [] ∧ Near (Of ch) w w' := by
  have hlen := len_i h
  rw [vsi_len] at hlen
  rcases h with ⟨rfl, rfl, rfl, hl⟩ | ⟨hd, c, s, r, gs, rfl, rfl, hB, h1, h2, h3, h4, h5, h6⟩
  · obtain rfl : l = [] := by cases l; rfl; cases hl
    obtain ⟨i0, hi, hz0, hz1, hz2⟩ := info_parts tinfo_i
    have hpop := fun w => pop_i_nil w
    go_enter Try.func21, Try.ntmps21
    go_wp2_with (first | (go_at_call 18; refine hlen.mono ?_; clear hlen; rintro e w' ⟨hw, rfl⟩; obtain rfl := hw.symm) | (refine wpList_make_own _ rfl _ _ 27 rfl w.heap.size 3 i0 (.int .i64 0) 1 Try.underlying27 hi hz0 hz1 _ _ _ 0 rfl rfl rfl (by rw [hz2]; omega) (by unfold maxLen; omega) (Nat.le_refl _) ?_; intro w1 hown hg1) | (go_at_call 15; refine (hpop _).mono ?_; rintro e w' ⟨rfl, hw⟩; obtain rfl := hw.symm))
    have hb1 : Below w.heap.size w w1 := (Below.refl _ _).grown hg1 (Nat.le_refl _) (by intro k e; cases e)
    refine wp_loop_rounds 1 ?_
    rw [rounds_succ]
    go_wp2
    go_ret
    exact ⟨⟨_, rfl, hown⟩, .inl ⟨rfl, rfl, rfl, rfl⟩, Near.of_below hb1⟩
  · refine (all_i_some l h2 (by simpa [vsi] using h3) h4 h5 h6 hlen).mono ?_
    rintro e w' ⟨⟨v, rfl, hown, r', hc⟩, hn⟩
    exact ⟨⟨v, rfl, hown⟩, .inr ⟨hd, c, s, r', [], rfl, rfl, hB, h1, h2, Nat.zero_le _, hn.cell h4, hc, trivial⟩, hn⟩

end Go.Proofs.Ytekacaocijfepaa
