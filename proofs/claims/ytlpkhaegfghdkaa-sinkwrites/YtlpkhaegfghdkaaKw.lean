/-
  WRITERS: what one is in memory, NewWriter, Count, Put. Conditions: how many bytes there are.
-/
import Derived.Test.YtlpkhaegfghdkaaKt
namespace Go.Proofs.Ytlpkhaegfghdkaa
open Go.ChangeShapes Go.WideShapes Go.ChangeAt Go.RowKit Go.Lib
set_option linter.unusedVariables false
set_option linter.unusedSimpArgs false
set_option maxRecDepth 20000

/-- the writer in block p into the sink in block s -/
def Wk (w : World) (p s : Nat) (room : Int) (T : List Int) (f : Int) (c : Nat) (R : Nat → Prop) : Prop :=
  ∃ Rs, R p ∧ Blk w p #[.pointer (some ⟨s, 0, none⟩), .int .u8 f, .int .i64 c] 49 ∧ Sk w s room T Rs ∧ (∀ k, Rs k → R k ∧ k ≠ p)

theorem Wk.nr {S R : Nat → Prop} {w w' : World} {p s : Nat} {room f : Int} {c : Nat} {T : List Int} (h : Wk w p s room T f c R) (hn : Nr S w w') (hd : ∀ k, R k → ¬ S k) : Wk w' p s room T f c R := by
  obtain ⟨Rs, h1, h2, h3, h4⟩ := h
  exact ⟨Rs, h1, h2.nr hn (hd p h1), h3.nr hn (fun k hk => hd k (h4 k hk).1), h4⟩
theorem Wk.below {R : Nat → Prop} {w w' : World} {p s : Nat} {room f : Int} {c : Nat} {T : List Int} (h : Wk w p s room T f c R) (hb : Below w.heap.size w w') : Wk w' p s room T f c R := h.nr (S := No) (Nr.of_below hb) (fun _ _ h => h)
theorem Wk.sk {R : Nat → Prop} {w : World} {p s : Nat} {room f : Int} {c : Nat} {T : List Int} (h : Wk w p s room T f c R) : Sk w s room T R := by
  obtain ⟨Rs, h1, h2, h3, h4⟩ := h
  exact h3.mono (fun k _ hk => (h4 k hk).1)
theorem Wk.lt {R : Nat → Prop} {w : World} {p s : Nat} {room f : Int} {c : Nat} {T : List Int} (h : Wk w p s room T f c R) : p < w.heap.size := by
  obtain ⟨Rs, h1, h2, h3, h4⟩ := h
  exact h2.lt

theorem writer_ok {w : World} {s : Nat} {room : Int} {T : List Int} {R : Nat → Prop} (h : Sk w s room T R) :
    Calls Try.prog 13 #[.pointer (some ⟨s, 0, none⟩)] w fun e w' => (∃ p, e = .returned (.pointer (some ⟨p, 0, none⟩)) ∧ w.heap.size ≤ p ∧ Wk w' p s room T 0 0 (fun k => R k ∨ w.heap.size ≤ k)) ∧ Below w.heap.size w w' := by
  go_enter Try.func13, Try.ntmps13
  go_wp2
  go_ret
  have hb : Below w.heap.size w (w.alloc (.cells #[.pointer (some ⟨s, 0, none⟩), .int .u8 0, .int .i64 0] 49)) := (Below.refl _ _).alloc (Nat.le_refl _) _
  refine ⟨⟨_, rfl, Nat.le_refl _, fun k => R k ∧ k < w.heap.size, .inr (Nat.le_refl _), Blk.new _ _ _, (h.mono (fun k hk h => ⟨h, hk⟩)).below hb, ?_⟩, hb⟩
  rintro k ⟨h1, h2⟩
  exact ⟨.inl h1, by omega⟩

/-- a writer of no sink -/
def Wn (w : World) (p : Nat) (f : Int) : Prop := Blk w p #[.pointer none, .int .u8 f, .int .i64 0] 49

theorem writer_none (w : World) : Calls Try.prog 13 #[.pointer none] w fun e w' => (∃ p, e = .returned (.pointer (some ⟨p, 0, none⟩)) ∧ w.heap.size ≤ p ∧ Wn w' p 0) ∧ Below w.heap.size w w' := by
  go_enter Try.func13, Try.ntmps13
  go_wp2
  go_ret
  exact ⟨⟨_, rfl, Nat.le_refl _, Blk.new _ _ _⟩, (Below.refl _ _).alloc (Nat.le_refl _) _⟩

theorem count_nil (w : World) : Calls Try.prog 17 #[.pointer none] w fun e w' => w' = w ∧ e = .returned (.int .i64 0) := by
  go_enter Try.func17, Try.ntmps17
  go_wp2
  go_ret
  exact ⟨rfl, rfl⟩
theorem count_at {w : World} {p : Nat} {x y : Value} {c : Int} (h : Blk w p #[x, y, .int .i64 c] 49) : Calls Try.prog 17 #[.pointer (some ⟨p, 0, none⟩)] w fun e w' => w' = w ∧ e = .returned (.int .i64 c) := by
  have c2 : w.cell? ⟨p, 2, none⟩ = some (.int .i64 c) := by have := h.cell 2; simpa using this
  go_enter Try.func17, Try.ntmps17
  go_wp2
  go_ret
  exact ⟨rfl, rfl⟩
theorem count_ok {w : World} {p s : Nat} {room f : Int} {c : Nat} {T : List Int} {R : Nat → Prop} (h : Wk w p s room T f c R) : Calls Try.prog 17 #[.pointer (some ⟨p, 0, none⟩)] w fun e w' => w' = w ∧ e = .returned (.int .i64 c) := by
  obtain ⟨Rs, h1, h2, h3, h4⟩ := h
  exact count_at h2

theorem put_nil (w : World) (a : Option Addr) (n c : Nat) : Calls Try.prog 15 #[.pointer none, .slice a n c] w fun e w' => w' = w ∧ e = .returned (.int .u8 1) := by
  go_enter Try.func15, Try.ntmps15
  go_wp2
  go_ret
  exact ⟨rfl, rfl⟩

theorem put_none {w : World} {p : Nat} (h : Wn w p 0) (a : Option Addr) (n c : Nat) : Calls Try.prog 15 #[.pointer (some ⟨p, 0, none⟩), .slice a n c] w fun e w' => e = .returned (.int .u8 1) ∧ Wn w' p 1 ∧ Nr (fun k => k = p) w w' := by
  have htake := fun w => take_nil w a n c
  unfold Wn at *
  have c0 : w.cell? ⟨p, 0, none⟩ = some (.pointer none) := by have := h.cell 0; simpa using this
  have c1 : w.cell? ⟨p, 1, none⟩ = some (.int .u8 0) := by have := h.cell 1; simpa using this
  have f1 : w.frozen? ⟨p, 1, none⟩ = false := h.free 1
  go_enter Try.func15, Try.ntmps15
  go_wp2_with (first | (go_at_call 10; refine (htake _).mono ?_; clear htake; rintro e w' ⟨hw, rfl⟩; obtain rfl := hw.symm))
  go_ret
  exact ⟨rfl, h.set (i := 1) _, Nr.setCell (S := fun k => k = p) (p := ⟨p, 1, none⟩) (Nr.refl _ _) rfl _⟩

theorem put_told {w : World} {p s : Nat} {room f : Int} {c : Nat} {T : List Int} {R : Nat → Prop} (h : Wk w p s room T f c R) (hf : f ≠ 0) (a : Option Addr) (n c' : Nat) : Calls Try.prog 15 #[.pointer (some ⟨p, 0, none⟩), .slice a n c'] w fun e w' => w' = w ∧ e = .returned (.int .u8 f) := by
  obtain ⟨Rs, h1, h2, h3, h4⟩ := h
  have c1 : w.cell? ⟨p, 1, none⟩ = some (.int .u8 f) := by have := h2.cell 1; simpa using this
  go_enter Try.func15, Try.ntmps15
  go_wp2
  go_ret
  exact ⟨rfl, rfl⟩

/-- how many bytes were put with Fine, behind a Put of m bytes of which n fit -/
def cntN (c n m : Nat) : Nat := if n < m then c else c + m

set_option maxHeartbeats 1000000 in
theorem put_ok {w : World} {p s : Nat} {room : Int} {c : Nat} {T L : List Int} {v : Value} {R R' : Nat → Prop} (h : Wk w p s room T 0 c R) (hv : Rng w v (u8s L) R') (hT : T.length ≤ 100000000) (hL : L.length ≤ 100000000) (hc : c ≤ 1000000000000) (hr : room < 0 ∨ (T.length : Int) ≤ room) (hr2 : room ≤ 9223372036854775807) :
    Calls Try.prog 15 #[.pointer (some ⟨p, 0, none⟩), v] w fun e w' =>
      e = .returned (.int .u8 (takeC (fitN room T.length L.length) L.length)) ∧
      Wk w' p s room (T ++ L.take (fitN room T.length L.length)) (takeC (fitN room T.length L.length) L.length) (cntN c (fitN room T.length L.length) L.length) (fun k => R k ∨ w.heap.size ≤ k) ∧ Nr R w w' := by
  obtain ⟨Rs, h1, h2, h3, h4⟩ := h
  have htake := take_ok h3 hv hT hL hr hr2
  have hfl := fitN_le room T.length L.length
  generalize fitN room T.length L.length = N at *
  obtain ⟨a, vc, rfl, hvc, hvm⟩ := hv.shape
  rw [u8s_len'] at *
  clear hv
  have ec := show (takeC N L.length) = if N < L.length then 14 else 0 from rfl
  have en := show (cntN c N L.length) = if N < L.length then c else c + L.length from rfl
  generalize hl : L.length = l at *
  generalize hX : T ++ L.take N = X at *
  replace hl := hid hl
  replace hX := hid hX
  have hpw : p < w.heap.size := h2.lt
  have hcar : ∀ w1, Nr Rs w w1 → Blk w1 p #[.pointer (some ⟨s, 0, none⟩), .int .u8 0, .int .i64 c] 49 := fun w1 hn => h2.nr hn (fun hk => (h4 p hk).2 rfl)
  have c0 : w.cell? ⟨p, 0, none⟩ = some (.pointer (some ⟨s, 0, none⟩)) := by have := h2.cell 0; simpa using this
  have c1 : w.cell? ⟨p, 1, none⟩ = some (.int .u8 0) := by have := h2.cell 1; simpa using this
  by_cases hlt : N < l
  · rw [if_pos hlt] at ec en
    rw [ec] at htake
    rw [ec, en]
    clear ec en
    replace hlt := hid hlt
    go_enter Try.func15, Try.ntmps15
    go_wp2_with (first | (go_at_call 10; refine htake.mono ?_; clear htake; rintro e w1 ⟨rfl, hs1, hn1⟩; have hp1 := hcar _ hn1; have d1 : w1.cell? ⟨p, 1, none⟩ = some (.int .u8 0) := (by (have := hp1.cell 1; simpa using this)); have e1 := hp1.free 1))
    go_ret
    have hset : Nr (fun k => k = p) w1 (w1.setCell ⟨p, 1, none⟩ (.int .u8 14)) := Nr.setCell (S := fun k => k = p) (p := ⟨p, 1, none⟩) (Nr.refl _ _) rfl _
    refine ⟨rfl, ⟨fun k => Rs k ∨ w.heap.size ≤ k, .inl h1, hp1.set (i := 1) _, hs1.nr hset ?_, ?_⟩, (hn1.mono fun k hk => (h4 k hk).1).trans (hset.mono fun k e => e ▸ h1)⟩
    · rintro k (hk | hk) e
      · exact (h4 k hk).2 e
      · omega
    · rintro k (hk | hk)
      · exact ⟨.inl (h4 k hk).1, (h4 k hk).2⟩
      · exact ⟨.inr hk, by omega⟩
  · rw [if_neg hlt] at ec en
    have hNl : N = l := by omega
    have hwrap : IntKind.i64.wrap ((c : Int) + (l : Int)) = ((c + l : Nat) : Int) := by rw [IntKind.wrap_i64]; have := hl.out; omega
    rw [ec, hNl] at htake
    rw [ec, en]
    clear ec en hlt
    replace hNl := hid hNl
    go_enter Try.func15, Try.ntmps15
    go_wp2_with (first | (go_at_call 10; refine htake.mono ?_; clear htake; rintro e w1 ⟨rfl, hs1, hn1⟩; have hp1 := hcar _ hn1; have d2 : w1.cell? ⟨p, 2, none⟩ = some (.int .i64 c) := (by (have := hp1.cell 2; simpa using this)); have e2 := hp1.free 2))
    go_ret
    have hset : Nr (fun k => k = p) w1 (w1.setCell ⟨p, 2, none⟩ (.int .i64 ((c + l : Nat) : Int))) := Nr.setCell (S := fun k => k = p) (p := ⟨p, 2, none⟩) (Nr.refl _ _) rfl _
    refine ⟨rfl, ⟨fun k => Rs k ∨ w.heap.size ≤ k, .inl h1, hp1.set (i := 2) _, hs1.nr hset ?_, ?_⟩, (hn1.mono fun k hk => (h4 k hk).1).trans (hset.mono fun k e => e ▸ h1)⟩
    · rintro k (hk | hk) e
      · exact (h4 k hk).2 e
      · omega
    · rintro k (hk | hk)
      · exact ⟨.inl (h4 k hk).1, (h4 k hk).2⟩
      · exact ⟨.inr hk, by omega⟩

end Go.Proofs.Ytlpkhaegfghdkaa
