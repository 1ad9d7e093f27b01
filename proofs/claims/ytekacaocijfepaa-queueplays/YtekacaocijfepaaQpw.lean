/-
  WHAT TWO QUEUES TELL, WHATEVER IS DONE WITH THEM: QueuePlays's walk. Conditions: none.
-/
import Derived.Test.YtekacaocijfepaaQpl
import Derived.BigQuiet
namespace Go.Proofs.Ytekacaocijfepaa
open Go.ChangeShapes Go.WideShapes Go.ChangeAt Go.RowKit Go.Conc
set_option linter.unusedVariables false
set_option linter.unusedSimpArgs false
set_option maxRecDepth 100000

theorem new_p (a : Int) (w : World) :
    Calls Try.prog 7 #[.int .i64 a] w fun e w' => (∃ p, e = .returned (.pointer p) ∧ ∃ ch, Qu w' w.heap.size (.pointer p) (roomC a) ch [] ∧ (p.isNone = decide (roomC a = 0)) ∧ (∀ k, ch = some k → k < w'.heap.size)) ∧ Below w.heap.size w w' := by
  refine (new_i a w).mono ?_
  rintro e w' ⟨⟨q, rfl, ch, hq, hk⟩, hb⟩
  have hq' := hq
  rcases hq with ⟨rfl, -, h0, -⟩ | ⟨hd, c, s, r, gs, rfl, -, -, h1, -⟩
  · exact ⟨⟨_, rfl, ch, hq', by simp [h0], hk⟩, hb⟩
  · exact ⟨⟨_, rfl, ch, hq', by simp; omega, hk⟩, hb⟩

theorem box_four {w : World} {e : Nat} {x y z u A B C D : Value} {t : TypeId} {f : Nat × Nat} (he : w.heap[e]? = some (.cells #[x, y, z, u] t f)) : ((((w.setCell ⟨e, 0, none⟩ A).setCell ⟨e, 1, none⟩ B).setCell ⟨e, 2, none⟩ C).setCell ⟨e, 3, none⟩ D).heap[e]? = some (.cells #[A, B, C, D] t f) := by
  have := box_set (o := 3) (box_set (o := 2) (box_set (o := 1) (box_set (o := 0) he A) B) C) D
  simpa using this
theorem Two2.al {w : World} {B B' C : Nat} {q0 q1 v0 v1 : Value} {m0 m1 : Nat} {ch0 ch1 : Option Nat} {l0 l1 : List Int} (H : Two2 w B B' C q0 q1 m0 m1 ch0 ch1 v0 v1 l0 l1) {w' : World} (h : Below w.heap.size w w') : Two2 w' B B' C q0 q1 m0 m1 ch0 ch1 v0 v1 l0 l1 :=
  ⟨H.a.below h, H.b.below h, own_below h H.r, own_below h H.s⟩
theorem heap_four {w : World} {e k : Nat} {A B C D : Value} {p : Obj} (h : w.heap[k]? = some p) (hne : k ≠ e) : ((((w.setCell ⟨e, 0, none⟩ A).setCell ⟨e, 1, none⟩ B).setCell ⟨e, 2, none⟩ C).setCell ⟨e, 3, none⟩ D).heap[k]? = some p := heap_set_ne (heap_set_ne (heap_set_ne (heap_set_ne h hne) hne) hne) hne
theorem below_four {w w0 : World} {b e : Nat} {A B C D : Value} (h : Below b w0 w) (he : b ≤ e) : Below b w0 ((((w.setCell ⟨e, 0, none⟩ A).setCell ⟨e, 1, none⟩ B).setCell ⟨e, 2, none⟩ C).setCell ⟨e, 3, none⟩ D) :=
  (((h.setCell (p := ⟨e, 0, none⟩) he _).setCell (p := ⟨e, 1, none⟩) he _).setCell (p := ⟨e, 2, none⟩) he _).setCell (p := ⟨e, 3, none⟩) he _

set_option maxHeartbeats 8000000 in
theorem plays_walk (a b : Int) (sl : Option Addr) (n c : Nat) (L : List (Int × Int × Bool)) (w : World) (hA : ARow w sl n c L) :
    Calls Try.prog 3 #[.int .i64 a, .int .i64 b, .slice sl n c] w fun e w' => e = .returned (.bool true) ∧ Below w.heap.size w w' := by
  have halive := alive_ok w
  obtain ⟨hL, hlc, hcm, hrng, hcells⟩ := hA
  replace hL := hid hL
  by_cases h100 : n ≤ 100
  · have g100 : ¬ 100 < (n : Int) := by omega
    have hnewa := fun w => new_p a w
    have hnewb := fun w => new_p b w
    go_enter Try.func3, Try.ntmps3
    go_upto_region 8 with (first | (go_at_call 6; refine halive.mono ?_; clear halive; rintro e w0 ⟨rfl, hb0⟩) | (go_at_call 7; refine (hnewa _).mono ?_; clear hnewa; rintro e w1 ⟨⟨q0, rfl, ch0, hq0, hi0, hk0⟩, hb1⟩) | (go_at_call 7; refine (hnewb _).mono ?_; clear hnewb; rintro e w2 ⟨⟨q1, rfl, ch1, hq1, hi1, hk1⟩, hb2⟩))
    have hb12 : Below w.heap.size w w2 := (hb0.trans (hb1.mono hb0.size)).trans (hb2.mono (by have := hb0.size; have := hb1.size; omega))
    have hq0' := hq0.below hb2
    have hbX : Below w2.heap.size w2 (((w2.alloc (.cells #[.pointer q0, .pointer q1] 26)).alloc (.cells #[.slice none 0 0, .int .i64 0, .slice none 0 0, .int .i64 0] 30)).alloc (.cells #[.int .i64 a, .int .i64 b] 31)) := (((Below.refl _ _).alloc (Nat.le_refl _) _).alloc (by simp) _).alloc (by simp; omega) _
    have z0 : (((w2.alloc (.cells #[.pointer q0, .pointer q1] 26)).alloc (.cells #[.slice none 0 0, .int .i64 0, .slice none 0 0, .int .i64 0] 30)).alloc (.cells #[.int .i64 a, .int .i64 b] 31)).heap[w2.heap.size]? = some (.cells #[.pointer q0, .pointer q1] 26 (0, 0)) := heap_al (heap_al (heap_alloc_new _ _))
    have z1 : (((w2.alloc (.cells #[.pointer q0, .pointer q1] 26)).alloc (.cells #[.slice none 0 0, .int .i64 0, .slice none 0 0, .int .i64 0] 30)).alloc (.cells #[.int .i64 a, .int .i64 b] 31)).heap[w2.heap.size + 1]? = some (.cells #[.slice none 0 0, .int .i64 0, .slice none 0 0, .int .i64 0] 30 (0, 0)) := heap_al (new2 _ _ _)
    have z2 : (((w2.alloc (.cells #[.pointer q0, .pointer q1] 26)).alloc (.cells #[.slice none 0 0, .int .i64 0, .slice none 0 0, .int .i64 0] 30)).alloc (.cells #[.int .i64 a, .int .i64 b] 31)).heap[w2.heap.size + 1 + 1]? = some (.cells #[.int .i64 a, .int .i64 b] 31 (0, 0)) := by
      have := heap_alloc_new ((w2.alloc (.cells #[.pointer q0, .pointer q1] 26)).alloc (.cells #[.slice none 0 0, .int .i64 0, .slice none 0 0, .int .i64 0] 30)) (.cells #[.int .i64 a, .int .i64 b] 31)
      simp only [World.size_alloc] at this
      exact this
    have hwd : w.heap.size ≤ w2.heap.size := hb12.size
    have hg0 : ∀ k, ch0 = some k → w.heap.size ≤ k := fun k hk => by have := hq0.ge k hk; have := hb0.size; omega
    have hg1 : ∀ k, ch1 = some k → w.heap.size ≤ k := fun k hk => by have := hq1.ge k hk; have := hb0.size; have := hb1.size; omega
    have hS : ∀ c, ch1 = some c → ¬ Of ch0 c := fun c h1 h0 => by have := hk0 c h0; have := hq1.ge c h1; omega
    have hS' : ∀ c, ch0 = some c → ¬ Of ch1 c := fun c h0 h1 => hS c h1 h0
    refine gen_world (fun X => Below w.heap.size w X ∧ Qu X w0.heap.size (.pointer q0) (roomC a) ch0 (vsi []) ∧ Qu X w1.heap.size (.pointer q1) (roomC b) ch1 (vsi []) ∧ X.heap[w2.heap.size]? = some (.cells #[.pointer q0, .pointer q1] 26 (0, 0)) ∧ X.heap[w2.heap.size + 1]? = some (.cells #[.slice none 0 0, .int .i64 0, .slice none 0 0, .int .i64 0] 30 (0, 0)) ∧ X.heap[w2.heap.size + 1 + 1]? = some (.cells #[.int .i64 a, .int .i64 b] 31 (0, 0))) ?_ ?_
    · exact ⟨hb12.trans (hbX.mono hwd), hq0'.below hbX, hq1.below hbX, z0, z1, z2⟩
    clear z0 z1 z2 hbX hq0' hq0 hq1 hb0 hb1 hb2 hb12 hk0 hk1
    generalize w2.heap.size = d at *
    rintro W ⟨hbW, hQ0, hQ1, z0, z1, z2⟩
    have n1 : ¬ d = d + 1 := by omega
    have n2 : ¬ d + 1 = d := by omega
    have n3 : ¬ d = d + 1 + 1 := by omega
    have n4 : ¬ d + 1 + 1 = d := by omega
    have n5 : ¬ d + 1 = d + 1 + 1 := by omega
    have n6 : ¬ d + 1 + 1 = d + 1 := by omega
    have ee0 : (decide (roomC a = 0) != decide (roomC a = 0)) = false := by simp
    have ee1 : (decide (roomC b = 0) != decide (roomC b = 0)) = false := by simp
    have ra : 1 ≤ a ∧ a ≤ 4096 → (roomC a : Int) = a := fun h => by unfold roomC; rw [if_pos h]; omega
    have rb : 1 ≤ b ∧ b ≤ 4096 → (roomC b : Int) = b := fun h => by unfold roomC; rw [if_pos h]; omega
    have ra' : ¬ (1 ≤ a ∧ a ≤ 4096) → roomC a = 0 := fun h => by unfold roomC; rw [if_neg h]
    have rb' : ¬ (1 ≤ b ∧ b ≤ 4096) → roomC b = 0 := fun h => by unfold roomC; rw [if_neg h]
    go_wp2
    go_loopw [10] (fun y X => ∃ x0 x1 : Int, Below w.heap.size w X ∧ Qu X w0.heap.size (.pointer q0) (roomC a) ch0 (vsi []) ∧ Qu X w1.heap.size (.pointer q1) (roomC b) ch1 (vsi []) ∧ X.heap[d]? = some (.cells #[.pointer q0, .pointer q1] 26 (0, 0)) ∧ X.heap[d + 1]? = some (.cells #[.slice none 0 0, .int .i64 x0, .slice none 0 0, .int .i64 x1] 30 (0, 0)) ∧ X.heap[d + 1 + 1]? = some (.cells #[.int .i64 a, .int .i64 b] 31 (0, 0)) ∧ ((y = .int .i64 0 ∧ x0 = 0 ∧ x1 = 0) ∨ (y = .int .i64 1 ∧ x0 = roomC a ∧ x1 = 0) ∨ (y = .int .i64 2 ∧ x0 = roomC a ∧ x1 = roomC b))) (fun y _ => 2 - (RowKit.intOf y).toNat)
    case atStart => exact ⟨0, 0, hbW, hQ0, hQ1, z0, z1, z2, .inl ⟨rfl, rfl, rfl⟩⟩
    case round =>
      rename World => X
      obtain ⟨x0, x1, hbX, hq0, hq1, y0, y1, y2, hrela⟩ := hrel
      rcases hrela with ⟨rfl, rfl, rfl⟩ | ⟨rfl, rfl, rfl⟩ | ⟨rfl, rfl, rfl⟩
      · have hrela : True := trivial
        have c0 : X.cell? ⟨d, 0, none⟩ = some (.pointer q0) := (box_cell y0).trans rfl
        have c1 : X.cell? ⟨d + 1, 1, none⟩ = some (.int .i64 0) := (box_cell y1).trans rfl
        have c2 : X.cell? ⟨d + 1 + 1, 0, none⟩ = some (.int .i64 a) := (box_cell y2).trans rfl
        have c3 : X.frozen? ⟨d + 1, 1, none⟩ = false := by unfold World.frozen?; rw [y1]; rfl
        by_cases hv : 1 ≤ a ∧ a ≤ 4096
        · have v1 := hv.1
          have v2 := hv.2
          have hr := ra hv
          have hn : q0.isNone = false := by rw [hi0]; simp; omega
          have h0 : (a == 0) = false := by simp; omega
          have d1 := box_set (o := 1) y1 (.int .i64 a)
          have k0 : (X.setCell ⟨d + 1, 1, none⟩ (.int .i64 a)).cell? ⟨d, 0, none⟩ = some (.pointer q0) := cell_set_far c0 n1
          have k1 : (X.setCell ⟨d + 1, 1, none⟩ (.int .i64 a)).cell? ⟨d + 1, 1, none⟩ = some (.int .i64 a) := (box_cell d1).trans rfl
          replace hr := hid hr
          clear hrela
          go_upto_region 13 with fail
          go_quiet (fail)
          go_wp2
          go_roundw
          case rel => exact ⟨(roomC a : Int), 0, below_drn (hbX.setCell (p := ⟨d + 1, 1, none⟩) (by show w.heap.size ≤ d + 1; omega) _) _, (qu_setT hq0 ((box_cell y1).trans rfl)).below (below_drn (Below.refl _ _) _), (qu_setT hq1 ((box_cell y1).trans rfl)).below (below_drn (Below.refl _ _) _), heap_set_ne y0 n1, by rw [hr.out]; exact d1, heap_set_ne y2 n6, .inr (.inl ⟨rfl, rfl, rfl⟩)⟩
          case measure => simp [RowKit.intOf]
        · have hr := ra' hv
          have hn : q0.isNone = true := by rw [hi0]; simp [hr]
          have hr0 : (roomC a : Int) = 0 := by rw [hr]; rfl
          replace hr0 := hid hr0
          clear hr
          by_cases v1 : 1 ≤ a
          · have v2 : ¬ a ≤ 4096 := fun h => hv ⟨v1, h⟩
            have v3 : decide (a ≤ 4096) = false := by simpa using v2
            clear hrela
            go_upto_region 13 with fail
            go_quiet (fail)
            go_wp2
            go_roundw
            case rel => exact ⟨(roomC a : Int), 0, below_drn hbX _, hq0.below (below_drn (Below.refl _ _) _), hq1.below (below_drn (Below.refl _ _) _), y0, by rw [hr0.out]; exact y1, y2, .inr (.inl ⟨rfl, rfl, rfl⟩)⟩
            case measure => simp [RowKit.intOf]
          · have v3 : decide (1 ≤ a) = false := by simpa using v1
            clear hrela
            go_upto_region 13 with fail
            go_quiet (fail)
            go_wp2
            go_roundw
            case rel => exact ⟨(roomC a : Int), 0, below_drn hbX _, hq0.below (below_drn (Below.refl _ _) _), hq1.below (below_drn (Below.refl _ _) _), y0, by rw [hr0.out]; exact y1, y2, .inr (.inl ⟨rfl, rfl, rfl⟩)⟩
            case measure => simp [RowKit.intOf]
      · have hrela : True := trivial
        have c0 : X.cell? ⟨d, 1, none⟩ = some (.pointer q1) := (box_cell y0).trans rfl
        have c1 : X.cell? ⟨d + 1, 3, none⟩ = some (.int .i64 0) := (box_cell y1).trans rfl
        have c2 : X.cell? ⟨d + 1 + 1, 1, none⟩ = some (.int .i64 b) := (box_cell y2).trans rfl
        have c3 : X.frozen? ⟨d + 1, 3, none⟩ = false := by unfold World.frozen?; rw [y1]; rfl
        by_cases hv : 1 ≤ b ∧ b ≤ 4096
        · have v1 := hv.1
          have v2 := hv.2
          have hr := rb hv
          have hn : q1.isNone = false := by rw [hi1]; simp; omega
          have h0 : (b == 0) = false := by simp; omega
          have d1 := box_set (o := 3) y1 (.int .i64 b)
          have k0 : (X.setCell ⟨d + 1, 3, none⟩ (.int .i64 b)).cell? ⟨d, 1, none⟩ = some (.pointer q1) := cell_set_far c0 n1
          have k1 : (X.setCell ⟨d + 1, 3, none⟩ (.int .i64 b)).cell? ⟨d + 1, 3, none⟩ = some (.int .i64 b) := (box_cell d1).trans rfl
          replace hr := hid hr
          clear hrela
          go_upto_region 13 with fail
          go_quiet (fail)
          go_wp2
          go_roundw
          case rel => exact ⟨(roomC a : Int), (roomC b : Int), below_drn (hbX.setCell (p := ⟨d + 1, 3, none⟩) (by show w.heap.size ≤ d + 1; omega) _) _, (qu_setT hq0 ((box_cell y1).trans rfl)).below (below_drn (Below.refl _ _) _), (qu_setT hq1 ((box_cell y1).trans rfl)).below (below_drn (Below.refl _ _) _), heap_set_ne y0 n1, by rw [hr.out]; exact d1, heap_set_ne y2 n6, .inr (.inr ⟨rfl, rfl, rfl⟩)⟩
          case measure => simp [RowKit.intOf]
        · have hr := rb' hv
          have hn : q1.isNone = true := by rw [hi1]; simp [hr]
          have hr0 : (roomC b : Int) = 0 := by rw [hr]; rfl
          replace hr0 := hid hr0
          clear hr
          by_cases v1 : 1 ≤ b
          · have v2 : ¬ b ≤ 4096 := fun h => hv ⟨v1, h⟩
            have v3 : decide (b ≤ 4096) = false := by simpa using v2
            clear hrela
            go_upto_region 13 with fail
            go_quiet (fail)
            go_wp2
            go_roundw
            case rel => exact ⟨(roomC a : Int), (roomC b : Int), below_drn hbX _, hq0.below (below_drn (Below.refl _ _) _), hq1.below (below_drn (Below.refl _ _) _), y0, by rw [hr0.out]; exact y1, y2, .inr (.inr ⟨rfl, rfl, rfl⟩)⟩
            case measure => simp [RowKit.intOf]
          · have v3 : decide (1 ≤ b) = false := by simpa using v1
            clear hrela
            go_upto_region 13 with fail
            go_quiet (fail)
            go_wp2
            go_roundw
            case rel => exact ⟨(roomC a : Int), (roomC b : Int), below_drn hbX _, hq0.below (below_drn (Below.refl _ _) _), hq1.below (below_drn (Below.refl _ _) _), y0, by rw [hr0.out]; exact y1, y2, .inr (.inr ⟨rfl, rfl, rfl⟩)⟩
            case measure => simp [RowKit.intOf]
      · go_wp2
        go_loopw [11] (fun y X => ∃ (i : Nat) (va va' : Option Addr) (vc vc' : Nat) (l0 l1 : List Int), y = .int .i64 i ∧ i ≤ n ∧ Below w.heap.size w X ∧ Two2 X w0.heap.size w1.heap.size 0 (.pointer q0) (.pointer q1) (roomC a) (roomC b) ch0 ch1 (.slice va l0.length vc) (.slice va' l1.length vc') l0 l1 ∧ X.heap[d]? = some (.cells #[.pointer q0, .pointer q1] 26 (0, 0)) ∧ X.heap[d + 1]? = some (.cells #[.slice va l0.length vc, .int .i64 (roomC a : Int), .slice va' l1.length vc', .int .i64 (roomC b : Int)] 30 (0, 0))) (fun y _ => n - (RowKit.intOf y).toNat)
        case atStart => exact ⟨0, none, none, 0, 0, [], [], by go_num, Nat.zero_le _, hbX, ⟨hq0, hq1, ⟨rfl, .inl ⟨rfl, rfl⟩⟩, ⟨rfl, .inl ⟨rfl, rfl⟩⟩⟩, y0, y1⟩
        case round =>
          clear hbX hq0 hq1 y0 y1 y2 hbW hQ0 hQ1 z0 z1 z2 X
          rename World => X
          obtain ⟨i, va, va', vc, vc', l0, l1, rfl, hi, hbX, H, y0, y1⟩ := hrel
          by_cases hlt : i < n
          · obtain ⟨bb, off, rfl, hcell⟩ := hcells (by omega)
            obtain ⟨s0, s1, s2⟩ := hcell i hlt
            have hkr := hrng (L.getD i (0, 0, false)) (by
              have hl := hL.out
              rw [List.getD_eq_getElem?_getD, List.getElem?_eq_getElem (by omega)]
              exact List.getElem_mem _)
            generalize L.getD i (0, 0, false) = x at *
            obtain ⟨k, N, sec⟩ := x
            simp only at s0 s1 s2 hkr
            have s0 := cell_later hbX s0
            have s1 := cell_later hbX s1
            have s2 := cell_later hbX s2
            have c0 : X.cell? ⟨d, 0, none⟩ = some (.pointer q0) := (box_cell y0).trans rfl
            have c1 : X.cell? ⟨d, 1, none⟩ = some (.pointer q1) := (box_cell y0).trans rfl
            have c2 : X.cell? ⟨d + 1, 0, none⟩ = some (.slice va l0.length vc) := (box_cell y1).trans rfl
            have c3 : X.cell? ⟨d + 1, 1, none⟩ = some (.int .i64 (roomC a : Int)) := (box_cell y1).trans rfl
            have c4 : X.cell? ⟨d + 1, 2, none⟩ = some (.slice va' l1.length vc') := (box_cell y1).trans rfl
            have c5 : X.cell? ⟨d + 1, 3, none⟩ = some (.int .i64 (roomC b : Int)) := (box_cell y1).trans rfl
            have hact : ∀ X', Below X.heap.size X X' → Calls Try.prog 8 #[.agg #[.pointer q0, .pointer q1], .agg #[.slice va l0.length vc, .int .i64 (roomC a : Int), .slice va' l1.length vc', .int .i64 (roomC b : Int)], .agg #[.int .u8 k, .int .i64 N, .bool sec]] X' fun e w' => ActPost w' w0.heap.size w1.heap.size 0 (.pointer q0) (.pointer q1) (roomC a) (roomC b) ch0 ch1 e ∧ Near (Two ch0 ch1) X' w' :=
              fun X' h => act_ok k N sec hkr.1 hkr.2 (Nat.zero_le _) (H.al h) hS hS'
            have hXs := hbX.size
            have hdX : d + 1 < X.heap.size := (Array.getElem?_eq_some_iff.mp y1).1
            have Z1 : Below X.heap.size X X.drew := (Below.refl _ _).drew
            have Z2 : Below X.heap.size X (X.alloc (.cells #[.slice none 0 0, .int .i64 0, .slice none 0 0, .int .i64 0] 30)).drew := ((Below.refl _ _).alloc (Nat.le_refl _) _).drew
            have Z3 : (X.alloc (.cells #[.slice none 0 0, .int .i64 0, .slice none 0 0, .int .i64 0] 30)).drew.heap[X.heap.size]? = some (.cells #[.slice none 0 0, .int .i64 0, .slice none 0 0, .int .i64 0] 30 (0, 0)) := heap_alloc_new _ _
            have u1 : ¬ d = X.heap.size := by omega
            have u2 : ¬ X.heap.size = d := by omega
            have u3 : ¬ d + 1 = X.heap.size := by omega
            have u4 : ¬ X.heap.size = d + 1 := by omega
            have hlen3 : bb < X.heap.size := by
              obtain ⟨_, _, _, hq⟩ := block_of_cell s0
              exact (Array.getElem?_eq_some_iff.mp hq).1
            have u5 : ¬ bb = X.heap.size := by omega
            have u6 : ¬ X.heap.size = bb := by omega
            have nI : (i : Int) < (n : Int) := by omega
            go_upto_region 18 with fail
            go_region_held3 (fun w' => (w'.cell? ⟨d, 0, none⟩ = some (.pointer q0) ∧ w'.cell? ⟨d, 1, none⟩ = some (.pointer q1)) ∧ (w'.cell? ⟨d + 1, 0, none⟩ = some (.slice va l0.length vc) ∧ w'.cell? ⟨d + 1, 1, none⟩ = some (.int .i64 (roomC a : Int)) ∧ w'.cell? ⟨d + 1, 2, none⟩ = some (.slice va' l1.length vc') ∧ w'.cell? ⟨d + 1, 3, none⟩ = some (.int .i64 (roomC b : Int))) ∧ (w'.cell? ⟨bb, off + i * 3, none⟩ = some (.int .u8 k) ∧ w'.cell? ⟨bb, off + i * 3 + 1, none⟩ = some (.int .i64 N) ∧ w'.cell? ⟨bb, off + i * 3 + 2, none⟩ = some (.bool sec))) (go_keep) (first | (go_at_call 8; refine (hact _ (by first | exact Z1 | exact Z2)).mono ?_; clear hact; rintro e w3 ⟨⟨v0, v1, l0', l1', rfl, H3⟩, hn3⟩; obtain ⟨wa, wc, rfl⟩ := own_slice H3.r; obtain ⟨wa', wc', rfl⟩ := own_slice H3.s; have hnX : Near (Two ch0 ch1) X w3 := (by first | exact (Near.of_below Z1).trans hn3 | exact (Near.of_below Z2).trans hn3); have c0 := hnX.cell c0; have c1 := hnX.cell c1; have c2 := hnX.cell c2; have c3 := hnX.cell c3; have c4 := hnX.cell c4; have c5 := hnX.cell c5; have s0 := hnX.cell s0; have s1 := hnX.cell s1; have s2 := hnX.cell s2; have y0 := hnX.box y0; have y1 := hnX.box y1; have f0 : w3.frozen? ⟨d + 1, 0, none⟩ = false := (by unfold World.frozen?; rw [y1]; rfl); have f1 : w3.frozen? ⟨d + 1, 1, none⟩ = false := (by unfold World.frozen?; rw [y1]; rfl); have f2 : w3.frozen? ⟨d + 1, 2, none⟩ = false := (by unfold World.frozen?; rw [y1]; rfl); have f3 : w3.frozen? ⟨d + 1, 3, none⟩ = false := (by unfold World.frozen?; rw [y1]; rfl); have hd3 : d + 1 < w3.heap.size := (Array.getElem?_eq_some_iff.mp y1).1; first | (have y9 := hn3.box Z3; have m9 : X.heap.size < w3.heap.size := (Array.getElem?_eq_some_iff.mp y9).1; have h90 := (box_cell y9 (o := 0)).trans rfl; have h91 := (box_cell y9 (o := 1)).trans rfl; have h92 := (box_cell y9 (o := 2)).trans rfl; have h93 := (box_cell y9 (o := 3)).trans rfl; have g90 : w3.frozen? ⟨X.heap.size, 0, none⟩ = false := (by unfold World.frozen?; rw [y9]; rfl); have g91 : w3.frozen? ⟨X.heap.size, 1, none⟩ = false := (by unfold World.frozen?; rw [y9]; rfl); have g92 : w3.frozen? ⟨X.heap.size, 2, none⟩ = false := (by unfold World.frozen?; rw [y9]; rfl); have g93 : w3.frozen? ⟨X.heap.size, 3, none⟩ = false := (by unfold World.frozen?; rw [y9]; rfl)) | skip))
            all_goals go_upto_region 20 with fail
            · have hbw3 : Below w.heap.size w w3 := hbX.trans (hnX.below hXs (fun k hk => hk.elim (hg0 k) (hg1 k)))
              have hs3 := hbw3.size
              refine gen_world (fun Z => Below w.heap.size w Z ∧ Two2 Z w0.heap.size w1.heap.size 0 (.pointer q0) (.pointer q1) (roomC a) (roomC b) ch0 ch1 (.slice wa l0'.length wc) (.slice wa' l1'.length wc') l0' l1' ∧ Z.heap[d]? = some (.cells #[.pointer q0, .pointer q1] 26 (0, 0)) ∧ Z.heap[d + 1]? = some (.cells #[.slice wa l0'.length wc, .int .i64 (roomC a : Int), .slice wa' l1'.length wc', .int .i64 (roomC b : Int)] 30 (0, 0))) ?_ ?_
              · exact ⟨(below_four hbw3 (by omega)).alloc (by simpa [World.setCell] using hs3) _, (H3.res y1 (by decide)).al ((Below.refl _ _).alloc (Nat.le_refl _) _), heap_al (heap_four y0 n1), heap_al (box_four y1)⟩
              · rintro Z ⟨hbZ, HZ, y0', y1'⟩
                have hA := is_ok l0' HZ.a HZ.r
                have hB : ∀ Z1, Below Z.heap.size Z Z1 → Calls Try.prog 9 #[.pointer q1, .agg #[.slice wa' l1'.length wc', .int .i64 (roomC b : Int)]] Z1 fun e w' => e = .returned (.bool true) ∧ Below Z1.heap.size Z1 w' := fun Z1 h => is_ok l1' (HZ.al h).b (HZ.al h).s
                clear c0 c1 c2 c3 c4 c5 s0 s1 s2 y0 y1 f0 f1 f2 f3
                have c0 : Z.cell? ⟨d, 0, none⟩ = some (.pointer q0) := (box_cell y0').trans rfl
                have c1 : Z.cell? ⟨d, 1, none⟩ = some (.pointer q1) := (box_cell y0').trans rfl
                have c2 : Z.cell? ⟨d + 1, 0, none⟩ = some (.slice wa l0'.length wc) := (box_cell y1').trans rfl
                have c3 : Z.cell? ⟨d + 1, 1, none⟩ = some (.int .i64 (roomC a : Int)) := (box_cell y1').trans rfl
                have c4 : Z.cell? ⟨d + 1, 2, none⟩ = some (.slice wa' l1'.length wc') := (box_cell y1').trans rfl
                have c5 : Z.cell? ⟨d + 1, 3, none⟩ = some (.int .i64 (roomC b : Int)) := (box_cell y1').trans rfl
                go_wp2_with (first | (go_at_call 9; refine hA.mono ?_; clear hA; rintro e Z1 ⟨rfl, hz1⟩; have c1 := cell_later hz1 c1; have c4 := cell_later hz1 c4; have c5 := cell_later hz1 c5) | (go_at_call 9; refine (hB _ hz1).mono ?_; clear hB; rintro e Z2 ⟨rfl, hz2⟩))
                go_roundw
                case rel =>
                  have hz : Below Z.heap.size Z Z2 := hz1.trans (hz2.mono hz1.size)
                  exact ⟨i + 1, wa, wa', wc, wc', l0', l1', by go_num, by omega, hbZ.trans (hz.mono hbZ.size), HZ.al hz, blk_keep hz y0', blk_keep hz y1'⟩
                case measure => simp [RowKit.intOf]; omega
            · have hbw3 : Below w.heap.size w w3 := hbX.trans (hnX.below hXs (fun k hk => hk.elim (hg0 k) (hg1 k)))
              have hs3 := hbw3.size
              refine gen_world (fun Z => Below w.heap.size w Z ∧ Two2 Z w0.heap.size w1.heap.size 0 (.pointer q0) (.pointer q1) (roomC a) (roomC b) ch0 ch1 (.slice wa l0'.length wc) (.slice wa' l1'.length wc') l0' l1' ∧ Z.heap[d]? = some (.cells #[.pointer q0, .pointer q1] 26 (0, 0)) ∧ Z.heap[d + 1]? = some (.cells #[.slice wa l0'.length wc, .int .i64 (roomC a : Int), .slice wa' l1'.length wc', .int .i64 (roomC b : Int)] 30 (0, 0))) ?_ ?_
              · exact ⟨below_four (below_four hbw3 (by omega)) (by omega), (H3.res y9 (by decide)).res (heap_four y1 u3) (by decide), heap_four (heap_four y0 u1) n1, box_four (heap_four y1 u3)⟩
              · rintro Z ⟨hbZ, HZ, y0', y1'⟩
                have hA := is_ok l0' HZ.a HZ.r
                have hB : ∀ Z1, Below Z.heap.size Z Z1 → Calls Try.prog 9 #[.pointer q1, .agg #[.slice wa' l1'.length wc', .int .i64 (roomC b : Int)]] Z1 fun e w' => e = .returned (.bool true) ∧ Below Z1.heap.size Z1 w' := fun Z1 h => is_ok l1' (HZ.al h).b (HZ.al h).s
                clear c0 c1 c2 c3 c4 c5 s0 s1 s2 y0 y1 f0 f1 f2 f3
                have c0 : Z.cell? ⟨d, 0, none⟩ = some (.pointer q0) := (box_cell y0').trans rfl
                have c1 : Z.cell? ⟨d, 1, none⟩ = some (.pointer q1) := (box_cell y0').trans rfl
                have c2 : Z.cell? ⟨d + 1, 0, none⟩ = some (.slice wa l0'.length wc) := (box_cell y1').trans rfl
                have c3 : Z.cell? ⟨d + 1, 1, none⟩ = some (.int .i64 (roomC a : Int)) := (box_cell y1').trans rfl
                have c4 : Z.cell? ⟨d + 1, 2, none⟩ = some (.slice wa' l1'.length wc') := (box_cell y1').trans rfl
                have c5 : Z.cell? ⟨d + 1, 3, none⟩ = some (.int .i64 (roomC b : Int)) := (box_cell y1').trans rfl
                go_wp2_with (first | (go_at_call 9; refine hA.mono ?_; clear hA; rintro e Z1 ⟨rfl, hz1⟩; have c1 := cell_later hz1 c1; have c4 := cell_later hz1 c4; have c5 := cell_later hz1 c5) | (go_at_call 9; refine (hB _ hz1).mono ?_; clear hB; rintro e Z2 ⟨rfl, hz2⟩))
                go_roundw
                case rel =>
                  have hz : Below Z.heap.size Z Z2 := hz1.trans (hz2.mono hz1.size)
                  exact ⟨i + 1, wa, wa', wc, wc', l0', l1', by go_num, by omega, hbZ.trans (hz.mono hbZ.size), HZ.al hz, blk_keep hz y0', blk_keep hz y1'⟩
                case measure => simp [RowKit.intOf]; omega
          · go_wp2
            go_ret
            exact ⟨rfl, hbX⟩
  · have g100 : 100 < (n : Int) := by omega
    clear hcells
    go_enter Try.func3, Try.ntmps3
    go_wp2_with (first | (go_at_call 6; refine halive.mono ?_; clear halive; rintro e w0 ⟨rfl, hb0⟩))
    go_ret
    exact ⟨rfl, hb0⟩

end Go.Proofs.Ytekacaocijfepaa
