/-
  WHAT A QUEUE's PUSH, POP, LEN AND ROOM GIVE (things of type int). Conditions: none.
-/
import Derived.Test.YtekacaocijfepaaChecked
import Derived.Test.YtekacaocijfepaaQn
namespace Go.Proofs.Ytekacaocijfepaa
open Go.ChangeShapes Go.WideShapes Go.ChangeAt Go.RowKit Go.Conc
set_option linter.unusedVariables false
set_option linter.unusedSimpArgs false
set_option maxRecDepth 100000

theorem channel_i {w : World} {B : Nat} {q : Value} {cap : Nat} {ch : Option Nat} {l : List Value} (h : Qu w B q cap ch l) : Calls Try.prog 29 #[q] w fun e w' => w' = w ∧ e = .returned (.chan ch) := by
  rcases h with ⟨rfl, rfl, -, -⟩ | ⟨hd, c, s, r, gs, rfl, rfl, -, -, -, -, h4, -, -⟩
  · go_enter Try.func29, Try.ntmps29
    go_wp2
    go_ret
    exact ⟨rfl, rfl⟩
  · go_enter Try.func29, Try.ntmps29
    go_wp2
    go_ret
    exact ⟨rfl, rfl⟩

theorem push_i_room (x : Int) {w : World} {B hd c cap s r : Nat} {gs : List Nat} {l : List Value} (hB : B ≤ c) (h1 : 1 ≤ cap) (h2 : cap ≤ 4096) (h3 : l.length < cap) (h4 : w.cell? ⟨hd, 0, none⟩ = some (.chan (some c))) (h5 : w.heap[c]? = some (.chan cap (gs.map pt).toArray false s r false)) (h6 : Els w gs l) :
    Calls Try.prog 17 #[.pointer (some ⟨hd, 0, none⟩), .int .i64 x] w fun e w' => e = .returned (.bool true) ∧ Qu w' B (.pointer (some ⟨hd, 0, none⟩)) cap (some c) (l ++ [.int .i64 x]) ∧ Near (Of (some c)) w w' := by
  have hal : Below w.heap.size w (w.alloc (.cells #[.int .i64 x] 3)) := (Below.refl _ _).alloc (Nat.le_refl _) _
  have h4' := cell_later hal h4
  have h5' : (w.alloc (.cells #[.int .i64 x] 3)).heap[c]? = some (.chan cap (gs.map pt).toArray false s r false) := by rw [Below.heap_alloc _ _ _ (Array.getElem?_eq_some_iff.mp h5).1]; exact h5
  have hg : (w.alloc (.cells #[.int .i64 x] 3)).cell? ⟨w.heap.size, 0, none⟩ = some (.int .i64 x) := cell_one_new w (.int .i64 x) 3 0 _ rfl
  refine calls_of_loneTo fun cs => ?_
  have e : Frame.enter Try.prog 17 #[.pointer (some ⟨hd, 0, none⟩), .int .i64 x] .normal = (base 17).at ⟨#[.pointer (some ⟨hd, 0, none⟩), .int .i64 x, undef, undef, undef, undef, undef, undef, undef, undef], []⟩ [.code (Try.f17.body.getD .skip)] := by
    simp [Frame.enter, Frame.at, Try.func17, base, Try.f17]
  rw [e]
  refine LoneTo.goes (n := 60) ?_
  simp only [Try.f17, Option.getD_some]
  s_c stepG_seq
  s_reg
  s_op
  s_op
  s_c stepG_region_end
  s_c stepG_seq
  s_reg
  s_op
  s_call Try.func29 (by kernel_rfl) Try.f29
  s_c stepG_seq
  s_reg
  s_op
  s_c stepG_region_end
  s_c stepG_seq
  s_c stepG_seq
  s_reg
  s_op
  s_op
  s_c stepG_region_end
  s_cond false
  s_c stepG_skip
  s_c stepG_seq
  s_reg
  s_op
  s_op
  s_op
  s_op
  s_op
  s_c stepG_region_end
  s_c stepG_ret'
  s_leave1 Try.func29
  s_c stepG_region_end
  s_c stepG_seq
  s_reg
  s_stop
  refine LoneTo.step (step_lone_select_send_room (c := c) (cap := cap) (v := pt w.heap.size) (z' := .pointer none) (buf := (gs.map pt).toArray) (s := s) (r := r) (tm := false)
    (stepG_comm (cases := #[scase c (pt w.heap.size) (.pointer none)]) (blocking := false) (shape := .select) (w' := w.alloc (.cells #[.int .i64 x] 3)) rfl rfl (by decide) (by simp [go_sem, execOp, scase, Act.eval, pt]))
    h5' (by rw [buf_size, h6.len]; exact h3)) ?_
  rw [Frame.finish_at]
  walk_nrm
  refine LoneTo.goes (n := 20) ?_
  s_op
  s_op
  s_c stepG_region_end
  s_c stepG_block
  s_cond true
  s_c stepG_seq
  s_reg
  s_op
  s_c stepG_region_end
  s_c stepG_ret'
  s_stop
  refine LoneTo.done ⟨.returned (.bool true), _, rfl, ⟨rfl, ?_, ?_⟩, rfl, rfl, rfl, rfl, _, Try.func17, by simp [results, Try.f17, Frame.at]⟩
  · have hq := qu_push hB h1 h2 h3 h4' h5' (h6.near (Near.of_below (S := Of none) hal)) hg (s + 1) r
    rw [List.map_append] at hq
    exact hq
  · exact (Near.of_below hal).trans (Near.setChan (S := Of (some c)) (show some c = some c from rfl) h5' rfl _ _ _ _ _ _)

theorem push_i_full (x : Int) {w : World} {B hd c cap s r : Nat} {gs : List Nat} {l : List Value} (hB : B ≤ c) (h1 : 1 ≤ cap) (h2 : cap ≤ 4096) (h3 : cap ≤ l.length) (h4 : w.cell? ⟨hd, 0, none⟩ = some (.chan (some c))) (h5 : w.heap[c]? = some (.chan cap (gs.map pt).toArray false s r false)) (h6 : Els w gs l) :
    Calls Try.prog 17 #[.pointer (some ⟨hd, 0, none⟩), .int .i64 x] w fun e w' => e = .returned (.bool false) ∧ Below w.heap.size w w' := by
  have hal : Below w.heap.size w (w.alloc (.cells #[.int .i64 x] 3)) := (Below.refl _ _).alloc (Nat.le_refl _) _
  have h4' := cell_later hal h4
  have h5' : (w.alloc (.cells #[.int .i64 x] 3)).heap[c]? = some (.chan cap (gs.map pt).toArray false s r false) := by rw [Below.heap_alloc _ _ _ (Array.getElem?_eq_some_iff.mp h5).1]; exact h5
  refine calls_of_loneTo fun cs => ?_
  have e : Frame.enter Try.prog 17 #[.pointer (some ⟨hd, 0, none⟩), .int .i64 x] .normal = (base 17).at ⟨#[.pointer (some ⟨hd, 0, none⟩), .int .i64 x, undef, undef, undef, undef, undef, undef, undef, undef], []⟩ [.code (Try.f17.body.getD .skip)] := by
    simp [Frame.enter, Frame.at, Try.func17, base, Try.f17]
  rw [e]
  refine LoneTo.goes (n := 60) ?_
  simp only [Try.f17, Option.getD_some]
  s_c stepG_seq
  s_reg
  s_op
  s_op
  s_c stepG_region_end
  s_c stepG_seq
  s_reg
  s_op
  s_call Try.func29 (by kernel_rfl) Try.f29
  s_c stepG_seq
  s_reg
  s_op
  s_c stepG_region_end
  s_c stepG_seq
  s_c stepG_seq
  s_reg
  s_op
  s_op
  s_c stepG_region_end
  s_cond false
  s_c stepG_skip
  s_c stepG_seq
  s_reg
  s_op
  s_op
  s_op
  s_op
  s_op
  s_c stepG_region_end
  s_c stepG_ret'
  s_leave1 Try.func29
  s_c stepG_region_end
  s_c stepG_seq
  s_reg
  s_stop
  refine LoneTo.step (step_lone_select_send_full (c := c) (cap := cap) (v := pt w.heap.size) (z' := .pointer none) (buf := (gs.map pt).toArray) (s := s) (r := r) (tm := false)
    (stepG_comm (cases := #[scase c (pt w.heap.size) (.pointer none)]) (blocking := false) (shape := .select) (w' := w.alloc (.cells #[.int .i64 x] 3)) rfl rfl (by decide) (by simp [go_sem, execOp, scase, Act.eval, pt]))
    h5' (by rw [buf_size, h6.len]; exact h3)) ?_
  rw [Frame.finish_at]
  walk_nrm
  refine LoneTo.goes (n := 20) ?_
  s_op
  s_op
  s_c stepG_region_end
  s_c stepG_block
  s_cond false
  s_c stepG_seq
  s_reg
  s_op
  s_c stepG_region_end
  s_c stepG_ret'
  s_stop
  exact LoneTo.done ⟨.returned (.bool false), _, rfl, ⟨rfl, hal⟩, rfl, rfl, rfl, rfl, _, Try.func17, by simp [results, Try.f17, Frame.at]⟩

theorem push_i_nil (x : Int) (w : World) :
    Calls Try.prog 17 #[.pointer none, .int .i64 x] w fun e w' => e = .returned (.bool false) ∧ Below w.heap.size w w' := by
  have hal : Below w.heap.size w (w.alloc (.cells #[.int .i64 x] 3)) := (Below.refl _ _).alloc (Nat.le_refl _) _
  refine calls_of_loneTo fun cs => ?_
  have e : Frame.enter Try.prog 17 #[.pointer none, .int .i64 x] .normal = (base 17).at ⟨#[.pointer none, .int .i64 x, undef, undef, undef, undef, undef, undef, undef, undef], []⟩ [.code (Try.f17.body.getD .skip)] := by
    simp [Frame.enter, Frame.at, Try.func17, base, Try.f17]
  rw [e]
  refine LoneTo.goes (n := 60) ?_
  simp only [Try.f17, Option.getD_some]
  s_c stepG_seq
  s_reg
  s_op
  s_op
  s_c stepG_region_end
  s_c stepG_seq
  s_reg
  s_op
  s_call Try.func29 (by kernel_rfl) Try.f29
  s_c stepG_seq
  s_reg
  s_op
  s_c stepG_region_end
  s_c stepG_seq
  s_c stepG_seq
  s_reg
  s_op
  s_op
  s_c stepG_region_end
  s_cond true
  s_c stepG_seq
  s_reg
  s_op
  s_c stepG_region_end
  s_c stepG_ret'
  s_leave1 Try.func29
  s_c stepG_region_end
  s_c stepG_seq
  s_reg
  s_stop
  refine LoneTo.step (step_lone_select_send_nil (v := pt w.heap.size) (z' := .pointer none)
    (stepG_comm (cases := #[scaseNil (pt w.heap.size) (.pointer none)]) (blocking := false) (shape := .select) (w' := w.alloc (.cells #[.int .i64 x] 3)) rfl rfl (by decide) (by simp [go_sem, execOp, scaseNil, Act.eval, pt]))) ?_
  rw [Frame.finish_at]
  walk_nrm
  refine LoneTo.goes (n := 20) ?_
  s_op
  s_op
  s_c stepG_region_end
  s_c stepG_block
  s_cond false
  s_c stepG_seq
  s_reg
  s_op
  s_c stepG_region_end
  s_c stepG_ret'
  s_stop
  exact LoneTo.done ⟨.returned (.bool false), _, rfl, ⟨rfl, hal⟩, rfl, rfl, rfl, rfl, _, Try.func17, by simp [results, Try.f17, Frame.at]⟩

theorem pop_i_some (x : Int) {w : World} {hd c cap s r g : Nat} {gs : List Nat} (h4 : w.cell? ⟨hd, 0, none⟩ = some (.chan (some c))) (h5 : w.heap[c]? = some (.chan cap ((g :: gs).map pt).toArray false s r false)) (hg : w.cell? ⟨g, 0, none⟩ = some (.int .i64 x)) :
    Calls Try.prog 15 #[.pointer (some ⟨hd, 0, none⟩)] w fun e w' => e = .returned (.tuple #[.int .i64 x, .bool true]) ∧ w' = w.setChan c cap (gs.map pt).toArray false s (r + 1) false := by
  have hn : Near (Of (some c)) w (w.setChan c cap (gs.map pt).toArray false s (r + 1) false) := Near.setChan (S := Of (some c)) (show some c = some c from rfl) h5 rfl _ _ _ _ _ _
  have hg' := hn.cell hg
  refine calls_of_loneTo fun cs => ?_
  have e : Frame.enter Try.prog 15 #[.pointer (some ⟨hd, 0, none⟩)] .normal = (base 15).at ⟨#[.pointer (some ⟨hd, 0, none⟩), undef, undef, undef, undef, undef, undef, undef, undef, undef, undef, undef, undef, undef, undef, undef], []⟩ [.code (Try.f15.body.getD .skip)] := by
    simp [Frame.enter, Frame.at, Try.func15, base, Try.f15]
  rw [e]
  refine LoneTo.goes (n := 60) ?_
  simp only [Try.f15, Option.getD_some]
  s_c stepG_seq
  s_reg
  s_op
  s_op
  s_c stepG_region_end
  s_c stepG_seq
  s_reg
  s_op
  s_call Try.func29 (by kernel_rfl) Try.f29
  s_c stepG_seq
  s_reg
  s_op
  s_c stepG_region_end
  s_c stepG_seq
  s_c stepG_seq
  s_reg
  s_op
  s_op
  s_c stepG_region_end
  s_cond false
  s_c stepG_skip
  s_c stepG_seq
  s_reg
  s_op
  s_op
  s_op
  s_op
  s_op
  s_c stepG_region_end
  s_c stepG_ret'
  s_leave1 Try.func29
  s_c stepG_region_end
  s_c stepG_seq
  s_reg
  s_stop
  refine LoneTo.step (step_lone_select_recv_buf (c := c) (cap := cap) (z := .pointer none) (buf := ((g :: gs).map pt).toArray) (closed := false) (s := s) (r := r) (tm := false)
    (stepG_comm (cases := #[rcase c (.pointer none)]) (blocking := false) (shape := .select) (w' := w) rfl rfl (by decide) (by simp [go_sem, execOp, rcase, Act.eval]))
    h5 (by simp)) ?_
  rw [buf_head, buf_tail, Frame.finish_at]
  simp only [pt]
  walk_nrm
  refine LoneTo.goes (n := 30) ?_
  s_op
  s_op
  s_c stepG_region_end
  s_c stepG_block
  s_cond true
  s_c stepG_seq
  s_reg
  s_op
  s_op
  s_c stepG_region_end
  s_c stepG_seq
  s_reg
  s_op
  s_op
  s_op
  s_op
  s_op
  s_c stepG_region_end
  s_c stepG_ret'
  s_stop
  exact LoneTo.done ⟨.returned (.tuple #[.int .i64 x, .bool true]), _, rfl, ⟨rfl, rfl⟩, rfl, rfl, rfl, rfl, _, Try.func15, by simp [results, Try.f15, Frame.at]⟩

theorem pop_i_none {w : World} {hd c cap s r : Nat} (h4 : w.cell? ⟨hd, 0, none⟩ = some (.chan (some c))) (h5 : w.heap[c]? = some (.chan cap #[] false s r false)) :
    Calls Try.prog 15 #[.pointer (some ⟨hd, 0, none⟩)] w fun e w' => e = .returned (.tuple #[.int .i64 0, .bool false]) ∧ w' = w := by
  refine calls_of_loneTo fun cs => ?_
  have e : Frame.enter Try.prog 15 #[.pointer (some ⟨hd, 0, none⟩)] .normal = (base 15).at ⟨#[.pointer (some ⟨hd, 0, none⟩), undef, undef, undef, undef, undef, undef, undef, undef, undef, undef, undef, undef, undef, undef, undef], []⟩ [.code (Try.f15.body.getD .skip)] := by
    simp [Frame.enter, Frame.at, Try.func15, base, Try.f15]
  rw [e]
  refine LoneTo.goes (n := 60) ?_
  simp only [Try.f15, Option.getD_some]
  s_c stepG_seq
  s_reg
  s_op
  s_op
  s_c stepG_region_end
  s_c stepG_seq
  s_reg
  s_op
  s_call Try.func29 (by kernel_rfl) Try.f29
  s_c stepG_seq
  s_reg
  s_op
  s_c stepG_region_end
  s_c stepG_seq
  s_c stepG_seq
  s_reg
  s_op
  s_op
  s_c stepG_region_end
  s_cond false
  s_c stepG_skip
  s_c stepG_seq
  s_reg
  s_op
  s_op
  s_op
  s_op
  s_op
  s_c stepG_region_end
  s_c stepG_ret'
  s_leave1 Try.func29
  s_c stepG_region_end
  s_c stepG_seq
  s_reg
  s_stop
  refine LoneTo.step (step_lone_select_default (c := c) (cap := cap) (z := .pointer none) (s := s) (r := r) (tm := false)
    (stepG_comm (cases := #[rcase c (.pointer none)]) (blocking := false) (shape := .select) (w' := w) rfl rfl (by decide) (by simp [go_sem, execOp, rcase, Act.eval]))
    h5) ?_
  rw [Frame.finish_at]
  walk_nrm
  refine LoneTo.goes (n := 30) ?_
  s_op
  s_op
  s_c stepG_region_end
  s_c stepG_block
  s_cond false
  s_c stepG_seq
  s_reg
  s_op
  s_c stepG_region_end
  s_c stepG_seq
  s_reg
  s_op
  s_op
  s_op
  s_c stepG_region_end
  s_c stepG_ret'
  s_stop
  exact LoneTo.done ⟨.returned (.tuple #[.int .i64 0, .bool false]), _, rfl, ⟨rfl, rfl⟩, rfl, rfl, rfl, rfl, _, Try.func15, by simp [results, Try.f15, Frame.at]⟩

theorem pop_i_nil (w : World) :
    Calls Try.prog 15 #[.pointer none] w fun e w' => e = .returned (.tuple #[.int .i64 0, .bool false]) ∧ w' = w := by
  refine calls_of_loneTo fun cs => ?_
  have e : Frame.enter Try.prog 15 #[.pointer none] .normal = (base 15).at ⟨#[.pointer none, undef, undef, undef, undef, undef, undef, undef, undef, undef, undef, undef, undef, undef, undef, undef], []⟩ [.code (Try.f15.body.getD .skip)] := by
    simp [Frame.enter, Frame.at, Try.func15, base, Try.f15]
  rw [e]
  refine LoneTo.goes (n := 60) ?_
  simp only [Try.f15, Option.getD_some]
  s_c stepG_seq
  s_reg
  s_op
  s_op
  s_c stepG_region_end
  s_c stepG_seq
  s_reg
  s_op
  s_call Try.func29 (by kernel_rfl) Try.f29
  s_c stepG_seq
  s_reg
  s_op
  s_c stepG_region_end
  s_c stepG_seq
  s_c stepG_seq
  s_reg
  s_op
  s_op
  s_c stepG_region_end
  s_cond true
  s_c stepG_seq
  s_reg
  s_op
  s_c stepG_region_end
  s_c stepG_ret'
  s_leave1 Try.func29
  s_c stepG_region_end
  s_c stepG_seq
  s_reg
  s_stop
  refine LoneTo.step (step_lone_select_recv_nil (z := .pointer none)
    (stepG_comm (cases := #[rcaseNil (.pointer none)]) (blocking := false) (shape := .select) (w' := w) rfl rfl (by decide) (by simp [go_sem, execOp, rcaseNil, Act.eval]))) ?_
  rw [Frame.finish_at]
  walk_nrm
  refine LoneTo.goes (n := 30) ?_
  s_op
  s_op
  s_c stepG_region_end
  s_c stepG_block
  s_cond false
  s_c stepG_seq
  s_reg
  s_op
  s_c stepG_region_end
  s_c stepG_seq
  s_reg
  s_op
  s_op
  s_op
  s_c stepG_region_end
  s_c stepG_ret'
  s_stop
  exact LoneTo.done ⟨.returned (.tuple #[.int .i64 0, .bool false]), _, rfl, ⟨rfl, rfl⟩, rfl, rfl, rfl, rfl, _, Try.func15, by simp [results, Try.f15, Frame.at]⟩

/-- the things behind a push -/
def pushL_i (cap : Nat) (l : List Value) (x : Int) : List Value := if l.length < cap then l ++ [.int .i64 x] else l

theorem push_i (x : Int) {w : World} {B : Nat} {q : Value} {cap : Nat} {ch : Option Nat} {l : List Value} (h : Qu w B q cap ch l) :
    Calls Try.prog 17 #[q, .int .i64 x] w fun e w' => e = .returned (.bool (decide (l.length < cap))) ∧ Qu w' B q cap ch (pushL_i cap l x) ∧ Near (Of ch) w w' := by
  have h0 := h
  rcases h with ⟨rfl, rfl, rfl, rfl⟩ | ⟨hd, c, s, r, gs, rfl, rfl, hB, h1, h2, h3, h4, h5, h6⟩
  · refine (push_i_nil x w).mono ?_
    rintro e w' ⟨rfl, hb⟩
    exact ⟨rfl, h0.below hb, Near.of_below hb⟩
  · by_cases hr : l.length < cap
    · refine (push_i_room x hB h1 h2 hr h4 h5 h6).mono ?_
      rintro e w' ⟨rfl, hq, hn⟩
      refine ⟨by simp [hr], ?_, hn⟩
      unfold pushL_i; rw [if_pos hr]; exact hq
    · refine (push_i_full x hB h1 h2 (by omega) h4 h5 h6).mono ?_
      rintro e w' ⟨rfl, hb⟩
      refine ⟨by simp [hr], ?_, Near.of_below hb⟩
      unfold pushL_i; rw [if_neg hr]; exact h0.below hb

theorem pop_i_e {w : World} {B : Nat} {q : Value} {cap : Nat} {ch : Option Nat} (h : Qu w B q cap ch []) :
    Calls Try.prog 15 #[q] w fun e w' => e = .returned (.tuple #[.int .i64 0, .bool false]) ∧ w' = w := by
  rcases h with ⟨rfl, rfl, rfl, -⟩ | ⟨hd, c, s, r, gs, rfl, rfl, hB, h1, h2, h3, h4, h5, h6⟩
  · exact pop_i_nil w
  · obtain rfl := h6.nil
    exact pop_i_none h4 h5

theorem pop_i_y (x : Int) {w : World} {B : Nat} {q : Value} {cap : Nat} {ch : Option Nat} {l : List Value} (h : Qu w B q cap ch (.int .i64 x :: l)) :
    Calls Try.prog 15 #[q] w fun e w' => e = .returned (.tuple #[.int .i64 x, .bool true]) ∧ Qu w' B q cap ch l ∧ Near (Of ch) w w' := by
  rcases h with ⟨-, -, -, h⟩ | ⟨hd, c, s, r, gs, rfl, rfl, hB, h1, h2, h3, h4, h5, h6⟩
  · cases h
  · obtain ⟨g, gs', rfl, hg, h6'⟩ := h6.cons
    refine (pop_i_some x h4 h5 hg).mono ?_
    rintro e w' ⟨rfl, rfl⟩
    exact ⟨rfl, qu_pop hB h1 h2 (by simpa using h3) h4 h5 h6' s (r + 1), Near.setChan (S := Of (some c)) (show some c = some c from rfl) h5 rfl _ _ _ _ _ _⟩

theorem len_i {w : World} {B : Nat} {q : Value} {cap : Nat} {ch : Option Nat} {l : List Value} (h : Qu w B q cap ch l) :
    Calls Try.prog 18 #[q] w fun e w' => w' = w ∧ e = .returned (.int .i64 l.length) := by
  have hc := channel_i h
  rcases h with ⟨rfl, rfl, rfl, rfl⟩ | ⟨hd, c, s, r, gs, rfl, rfl, hB, h1, h2, h3, h4, h5, h6⟩
  · have hlen := fun ty => run_len_nilchan (P := Try.prog) (w := w) 54 ty Try.underlying54
    simp only [goInt] at hlen
    go_enter Try.func18, Try.ntmps18
    go_wp2_with (first | (go_at_call 29; refine hc.mono ?_; rintro e w' ⟨hw, rfl⟩; obtain rfl := hw.symm))
    go_ret
    exact ⟨rfl, rfl⟩
  · have hlen := fun ty => run_len_chan (P := Try.prog) 54 ty Try.underlying54 h5
    have hsz : ((gs.map pt).toArray.size : Int) = (l.length : Int) := by rw [buf_size, h6.len]
    simp only [goInt, hsz] at hlen
    go_enter Try.func18, Try.ntmps18
    go_wp2_with (first | (go_at_call 29; refine hc.mono ?_; rintro e w' ⟨hw, rfl⟩; obtain rfl := hw.symm))
    go_ret
    exact ⟨rfl, rfl⟩

theorem room_i {w : World} {B : Nat} {q : Value} {cap : Nat} {ch : Option Nat} {l : List Value} (h : Qu w B q cap ch l) :
    Calls Try.prog 19 #[q] w fun e w' => w' = w ∧ e = .returned (.int .i64 ((cap : Int) - l.length)) := by
  have hc := channel_i h
  rcases h with ⟨rfl, rfl, rfl, rfl⟩ | ⟨hd, c, s, r, gs, rfl, rfl, hB, h1, h2, h3, h4, h5, h6⟩
  · have hlen := fun ty => run_len_nilchan (P := Try.prog) (w := w) 54 ty Try.underlying54
    have hcap := fun ty => run_cap_nilchan (P := Try.prog) (w := w) 54 ty Try.underlying54
    simp only [goInt] at hlen hcap
    go_enter Try.func19, Try.ntmps19
    go_wp2_with (first | (go_at_call 29; refine hc.mono ?_; rintro e w' ⟨hw, rfl⟩; obtain rfl := hw.symm))
    go_ret
    exact ⟨rfl, rfl⟩
  · have hlen := fun ty => run_len_chan (P := Try.prog) 54 ty Try.underlying54 h5
    have hcap := fun ty => run_cap_chan (P := Try.prog) 54 ty Try.underlying54 h5
    have hsz : ((gs.map pt).toArray.size : Int) = (l.length : Int) := by rw [buf_size, h6.len]
    simp only [goInt, hsz] at hlen hcap
    go_enter Try.func19, Try.ntmps19
    go_wp2_with (first | (go_at_call 29; refine hc.mono ?_; rintro e w' ⟨hw, rfl⟩; obtain rfl := hw.symm))
    go_ret
    exact ⟨rfl, rfl⟩

theorem pinfo_i : (Try.prog.info? 71).map (·.bytes) = some 8 := by kernel_rfl

theorem new_i (a : Int) (w : World) :
    Calls Try.prog 7 #[.int .i64 a] w fun e w' => (∃ q, e = .returned q ∧ ∃ ch, Qu w' w.heap.size q (roomC a) ch [] ∧ (∀ k, ch = some k → k < w'.heap.size)) ∧ Below w.heap.size w w' := by
  obtain ⟨i, hi, hb⟩ := Option.map_eq_some_iff.1 pinfo_i
  by_cases ha : 1 ≤ a ∧ a ≤ 4096
  · have hR : Hid (roomC a = a.toNat) := hid (by unfold roomC; rw [if_pos ha])
    obtain ⟨n, hn⟩ : ∃ n : Nat, a = n := ⟨a.toNat, by omega⟩
    subst hn
    have hmk := fun w => run_makeChan (P := Try.prog) (w := w) Try.underlying54 hi .i64 n (by omega) (by rw [hb]; omega)
    have g1 : ¬ (n : Int) < 1 := by omega
    have g2 : ¬ 4096 < (n : Int) := by omega
    go_enter Try.func7, Try.ntmps7
    go_wp2
    go_ret
    have hce := cell_one_new (w.alloc (.chan n #[] false 0 0 false)) (.chan (some w.heap.size)) 56 0 _ rfl
    simp only [World.size_alloc] at hce
    refine ⟨⟨_, rfl, some w.heap.size, .inr ⟨w.heap.size + 1, w.heap.size, 0, 0, [], rfl, rfl, Nat.le_refl _, ?_, ?_, ?_, hce, ?_, trivial⟩, fun k e => by cases e; simp; omega⟩, ((Below.refl _ _).alloc (Nat.le_refl _) _).alloc (by simp) _⟩
    · rw [hR.out]; omega
    · rw [hR.out]; omega
    · simp
    · rw [Below.heap_alloc _ _ _ (by simp), hR.out]
      exact heap_alloc_new _ _
  · have hR : Hid (roomC a = 0) := hid (by unfold roomC; rw [if_neg ha])
    by_cases g1 : a < 1
    · go_enter Try.func7, Try.ntmps7
      go_wp2
      go_ret
      refine ⟨⟨_, rfl, none, ?_, fun k e => by cases e⟩, Below.refl _ _⟩
      rw [hR.out]; exact .inl ⟨rfl, rfl, rfl, rfl⟩
    · have g2 : 4096 < a := by omega
      go_enter Try.func7, Try.ntmps7
      go_wp2
      go_ret
      refine ⟨⟨_, rfl, none, ?_, fun k e => by cases e⟩, Below.refl _ _⟩
      rw [hR.out]; exact .inl ⟨rfl, rfl, rfl, rfl⟩

end Go.Proofs.Ytekacaocijfepaa
