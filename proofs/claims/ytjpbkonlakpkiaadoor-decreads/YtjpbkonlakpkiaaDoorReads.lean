/-
  The statement on reading: its walk.
  Conditions: the package variables that the library reads hold what the program's text lays.
-/
import Derived.Test.YtjpbkonlakpkiaaDoorRtm
import Derived.Test.YtjpbkonlakpkiaaDoorLive
namespace Go.Proofs.YtjpbkonlakpkiaaDoor
open Go.ChangeShapes Go.WideShapes Go.ChangeAt Go.RowKit Go.Lib Go.Sort

theorem time_res (l : List UInt8) : timeOf l = resOf (decide (l.head? = some 45)) (valueOf (if l.head? = some 45 then l.tail else l)) := by
  unfold timeOf resOf
  cases valueOf (if l.head? = some 45 then l.tail else l) with
  | none => rfl
  | some q => obtain ⟨u, p⟩ := q; simp only [decide_eq_true_eq]

theorem rtime_ok (s : ByteArray) (hs : s.size ≤ 281474976710656) (w : World) (a b : Int) (ok : Bool)
    (h : timeOf (bs s) = some (a, b) ∧ ok = true ∨ timeOf (bs s) = none ∧ a = 0 ∧ b = 0 ∧ ok = false) :
    Calls Tryd.prog 10 #[.string s] w fun e w' => e = .returned (.tuple #[.agg #[.int .i64 a, .int .i64 b], .bool ok]) ∧ Below w.heap.size w w' := by
  rw [time_res] at h
  by_cases hm : (bs s).head? = some 45
  · rw [if_pos hm, decide_eq_true hm] at h
    exact rtime_m s hs hm w a b ok (hid h)
  · rw [if_neg hm, decide_eq_false hm] at h
    exact rtime_p s hs hm w a b ok (hid h)

/-- Two blocks of the law's own, each behind calls. -/
theorem two_boxes {w1 w2 w3 : World} {t : TypeId} {a b c d : Int} (h2 : Below (w1.alloc (Obj.cells #[.int .i64 a, .int .i64 b] t)).heap.size (w1.alloc (Obj.cells #[.int .i64 a, .int .i64 b] t)) w2)
    (h3 : Below (w2.alloc (Obj.cells #[.int .i64 c, .int .i64 d] t)).heap.size (w2.alloc (Obj.cells #[.int .i64 c, .int .i64 d] t)) w3) :
    w3.cell? ⟨w1.heap.size, 0, none⟩ = some (.int .i64 a) ∧ w3.cell? ⟨w1.heap.size, 1, none⟩ = some (.int .i64 b) ∧ w3.cell? ⟨w2.heap.size, 0, none⟩ = some (.int .i64 c) ∧ w3.cell? ⟨w2.heap.size, 1, none⟩ = some (.int .i64 d) := by
  have h23 : Below (w1.alloc (Obj.cells #[.int .i64 a, .int .i64 b] t)).heap.size (w1.alloc (Obj.cells #[.int .i64 a, .int .i64 b] t)) w3 := h2.trans (((below_alloc w2 _).trans (h3.mono (by simp))).mono h2.size)
  obtain ⟨_, q0, q1, _⟩ := boxed h23
  obtain ⟨_, p0, p1, _⟩ := boxed h3
  exact ⟨q0, q1, p0, p1⟩

set_option maxHeartbeats 16000000 in
set_option maxRecDepth 20000 in
theorem reads_main (s : ByteArray) (hs : s.size ≤ 1000) (w : World) (hL : Laid w) (r a b c ct : Int) (ok okt : Bool)
    (hnum : ∀ w, Laid w → Calls Tryd.prog 7 #[.string s] w fun e w' => e = .returned (.tuple #[.int .i64 r, .int .u8 c]) ∧ Below w.heap.size w w')
    (htim : ∀ w, Laid w → Calls Tryd.prog 8 #[.string s] w fun e w' => e = .returned (.tuple #[.agg #[.int .i64 a, .int .i64 b], .int .u8 ct]) ∧ Below w.heap.size w w')
    (hrnum : ∀ w, Calls Tryd.prog 9 #[.string s] w fun e w' => e = .returned (.tuple #[.int .i64 r, .bool ok]) ∧ w' = w)
    (hrtim : ∀ w, Calls Tryd.prog 10 #[.string s] w fun e w' => e = .returned (.tuple #[.agg #[.int .i64 a, .int .i64 b], .bool okt]) ∧ Below w.heap.size w w')
    (hc0 : 0 ≤ c) (hc1 : c ≤ 255) (ht0 : 0 ≤ ct) (ht1 : ct ≤ 255)
    (hf1 : ∀ w, Calls Tryd.prog 11 #[.int .i64 c, .bool ok] w fun e w' => e = .returned (.bool true) ∧ w' = w)
    (hf2 : ∀ w, Calls Tryd.prog 11 #[.int .i64 ct, .bool okt] w fun e w' => e = .returned (.bool true) ∧ w' = w) :
    Calls Tryd.prog 3 #[.string s] w fun e w' => e = .returned (.bool true) ∧ Below w.heap.size w w' := by
  have hal := alive_ok w hL
  have hsi : ¬ (1000 : Int) < s.size := by omega
  clear hs
  go_enter Tryd.func3, Tryd.ntmps3
  go_wp2_with (first
    | (go_at_call 6; refine hal.mono ?_; rintro e w1 ⟨rfl, hacc⟩)
    | (go_at_call 7; refine (hnum _ (hL.below hacc)).mono ?_; rintro e w2 ⟨rfl, hb2⟩; replace hacc := hacc.trans (hb2.mono hacc.size); clear hb2)
    | (go_at_call 8; refine (htim _ (hL.below hacc)).mono ?_; rintro e w3 ⟨rfl, hb3⟩; replace hacc := hacc.trans (hb3.mono hacc.size); clear hb3)
    | (go_at_call 9; refine (hrnum _).mono ?_; rintro e w' ⟨rfl, hw⟩; obtain rfl := hw.symm)
    | (go_at_call 10; refine (hrtim _).mono ?_; rintro e w4 ⟨rfl, hb4⟩; obtain ⟨hlt, q0, q1, hB4⟩ := boxed hb4; replace hacc := hacc.trans (hB4.mono hacc.size))
    | (go_at_call 11; refine (hf1 _).mono ?_; rintro e w' ⟨rfl, rfl⟩; clear hf1)
    | (go_at_call 11; refine (hf2 _).mono ?_; rintro e w' ⟨rfl, rfl⟩; clear hf2))
  go_ret
  exact ⟨rfl, hacc.alloc hacc.size _⟩

/-- The statement's walk. -/
theorem reads_walk (s : ByteArray) (w : World) (hL : Laid w) :
    Calls Tryd.prog 3 #[.string s] w fun e w' => e = .returned (.bool true) ∧ Below w.heap.size w w' := by
  by_cases hs : s.size ≤ 1000
  · obtain ⟨a, b, okt, ht⟩ : ∃ a b okt, timeOf (bs s) = some (a, b) ∧ okt = true ∨ timeOf (bs s) = none ∧ a = 0 ∧ b = 0 ∧ okt = false := by
      cases h : timeOf (bs s) with
      | none => exact ⟨0, 0, false, Or.inr ⟨rfl, rfl, rfl, rfl⟩⟩
      | some q => exact ⟨q.1, q.2, true, Or.inl ⟨rfl, rfl⟩⟩
    have hct : timeOf (bs s) = some (a, b) ∧ (if okt then (0 : Int) else 15) = 0 ∨ timeOf (bs s) = none ∧ a = 0 ∧ b = 0 ∧ (if okt then (0 : Int) else 15) = 15 := by
      obtain ⟨h, rfl⟩ | ⟨h, h1, h2, rfl⟩ := ht
      · exact Or.inl ⟨h, rfl⟩
      · exact Or.inr ⟨h, h1, h2, rfl⟩
    obtain ⟨ok, hok⟩ : ∃ ok : Bool, ok = match nat63 (bs s) with | some u => decide (u ≤ 9223372036854775807) | none => false := ⟨_, rfl⟩
    have hc : (if ok then (0 : Int) else 15) = match nat63 (bs s) with | some u => if u ≤ 9223372036854775807 then 0 else 15 | none => 15 := by
      rw [hok]
      cases nat63 (bs s) with
      | none => rfl
      | some u => by_cases hu : u ≤ 9223372036854775807 <;> simp [hu]
    have hb : ∀ x : Bool, 0 ≤ (if x then (0 : Int) else 15) ∧ (if x then (0 : Int) else 15) ≤ 255 := by intro x; cases x <;> decide
    exact reads_main s hs w hL _ a b _ _ ok okt (fun w hL => number_ok s (by omega) w hL _ _ rfl hc) (fun w hL => time_ok s (by omega) w hL a b _ hct)
      (fun w => rnumber_ok s (by omega) w _ ok rfl hok) (fun w => rtime_ok s (by omega) w a b okt ht) (hb ok).1 (hb ok).2 (hb okt).1 (hb okt).2
      (fun w => form_ok _ ok rfl w) (fun w => form_ok _ okt rfl w)
  · have hal := alive_ok w hL
    have hsi : (1000 : Int) < s.size := by omega
    clear hs
    go_enter Tryd.func3, Tryd.ntmps3
    go_wp2_with (go_at_call 6; refine hal.mono ?_; rintro e w1 ⟨rfl, hacc⟩)
    go_ret
    exact ⟨rfl, hacc⟩
end Go.Proofs.YtjpbkonlakpkiaaDoor
