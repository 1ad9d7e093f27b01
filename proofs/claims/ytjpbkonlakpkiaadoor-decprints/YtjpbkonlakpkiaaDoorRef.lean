/-
  The document's own answers for numbers: what they are.
  Conditions: those that each theorem names.
-/
import Derived.Test.YtjpbkonlakpkiaaDoorPrn
namespace Go.Proofs.YtjpbkonlakpkiaaDoor
open Go.ChangeShapes Go.WideShapes Go.ChangeAt Go.RowKit Go.Lib Go.Sort

theorem conv_one (b d : Nat) (hd : d < 10) (W : World) (hW : W.cell? ⟨b, 0, none⟩ = some (.int .u8 (48 + (d : Int)))) :
    (convert 63 9 (.slice (some ⟨b, 0, none⟩) 1 1)).run Tryd.prog W = .ok (.string (txt [UInt8.ofNat (48 + d)])) W := by
  have h := run_convert_bytes_back (P := Tryd.prog) W 63 9 5 ⟨b, 0, none⟩ 1 [UInt8.ofNat (48 + d)] (by kernel_rfl) (by kernel_rfl) (by kernel_rfl) (fun j hj => by
    obtain rfl : j = 0 := by simpa using hj
    rw [Lib.add_plain]
    simp only [List.getElem_cons_zero, dig_nat hd]
    exact hW.trans (by simp))
  exact h

set_option maxHeartbeats 4000000 in
set_option maxRecDepth 20000 in
theorem digits_lt (n : Nat) (h : n < 10) (w : World) :
    Calls Tryd.prog 28 #[.int .i64 n] w fun e w' => e = .returned (.string (txt (decDigits n))) ∧ Below w.heap.size w w' := by
  have hi : (n : Int) < 10 := by omega
  have hu : IntKind.u8.wrap (48 + (n : Int)) = 48 + n := by simp [IntKind.wrap, IntKind.bits, IntKind.signed]; omega
  have hc := conv_one w.heap.size n h
  rw [dec_lt h]
  generalize txt [UInt8.ofNat (48 + n)] = E at *
  clear h
  go_enter Tryd.func28, Tryd.ntmps28
  go_wp2
  go_ret
  exact ⟨rfl, below_alloc _ _⟩

theorem lit_cell {w w1 : World} {v : Int} {t : TypeId} (hb : Below (w.alloc (.cells #[.int .u8 v] t)).drew.heap.size (w.alloc (.cells #[.int .u8 v] t)).drew w1) : w1.cell? ⟨w.heap.size, 0, none⟩ = some (.int .u8 v) :=
  (hb.cell (p := ⟨w.heap.size, 0, none⟩) (by simp)).trans (by simp)

set_option maxHeartbeats 8000000 in
set_option maxRecDepth 20000 in
theorem digits_ge (n : Nat) (h : ¬ n < 10) (hn : n ≤ 9223372036854775807) (ih : ∀ w, Calls Tryd.prog 28 #[.int .i64 (n / 10 : Nat)] w fun e w' => e = .returned (.string (txt (decDigits (n / 10)))) ∧ Below w.heap.size w w') (w : World) :
    Calls Tryd.prog 28 #[.int .i64 n] w fun e w' => e = .returned (.string (txt (decDigits n))) ∧ Below w.heap.size w w' := by
  have hi : ¬ (n : Int) < 10 := by omega
  obtain ⟨q, hq⟩ : ∃ q, q = n / 10 := ⟨_, rfl⟩
  obtain ⟨r, hr⟩ : ∃ r, r = n % 10 := ⟨_, rfl⟩
  have hu : IntKind.u8.wrap (48 + (r : Int)) = 48 + r := by simp [IntKind.wrap, IntKind.bits, IntKind.signed]; omega
  have hc := fun b => conv_one b r (by omega)
  have hs := dec_size q (by omega)
  have hcat : ¬ 9223372036854775807 < (txt (decDigits q)).size + (txt [UInt8.ofNat (48 + r)]).size := by rw [txt_size, txt_size] at *; simp; omega
  have e1 : (n : Int).tdiv 10 = (q : Int) := by rw [hq]; rfl
  have e2 : (n : Int).tmod 10 = (r : Int) := by rw [hr]; rfl
  have e3 : (n : Int) / 10 = (q : Int) := by omega
  have e4 : (n : Int) % 10 = (r : Int) := by omega
  have w1 : IntKind.i64.wrap (q : Int) = q := by rw [IntKind.wrap_i64]; omega
  have w2 : IntKind.i64.wrap (r : Int) = r := by rw [IntKind.wrap_i64]; omega
  have w3 : IntKind.i64.wrap (48 + (r : Int)) = 48 + r := by rw [IntKind.wrap_i64]; omega
  rw [dec_ge h, ← txt_app]
  rw [← hq, ← hr]
  rw [← hq] at ih
  generalize txt (decDigits q) = D at *
  generalize txt [UInt8.ofNat (48 + r)] = E at *
  have E1 := hid e1
  have E2 := hid e2
  clear h hs hq hr e1
  go_enter Tryd.func28, Tryd.ntmps28
  go_wp2
  go_region_with (first | (go_at_call 28; refine (ih _).mono ?_; rintro e w1 ⟨rfl, hb1⟩; first | have q0 := lit_cell hb1 | skip))
  all_goals go_wp2
  all_goals go_ret
  · exact ⟨rfl, ((Below.refl _ w).drew.trans hb1).alloc hb1.size _⟩
  · exact ⟨rfl, (below_alloc w _).drew.trans (hb1.mono (by simp))⟩
  · exact ⟨rfl, (below_alloc w _).drew.trans (hb1.mono (by simp))⟩

/-- Digits, of a number from 0 on. -/
theorem digits_ok : ∀ (n : Nat), n ≤ 9223372036854775807 → ∀ w, Calls Tryd.prog 28 #[.int .i64 n] w fun e w' => e = .returned (.string (txt (decDigits n))) ∧ Below w.heap.size w w' := by
  intro n
  induction n using Nat.strongRecOn with
  | _ n ih =>
    intro hn w
    by_cases h : n < 10
    · exact digits_lt n h w
    · exact digits_ge n h hn (ih (n / 10) (by omega) (by omega)) w

set_option maxHeartbeats 4000000 in
set_option maxRecDepth 20000 in
/-- Text. -/
theorem rtext_ok (n : Int) (h0 : -9223372036854775808 ≤ n) (h1 : n ≤ 9223372036854775807) (w : World) :
    Calls Tryd.prog 14 #[.int .i64 n] w fun e w' => e = .returned (.string (txt (signOf n ++ decDigits n.natAbs))) ∧ Below w.heap.size w w' := by
  by_cases hp : 0 ≤ n
  · obtain ⟨u, rfl⟩ : ∃ u : Nat, n = u := ⟨n.toNat, by omega⟩
    have hd := digits_ok u (by omega) w
    have e : signOf (u : Int) ++ decDigits (u : Int).natAbs = decDigits u := by unfold signOf; rw [if_neg (by omega)]; simp
    rw [e]
    clear e
    go_enter Tryd.func14, Tryd.ntmps14
    go_wp2_with (go_at_call 28; refine hd.mono ?_; rintro e w1 ⟨rfl, hb1⟩)
    go_ret
    exact ⟨rfl, hb1⟩
  · obtain ⟨u, hu⟩ : ∃ u : Nat, n = -(u : Int) := ⟨n.natAbs, by omega⟩
    have e : signOf n ++ decDigits n.natAbs = 45 :: decDigits u := by
      unfold signOf
      rw [if_pos (by omega), show n.natAbs = u by omega]
      rfl
    rw [e]
    clear e
    by_cases hs : -10 < n
    · have hd := digits_ok u (by omega) w
      have hw : IntKind.i64.wrap (-n) = u := by rw [IntKind.wrap_i64]; omega
      have hsz := dec_size u (by omega)
      have hcat : ¬ 9223372036854775807 < 1 + (txt (decDigits u)).size := by omega
      have hr : ({ data := #[45] } : ByteArray) ++ txt (decDigits u) = txt (45 :: decDigits u) := txt_app [45] _
      rw [← hr]
      generalize txt (decDigits u) = D at *
      clear hu hsz hr
      go_enter Tryd.func14, Tryd.ntmps14
      go_wp2_with (go_at_call 28; refine hd.mono ?_; rintro e w1 ⟨rfl, hb1⟩)
      go_ret
      exact ⟨rfl, hb1⟩
    · have hd1 := digits_ok (u / 10) (by omega) w
      have hd2 := fun w => digits_ok (u % 10) (by omega) w
      have e1 : n.tdiv 10 = -((u / 10 : Nat) : Int) := by rw [hu, Int.neg_tdiv]; rfl
      have e2 : n.tmod 10 = -((u % 10 : Nat) : Int) := by rw [hu, Int.neg_tmod]; rfl
      have hs1 := dec_size (u / 10) (by omega)
      have hs2 := dec_size (u % 10) (by omega)
      have hr : ({ data := #[45] } : ByteArray) ++ txt (decDigits (u / 10)) ++ txt (decDigits (u % 10)) = txt (45 :: decDigits u) := by
        have := txt_app [45] (decDigits (u / 10))
        rw [show ({ data := #[45] } : ByteArray) ++ txt (decDigits (u / 10)) = _ from this, txt_app, dec_ge (u := u) (by omega), dec_lt (u := u % 10) (by omega)]
        rfl
      rw [← hr]
      have hq10 : u / 10 ≤ 922337203685477580 := by omega
      have hr10 : u % 10 < 10 := by omega
      generalize hq : u / 10 = q at *
      generalize hrr : u % 10 = r at *
      have w0 : IntKind.i64.wrap (-(q : Int)) = -(q : Int) := by rw [IntKind.wrap_i64]; omega
      have w1 : IntKind.i64.wrap ((q : Int)) = q := by rw [IntKind.wrap_i64]; omega
      have w3 : IntKind.i64.wrap ((r : Int)) = r := by rw [IntKind.wrap_i64]; omega
      have hcat : ¬ 9223372036854775807 < 1 + (txt (decDigits q)).size := by omega
      have hcat2 : ¬ 9223372036854775807 < 1 + (txt (decDigits q)).size + (txt (decDigits r)).size := by omega
      generalize txt (decDigits q) = D at *
      generalize txt (decDigits r) = R at *
      clear hu hs1 hs2 hr hq10 hr10 hq hrr
      go_enter Tryd.func14, Tryd.ntmps14
      go_wp2_with (first
        | (go_at_call 28; refine hd1.mono ?_; rintro e w1 ⟨rfl, hb1⟩; clear hd1)
        | (go_at_call 28; refine (hd2 _).mono ?_; rintro e w2 ⟨rfl, hb2⟩; clear hd2))
      go_ret
      exact ⟨rfl, hb1.trans (hb2.mono hb1.size)⟩
end Go.Proofs.YtjpbkonlakpkiaaDoor
