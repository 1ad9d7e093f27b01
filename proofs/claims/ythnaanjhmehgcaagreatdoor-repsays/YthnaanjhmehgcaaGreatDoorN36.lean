/-
  The document's own answers for numbers: what they are.
  Conditions: those that each theorem names.; AND WHAT FOLLOWS OF IT. Conditions: those that each part names.
-/
import Derived.Test.YthnaanjhmehgcaaGreatDoorN05
import Derived.Test.YthnaanjhmehgcaaGreatDoorN35
import Derived.Test.YthnaanjhmehgcaaGreatDoorN18
/-
  The document's own answers for numbers: what they are.
  Conditions: those that each theorem names.
-/
namespace Go.Proofs.YthnaanjhmehgcaaGreatDoor
open Go.ChangeShapes Go.WideShapes Go.ChangeAt Go.RowKit Go.Lib Go.Sort

theorem conv_one (b d : Nat) (hd : d < 10) (W : World) (hW : W.cell? ⟨b, 0, none⟩ = some (.int .u8 (48 + (d : Int)))) :
    (convert 56 9 (.slice (some ⟨b, 0, none⟩) 1 1)).run Tryz.prog W = .ok (.string (txt [UInt8.ofNat (48 + d)])) W := by
  have h := run_convert_bytes_back (P := Tryz.prog) W 56 9 5 ⟨b, 0, none⟩ 1 [UInt8.ofNat (48 + d)] (by kernel_rfl) (by kernel_rfl) (by kernel_rfl) (fun j hj => by
    obtain rfl : j = 0 := by simpa using hj
    rw [Lib.add_plain]
    simp only [List.getElem_cons_zero, dig_nat hd]
    exact hW.trans (by simp))
  exact h

set_option maxHeartbeats 4000000 in
set_option maxRecDepth 20000 in
theorem digits_lt (n : Nat) (h : n < 10) (w : World) :
    Calls Tryz.prog 74 #[.int .i64 n] w fun e w' => e = .returned (.string (txt (decDigits n))) ∧ Below w.heap.size w w' := by
  have hi : (n : Int) < 10 := by omega
  have hu : IntKind.u8.wrap (48 + (n : Int)) = 48 + n := by simp [IntKind.wrap, IntKind.bits, IntKind.signed]; omega
  have hc := conv_one w.heap.size n h
  rw [dec_lt h]
  generalize txt [UInt8.ofNat (48 + n)] = E at *
  clear h
  go_enter Tryz.func74, Tryz.ntmps74
  go_wp2
  go_ret
  exact ⟨rfl, below_alloc _ _⟩

theorem lit_cell {w w1 : World} {v : Int} {t : TypeId} (hb : Below (w.alloc (.cells #[.int .u8 v] t)).drew.heap.size (w.alloc (.cells #[.int .u8 v] t)).drew w1) : w1.cell? ⟨w.heap.size, 0, none⟩ = some (.int .u8 v) :=
  (hb.cell (p := ⟨w.heap.size, 0, none⟩) (by simp)).trans (by simp)

set_option maxHeartbeats 8000000 in
set_option maxRecDepth 20000 in
theorem digits_ge (n : Nat) (h : ¬ n < 10) (hn : n ≤ 9223372036854775807) (ih : ∀ w, Calls Tryz.prog 74 #[.int .i64 (n / 10 : Nat)] w fun e w' => e = .returned (.string (txt (decDigits (n / 10)))) ∧ Below w.heap.size w w') (w : World) :
    Calls Tryz.prog 74 #[.int .i64 n] w fun e w' => e = .returned (.string (txt (decDigits n))) ∧ Below w.heap.size w w' := by
  have hi : ¬ (n : Int) < 10 := by omega
  obtain ⟨q, hq⟩ : ∃ q, q = n / 10 := ⟨_, rfl⟩
  obtain ⟨r, hr⟩ : ∃ r, r = n % 10 := ⟨_, rfl⟩
  have hu : IntKind.u8.wrap (48 + (r : Int)) = 48 + r := by simp [IntKind.wrap, IntKind.bits, IntKind.signed]; omega
  have hc := fun b => conv_one b r (by omega)
  have hs := dec_size q (by omega)
  have hcat : ¬ 9223372036854775807 < (txt (decDigits q)).size + (txt [UInt8.ofNat (48 + r)]).size := by rw [txt_size, txt_size] at *; simp; omega
  have e1 : (n : Int).tdiv 10 = (q : Int) := by rw [hq]; rfl
  have e2 : (n : Int).tmod 10 = (r : Int) := by rw [hr]; rfl
  have e3 : (n : Int) / 10 = (q : Int) := by omega
  have e4 : (n : Int) % 10 = (r : Int) := by omega
  have w1 : IntKind.i64.wrap (q : Int) = q := by rw [IntKind.wrap_i64]; omega
  have w2 : IntKind.i64.wrap (r : Int) = r := by rw [IntKind.wrap_i64]; omega
  have w3 : IntKind.i64.wrap (48 + (r : Int)) = 48 + r := by rw [IntKind.wrap_i64]; omega
  rw [dec_ge h, ← txt_app]
  rw [← hq, ← hr]
  rw [← hq] at ih
  generalize txt (decDigits q) = D at *
  generalize txt [UInt8.ofNat (48 + r)] = E at *
  have E1 := hid e1
  have E2 := hid e2
  clear h hs hq hr e1
  go_enter Tryz.func74, Tryz.ntmps74
  go_wp2
  go_region_with (first | (go_at_call 74; refine (ih _).mono ?_; rintro e w1 ⟨rfl, hb1⟩; first | have q0 := lit_cell hb1 | skip))
  all_goals go_wp2
  all_goals go_ret
  · exact ⟨rfl, ((Below.refl _ w).drew.trans hb1).alloc hb1.size _⟩
  · exact ⟨rfl, (below_alloc w _).drew.trans (hb1.mono (by simp))⟩
  · exact ⟨rfl, (below_alloc w _).drew.trans (hb1.mono (by simp))⟩

/-- Digits, of a number from 0 on. -/
theorem digits_ok : ∀ (n : Nat), n ≤ 9223372036854775807 → ∀ w, Calls Tryz.prog 74 #[.int .i64 n] w fun e w' => e = .returned (.string (txt (decDigits n))) ∧ Below w.heap.size w w' := by
  intro n
  induction n using Nat.strongRecOn with
  | _ n ih =>
    intro hn w
    by_cases h : n < 10
    · exact digits_lt n h w
    · exact digits_ge n h hn (ih (n / 10) (by omega) (by omega)) w

end Go.Proofs.YthnaanjhmehgcaaGreatDoor

/-
  The document's own texts of numbers and of right times.
  Conditions: numbers of 64 bits.
-/
namespace Go.Proofs.YthnaanjhmehgcaaGreatDoor
open Go.ChangeShapes Go.WideShapes Go.ChangeAt Go.RowKit Go.Lib Go.Sort
set_option linter.unusedVariables false
set_option linter.unusedSimpArgs false

set_option maxHeartbeats 4000000 in
set_option maxRecDepth 20000 in
/-- Text. -/
theorem rtext_ok (n : Int) (h0 : -9223372036854775808 ≤ n) (h1 : n ≤ 9223372036854775807) (w : World) :
    Calls Tryz.prog 40 #[.int .i64 n] w fun e w' => e = .returned (.string (txt (signOf n ++ decDigits n.natAbs))) ∧ Below w.heap.size w w' := by
  by_cases hp : 0 ≤ n
  · obtain ⟨u, rfl⟩ : ∃ u : Nat, n = u := ⟨n.toNat, by omega⟩
    have hd := digits_ok u (by omega) w
    have e : signOf (u : Int) ++ decDigits (u : Int).natAbs = decDigits u := by unfold signOf; rw [if_neg (by omega)]; simp
    rw [e]
    clear e
    go_enter Tryz.func40, Tryz.ntmps40
    go_wp2_with (go_at_call 74; refine hd.mono ?_; rintro e w1 ⟨rfl, hb1⟩)
    go_ret
    exact ⟨rfl, hb1⟩
  · obtain ⟨u, hu⟩ : ∃ u : Nat, n = -(u : Int) := ⟨n.natAbs, by omega⟩
    have e : signOf n ++ decDigits n.natAbs = 45 :: decDigits u := by
      unfold signOf
      rw [if_pos (by omega), show n.natAbs = u by omega]
      rfl
    rw [e]
    clear e
    by_cases hs : -10 < n
    · have hd := digits_ok u (by omega) w
      have hw : IntKind.i64.wrap (-n) = u := by rw [IntKind.wrap_i64]; omega
      have hsz := dec_size u (by omega)
      have hcat : ¬ 9223372036854775807 < 1 + (txt (decDigits u)).size := by omega
      have hr : ({ data := #[45] } : ByteArray) ++ txt (decDigits u) = txt (45 :: decDigits u) := txt_app [45] _
      rw [← hr]
      generalize txt (decDigits u) = D at *
      clear hu hsz hr
      go_enter Tryz.func40, Tryz.ntmps40
      go_wp2_with (go_at_call 74; refine hd.mono ?_; rintro e w1 ⟨rfl, hb1⟩)
      go_ret
      exact ⟨rfl, hb1⟩
    · have hd1 := digits_ok (u / 10) (by omega) w
      have hd2 := fun w => digits_ok (u % 10) (by omega) w
      have e1 : n.tdiv 10 = -((u / 10 : Nat) : Int) := by rw [hu, Int.neg_tdiv]; rfl
      have e2 : n.tmod 10 = -((u % 10 : Nat) : Int) := by rw [hu, Int.neg_tmod]; rfl
      have hs1 := dec_size (u / 10) (by omega)
      have hs2 := dec_size (u % 10) (by omega)
      have hr : ({ data := #[45] } : ByteArray) ++ txt (decDigits (u / 10)) ++ txt (decDigits (u % 10)) = txt (45 :: decDigits u) := by
        have := txt_app [45] (decDigits (u / 10))
        rw [show ({ data := #[45] } : ByteArray) ++ txt (decDigits (u / 10)) = _ from this, txt_app, dec_ge (u := u) (by omega), dec_lt (u := u % 10) (by omega)]
        rfl
      rw [← hr]
      have hq10 : u / 10 ≤ 922337203685477580 := by omega
      have hr10 : u % 10 < 10 := by omega
      generalize hq : u / 10 = q at *
      generalize hrr : u % 10 = r at *
      have w0 : IntKind.i64.wrap (-(q : Int)) = -(q : Int) := by rw [IntKind.wrap_i64]; omega
      have w1 : IntKind.i64.wrap ((q : Int)) = q := by rw [IntKind.wrap_i64]; omega
      have w3 : IntKind.i64.wrap ((r : Int)) = r := by rw [IntKind.wrap_i64]; omega
      have hcat : ¬ 9223372036854775807 < 1 + (txt (decDigits q)).size := by omega
      have hcat2 : ¬ 9223372036854775807 < 1 + (txt (decDigits q)).size + (txt (decDigits r)).size := by omega
      generalize txt (decDigits q) = D at *
      generalize txt (decDigits r) = R at *
      clear hu hs1 hs2 hr hq10 hr10 hq hrr
      go_enter Tryz.func40, Tryz.ntmps40
      go_wp2_with (first
        | (go_at_call 74; refine hd1.mono ?_; rintro e w1 ⟨rfl, hb1⟩; clear hd1)
        | (go_at_call 74; refine (hd2 _).mono ?_; rintro e w2 ⟨rfl, hb2⟩; clear hd2))
      go_ret
      exact ⟨rfl, hb1.trans (hb2.mono hb1.size)⟩
theorem scale_div (m k : Nat) (hk : k ≤ 8) : m * 10 ^ (8 - k) / 100000000 = m / 10 ^ k := by
  have : 100000000 = 10 ^ k * 10 ^ (8 - k) := by rw [← Nat.pow_add, show k + (8 - k) = 8 by omega]
  rw [this, Nat.mul_div_mul_right _ _ (Nat.pow_pos (by omega))]
theorem scale_mod (m k : Nat) (hk : k ≤ 8) : m * 10 ^ (8 - k) % 100000000 * 10 = (m % 10 ^ k) * 10 ^ (9 - k) := by
  have : 100000000 = 10 ^ k * 10 ^ (8 - k) := by rw [← Nat.pow_add, show k + (8 - k) = 8 by omega]
  rw [this, Nat.mul_mod_mul_right, Nat.mul_assoc, ← Nat.pow_succ, show (8 - k).succ = 9 - k by omega]

theorem print_zero (a : Int) : printOf a 0 = signOf a ++ decDigits a.natAbs := by
  unfold printOf wholeOf partOf
  rw [if_neg (by omega), if_neg (by omega)]
  unfold tail9
  simp

set_option maxHeartbeats 8000000 in
set_option maxRecDepth 20000 in
/-- Print, whole seconds. -/
theorem rprint_0 (a : Int) (ha0 : -9223372036854775808 ≤ a) (ha1 : a ≤ 9223372036854775807) (w : World) :
    Calls Tryz.prog 41 #[.agg #[.int .i64 a, .int .i64 0]] w fun e w' => e = .returned (.string (txt (printOf a 0))) ∧ Below w.heap.size w w' := by
  have ht := rtext_ok a ha0 ha1
  rw [print_zero]
  go_enter Tryz.func41, Tryz.ntmps41
  go_wp2_with (go_at_call 40; refine (ht _).mono ?_; rintro e w1 ⟨rfl, hb1⟩)
  go_ret
  exact ⟨rfl, (below_alloc _ _).trans (hb1.mono (by simp))⟩

theorem print_part {a b : Int} (h0 : 0 < b) (h1 : b < 1000000000) : printOf a b = signOf a ++ decDigits (wholeOf a b) ++ [46] ++ tl 9 (partOf a b) ∧ partOf a b ≠ 0 ∧ partOf a b < 1000000000 := by
  have hp : partOf a b ≠ 0 ∧ partOf a b < 1000000000 := by unfold partOf; split <;> omega
  refine ⟨?_, hp⟩
  unfold printOf
  rw [tail9_eq hp.2, if_neg hp.1]
  simp

set_option maxHeartbeats 16000000 in
set_option maxRecDepth 20000 in
/-- Print, with a part. -/
theorem rprint_1 (a b : Int) (ha0 : -9223372036854775808 ≤ a) (ha1 : a ≤ 9223372036854775807) (h0 : 0 < b) (h1 : b < 1000000000) (w : World) :
    Calls Tryz.prog 41 #[.agg #[.int .i64 a, .int .i64 b]] w fun e w' => e = .returned (.string (txt (printOf a b))) ∧ Below w.heap.size w w' := by
  obtain ⟨hpr, hp0, hp9⟩ := print_part (a := a) h0 h1
  obtain ⟨F, hFF⟩ : ∃ F, F = printOf a b := ⟨_, rfl⟩
  obtain ⟨W, hW⟩ : ∃ W, W = wholeOf a b := ⟨_, rfl⟩
  obtain ⟨P, hP⟩ : ∃ P, P = partOf a b := ⟨_, rfl⟩
  rw [← hW, ← hP, ← hFF] at hpr
  rw [← hFF]
  rw [← hP] at hp0 hp9
  have hP9 : P < 10 ^ 9 := by omega
  have hWl : W ≤ 9223372036854775807 := by rw [hW]; unfold wholeOf; split <;> omega
  have hdg := fun w => digits_ok W hWl w
  have hds := dec_size W (by omega)
  have hdl : (decDigits W).length ≤ 20 := by rw [← txt_size]; exact hds
  obtain ⟨pre, hpre⟩ : ∃ pre, pre = signOf a ++ decDigits W ++ [46] := ⟨_, rfl⟩
  have hF : Hid (F = pre ++ tl 9 P) := hid (by rw [hpr, hpre])
  have hprl : pre.length + 9 ≤ 60 := by rw [hpre, List.length_append, List.length_append]; unfold signOf; split <;> simp <;> omega
  clear hpr hFF
  unfold wholeOf at hW
  unfold partOf at hP
  by_cases hneg : a < 0
  · rw [if_pos ⟨hneg, h0⟩] at hW hP
    have hsg : signOf a = [45] := if_pos hneg
    rw [hsg] at hpre
    have hpt : ({ data := #[45] } : ByteArray) ++ txt (decDigits W) ++ { data := #[46] } = txt pre := by
      rw [hpre, ← txt_app, ← txt_app]; rfl
    have c1 : ¬ 9223372036854775807 < 1 + (txt (decDigits W)).size := by omega
    have c2 : ¬ 9223372036854775807 < 1 + (txt (decDigits W)).size + 1 := by omega
    have v1 : IntKind.i64.wrap (a + 1) = a + 1 := by rw [IntKind.wrap_i64]; omega
    have v2 : IntKind.i64.wrap (-(a + 1)) = W := by rw [IntKind.wrap_i64]; omega
    have v3 : IntKind.i64.wrap (1000000000 - b) = 1000000000 - b := by rw [IntKind.wrap_i64]; omega
    have hPi : Hid ((1000000000 - b : Int) = P) := hid (by omega)
    generalize txt (decDigits W) = D at *
    clear hW hP hsg hpre hds hdl hWl
    go_enter Tryz.func41, Tryz.ntmps41
    go_wp2
    go_region
    go_wp2_with (go_at_call 74; refine (hdg _).mono ?_; rintro e w1 ⟨rfl, hb1⟩)
    have HB : Below w.heap.size w w1 := (below_alloc w _).drew.trans (hb1.mono (by simp))
    clear hb1 hdg
    go_loopw [4, 5] (fun n o wr => ∃ (k m : Nat) (v : Int) (L : List UInt8), k ≤ 9 ∧ n = .int .i64 v ∧ o = .string (txt L) ∧ 0 ≤ v ∧ v < 1000000000 ∧ L.length + k ≤ 60 ∧ Hid (m < 10 ^ k) ∧ Hid (v = (m * 10 ^ (9 - k) : Nat)) ∧ Hid (F = L ++ tl k m) ∧ Below w.heap.size w wr) (fun _ o _ => 100 - Go.Lib.strSize o)
    case atStart =>
      exact ⟨9, P, _, pre, by omega, rfl, rfl, by omega, by omega, by omega, hid hP9, hid (by rw [hPi.out]; simp), hid hF.out, HB⟩
    case round =>
      obtain ⟨k, m, v, L, hk, rfl, rfl, hv0, hv9, hLl, hm, hV, hFL, hB⟩ := hrel
      by_cases hz : v = 0
      · have E : Hid (F = L) := hid (by
          have h1 := hV.out
          rw [hz] at h1
          have h2 : m * 10 ^ (9 - k) = 0 := by omega
          have h3 : m = 0 := (Nat.mul_eq_zero.1 h2).resolve_right (Nat.ne_of_gt (Nat.pow_pos (by omega)))
          rw [hFL.out, h3, tl_zero, List.append_nil])
        subst hz
        clear hV hm hFL
        go_wp2
        go_ret
        exact ⟨ret_string (by rw [E.out]), hB⟩
      · have hvp : 0 < v := by omega
        cases k with
        | zero =>
          have h1 := hV.out
          have h2 := hm.out
          simp at h2
          rw [h2] at h1
          simp at h1
          exact absurd h1 hz
        | succ k =>
          have hk8 : k ≤ 8 := by omega
          obtain ⟨d, hd⟩ : ∃ d, d = m / 10 ^ k := ⟨_, rfl⟩
          obtain ⟨r, hr⟩ : ∃ r, r = m % 10 ^ k := ⟨_, rfl⟩
          have hd10 : d < 10 := by rw [hd]; exact Nat.div_lt_of_lt_mul (by rw [← Nat.pow_succ]; exact hm.out)
          obtain ⟨n, hn⟩ : ∃ n : Nat, n = m * 10 ^ (8 - k) := ⟨_, rfl⟩
          have hvn : v = n := by rw [hV.out, hn, show 9 - (k + 1) = 8 - k by omega]
          have hdn : n / 100000000 = d := by rw [hn, scale_div m k hk8, hd]
          have hmn : n % 100000000 * 10 = r * 10 ^ (9 - k) := by rw [hn, scale_mod m k hk8, hr]
          have hr9 : r * 10 ^ (9 - k) < 1000000000 := by
            have h1 : r < 10 ^ k := by rw [hr]; exact Nat.mod_lt _ (Nat.pow_pos (by omega))
            have h2 : 10 ^ k * 10 ^ (9 - k) = 1000000000 := by rw [← Nat.pow_add, show k + (9 - k) = 9 by omega]
            rw [← h2]
            exact Nat.mul_lt_mul_of_pos_right h1 (Nat.pow_pos (by omega))
          have hm0 : m ≠ 0 := by
            rintro rfl
            rw [Nat.zero_mul] at hn
            omega
          obtain ⟨x, hx⟩ : ∃ x : Int, x = (n % 100000000 : Nat) := ⟨_, rfl⟩
          have hxr : Hid (x * 10 = (r * 10 ^ (9 - k) : Nat)) := hid (by rw [hx, ← hmn]; omega)
          have e1 : v.tdiv 100000000 = (d : Int) := by rw [hvn, ← hdn]; rfl
          have e2 : v.tmod 100000000 = x := by rw [hvn, hx]; rfl
          have e3 : v / 100000000 = (d : Int) := by omega
          have e4 : v % 100000000 = x := by omega
          have hx0 : 0 ≤ x := by omega
          have hx9 : x * 10 < 1000000000 := by rw [hxr.out]; omega
          have w1 : IntKind.i64.wrap (d : Int) = d := by rw [IntKind.wrap_i64]; omega
          have w2 : IntKind.i64.wrap (x * 10) = x * 10 := by rw [IntKind.wrap_i64]; omega
          have hFN : Hid (F = (L ++ decDigits d) ++ tl k r) := hid (by rw [hFL.out, tl, if_neg hm0, dec_lt hd10, hd, hr]; simp)
          have hdl : (decDigits d).length = 1 := by rw [dec_lt hd10]; rfl
          have hdg := fun w => digits_ok d (by omega) w
          have hrk : Hid (r < 10 ^ k) := hid (by rw [hr]; exact Nat.mod_lt _ (Nat.pow_pos (by omega)))
          have hcat : ¬ 9223372036854775807 < (txt L).size + (txt (decDigits d)).size := by rw [txt_size, txt_size, hdl]; omega
          have hap : txt L ++ txt (decDigits d) = txt (L ++ decDigits d) := txt_app _ _
          have hll : (L ++ decDigits d).length + k ≤ 60 := by rw [List.length_append, hdl]; omega
          have hsz : Hid ((txt (L ++ decDigits d)).size = (txt L).size + 1) := hid (by rw [txt_size, txt_size, List.length_append, hdl])
          have hLs : Hid ((txt L).size < 100) := hid (by rw [txt_size]; omega)
          have HV := hid hvn
          clear hV hm hFL hd hr hn hvn hdn hmn hr9 hm0 hx hdl hd10 hz hLl
          generalize hLL : L ++ decDigits d = L2 at *
          clear hLL
          go_wp2_with (go_at_call 74; refine (hdg _).mono ?_; rintro e wd ⟨rfl, hbd⟩)
          go_roundw
          case rel => exact ⟨k, r, x * 10, L2, by omega, by go_num, by first | rfl | rw [hap], by omega, hx9, hll, hrk, hxr, hFN, hB.trans (hbd.mono hB.size)⟩
          case measure =>
            have h1 := hsz.out
            have h2 := hLs.out
            simp only [Go.Lib.strSize_string]
            first | omega | (rw [hap]; omega)
  · rw [if_neg (by omega)] at hW hP
    have hsg : signOf a = [] := if_neg hneg
    rw [hsg] at hpre
    have hpt : ({ data := #[] } : ByteArray) ++ txt (decDigits W) ++ { data := #[46] } = txt pre := by
      rw [hpre, ← txt_app, ← txt_app]; rfl
    have hpt2 : txt (decDigits W) ++ { data := #[46] } = txt pre := by
      rw [hpre, ← txt_app, ← txt_app]
      have : txt ([] : List UInt8) ++ txt (decDigits W) = txt (decDigits W) := txt_app [] _
      rw [this]; rfl
    have c1 : ¬ 9223372036854775807 < (txt (decDigits W)).size := by omega
    have c2 : ¬ 9223372036854775807 < (txt (decDigits W)).size + 1 := by omega
    obtain rfl : a = (W : Int) := by omega
    have hPi : Hid (b = P) := hid (by omega)
    generalize txt (decDigits W) = D at *
    clear hW hP hsg hpre hds hdl hWl
    go_enter Tryz.func41, Tryz.ntmps41
    go_wp2
    go_region
    go_wp2_with (go_at_call 74; refine (hdg _).mono ?_; rintro e w1 ⟨rfl, hb1⟩)
    have HB : Below w.heap.size w w1 := (below_alloc w _).drew.trans (hb1.mono (by simp))
    clear hb1 hdg
    go_loopw [4, 5] (fun n o wr => ∃ (k m : Nat) (v : Int) (L : List UInt8), k ≤ 9 ∧ n = .int .i64 v ∧ o = .string (txt L) ∧ 0 ≤ v ∧ v < 1000000000 ∧ L.length + k ≤ 60 ∧ Hid (m < 10 ^ k) ∧ Hid (v = (m * 10 ^ (9 - k) : Nat)) ∧ Hid (F = L ++ tl k m) ∧ Below w.heap.size w wr) (fun _ o _ => 100 - Go.Lib.strSize o)
    case atStart =>
      exact ⟨9, P, _, pre, by omega, rfl, rfl, by omega, by omega, by omega, hid hP9, hid (by rw [hPi.out]; simp), hid hF.out, HB⟩
    case round =>
      obtain ⟨k, m, v, L, hk, rfl, rfl, hv0, hv9, hLl, hm, hV, hFL, hB⟩ := hrel
      by_cases hz : v = 0
      · have E : Hid (F = L) := hid (by
          have h1 := hV.out
          rw [hz] at h1
          have h2 : m * 10 ^ (9 - k) = 0 := by omega
          have h3 : m = 0 := (Nat.mul_eq_zero.1 h2).resolve_right (Nat.ne_of_gt (Nat.pow_pos (by omega)))
          rw [hFL.out, h3, tl_zero, List.append_nil])
        subst hz
        clear hV hm hFL
        go_wp2
        go_ret
        exact ⟨ret_string (by rw [E.out]), hB⟩
      · have hvp : 0 < v := by omega
        cases k with
        | zero =>
          have h1 := hV.out
          have h2 := hm.out
          simp at h2
          rw [h2] at h1
          simp at h1
          exact absurd h1 hz
        | succ k =>
          have hk8 : k ≤ 8 := by omega
          obtain ⟨d, hd⟩ : ∃ d, d = m / 10 ^ k := ⟨_, rfl⟩
          obtain ⟨r, hr⟩ : ∃ r, r = m % 10 ^ k := ⟨_, rfl⟩
          have hd10 : d < 10 := by rw [hd]; exact Nat.div_lt_of_lt_mul (by rw [← Nat.pow_succ]; exact hm.out)
          obtain ⟨n, hn⟩ : ∃ n : Nat, n = m * 10 ^ (8 - k) := ⟨_, rfl⟩
          have hvn : v = n := by rw [hV.out, hn, show 9 - (k + 1) = 8 - k by omega]
          have hdn : n / 100000000 = d := by rw [hn, scale_div m k hk8, hd]
          have hmn : n % 100000000 * 10 = r * 10 ^ (9 - k) := by rw [hn, scale_mod m k hk8, hr]
          have hr9 : r * 10 ^ (9 - k) < 1000000000 := by
            have h1 : r < 10 ^ k := by rw [hr]; exact Nat.mod_lt _ (Nat.pow_pos (by omega))
            have h2 : 10 ^ k * 10 ^ (9 - k) = 1000000000 := by rw [← Nat.pow_add, show k + (9 - k) = 9 by omega]
            rw [← h2]
            exact Nat.mul_lt_mul_of_pos_right h1 (Nat.pow_pos (by omega))
          have hm0 : m ≠ 0 := by
            rintro rfl
            rw [Nat.zero_mul] at hn
            omega
          obtain ⟨x, hx⟩ : ∃ x : Int, x = (n % 100000000 : Nat) := ⟨_, rfl⟩
          have hxr : Hid (x * 10 = (r * 10 ^ (9 - k) : Nat)) := hid (by rw [hx, ← hmn]; omega)
          have e1 : v.tdiv 100000000 = (d : Int) := by rw [hvn, ← hdn]; rfl
          have e2 : v.tmod 100000000 = x := by rw [hvn, hx]; rfl
          have e3 : v / 100000000 = (d : Int) := by omega
          have e4 : v % 100000000 = x := by omega
          have hx0 : 0 ≤ x := by omega
          have hx9 : x * 10 < 1000000000 := by rw [hxr.out]; omega
          have w1 : IntKind.i64.wrap (d : Int) = d := by rw [IntKind.wrap_i64]; omega
          have w2 : IntKind.i64.wrap (x * 10) = x * 10 := by rw [IntKind.wrap_i64]; omega
          have hFN : Hid (F = (L ++ decDigits d) ++ tl k r) := hid (by rw [hFL.out, tl, if_neg hm0, dec_lt hd10, hd, hr]; simp)
          have hdl : (decDigits d).length = 1 := by rw [dec_lt hd10]; rfl
          have hdg := fun w => digits_ok d (by omega) w
          have hrk : Hid (r < 10 ^ k) := hid (by rw [hr]; exact Nat.mod_lt _ (Nat.pow_pos (by omega)))
          have hcat : ¬ 9223372036854775807 < (txt L).size + (txt (decDigits d)).size := by rw [txt_size, txt_size, hdl]; omega
          have hap : txt L ++ txt (decDigits d) = txt (L ++ decDigits d) := txt_app _ _
          have hll : (L ++ decDigits d).length + k ≤ 60 := by rw [List.length_append, hdl]; omega
          have hsz : Hid ((txt (L ++ decDigits d)).size = (txt L).size + 1) := hid (by rw [txt_size, txt_size, List.length_append, hdl])
          have hLs : Hid ((txt L).size < 100) := hid (by rw [txt_size]; omega)
          have HV := hid hvn
          clear hV hm hFL hd hr hn hvn hdn hmn hr9 hm0 hx hdl hd10 hz hLl
          generalize hLL : L ++ decDigits d = L2 at *
          clear hLL
          go_wp2_with (go_at_call 74; refine (hdg _).mono ?_; rintro e wd ⟨rfl, hbd⟩)
          go_roundw
          case rel => exact ⟨k, r, x * 10, L2, by omega, by go_num, by first | rfl | rw [hap], by omega, hx9, hll, hrk, hxr, hFN, hB.trans (hbd.mono hB.size)⟩
          case measure =>
            have h1 := hsz.out
            have h2 := hLs.out
            simp only [Go.Lib.strSize_string]
            first | omega | (rw [hap]; omega)

/-- Print, of a right time. -/
theorem rprint_ok (a b : Int) (ha0 : -9223372036854775808 ≤ a) (ha1 : a ≤ 9223372036854775807) (h0 : 0 ≤ b) (h1 : b < 1000000000) (w : World) :
    Calls Tryz.prog 41 #[.agg #[.int .i64 a, .int .i64 b]] w fun e w' => e = .returned (.string (txt (printOf a b))) ∧ Below w.heap.size w w' := by
  by_cases hb : b = 0
  · subst hb; exact rprint_0 a ha0 ha1 w
  · exact rprint_1 a b ha0 ha1 (by omega) h1 w
end Go.Proofs.YthnaanjhmehgcaaGreatDoor
