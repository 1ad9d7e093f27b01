/-
  HOW MANY BYTES A RECORD HAS: the program's way round. Conditions: how many bytes its texts may have; what the listed variables hold.
-/
import Derived.Test.YtkocnbdakfhpaaaGreatDoorRgt
import Derived.Lib.ItoaLen
namespace Go.Proofs.YtkocnbdakfhpaaaGreatDoor
open Go.ChangeShapes Go.WideShapes Go.ChangeAt Go.RowKit Go.Lib
set_option linter.unusedVariables false
set_option maxRecDepth 20000

theorem nDigits_mono : ∀ (n m : Nat), m ≤ n → nDigits m ≤ nDigits n := by
  intro n
  induction n using Nat.strongRecOn with
  | _ n ih =>
    intro m h
    by_cases hm : m < 10
    · rw [nDigits_small hm]; exact nDigits_pos n
    · rw [nDigits_big hm, nDigits_big (u := n) (by omega)]
      have := ih (n / 10) (by omega) (m / 10) (Nat.div_le_div_right h)
      omega

/-- the length, going round: so many times -/
def lenF (rest : Nat) : Nat → Nat → Nat
  | 0, n => n
  | f + 1, n => if n = rest + nDigits n then n else lenF rest f (rest + nDigits n)
def lenN (rest : Nat) : Nat := lenF rest 40 rest

theorem lenF_done (rest n : Nat) (h : n = rest + nDigits n) : ∀ f, lenF rest f n = n
  | 0 => rfl
  | f + 1 => by rw [lenF, if_pos h]

theorem lenF_spec (rest : Nat) (hr : rest ≤ 9223372036854775807) : ∀ (f n : Nat), rest ≤ n → n ≤ rest + 20 → n ≤ rest + nDigits n → (∀ m, m = rest + nDigits m → n ≤ m) → rest + 30 ≤ n + f →
    lenF rest f n = rest + nDigits (lenF rest f n) ∧ ∀ m, m = rest + nDigits m → lenF rest f n ≤ m := by
  intro f
  induction f with
  | zero => intro n h1 h2 h3 h4 h5; omega
  | succ f ih =>
    intro n h1 h2 h3 h4 h5
    by_cases h : n = rest + nDigits n
    · rw [lenF_done rest n h]; exact ⟨h, h4⟩
    · rw [lenF, if_neg h]
      have hm := nDigits_mono (rest + nDigits n) n h3
      have h20 := nDigits_le20 n (by omega)
      refine ih (rest + nDigits n) (by omega) (by omega) (by omega) ?_ (by omega)
      intro m e
      have := nDigits_mono m n (h4 m e)
      omega

theorem lenN_spec (rest : Nat) (hr : rest ≤ 9223372036854775807) : lenN rest = rest + nDigits (lenN rest) ∧ ∀ m, m = rest + nDigits m → lenN rest ≤ m := by
  refine lenF_spec rest hr 40 rest (Nat.le_refl _) (by omega) (by have := nDigits_pos rest; omega) ?_ (by omega)
  intro m e; omega
theorem lenN_le (rest : Nat) (hr : rest ≤ 9223372036854775807) : lenN rest ≤ rest + 20 := by
  obtain ⟨h, h2⟩ := lenN_spec rest hr
  have : nDigits (lenN rest) ≤ 20 := by
    by_cases hb : lenN rest < 18446744073709551616
    · exact nDigits_le20 _ hb
    · exfalso
      have h3 := lt_pow_nDigits (lenN rest)
      have hs : ∀ f n, rest ≤ n → n ≤ rest + 20 → lenF rest f n ≤ rest + 20 := by
        intro f
        induction f with
        | zero => intro n _ h; exact h
        | succ f ih =>
          intro n a b
          rw [lenF]
          split
          · exact b
          · exact ih _ (by omega) (by have := nDigits_le20 n (by omega); omega)
      have := hs 40 rest (Nat.le_refl _) (by omega)
      unfold lenN at hb
      omega
  omega

theorem digits_w (n : Nat) (hn : n ≤ 9223372036854775807) (w : World) (hL : Laid w) : Calls Tryz.prog 40 #[.int .i64 n] w fun e w' => e = .returned (.int .i64 (nDigits n)) ∧ Below w.heap.size w w' := by
  have ht := text_ok (n : Int) (by omega) (by omega) w hL
  have hs : (txt (signOf (n : Int) ++ decDigits (n : Int).natAbs)).size = nDigits n := by
    rw [txt_size, List.length_append, decDigits_length]
    have : signOf (n : Int) = [] := by unfold signOf; rw [if_neg (by omega)]
    rw [this]; simp
  generalize txt (signOf (n : Int) ++ decDigits (n : Int).natAbs) = s at *
  have hs' : (s.size : Int) = (nDigits n : Int) := by omega
  clear hs
  go_enter Tryz.func40, Tryz.ntmps40
  go_wp2_with (go_at_call 57; refine ht.mono ?_; rintro e w1 ⟨rfl, hb⟩)
  all_goals go_ret
  all_goals first | exact ⟨rfl, hb⟩ | exact ⟨ret_int hs', hb⟩

/-- the bytes of a record behind its length -/
def restN (k v : ByteArray) : Nat := k.size + v.size + 3

set_option maxHeartbeats 2000000 in
theorem len_ok (k v : ByteArray) (hk : k.size ≤ 281474976710656) (hv : v.size ≤ 281474976710656) (w : World) (hL : Laid w) :
    Calls Tryz.prog 13 #[.agg #[.string k, .string v]] w fun e w' => e = .returned (.int .i64 (lenN (restN k v))) ∧ Below w.heap.size w w' := by
  have hb0 := (Below.refl w.heap.size w).alloc (Nat.le_refl _) (.cells #[.string k, .string v] 23)
  obtain ⟨R, hR⟩ : ∃ R, R = restN k v := ⟨_, rfl⟩
  have hR1 : (R : Int) = (k.size : Int) + (v.size : Int) + 3 := by rw [hR]; unfold restN; omega
  rw [← hR]
  have hE : 1 + (k.size : Int) + 1 + (v.size : Int) + 1 = (R : Int) := by omega
  have hR2 : R ≤ 562949953421315 := by rw [hR]; unfold restN; omega
  have hdg := fun (n : Nat) hn w' (hb : Below w.heap.size w w') => digits_w n hn w' (hL.below hb)
  clear hR hL
  obtain ⟨q, hq⟩ : ∃ q, q = lenN R := ⟨_, rfl⟩
  rw [← hq]
  go_enter Tryz.func13, Tryz.ntmps13
  go_wp2
  go_loopw [4] (fun x wr => ∃ (n f : Nat), x = .int .i64 n ∧ R ≤ n ∧ n ≤ R + 20 ∧ Hid (n ≤ R + nDigits n ∧ R + 40 ≤ n + f ∧ q = lenF R f n) ∧ Below w.heap.size w wr) (fun x _ => R + 30 - (RowKit.intOf x).toNat)
  case atStart => exact ⟨R, 40, by rw [hR1], by omega, by omega, hid ⟨by have := nDigits_pos R; omega, by omega, hq⟩, hb0⟩
  case round =>
    obtain ⟨n, f, rfl, h1, h2, hr, hb⟩ := hrel
    have hd := hdg n (by omega) wr hb
    have h20 := nDigits_le20 n (by omega)
    have hm := hid (nDigits_mono (R + nDigits n) n hr.out.1)
    have hms := hid (nDigits_le20 (R + nDigits n) (by omega))
    by_cases he : n = R + nDigits n
    · have hq2 : Hid (q = n) := hid (by rw [hr.out.2.2, lenF_done R n he])
      have hI : ((n : Int) != (R : Int) + (nDigits n : Int)) = false := by simp; omega
      generalize nDigits n = d at *
      clear hr he hq hm hms
      go_wp2_with (go_at_call 40; refine hd.mono ?_; rintro e w1 ⟨rfl, hb1⟩)
      all_goals go_ret
      all_goals exact ⟨ret_int (by rw [hq2.out]), hb.trans (hb1.mono hb.size)⟩
    · have hI : ((n : Int) != (R : Int) + (nDigits n : Int)) = true := by simp; omega
      have hlt : n < R + nDigits n := by have := hr.out.1; omega
      have hq2 : Hid (R + nDigits n ≤ R + nDigits (R + nDigits n) ∧ R + 40 ≤ R + nDigits n + (f - 1) ∧ q = lenF R (f - 1) (R + nDigits n)) := hid (by
        have h5 := hr.out.2.1
        refine ⟨by have := hm.out; omega, by omega, ?_⟩
        rw [hr.out.2.2]
        cases f with
        | zero => omega
        | succ f => rw [lenF, if_neg he]; rfl)
      have hd2 := hdg n (by omega)
      generalize nDigits n = d at *
      clear hr he hq hm hms
      go_wp2_with (first
        | (go_at_call 40; refine hd.mono ?_; rintro e w1 ⟨rfl, hb1⟩; have hacc := hb.trans (hb1.mono hb.size); clear hd)
        | (go_at_call 40; refine (hd2 _ hacc).mono ?_; rintro e w2 ⟨rfl, hb2⟩; replace hacc := hacc.trans (hb2.mono hacc.size)))
      go_roundw
      case rel => exact ⟨R + d, f - 1, by go_num, by omega, by omega, hq2, hacc⟩
      case measure => simp [RowKit.intOf]; omega

end Go.Proofs.YtkocnbdakfhpaaaGreatDoor
