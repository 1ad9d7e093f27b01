/-
  PAIRS LAID OVER AN OVERLAY, ONE BEHIND THE OTHER (layAll), AND Lay. Conditions: how many pairs there are.
-/
import Derived.Test.YtkocnbdakfhpaaaDoorLay
namespace Go.Proofs.YtkocnbdakfhpaaaDoor
open Go.ChangeShapes Go.WideShapes Go.ChangeAt Go.RowKit Go.Lib
set_option linter.unusedVariables false
set_option linter.unusedSimpArgs false
set_option maxRecDepth 20000

theorem layP_len : ∀ (l : PL) (p : ByteArray × ByteArray), (layP l p).length ≤ l.length + 1
  | [], p => by rw [layP]; split <;> simp
  | a :: t, p => by
    have ih := layP_len t p
    rw [layP]
    repeat' split
    all_goals simp
    all_goals omega
theorem layL_len : ∀ (ps l : PL), (layL l ps).length ≤ l.length + ps.length
  | [], l => Nat.le_refl _
  | p :: t, l => by
    have := layL_len t (layP l p)
    have h2 := layP_len l p
    show (layL (layP l p) t).length ≤ _
    rw [List.length_cons]; omega

set_option maxHeartbeats 4000000 in
theorem layAll_ok {w0 w : World} {o : Value} {l : PL} {a : Option Addr} {n c : Nat} {ps : PL} (hb0 : Below w0.heap.size w0 w) (hp : Pys w0 a n c ps) (h : w.ownsRow w0.heap.size 37 2 o l.length (pcs2 l)) (hs : Srt l) (hn : n + l.length ≤ 90000) :
    Calls Tryd.prog 25 #[o, .slice a n c] w fun e w' => ∃ o', e = .returned o' ∧ w'.ownsRow w0.heap.size 37 2 o' (layL l ps).length (pcs2 (layL l ps)) ∧ Below w0.heap.size w0 w' := by
  have hm1 := hp.2.1
  have hm2 := hp.2.2.1
  obtain ⟨q, hq⟩ : ∃ q, q = layL l ps := ⟨_, rfl⟩
  rw [← hq]
  have hln := hid hp.1
  have h00 := hid (And.intro hs (by rw [hq]; rfl : q = layL l (ps.drop 0)))
  clear hq
  go_enter Tryd.func25, Tryd.ntmps25
  go_wp2
  go_loopw [0, 9] (fun y x wr => ∃ (o : Value) (k : Nat) (m : PL), y = o ∧ x = .int .i64 k ∧ k ≤ n ∧ Below w0.heap.size w0 wr ∧ wr.ownsRow w0.heap.size 37 2 o m.length (pcs2 m) ∧ m.length ≤ l.length + k ∧ Hid (Srt m ∧ q = layL m (ps.drop k))) (fun _ x _ => n - (RowKit.intOf x).toNat)
  case atStart => exact ⟨o, 0, l, rfl, rfl, by omega, hb0, h, by omega, h00⟩
  case round =>
    obtain ⟨o, k, m, rfl, rfl, hk, hb, hown, hml, hr⟩ := hrel
    by_cases hlt : k < n
    · obtain ⟨b, off, rfl, hc⟩ := hp.some_of (by omega)
      obtain ⟨ky, vl, hmem, hd, c0, c1⟩ := (hc.below hb).at k (by rw [hln.out]; exact hlt)
      have hkI : (k : Int) < (n : Int) := by omega
      have hfr := (Below.refl wr.heap.size wr).alloc (Nat.le_refl _) (.cells #[.string ky, .string vl] 37)
      have hbn := hb.trans (hfr.mono hb.size)
      have hly := lay_ok (own_below hfr hown) hr.out.1 (by omega) hbn.size ky vl
      have E := hid (And.intro (lay_srt m (ky, vl) hr.out.1) (by rw [hr.out.2, hd.out]; rfl : q = layL (layP m (ky, vl)) (ps.drop (k + 1))))
      have hlen := layP_len m (ky, vl)
      generalize layP m (ky, vl) = m' at *
      clear hr hd hmem
      go_wp2_with (go_at_call 40; refine hly.mono ?_; rintro e w1 ⟨o', rfl, hown', hb1⟩)
      go_roundw
      case rel => exact ⟨_, k + 1, m', rfl, by go_num, by omega, hbn.trans hb1, hown', by omega, E⟩
      case measure => simp [RowKit.intOf]; omega
    · obtain rfl : k = n := by omega
      have hkI : ¬ (k : Int) < (k : Int) := by omega
      have E : q = m := by rw [hr.out.2, List.drop_eq_nil_iff.mpr (by rw [hln.out]; exact Nat.le_refl _)]; rfl
      subst E
      clear hr
      go_wp2
      go_ret
      exact ⟨_, rfl, hown, hb⟩

set_option maxHeartbeats 4000000 in
theorem laytwo_ok {w : World} {a a' : Option Addr} {n c n' c' : Nat} {l more : PL} (hp : Pys w a n c l) (hq : Pys w a' n' c' more) (hn : n ≤ 1000) (hn' : n' ≤ 1000) :
    Calls Tryd.prog 15 #[.slice a n c, .slice a' n' c'] w fun e w' => ∃ a2 m c2, e = .returned (.slice a2 m c2) ∧ Pys w' a2 m c2 (layL (layL [] l) more) ∧ Below w.heap.size w w' := by
  have h1 := layAll_ok (Below.refl _ w) hp (World.ownsRow_nil w w.heap.size 37 2) Srt.nil (by simp; omega)
  have hlen := layL_len l []
  have hpl := hp.1
  have hsr := layL_srt l [] Srt.nil
  generalize layL [] l = m at *
  have h2 := fun w' o' hb (ho : w'.ownsRow w.heap.size 37 2 o' m.length (pcs2 m)) => layAll_ok (w := w') hb hq ho hsr (by simp at hlen; omega)
  generalize layL m more = r at *
  clear hlen hpl hsr
  go_enter Tryd.func15, Tryd.ntmps15
  go_wp2_with (first
    | (go_at_call 25; refine h1.mono ?_; rintro e w1 ⟨o1, rfl, hown1, hb1⟩; clear h1)
    | (go_at_call 25; refine (h2 _ _ hb1 hown1).mono ?_; rintro e w2 ⟨o2, rfl, hown2, hb2⟩; obtain ⟨a2, c2, rfl, hpy⟩ := own_pys hown2 rfl))
  all_goals go_ret
  all_goals exact ⟨_, _, _, rfl, hpy, hb2⟩

end Go.Proofs.YtkocnbdakfhpaaaDoor
