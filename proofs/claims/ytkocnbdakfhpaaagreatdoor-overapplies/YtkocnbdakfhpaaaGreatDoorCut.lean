/-
  BYTES PARTED AT A BYTE (bytes.Cut), AND WITHOUT THEIR LAST ONE (bytes.CutSuffix). Conditions: how many bytes there are.
-/
import Derived.Test.YtkocnbdakfhpaaaGreatDoorPrt
namespace Go.Proofs.YtkocnbdakfhpaaaGreatDoor
open Go.ChangeShapes Go.WideShapes Go.ChangeAt Go.RowKit Go.Lib
set_option linter.unusedVariables false
set_option maxRecDepth 20000

/-- ahead of a byte, behind it, is it there -/
def ahI (c : Int) (l : List Int) : List Int := l.takeWhile (fun x => x != c)
def beI (c : Int) (l : List Int) : List Int := (l.dropWhile (fun x => x != c)).drop 1
def inI (c : Int) (l : List Int) : Bool := decide (c ∈ l)

theorem cut_index (c : Int) (h0 : 0 ≤ c) (h1 : c ≤ 255) : ∀ l : List Int, (∀ x ∈ l, 0 ≤ x ∧ x ≤ 255) →
    (indexByte (bytesOf l) c.toNat.toUInt8 = -1 ∧ ahI c l = l ∧ beI c l = [] ∧ inI c l = false) ∨
    (∃ i : Nat, indexByte (bytesOf l) c.toNat.toUInt8 = i ∧ i < l.length ∧ ahI c l = l.take i ∧ beI c l = l.drop (i + 1) ∧ inI c l = true)
  | [], _ => .inl ⟨rfl, rfl, rfl, rfl⟩
  | x :: l, h => by
    obtain ⟨x0, x1⟩ := h x (List.mem_cons_self ..)
    have ih := cut_index c h0 h1 l fun y hy => h y (List.mem_cons_of_mem _ hy)
    by_cases hx : x = c
    · subst hx
      refine .inr ⟨0, ?_, by simp, ?_, ?_, ?_⟩
      · simp [bytesOf, indexByte]
      · simp [ahI]
      · simp [beI]
      · simp [inI]
    · have hu : (UInt8.ofNat x.toNat == c.toNat.toUInt8) = false := by
        rw [beq_eq_false_iff_ne]
        intro e
        have := congrArg UInt8.toNat e
        simp at this
        omega
      have hxc : (x != c) = true := by simpa using hx
      have hb : bytesOf (x :: l) = UInt8.ofNat x.toNat :: bytesOf l := rfl
      rcases ih with ⟨e, a1, a2, a3⟩ | ⟨i, e, hi, a1, a2, a3⟩
      · refine .inl ⟨?_, ?_, ?_, ?_⟩
        · rw [hb, indexByte, hu, e]; rfl
        · unfold ahI at a1 ⊢; rw [List.takeWhile_cons, hxc, if_pos rfl, a1]
        · unfold beI at a2 ⊢; rw [List.dropWhile_cons, hxc, if_pos rfl, a2]
        · unfold inI at a3 ⊢
          have : ¬ c ∈ l := of_decide_eq_false a3
          simp [this, Ne.symm hx]
      · refine .inr ⟨i + 1, ?_, by simp; omega, ?_, ?_, ?_⟩
        · rw [hb, indexByte, hu, e]
          simp
        · unfold ahI at a1 ⊢; rw [List.takeWhile_cons, hxc, if_pos rfl, a1, List.take_succ_cons]
        · unfold beI at a2 ⊢; rw [List.dropWhile_cons, hxc, if_pos rfl, a2]; rfl
        · unfold inI at a3 ⊢
          have : c ∈ l := of_decide_eq_true a3
          simp [this]

theorem Bys.from {w : World} {a : Option Addr} {n c : Nat} {l : List Int} (h : Bys w a n c l) (j : Nat) (hj : j ≤ n) : ∃ a', Lib.fromV a n c j = .slice a' (n - j) (c - j) ∧ Bys w a' (n - j) (c - j) (l.drop j) := by
  obtain ⟨hl, hlc, hm, hr, h'⟩ := h
  refine ⟨_, rfl, by rw [List.length_drop, hl], by omega, by omega, fun x hx => hr x (List.mem_of_mem_drop hx), ?_⟩
  by_cases he : j = n
  · left; exact ⟨List.drop_eq_nil_iff.2 (by omega), by omega⟩
  · right
    refine ⟨by omega, ?_⟩
    rcases h' with ⟨rfl, rfl⟩ | ⟨h0, b, off, rfl, hc⟩
    · omega
    · refine ⟨b, off + j, ?_, hc.drop j⟩
      rw [if_neg (by omega)]
      simp [Addr.add]

theorem Bys.in {w : World} {a : Option Addr} {n c : Nat} {l : List Int} (h : Bys w a n c l) : Lib.BytesIn w a n l := by
  obtain ⟨hl, hlc, hm, hr, ⟨rfl, rfl⟩ | ⟨h0, b, off, rfl, hc⟩⟩ := h
  · exact Lib.BytesIn.nil _ _ _
  · exact fun _ => ⟨b, off, rfl, fun i hi => hc.2 i (by omega)⟩

set_option maxHeartbeats 1000000 in
theorem idx_nil (b2 : Nat) (cv : Int) (w : World) (hc2 : w.cell? ⟨b2, 0, none⟩ = some (.int .u8 cv)) : Calls Tryz.prog 75 #[.slice none 0 0, .slice (some ⟨b2, 0, none⟩) 1 1] w fun e w' => e = .returned (.int .i64 (-1)) ∧ w' = w := by
  have hn := Tryz.bytes_IndexByte_nil cv
  go_enter Tryz.func75, Tryz.ntmps75
  go_wp2_with (go_at_call 91; refine (hn _).mono ?_; rintro e w' ⟨rfl, hw⟩; obtain rfl := hw.symm)
  all_goals go_ret
  all_goals exact ⟨rfl, rfl⟩

theorem bcut {w : World} {a : Option Addr} {n c : Nat} {l : List Int} (h : Bys w a n c l) (hn : n ≤ 4611686018427387904) (hnil : a = none → n = 0 ∧ c = 0) (b2 : Nat) (cv : Int) (h0 : 0 ≤ cv) (h1 : cv ≤ 255) (hc2 : w.cell? ⟨b2, 0, none⟩ = some (.int .u8 cv)) :
    Calls Tryz.prog 59 #[.slice a n c, .slice (some ⟨b2, 0, none⟩) 1 1] w fun e w' => (∃ n1 c1 a2 n2 c2, e = .returned (.tuple #[.slice a n1 c1, .slice a2 n2 c2, .bool (inI cv l)]) ∧ Bys w' a n1 c1 (ahI cv l) ∧ Bys w' a2 n2 c2 (beI cv l) ∧ (a2 = none → n2 = 0 ∧ c2 = 0)) ∧ Below w.heap.size w w' := by
  have hl := h.1
  have hlc := h.2.1
  have hidx : Calls Tryz.prog 75 #[.slice a n c, .slice (some ⟨b2, 0, none⟩) 1 1] w fun e w' => e = .returned (.int .i64 (indexByte (bytesOf l) cv.toNat.toUInt8)) ∧ ∃ q, w' = w.drewN q := by
    match a, h, hnil with
    | none, h, hnil =>
      obtain ⟨rfl, rfl⟩ := hnil rfl
      have : l = [] := by simpa using h.1
      subst this
      exact (idx_nil b2 cv w hc2).mono fun e w' ⟨e1, e2⟩ => ⟨e1, 0, e2⟩
    | some x, h, hnil =>
      refine (Tryz.bytes_Index_one_at x n c b2 0 1 l cv w h.1 ?_ hc2).mono fun e w' ⟨e1, e2⟩ => ⟨e1, 0, e2⟩
      intro i hi
      obtain ⟨-, -, -, -, ⟨rfl, rfl⟩ | ⟨-, b, off, e, hc⟩⟩ := h
      · omega
      · cases e
        rw [show (⟨b, off, none⟩ : Addr).add i = ⟨b, off + i, none⟩ by simp [Addr.add]]
        exact hc.2 i (by omega)
  rcases cut_index cv h0 h1 l h.2.2.2.1 with ⟨e, a1, a2, a3⟩ | ⟨i, e, hi, a1, a2, a3⟩
  · rw [e] at hidx
    refine (Tryz.bytes_Cut_of a (some ⟨b2, 0, none⟩) n c 1 1 (-1) w hlc (by omega) (by omega) hn hidx).mono ?_
    rintro e' w' ⟨rfl, q, rfl⟩
    have hbq := below_drewN w q
    rw [a1, a2, a3]
    exact ⟨⟨n, c, none, 0, 0, rfl, h.below hbq, Bys.mk0 (by omega), fun _ => ⟨rfl, rfl⟩⟩, hbq⟩
  · rw [e] at hidx
    refine (Tryz.bytes_Cut_of a (some ⟨b2, 0, none⟩) n c 1 1 (i : Int) w hlc (by omega) (by omega) hn hidx).mono ?_
    rintro e' w' ⟨rfl, q, rfl⟩
    have hbq := below_drewN w q
    obtain ⟨a', hv, hb'⟩ := (h.below hbq).from (i + 1) (by omega)
    rw [a1, a2, a3]
    refine ⟨⟨i, c, a', n - (i + 1), c - (i + 1), ?_, (h.below hbq).take i (by omega), hb', ?_⟩, hbq⟩
    · unfold Lib.cutV
      rw [if_pos (by omega), Int.toNat_natCast, hv]
    · intro ha
      subst ha
      obtain ⟨-, -, -, -, ⟨-, e1⟩ | ⟨-, b, off, e1, -⟩⟩ := hb'
      · refine ⟨e1, ?_⟩
        unfold Lib.fromV at hv
        simp only [Value.slice.injEq, and_true] at hv
        split at hv
        · omega
        · cases a with
          | none => have := (hnil rfl).1; omega
          | some x => cases hv
      · cases e1

/-- without the last byte -/
def endI (c : Int) (l : List Int) : Bool := l.getLast? == some c
def trI (c : Int) (l : List Int) : List Int := if endI c l then l.dropLast else l

end Go.Proofs.YtkocnbdakfhpaaaGreatDoor
