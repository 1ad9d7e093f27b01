/-
  THE ORDER IN WHICH TEXTS COME OUT: QueueOrder's walk. Conditions: none.
-/
import Derived.Test.YtekacaocijfepaaQal
import Derived.Test.YtekacaocijfepaaQms
import Derived.Laws.Cover1
import Derived.BigQuiet
namespace Go.Proofs.Ytekacaocijfepaa
open Go.ChangeShapes Go.WideShapes Go.ChangeAt Go.RowKit Go.Conc
set_option linter.unusedVariables false
set_option linter.unusedSimpArgs false
set_option maxRecDepth 100000

/-- the strings that a slice holds -/
def SRow (w : World) (a : Option Addr) (len cap : Nat) (L : List ByteArray) : Prop :=
  L.length = len ∧ len ≤ cap ∧ cap ≤ 9223372036854775807 ∧ (0 < len → ∃ b off, a = some ⟨b, off, none⟩ ∧ ∀ i, i < len → w.cell? ⟨b, off + i, none⟩ = some (.string (L.getD i ⟨#[]⟩)))

theorem below_draws {B : Nat} {a w : World} (h : Below B a w) (n : Nat) : Below B a (w.drewN n) := h.trans ⟨rfl, rfl, rfl, Nat.le_refl _, fun _ _ => rfl⟩

theorem vss_get {w : World} {B n i : Nat} {v : Value} {l : List ByteArray} (h : w.ownsRow B 9 1 v n (vss l)) (hn : n = l.length) (hi : i < n) : ∃ g c, v = .slice (some ⟨g, 0, none⟩) n c ∧ ∀ i, i < n → w.cell? ⟨g, i, none⟩ = some (.string (l.getD i ⟨#[]⟩)) := by
  obtain ⟨g, c, rfl, -⟩ := own_shape h (by omega)
  refine ⟨g, c, rfl, fun j hj => ?_⟩
  have := h.cellAt j (by omega)
  rw [this]
  subst hn
  simp [vss, hj]

set_option maxHeartbeats 4000000 in
theorem order_walk (a : Option Addr) (len cap : Nat) (L : List ByteArray) (r : Nat) (hr : r ≤ 255) (w : World) (hS : SRow w a len cap L) :
    Calls Try.prog 4 #[.slice a len cap, .int .u8 r] w fun e w' => e = .returned (.bool true) ∧ Below w.heap.size w w' := by
  have halive := alive_ok w
  obtain ⟨hL, hlc, hcm, hcells⟩ := hS
  by_cases h300 : len ≤ 300
  · have g300 : ¬ 300 < (len : Int) := by omega
    obtain ⟨N, hN⟩ : ∃ N : Nat, N = r + 1 := ⟨_, rfl⟩
    have hnew1 := fun w => new_s (1 + (r : Int)) w
    have hR : roomC (1 + (r : Int)) = N := by unfold roomC; rw [if_pos (by omega)]; omega
    rw [hR] at hnew1
    have hnew2 := hnew1
    have hN1 : 1 ≤ N ∧ N ≤ 256 := by omega
    have hNI : (N : Int) = 1 + (r : Int) := by omega
    replace hR := hid hR
    replace hN := hid hN
    replace hL := hid hL
    replace hNI := hid hNI
    go_enter Try.func4, Try.ntmps4
    go_upto_region 6 with (first | (go_at_call 6; refine halive.mono ?_; clear halive; rintro e w0 ⟨rfl, hb0⟩))
    go_upto_region 7 with (first | (go_at_call 10; refine (hnew1 _).mono ?_; clear hnew1; rintro e w1 ⟨⟨q, rfl, ch, hq1, hch1⟩, hb1⟩) | (go_at_call 10; refine (hnew2 _).mono ?_; clear hnew2; rintro e w2 ⟨⟨p, rfl, ch', hp2, hch2⟩, hb2⟩))
    have hq2 := hq1.below hb2
    have s0 := hb0.size
    have s1 := hb1.size
    have s2 := hb2.size
    have hge1 : ∀ k, ch = some k → w.heap.size ≤ k := fun k hk => by have := hq1.ge k hk; omega
    have hge2 : ∀ k, ch' = some k → w.heap.size ≤ k := fun k hk => by have := hp2.ge k hk; omega
    have hne : ¬ ch = ch' := by
      rcases hq1 with ⟨-, -, h, -⟩ | ⟨hd, c, s, r, gs, -, rfl, hq⟩
      · omega
      · intro e; have h1 := hch1 c rfl; have h2 := hp2.ge c e.symm; omega
    have hS1 : ∀ c, ch' = some c → ¬ Of ch c := fun c e e' => hne (by unfold Of at e'; rw [e, e'])
    have hS2 : ∀ c, ch = some c → ¬ Of ch' c := fun c e e' => hne (by unfold Of at e'; rw [e, e'])
    have hbw : Below w.heap.size w w2 := (hb0.trans (hb1.mono s0)).trans (hb2.mono (by omega))
    clear hq1 hb0 hb1 hb2 hch1 hch2
    go_wp2
    go_loopw [8] (fun y wr => ∃ i : Nat, y = .int .i64 i ∧ i ≤ len ∧ Qu wr w0.heap.size q N ch (vss (L.take (min i N))) ∧ Qu wr w1.heap.size p N ch' [] ∧ Below w.heap.size w wr) (fun y _ => len - (RowKit.intOf y).toNat)
    case atStart => exact ⟨0, by go_num, Nat.zero_le _, by simpa [vss] using hq2, hp2, hbw⟩
    case round =>
      obtain ⟨i, rfl, hi, hq, hp, hb⟩ := hrel
      have hsz := hb.size
      by_cases hlt : i < len
      · obtain ⟨b, off, rfl, hcell⟩ := hcells (by omega)
        have hc := cell_later hb (hcell i hlt)
        have hlen : (vss (L.take (min i N))).length = min i N := by rw [vss_len]; have := hL.out; simp; omega
        have hpush := push_s (L.getD i ⟨#[]⟩) hq
        have hx : L.getD i ⟨#[]⟩ = L[i]'(by have := hL.out; omega) := by simp [List.getD]; rw [List.getElem?_eq_getElem (by have := hL.out; omega)]; rfl
        have hpu : pushL_s N (vss (L.take (min i N))) (L.getD i ⟨#[]⟩) = vss (L.take (min (i + 1) N)) := by
          unfold pushL_s
          by_cases hiN : i < N
          · rw [if_pos (by omega), show min i N = i by omega, show min (i + 1) N = i + 1 by omega, List.take_succ_eq_append_getElem (by have := hL.out; omega), vss_app, hx]; rfl
          · rw [if_neg (by omega), show min (i + 1) N = min i N by omega]
        rw [hpu, hlen] at hpush
        generalize L.getD i ⟨#[]⟩ = x at *
        replace hpu := hid hpu
        replace hlen := hid hlen
        replace hx := hid hx
        by_cases hiN : i < N
        · have e1 : decide (min i N < N) = true := by simp; omega
          have g1 : (i : Int) < 1 + (r : Int) := by have := hNI.out; omega
          rw [e1] at hpush
          clear e1
          go_wp2_with (first | (go_at_call 11; refine hpush.mono ?_; clear hpush; rintro e w3 ⟨rfl, hq3, hn3⟩))
          go_roundw
          case rel => exact ⟨i + 1, by go_num, by omega, hq3, hp.near hn3 hS1, hb.trans (hn3.below hsz hge1)⟩
          case measure => simp [RowKit.intOf]; omega
        · have e1 : decide (min i N < N) = false := by simp; omega
          have g1 : ¬ (i : Int) < 1 + (r : Int) := by have := hNI.out; omega
          rw [e1] at hpush
          clear e1
          go_wp2_with (first | (go_at_call 11; refine hpush.mono ?_; clear hpush; rintro e w3 ⟨rfl, hq3, hn3⟩))
          go_roundw
          case rel => exact ⟨i + 1, by go_num, by omega, hq3, hp.near hn3 hS1, hb.trans (hn3.below hsz hge1)⟩
          case measure => simp [RowKit.intOf]; omega
      · obtain ⟨K, hK⟩ : ∃ K, K = min i N := ⟨_, rfl⟩
        rw [← hK] at hq
        have hKL : (L.take K).length = K := by have := hL.out; simp; omega
        have hm1 := move_s_same 5 hq hq
        have hm2 := move_s_two 5000 (L.take K) [] hq hp hne
        have e0 : moveN 5000 (L.take K).length N ([] : List ByteArray).length = K := by rw [hKL]; unfold moveN; simp; omega
        rw [e0, List.drop_eq_nil_of_le (by omega), List.nil_append, List.take_take, Nat.min_self] at hm2
        have hlen1 := fun w (h : Qu w w0.heap.size q N ch []) => len_s h
        have hall := fun w (h : Qu w w1.heap.size p N ch' (vss (L.take K))) => all_s (L.take K) h
        rw [hKL] at hall
        have hlen2 := fun w (h : Qu w w1.heap.size p N ch' []) => len_s h
        replace hK := hid hK
        replace hKL := hid hKL
        replace e0 := hid e0
        obtain rfl : i = len := by omega
        have hmin : ∀ ts ty w, (Builtin.min_ ts ty #[.int .i64 (1 + (r : Int)), .int .i64 (i : Int)]).run Try.prog w = .ok (.int .i64 (K : Int)) w := fun ts ty w => by
          have hk := hK.out
          have hn := hN.out
          have h0 : (Builtin.min_ ts ty #[.int .i64 (1 + (r : Int)), .int .i64 (i : Int)]).run Try.prog w = .ok (.int .i64 (if (i : Int) < 1 + (r : Int) then (i : Int) else 1 + (r : Int))) w := by simp [Builtin.min_, Builtin.min2]
          rw [h0]
          have h1 : (if (i : Int) < 1 + (r : Int) then (i : Int) else 1 + (r : Int)) = K := by split <;> omega
          rw [h1]
        simp only [List.length_nil, Int.natCast_zero] at hlen1 hlen2
        have hKN : K ≤ 256 := by have := hK.out; omega
        go_wp2_with (first | (go_at_call 12; refine hm1.mono ?_; clear hm1; rintro e w3 ⟨hw, rfl⟩; obtain rfl := hw.symm) | (go_at_call 12; refine hm2.mono ?_; clear hm2; rintro e w4 ⟨rfl, hq4, hp4, hn4⟩) | (go_at_call 13; refine (hlen1 _ hq4).mono ?_; clear hlen1; rintro e w5 ⟨hw, rfl⟩; obtain rfl := hw.symm) | (go_at_call 14; refine (hall _ hp4).mono ?_; clear hall; rintro e w6 ⟨⟨v, rfl, hown⟩, hp6, hn6⟩; obtain ⟨sa, sc, rfl⟩ := own_slice hown) | (go_at_call 13; refine (hlen2 _ hp6).mono ?_; clear hlen2; rintro e w7 ⟨hw, rfl⟩; obtain rfl := hw.symm))
        have hb6 : Below w.heap.size w w6 := (hb.trans (hn4.below hsz (fun k hk => hk.elim (hge1 k) (hge2 k)))).trans (hn6.below (by have := hn4.size; omega) hge2)
        go_loopw [11] (fun y wr => ∃ j : Nat, y = .int .i64 j ∧ j ≤ K ∧ Below w6.heap.size w6 wr) (fun y _ => K - (RowKit.intOf y).toNat)
        case atStart => exact ⟨0, by go_num, Nat.zero_le _, Below.refl _ _⟩
        case round =>
          obtain ⟨j, rfl, hj, hbj⟩ := hrel
          by_cases hjK : j < K
          · have hji : j < i := by have := hK.out; omega
            obtain ⟨b, off, rfl, hcell⟩ := hcells (by omega)
            have c2 := cell_later (hb6.trans (hbj.mono hb6.size)) (hcell j hji)
            obtain ⟨g, c, hv, hrow⟩ := vss_get hown hKL.out.symm hjK
            have c1 := cell_later hbj (hrow j hjK)
            have hx : (L.take K).getD j ⟨#[]⟩ = L.getD j ⟨#[]⟩ := by
              simp only [List.getD_eq_getElem?_getD]
              rw [List.getElem?_take_of_lt hjK]
            rw [hx] at c1
            simp only [Value.slice.injEq] at hv
            obtain ⟨rfl, -, rfl⟩ := hv
            generalize L.getD j ⟨#[]⟩ = x at *
            have hxx : (x.toList != x.toList) = false := by simp
            replace hx := hid hx
            clear hcell hrow hcells hmin
            go_upto_region 21 with fail
            go_quiet (fail)
            go_wp2
            go_roundw
            case rel => exact ⟨j + 1, by go_num, by omega, below_draws hbj _⟩
            case measure => simp [RowKit.intOf]; omega
          · clear hcells hmin
            go_wp2
            go_ret
            exact ⟨rfl, hb6.trans (hbj.mono hb6.size)⟩
  · have g300 : 300 < (len : Int) := by omega
    clear hcells
    go_enter Try.func4, Try.ntmps4
    go_wp2_with (first | (go_at_call 6; refine halive.mono ?_; clear halive; rintro e w0 ⟨rfl, hb0⟩))
    go_ret
    exact ⟨rfl, hb0⟩

end Go.Proofs.Ytekacaocijfepaa
