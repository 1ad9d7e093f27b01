/-
  READERS OF BLOCKS: what one is in memory; it asks for pieces till there is a whole block. Conditions: how many bytes there are.
-/
import Derived.Test.YtfcbiiakhgeogaaSq
import Derived.Deep.DeepCutAuto
namespace Go.Proofs.Ytfcbiiakhgeogaa
open Go.ChangeShapes Go.WideShapes Go.ChangeAt Go.RowKit Go.Lib
set_option linter.unusedVariables false
set_option linter.unusedSimpArgs false
set_option maxRecDepth 20000

/-- the bytes kept behind i pieces and t blocks -/
def kept (L Z : List Int) (i t : Nat) : List Int := (L.take (eN L.length Z i)).drop (512 * t)

/-- the reader in block p: it has asked for i pieces and told t blocks -/
def Rd (w : World) (p : Nat) (L Z : List Int) (i t : Nat) (R : Nat → Prop) : Prop :=
  ∃ sv kv Rs Rk, R p ∧ Blk w p #[sv, kv, .int .i64 t] 49 ∧ Sc w sv (L.drop (eN L.length Z i)) (zAt Z i) Rs ∧ Kp w kv (u8s (kept L Z i t)) Rk ∧
    (∀ k, Rs k → R k ∧ k ≠ p ∧ ¬ Rk k) ∧ (∀ k, Rk k → R k ∧ k ≠ p) ∧ 512 * t ≤ eN L.length Z i

theorem Rd.nr {S R : Nat → Prop} {w w' : World} {p : Nat} {L Z : List Int} {i t : Nat} (h : Rd w p L Z i t R) (hn : Nr S w w') (hd : ∀ k, R k → ¬ S k) : Rd w' p L Z i t R := by
  obtain ⟨sv, kv, Rs, Rk, h1, h2, h3, h4, h5, h6, h7⟩ := h
  exact ⟨sv, kv, Rs, Rk, h1, h2.nr hn (hd p h1), h3.nr hn (fun k hk => hd k (h5 k hk).1), h4.nr hn (fun k hk => hd k (h6 k hk).1), h5, h6, h7⟩
theorem Rd.below {R : Nat → Prop} {w w' : World} {p : Nat} {L Z : List Int} {i t : Nat} (h : Rd w p L Z i t R) (hn : Below w.heap.size w w') : Rd w' p L Z i t R := h.nr (S := No) (Nr.of_below hn) (fun _ _ h => h)

theorem kept_len (L Z : List Int) (i t : Nat) : (kept L Z i t).length = eN L.length Z i - 512 * t := by
  have := eN_le L.length Z i
  unfold kept; rw [List.length_drop, List.length_take, Nat.min_eq_left this]

def FillPost (w w' : World) (p : Nat) (L Z : List Int) (i t : Nat) (R : Nat → Prop) : Prop :=
  ∃ j R', Rd w' p L Z j t R' ∧ Stop L.length Z t i j ∧ (∀ k, R' k → R k ∨ w.heap.size ≤ k) ∧ Nr R w w'

set_option maxHeartbeats 2000000 in
theorem fill_ok {w : World} {p : Nat} {L Z : List Int} {i t : Nat} {R : Nat → Prop} (h : Rd w p L Z i t R) (hl : L.length ≤ 1000000) :
    Calls Try.prog 24 #[.pointer (some ⟨p, 0, none⟩)] w fun e w' => e = .returned (.tuple #[]) ∧ FillPost w w' p L Z i t R := by
  go_enter Try.func24, Try.ntmps24
  go_wp2
  go_loopg [2, 3] (L.length - eN L.length Z i) (fun k _ _ wr => ∃ j R', k = L.length - eN L.length Z j ∧ Rd wr p L Z j t R' ∧ (∀ k, R' k → R k ∨ w.heap.size ≤ k) ∧ Nr R w wr ∧ i ≤ j ∧ ∀ m, i ≤ m → m < j → eN L.length Z m - 512 * t < 512 ∧ eN L.length Z m < L.length)
  case atStart => exact ⟨i, R, rfl, h, fun k hk => .inl hk, Nr.refl _ _, Nat.le_refl _, fun m h1 h2 => by omega⟩
  case round =>
    obtain ⟨j, R', hk, hrd, hRR, hnr, hij, hgo⟩ := hrel
    obtain ⟨sv, kv, Rs, Rk, h1, h2, h3, h4, h5, h6, h7⟩ := id hrd
    have hjn := eN_le L.length Z j
    obtain ⟨ka, kc, rfl, hkc1, hkc2⟩ := h4.rng.shape
    have hkl : (u8s (kept L Z j t)).length = eN L.length Z j - 512 * t := by rw [u8s_len', kept_len]
    generalize hm : (u8s (kept L Z j t)).length = m at *
    have hc0 : wr.cell? ⟨p, 0, none⟩ = some sv := by have := h2.cell 0; simpa using this
    have hc1 : wr.cell? ⟨p, 1, none⟩ = some (.slice ka m kc) := by have := h2.cell 1; simpa using this
    by_cases h512 : m < 512
    · by_cases hend : eN L.length Z j < L.length
      · -- a piece
        have hlen : 0 < (L.drop (eN L.length Z j)).length := by rw [List.length_drop]; omega
        rcases h3 with ⟨-, hnil⟩ | ⟨s, rfl, hsn⟩
        · rw [hnil] at hlen; simp at hlen
        have hsl : s < wr.heap.size ∧ Rs s := by obtain ⟨_, _, h, h', _⟩ := hsn; exact ⟨h'.lt, h⟩
        have hpc := piece_some hsn hlen (by rw [List.length_drop]; omega)
        rw [zAt_next] at hpc
        have hps : ¬ p = s := fun e => (h5 s hsl.2).2.1 e.symm
        have hmI : (m : Int) < 512 := by omega
        have hmore := kept_more L Z j t h7
        have hdd : (L.drop (eN L.length Z j)).drop (pieceN (L.drop (eN L.length Z j)) (zAt Z j)) = L.drop (eN L.length Z (j + 1)) := by rw [List.drop_drop, ← eN_next L.length Z L rfl j]
        rw [hdd] at hpc
        have hjn' := eN_le L.length Z (j + 1)
        have hlt' := eN_lt hend
        have hml := hm
        replace hk := hid hk
        replace hkl := hid hkl
        replace hm := hid hm
        replace hdd := hid hdd
        have hpush : ∀ w1 v, Nr (fun k => k = s) wr w1 → Rng w1 v (u8s ((L.drop (eN L.length Z j)).take (pieceN (L.drop (eN L.length Z j)) (zAt Z j)))) (fun k => wr.heap.size ≤ k) →
            ∃ a n c w2, (Builtin.append_ #[22, 22] 22 #[.slice ka m kc, v]).run Try.prog w1 = .ok (.slice a n c) w2 ∧ Kp w2 (.slice a n c) (u8s (kept L Z (j + 1) t)) (fun k => Rk k ∨ w1.heap.size ≤ k) ∧ Nr Rk w1 w2 := by
          intro w1 v hn1 hv
          obtain ⟨v', w', hr, k1, k2⟩ := app_b (ty := 22) (h4.nr hn1 (fun k hk e => (h5 s hsl.2).2.2 (e ▸ hk))) hv (by rw [hml, u8s_len', List.length_take, List.length_drop]; omega)
          obtain ⟨a, c, rfl, -⟩ := k1.rng.shape
          refine ⟨a, _, c, w', hr, ?_, k2⟩
          have e : u8s (kept L Z j t) ++ u8s ((L.drop (eN L.length Z j)).take (pieceN (L.drop (eN L.length Z j)) (zAt Z j))) = u8s (kept L Z (j + 1) t) := by
            rw [u8s_app]; unfold kept; rw [hmore]
          rw [← e]; exact k1
        generalize pieceN (L.drop (eN L.length Z j)) (zAt Z j) = N at *
        generalize (L.drop (eN L.length Z j)).take N = piece at *
        clear hmore hml
        go_upto_region 3 with (first | (go_at_call 12; refine hpc.mono ?_; clear hpc; rintro e w1 ⟨⟨v, rfl, hv⟩, hs1, hn1⟩; obtain ⟨va, vc, e1, -⟩ := hv.shape; subst e1))
        obtain ⟨a2, n2, c2, w2, hr, hk2, hn2⟩ := hpush w1 _ hn1 hv
        have hb1 : Blk w1 p _ _ := h2.nr hn1 (fun e => hps e)
        have hb2 : Blk w2 p _ _ := hb1.nr hn2 (fun e => (h6 p e).2 rfl)
        have hc1' : w1.cell? ⟨p, 1, none⟩ = some (.slice ka m kc) := by have := hb1.cell 1; simpa using this
        have hc2' : w2.cell? ⟨p, 1, none⟩ = some (.slice ka m kc) := by have := hb2.cell 1; simpa using this
        have hf2 : w2.frozen? ⟨p, 1, none⟩ = false := hb2.free 1
        generalize (u8s piece).length = pn at *
        go_wp2_with (first | (at_builtin; go_loud (refine Lib.wpList_append_run _ rfl (.tmp 24) (.tmp 25) 22 22 rfl _ _ rfl rfl _ _ hr ?_)))
        go_roundg (L.length - eN L.length Z (j + 1))
        case measure => have := hk.out; omega
        case rel =>
          have hsz1 := hn1.size
          have hsz2 := hn2.size
          have hwsz := hnr.size
          have hset : ∀ u, Nr (fun k => k = p) w2 (w2.setCell ⟨p, 1, none⟩ u) := fun u => Nr.setCell (S := fun k => k = p) (p := ⟨p, 1, none⟩) (Nr.refl _ _) rfl u
          have hpw : p < wr.heap.size := h2.lt
          refine ⟨j + 1, fun k => R' k ∨ wr.heap.size ≤ k, rfl, ⟨_, _, fun k => Rs k ∧ k < w1.heap.size, fun k => Rk k ∨ w1.heap.size ≤ k, .inl h1, hb2.set (i := 1) _, .inr ⟨s, rfl, ?_⟩, hk2.nr (hset _) ?_, ?_, ?_, by omega⟩, ?_, ?_, by omega, ?_⟩
          · exact ((hs1.mono (R' := fun k => Rs k ∧ k < w1.heap.size) (fun k hk h => ⟨h, hk⟩)).nr hn2 (fun k hk e => (h5 k hk.1).2.2 e)).nr (hset _) (fun k hk e => (h5 k hk.1).2.1 e)
          · rintro k (hk | hk) e
            · exact (h6 k hk).2 e
            · omega
          · intro k hk
            refine ⟨.inl (h5 k hk.1).1, (h5 k hk.1).2.1, fun e => ?_⟩
            rcases e with e | e
            · exact (h5 k hk.1).2.2 e
            · omega
          · rintro k (hk | hk)
            · exact ⟨.inl (h6 k hk).1, (h6 k hk).2⟩
            · exact ⟨.inr (by omega), by omega⟩
          · rintro k (hk | hk)
            · exact hRR k hk
            · exact .inr (by omega)
          · refine hnr.trans' (T := R') (((hn1.mono (fun k e => ?_)).trans (hn2.mono fun k hk => (h6 k hk).1)).trans ((hset _).mono (fun k e => ?_))) hRR
            · subst e; exact (h5 _ hsl.2).1
            · subst e; exact h1
          · intro m' hm1 hm2
            by_cases e : m' = j
            · subst e; have := hkl.out; have := hm.out; omega
            · exact hgo m' hm1 (by omega)
      · have hnil : L.drop (eN L.length Z j) = [] := List.drop_eq_nil_of_le (by omega)
        rw [hnil] at h3
        have hpn := piece_none h3
        have hmI : (m : Int) < 512 := by omega
        replace hk := hid hk
        replace hkl := hid hkl
        replace hm := hid hm
        replace hnil := hid hnil
        go_wp2_with (first | (go_at_call 12; refine hpn.mono ?_; clear hpn; rintro e w1 ⟨hw, rfl⟩; obtain rfl := hw.symm))
        exact bodyPost_ret (v := .tuple #[]) (by simp [results, Try.results24]) rfl ⟨rfl, j, R', hrd, ⟨hij, hgo, by omega⟩, hRR, hnr⟩
    · have hmI : ¬ (m : Int) < 512 := by omega
      replace hk := hid hk
      have hkl' := hkl
      replace hkl := hid hkl
      replace hm := hid hm
      go_wp2
      exact bodyPost_end (v := .tuple #[]) (by simp [results, Try.results24]) rfl ⟨rfl, j, R', hrd, ⟨hij, hgo, by omega⟩, hRR, hnr⟩

end Go.Proofs.Ytfcbiiakhgeogaa
