/-
  WRITERS: Pad; how much is wanted to whole blocks. Conditions: how many bytes there are.
-/
import Derived.Test.YtlpkhaegfghdkaaKw
import Derived.Laws.BitsLemmas
namespace Go.Proofs.Ytlpkhaegfghdkaa
open Go.ChangeShapes Go.WideShapes Go.ChangeAt Go.RowKit Go.Lib
set_option linter.unusedVariables false
set_option linter.unusedSimpArgs false
set_option maxRecDepth 20000

/-- how many noughts there are behind c bytes -/
def restN (c : Nat) : Nat := if c % 512 = 0 then 0 else 512 - c % 512
theorem restN_le (c : Nat) : restN c ≤ 511 := by unfold restN; split <;> omega

theorem trest_ok (w : World) (c : Nat) (hc : c ≤ 1000000000000) : Calls Try.prog 20 #[.int .i64 c] w fun e w' => w' = w ∧ e = .returned (.int .i64 (restN c : Nat)) := by
  have hmax : ∀ ts ty w, (Builtin.max_ ts ty #[.int .i64 (c : Int), .int .i64 0]).run Try.prog w = .ok (.int .i64 (c : Int)) w := fun ts ty w => by
    have h1 : (Builtin.max_ ts ty #[.int .i64 (c : Int), .int .i64 0]).run Try.prog w = .ok (.int .i64 (if (0 : Int) > (c : Int) then 0 else (c : Int))) w := by simp [Builtin.max_, Builtin.max2]
    rw [h1, if_neg (by omega)]
  by_cases h0 : c % 512 = 0
  · have e : restN c = 0 := by unfold restN; rw [if_pos h0]
    rw [e]
    have h1 : (c : Int) % 512 = 0 := by omega
    replace e := hid e
    replace h0 := hid h0
    go_enter Try.func20, Try.ntmps20
    go_wp2
    go_ret
    exact ⟨rfl, rfl⟩
  · have e : restN c = 512 - c % 512 := by unfold restN; rw [if_neg h0]
    obtain ⟨K, hK⟩ : ∃ K, K = restN c := ⟨_, rfl⟩
    rw [← hK]
    have h1 : ¬ (c : Int) % 512 = 0 := by omega
    have h2 : IntKind.i64.wrap (512 - (c : Int) % 512) = (K : Int) := by rw [IntKind.wrap_i64]; omega
    replace e := hid e
    replace h0 := hid h0
    replace hK := hid hK
    go_enter Try.func20, Try.ntmps20
    go_wp2
    go_ret
    exact ⟨rfl, rfl⟩

theorem rrest_ok (w : World) (c : Nat) (hc : c ≤ 1000000000000) : Calls Try.prog 14 #[.int .i64 c] w fun e w' => w' = w ∧ e = .returned (.int .i64 (restN c : Nat)) := by
  have hneg : ¬ (c : Int) < 0 := by omega
  by_cases h0 : c % 512 = 0
  · have e : restN c = 0 := by unfold restN; rw [if_pos h0]
    rw [e]
    have h1 : (c : Int) % 512 = 0 := by omega
    replace e := hid e
    replace h0 := hid h0
    go_enter Try.func14, Try.ntmps14
    go_wp2
    go_ret
    exact ⟨rfl, rfl⟩
  · have e : restN c = 512 - c % 512 := by unfold restN; rw [if_neg h0]
    obtain ⟨K, hK⟩ : ∃ K, K = restN c := ⟨_, rfl⟩
    rw [← hK]
    have h1 : ¬ (c : Int) % 512 = 0 := by omega
    have h2 : IntKind.i64.wrap (512 - (c : Int) % 512) = (K : Int) := by rw [IntKind.wrap_i64]; omega
    replace e := hid e
    replace h0 := hid h0
    replace hK := hid hK
    go_enter Try.func14, Try.ntmps14
    go_wp2
    go_ret
    exact ⟨rfl, rfl⟩

theorem info_512 : (Try.prog.info? 50).map (fun i => i.zero) = some (some (.agg (Array.replicate 512 (.int .u8 0)))) := by kernel_rfl

theorem zero_512 : ∃ Z : Array Value, Z.toList = u8s (List.replicate 512 0) ∧ ∀ w, (zeroValue 50).run Try.prog w = .ok (.agg Z) w := by
  refine ⟨Array.replicate 512 (.int .u8 0), by simp [u8s], fun w => ?_⟩
  have h := info_512
  cases hi : Try.prog.info? 50 with
  | none => rw [hi] at h; cases h
  | some i =>
    rw [hi] at h
    simp only [Option.map_some, Option.some.injEq] at h
    simp [zeroValue, typeInfo, hi, h]

theorem lit_rng (w : World) (xs : List Value) (e : TypeId) (C : Array Value) (hC : C.toList = xs) (n : Nat) (hn : xs.length = n) (hx : ∀ u ∈ xs, u.oneCell' = true) (hl : n ≤ 1000000) :
    Rng (w.alloc (.cells C e)) (.slice (some ⟨w.heap.size, 0, none⟩) n n) xs (fun k => k = w.heap.size) := by
  subst hn
  refine ⟨_, xs.length, rfl, Nat.le_refl _, by unfold maxLen; omega, hx, .inr ⟨w.heap.size, 0, rfl, rfl, fun j v hv => ?_⟩⟩
  rw [Nat.zero_add, cell_of_row _ _ j _ e (0, 0) (heap_alloc_last w _), ← Array.getElem?_toList, hC]; exact hv

/-- noughts -/
def zer (n : Nat) : List Int := List.replicate n 0
theorem zer_len (n : Nat) : (zer n).length = n := by simp [zer]

theorem zer_rng (w : World) {Z : Array Value} (hZ : Z.toList = u8s (List.replicate 512 0)) {k : Nat} (hk : k ≤ 511) : Rng (w.alloc (.cells Z 50)) (.slice (some ⟨w.heap.size, 0, none⟩) k 512) (u8s (zer k)) (fun x => x = w.heap.size) := by
  have h := lit_rng w _ 50 Z hZ 512 (by simp [u8s]) (ints_oneCell _ _) (by omega)
  have h2 := h.upto (k := k) (by simp [u8s]; omega)
  have e : (u8s (List.replicate 512 0)).take k = u8s (zer k) := by
    rw [← u8s_take, List.take_replicate, Nat.min_eq_left (by omega)]; rfl
  rw [← e]; exact h2

theorem pad_nil (w : World) : Calls Try.prog 16 #[.pointer none] w fun e w' => e = .returned (.int .u8 1) ∧ Below w.heap.size w w' := by
  have hcnt := fun w => count_nil w
  have hrest : ∀ w, Calls Try.prog 20 #[.int .i64 0] w fun e w' => w' = w ∧ e = .returned (.int .i64 0) := fun w => trest_ok w 0 (by omega)
  have hput := fun w a n c => put_nil w a n c
  obtain ⟨Z, hZ, hz⟩ := zero_512
  go_enter Try.func16, Try.ntmps16
  go_wp2_with (first | (go_at_call 17; refine (hcnt _).mono ?_; clear hcnt; rintro e w' ⟨hw, rfl⟩; obtain rfl := hw.symm) | (go_at_call 20; refine (hrest _).mono ?_; clear hrest; rintro e w' ⟨hw, rfl⟩; obtain rfl := hw.symm) | (go_at_call 15; refine (hput _ _ _ _).mono ?_; clear hput; rintro e w' ⟨hw, rfl⟩; obtain rfl := hw.symm))
  go_ret
  exact ⟨rfl, (Below.refl _ _).alloc (Nat.le_refl _) _⟩

theorem pad_told {w : World} {p s : Nat} {room f : Int} {c : Nat} {T : List Int} {R : Nat → Prop} (h : Wk w p s room T f c R) (hf : f ≠ 0) (hc : c ≤ 1000000000000) : Calls Try.prog 16 #[.pointer (some ⟨p, 0, none⟩)] w fun e w' => e = .returned (.int .u8 f) ∧ Below w.heap.size w w' := by
  have hcnt := fun w1 (hb : Below w.heap.size w w1) => count_ok (h.below hb)
  have hrest := fun w => trest_ok w c hc
  have hrl := restN_le c
  have hput := fun w1 (hb : Below w.heap.size w w1) a n c => put_told (h.below hb) hf a n c
  obtain ⟨Z, hZ, hz⟩ := zero_512
  have hb1 : Below w.heap.size w (w.alloc (.cells Z 50)) := (Below.refl _ _).alloc (Nat.le_refl _) _
  generalize restN c = k at *
  have k1 : (k : Int) ≤ 512 := by omega
  clear hZ
  go_enter Try.func16, Try.ntmps16
  go_wp2_with (first | (go_at_call 17; refine (hcnt _ hb1).mono ?_; clear hcnt; rintro e w' ⟨hw, rfl⟩; obtain rfl := hw.symm) | (go_at_call 20; refine (hrest _).mono ?_; clear hrest; rintro e w' ⟨hw, rfl⟩; obtain rfl := hw.symm) | (go_at_call 15; refine (hput _ hb1 _ _ _).mono ?_; clear hput; rintro e w' ⟨hw, rfl⟩; obtain rfl := hw.symm))
  go_ret
  exact ⟨rfl, hb1⟩

theorem pad_ok {w : World} {p s : Nat} {room : Int} {c : Nat} {T : List Int} {R : Nat → Prop} (h : Wk w p s room T 0 c R) (hT : T.length ≤ 100000000) (hc : c ≤ 1000000000000) (hr : room < 0 ∨ (T.length : Int) ≤ room) (hr2 : room ≤ 9223372036854775807) :
    Calls Try.prog 16 #[.pointer (some ⟨p, 0, none⟩)] w fun e w' =>
      e = .returned (.int .u8 (takeC (fitN room T.length (restN c)) (restN c))) ∧
      Wk w' p s room (T ++ (zer (restN c)).take (fitN room T.length (restN c))) (takeC (fitN room T.length (restN c)) (restN c)) (cntN c (fitN room T.length (restN c)) (restN c)) (fun k => R k ∨ w.heap.size ≤ k) ∧ Nr R w w' := by
  have hcnt := fun w1 (hb : Below w.heap.size w w1) => count_ok (h.below hb)
  have hrest := fun w => trest_ok w c hc
  have hrl := restN_le c
  obtain ⟨Z, hZ, hz⟩ := zero_512
  have hb1 : Below w.heap.size w (w.alloc (.cells Z 50)) := (Below.refl _ _).alloc (Nat.le_refl _) _
  have hput := put_ok (h.below hb1) (zer_rng w hZ hrl) hT (by rw [zer_len]; omega) hc hr hr2
  rw [zer_len] at hput
  generalize restN c = k at *
  have k1 : (k : Int) ≤ 512 := by omega
  have hs1 := hb1.size
  clear hZ
  go_enter Try.func16, Try.ntmps16
  go_wp2_with (first | (go_at_call 17; refine (hcnt _ hb1).mono ?_; clear hcnt; rintro e w' ⟨hw, rfl⟩; obtain rfl := hw.symm) | (go_at_call 20; refine (hrest _).mono ?_; clear hrest; rintro e w' ⟨hw, rfl⟩; obtain rfl := hw.symm) | (go_at_call 15; refine hput.mono ?_; clear hput; rintro e w2 ⟨rfl, hw2, hn2⟩))
  go_ret
  refine ⟨rfl, ?_, (Nr.of_below hb1).trans hn2⟩
  obtain ⟨Rs, q1, q2, q3, q4⟩ := hw2
  refine ⟨Rs, ?_, q2, q3, fun k hk => ⟨?_, (q4 k hk).2⟩⟩
  · rcases q1 with q | q
    · exact .inl q
    · exact .inr (by omega)
  · rcases (q4 k hk).1 with q | q
    · exact .inl q
    · exact .inr (by omega)

end Go.Proofs.Ytlpkhaegfghdkaa
