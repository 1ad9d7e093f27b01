/-
  For every slice of bytes and every two small numbers the law NumPads returns true: blanks ahead, and noughts or blanks behind, change nothing of an octal field. No condition.
-/
import Derived.Test.YtknkgahhehjikaaRows
import Derived.Test.YtknkgahhehjikaaPad
import Derived.WalkKit
import Derived.ProofKit
import Derived.OpenShut
import Derived.ShutString
import Derived.ChangeOld
import Derived.Below
namespace Go.Proofs.Ytknkgahhehjikaa.numPads
open Go.ChangeShapes Go.WideShapes Go.ChangeAt Go.RowKit
open Go.ChangeMaps (open_string shut_string)
set_option linter.unusedVariables false

theorem own : ownKnob Try.prog.godebug = none := by kernel_rfl
theorem laidOut : laidOutB Try.prog = true := by kernel_rfl

/-- WHAT THE WALK IS TOLD OF A SLICE OF INTEGERS THAT CAME IN: it is nil; or it leads to a row of 'cap' cells, the numbers 'zs' (the first 'len' are its elements, the rest its spare room), each fitting its kind. -/
def IsRow (k : IntKind) (w : World) (a : Option Addr) (len cap : Nat) (zs : List Int) : Prop :=
  (a = none ∧ len = 0 ∧ cap = 0 ∧ zs = []) ∨
  ∃ x, a = some x ∧ len ≤ cap ∧ cap ≤ maxLen ∧ zs.length = cap ∧ (∀ i, i < zs.length → w.cell? (x.add i) = some (.int k (zs.getD i 0))) ∧ ∀ n ∈ zs, (Lit.int k n).wf = true

theorem row_bys {w : World} {a : Option Addr} {len cap : Nat} {zs : List Int} (h : IsRow .u8 w a len cap zs) : Bys w a len cap (zs.take len) := by
  rcases h with ⟨rfl, rfl, rfl, rfl⟩ | ⟨x, rfl, hl, hm, hz, hcell, hwz⟩
  · exact Bys.mk0 (by omega)
  · unfold maxLen at hm
    have hr : ∀ n ∈ zs.take len, 0 ≤ n ∧ n ≤ 255 := fun n hn => bounds_u8 (hwz n (List.mem_of_mem_take hn))
    by_cases h0 : len = 0
    · subst h0; exact Bys.mk0 (by omega)
    · obtain ⟨b, off, spot⟩ := x
      have hc := hcell 0 (by omega)
      have hspot : spot = none := by simpa [Addr.add] using World.cell?_spot hc
      subst hspot
      refine Bys.mk' (by simp; omega) hl (by omega) ⟨hr, fun i hi => ?_⟩
      have hi' : i < len := by simp at hi; omega
      have := hcell i (by omega)
      rw [show (⟨b, off, none⟩ : Addr).add i = ⟨b, off + i, none⟩ by simp [Addr.add]] at this
      rw [this]
      simp [hi']


theorem own_more {w : World} {B n : Nat} {v : Value} {a f : List Int} {x : Int} (h : w.ownsRow B 5 1 v n (u8s (a ++ f) ++ [.int .u8 x])) : w.ownsRow B 5 1 v n (u8s (a ++ (f ++ [x]))) := by
  rw [← List.append_assoc, ← u8s_app]; exact h

theorem fill_more {f : List Int} {k : Nat} (h : f.all fill = true) : (f ++ [32 * ((k : Int) % 2)]).all fill = true := by
  rw [List.all_append, h]
  have : 32 * ((k : Int) % 2) = 0 ∨ 32 * ((k : Int) % 2) = 32 := by omega
  rcases this with e | e <;> simp [e, fill]

theorem pads_range {j : Nat} {l f : List Int} (hl : ∀ x ∈ l, 0 ≤ x ∧ x ≤ 255) (hf : f.all fill = true) : ∀ x ∈ List.replicate j 32 ++ l ++ f, 0 ≤ x ∧ x ≤ 255 := by
  intro x hx
  simp only [List.mem_append, List.mem_replicate] at hx
  rcases hx with (⟨_, rfl⟩ | hx) | hx
  · omega
  · exact hl x hx
  · rw [List.all_eq_true] at hf
    have : x = 0 ∨ x = 32 := by simpa [fill] using hf x hx
    omega

set_option maxHeartbeats 1000000 in
theorem walk (a0 : Option Addr) (len0 cap0 : Nat) (z0 : List Int) (a1 : Int) (a2 : Int) (w : World) (w0 : IsRow .u8 w a0 len0 cap0 z0) (w1 : (Lit.int .u8 a1).wf = true) (w2 : (Lit.int .u8 a2).wf = true) :
    Calls Try.prog 6 #[.slice a0 len0 cap0, .int .u8 a1, .int .u8 a2] w fun e w' => e = .returned (.bool true) ∧ Below w.heap.size w w' := by
  have hb := row_bys w0
  obtain ⟨hp0, hp1⟩ := bounds_u8 w1
  obtain ⟨hq0, hq1⟩ := bounds_u8 w2
  by_cases hbig : 500 < len0
  · clear w0
    go_enter Try.func6, Try.ntmps6
    go_wp2_with (go_at_call 7; refine (alive_any _).mono ?_; rintro e w1 ⟨rfl, hb1⟩)
    all_goals go_ret
    all_goals exact ⟨rfl, hb1⟩
  · obtain ⟨l, hl⟩ : ∃ l, l = z0.take len0 := ⟨_, rfl⟩
    rw [← hl] at hb
    clear hl
    have hll : l.length = len0 := hb.1
    have hll' := hid hll
    clear hll
    obtain ⟨p, hp⟩ : ∃ p : Nat, a1 % 10 = (p : Int) := ⟨(a1 % 10).toNat, by omega⟩
    obtain ⟨q, hq⟩ : ∃ q : Nat, a2 % 10 = (q : Int) := ⟨(a2 % 10).toNat, by omega⟩
    have hp9 : p ≤ 9 := by omega
    have hq9 : q ≤ 9 := by omega
    obtain ⟨i0, hi, hz0, hz1, hz2⟩ := info_parts Try.info5
    have hsrc : (a0 = none ∧ len0 = 0 ∧ cap0 = 0 ∧ l = []) ∨ ∃ x, a0 = some x := by
      rcases w0 with ⟨rfl, rfl, rfl, rfl⟩ | ⟨x, rfl, _⟩
      · exact .inl ⟨rfl, rfl, rfl, by have := hll'.out; simpa using this⟩
      · exact .inr ⟨x, rfl⟩
    clear w0
    go_enter Try.func6, Try.ntmps6
    go_wp2_with (first | (go_at_call 7; refine (alive_any _).mono ?_; rintro e w1 ⟨rfl, hb1⟩; replace hb := hb.below hb1) | (refine wpList_make_full _ rfl (.tmp 21) (.tmp 21) 22 rfl w1.heap.size 5 i0 (.int .u8 0) 1 Try.underlying22 hi hz0 hz1 _ _ _ _ p rfl rfl hp hp (by rw [hz2]; omega) (by unfold maxLen; omega) (Nat.le_refl _) ?_; intro w2 hown hgrow; try rw [Nat.mul_one] at hown))
    have hown1 := hid hown
    clear hown
    have hbel := (Below.refl w1.heap.size w1).grown hgrow (Nat.le_refl _) (by simp)
    go_loopw [8] (fun i wr => ∃ (j r : Nat), Hid (j + r = p) ∧ j ≤ p ∧ i = .int .i64 j ∧ wr.ownsRow w1.heap.size 5 1 (.slice (some ⟨w1.heap.size, 0, none⟩) p p) p (u8s (List.replicate j 32 ++ List.replicate r 0)) ∧ Below w1.heap.size w1 wr) (fun i _ => p - (intOf i).toNat)
    case atStart => exact ⟨0, p, hid (by omega), by omega, rfl, by rw [List.replicate_zero, List.nil_append, ← madeBytes]; exact hown1.out, hbel⟩
    case round =>
      obtain ⟨j, r, hjr, hj, rfl, hown, hbe⟩ := hrel
      clear hown1 hgrow hbel
      by_cases hlt : j < p
      · obtain ⟨r, rfl⟩ : ∃ r', r = r' + 1 := ⟨r - 1, by have := hjr.out; omega⟩
        obtain ⟨hc, hf, hst⟩ := row_32 hjr.out hown
        have hst' := hid hst
        clear hst hown
        go_wp2
        go_roundw
        case rel => exact ⟨j + 1, r, hid (by have := hjr.out; omega), by omega, by go_num, hst'.out, hbe.setCell (Nat.le_refl _) _⟩
        case measure => simp [intOf]; omega
      · obtain rfl : r = 0 := by have := hjr.out; omega
        obtain rfl : j = p := by omega
        rw [List.replicate_zero, List.append_nil] at hown
        have hby := hb.below hbe
        have hsz := hbe.size
        have hown1 := hid hown
        clear hown hjr hj hlt
        rcases hsrc with ⟨rfl, rfl, rfl, rfl⟩ | ⟨x, rfl⟩
        · go_wp2_with (at_builtin; refine wpList_append_own_none rfl (.tmp 32) (.tmp 33) 22 rfl w1.heap.size 5 i0 1 Try.underlying22 hi _ _ _ rfl hown1.out rfl ?_)
          go_loopw [7, 9] (fun v i wr => ∃ (k : Nat) (f : List Int), k ≤ q ∧ f.length = k ∧ i = .int .i64 k ∧ wr.ownsRow w1.heap.size 5 1 v (j + 0 + k) (u8s (List.replicate j 32 ++ [] ++ f)) ∧ Below w1.heap.size w1 wr ∧ Hid (f.all fill = true)) (fun _ i _ => q - (intOf i).toNat)
          case atStart => exact ⟨0, [], by omega, rfl, rfl, by simpa using hown1.out, hbe, hid rfl⟩
          case round =>
            obtain ⟨k, f, hk, hfl, rfl, hown, hbf, hff⟩ := hrel
            have hszf := hbf.size
            have hown3 := hid hown
            clear hown
            by_cases hlt : k < q
            · go_wp2_with (at_builtin; refine wpList_append_own _ rfl (.tmp 42) (.tmp 47) 22 rfl w1.heap.size 5 i0 (.int .u8 0) 1 1 Try.underlying22 hi hz0 hz1 hz2 rfl (by decide) _ _ _ rfl (hown3.out.alloc _) ⟨wr.heap.size, 0, none⟩ 1 1 [_] rfl rfl (cell_one_new _ _ _) (by intro u hu; simp at hu; subst hu; rfl) (by unfold maxLen; omega) (by omega) (by simp; omega) ?_; intro v3 w4 hown4 hgrow4 _)
              have hbf2 := (hbf.alloc hszf (.cells #[.int .u8 (32 * ((k : Int) % 2))] 5)).grown hgrow4 (by simp; omega) (fun b hk => (hown3.out.lt b hk).1)
              have hown5 := hid (own_more hown4)
              clear hown4 hgrow4
              go_wp2
              go_roundw
              case rel => exact ⟨k + 1, f ++ [32 * ((k : Int) % 2)], by omega, by simp [hfl], by go_num, hown5.out, hbf2, hid (fill_more hff.out)⟩
              case measure => simp [intOf]; omega
            · obtain rfl : k = q := by omega
              obtain ⟨ac, cc, rfl, hbc⟩ := own_bys hown3.out (by have := hll'.out; simp only [List.length_append, List.length_replicate]; omega) (pads_range (by intro x hx; first | exact absurd hx (by simp) | exact hb.2.2.2.1 x hx) hff.out)
              have hE : Hid (octal (List.replicate j 32 ++ [] ++ f) = octal []) := hid (octal_pads _ _ _ hff.out)
              have hbw := hb.below hbf
              clear hown3
              go_wp2_with (go_at_call 8; first | (refine (octal_any _ _ _ _ _ hbw).mono ?_; rintro e w3 ⟨hw, rfl⟩; obtain rfl := hw.symm; clear hbw) | (refine (octal_any _ _ _ _ _ hbc).mono ?_; rintro e w3 ⟨hw, rfl⟩; obtain rfl := hw.symm; rw [hE.out]))
              all_goals go_ret
              all_goals exact ⟨rfl, hb1.trans (hbf.mono hb1.size)⟩
        · go_wp2_with (at_builtin; refine wpList_append_own _ rfl (.tmp 32) (.tmp 33) 22 rfl w1.heap.size 5 i0 (.int .u8 0) 1 1 Try.underlying22 hi hz0 hz1 hz2 rfl (by decide) _ _ _ rfl hown1.out x len0 cap0 (u8s l) rfl (by rw [u8s_len, hll'.out]) (bys_news hby) (u8s_one l) (by unfold maxLen; omega) (by omega) hsz ?_; intro v2 w3 hown2 hgrow2 _)
          go_loopw [7, 9] (fun v i wr => ∃ (k : Nat) (f : List Int), k ≤ q ∧ f.length = k ∧ i = .int .i64 k ∧ wr.ownsRow w1.heap.size 5 1 v (j + len0 + k) (u8s (List.replicate j 32 ++ l ++ f)) ∧ Below w1.heap.size w1 wr ∧ Hid (f.all fill = true)) (fun _ i _ => q - (intOf i).toNat)
          case atStart => exact ⟨0, [], by omega, rfl, rfl, by rw [List.append_nil, ← u8s_app]; exact hown2, (hbe.grown hgrow2 hsz (by intro k hk; have := (hown1.out.lt k hk).1; omega)), hid rfl⟩
          case round =>
            obtain ⟨k, f, hk, hfl, rfl, hown, hbf, hff⟩ := hrel
            have hszf := hbf.size
            have hown3 := hid hown
            clear hown
            by_cases hlt : k < q
            · go_wp2_with (at_builtin; refine wpList_append_own _ rfl (.tmp 42) (.tmp 47) 22 rfl w1.heap.size 5 i0 (.int .u8 0) 1 1 Try.underlying22 hi hz0 hz1 hz2 rfl (by decide) _ _ _ rfl (hown3.out.alloc _) ⟨wr.heap.size, 0, none⟩ 1 1 [_] rfl rfl (cell_one_new _ _ _) (by intro u hu; simp at hu; subst hu; rfl) (by unfold maxLen; omega) (by omega) (by simp; omega) ?_; intro v3 w4 hown4 hgrow4 _)
              have hbf2 := (hbf.alloc hszf (.cells #[.int .u8 (32 * ((k : Int) % 2))] 5)).grown hgrow4 (by simp; omega) (fun b hk => (hown3.out.lt b hk).1)
              have hown5 := hid (own_more hown4)
              clear hown4 hgrow4
              go_wp2
              go_roundw
              case rel => exact ⟨k + 1, f ++ [32 * ((k : Int) % 2)], by omega, by simp [hfl], by go_num, hown5.out, hbf2, hid (fill_more hff.out)⟩
              case measure => simp [intOf]; omega
            · obtain rfl : k = q := by omega
              obtain ⟨ac, cc, rfl, hbc⟩ := own_bys hown3.out (by have := hll'.out; simp only [List.length_append, List.length_replicate]; omega) (pads_range (by intro x hx; first | exact absurd hx (by simp) | exact hb.2.2.2.1 x hx) hff.out)
              have hE : Hid (octal (List.replicate j 32 ++ l ++ f) = octal l) := hid (octal_pads _ _ _ hff.out)
              have hbw := hb.below hbf
              clear hown3
              go_wp2_with (go_at_call 8; first | (refine (octal_any _ _ _ _ _ hbw).mono ?_; rintro e w3 ⟨hw, rfl⟩; obtain rfl := hw.symm; clear hbw) | (refine (octal_any _ _ _ _ _ hbc).mono ?_; rintro e w3 ⟨hw, rfl⟩; obtain rfl := hw.symm; rw [hE.out]))
              all_goals go_ret
              all_goals exact ⟨rfl, hb1.trans (hbf.mono hb1.size)⟩

set_option maxRecDepth 100000 in
theorem lifted (os : Os) (started : os.Started) (H : Type) (enc : TypeId × Value → H) :
    ReturnsInHanded {} Try.checked os 6 .any (Rows.numPadsSpec.pre6 enc Try.prog Try.f6 Rows.numPadsRow.domain false) (Rows.numPadsSpec.post enc Try.prog Try.f6 false true false false) := by
  refine returnsInHanded_of_change (C := Try.checked) own started (by kernel_rfl) Try.func6
    (ChangeSpec.witness6 (enc := enc) (C := Try.checked) false ⟨#[], #[.slice none 0 0, .int .u8 0, .int .u8 0], []⟩ 8 (by kernel_rfl) (by kernel_rfl) (by kernel_rfl) (by kernel_rfl)) ?_
  intro W base args ds gs before hval0 hW hcnd _
  have hval : ∀ (j : Nat) t v, Try.f6.params[j]? = some t → args[j]? = some v → Value.okWide Try.prog W .any base t v := hval0
  have hW' := hW
  obtain ⟨p, q, hA0, hV, rfl, hfz, hnd⟩ := hW
  have hA : DataW.TrodAll enc Try.prog W 0 (fun _ => true) true Try.f6.params.toList args.toList ds p := hA0
  rw [Try.params6] at hA hval
  obtain ⟨v0, vs0, d0, ds0, p0, q0, hargs, rfl, rfl, h0, r0⟩ := trodAll_cons hA
  obtain ⟨v1, vs1, d1, ds1, p1, q1, rfl, rfl, rfl, h1, r1⟩ := trodAll_cons r0
  obtain ⟨v2, vs2, d2, ds2, p2, q2, rfl, rfl, rfl, h2, r2⟩ := trodAll_cons r1
  obtain ⟨rfl, rfl, rfl⟩ := trodAll_nil r2
  obtain rfl : args = #[v0, v1, v2] := by cases args; simp_all
  obtain ⟨rfl, rfl⟩ := trodVars_none hV
  obtain ⟨a0, len0, cap0, rfl⟩ := okWide_slice Try.underlying22 (hval 0 22 v0 rfl rfl)
  have k0 := h0
  have lt0 : ∀ x ∈ p0, x.block < W.heap.size := by obtain ⟨m, hm⟩ := k0; exact DataW.trod_lt m _ _ _ hm
  obtain ⟨z0, w0⟩ : ∃ zs, IsRow .u8 W a0 len0 cap0 zs := by
    obtain ⟨fuel, hf⟩ := h0
    rcases open_ints Try.underlying22 Try.underlying5 (by kernel_rfl) hf with ⟨hcs, _⟩ | ⟨x, l, c, zs, hcs, _, hl, hm, hz, _, hcell, hwz⟩
    · simp [Value.cells] at hcs
      obtain ⟨rfl, rfl, rfl⟩ := hcs
      exact ⟨[], .inl ⟨rfl, rfl, rfl, rfl⟩⟩
    · simp [Value.cells] at hcs
      obtain ⟨rfl, rfl, rfl⟩ := hcs
      exact ⟨zs, .inr ⟨_, rfl, hl, hm, by simpa using hz, hcell, hwz⟩⟩
  obtain ⟨a1, rfl, rfl, rfl, w1⟩ := open_int Try.underlying5 (hval 1 5 v1 rfl rfl) h1
  obtain ⟨a2, rfl, rfl, rfl, w2⟩ := open_int Try.underlying5 (hval 2 5 v2 rfl rfl) h2
  clear hA0 hval0
  refine (walk a0 len0 cap0 z0 a1 a2 W w0 w1 w2).mono fun e W' ⟨he, bel⟩ => ?_
  subst he
  exact ⟨_, rfl, _, _, _, [], _, [], hW', trodAll_mk1 (shut_bool Try.underlying4 _), (trodAll_cons_mk (Below.trod laidOut (by kernel_rfl) (of_decide_eq_true (by kernel_rfl)) k0 bel lt0) (trodAll_cons_mk (shut_int Try.underlying5 w1) (trodAll_cons_mk (shut_int Try.underlying5 w2) trodAll_mk0))), rfl, bel.frame _, fun h => by cases h⟩

theorem over : Rows.numPadsRow.holds Try.pinned (OpenSpec.ofChange Rows.numPadsSpec) :=
  OpenClaim.holds_of_wide 6 Try.f6 rfl rfl rfl rfl rfl rfl rfl ⟨rfl, rfl, rfl, rfl, rfl⟩ rfl rfl rfl rfl rfl (by kernel_rfl) Try.func6 (by kernel_rfl)
    (of_decide_eq_true (by kernel_rfl)) (by unfold Func.isWrapper; first | (rw [if_pos (by decide +kernel)]; kernel_rfl) | (rw [if_neg (by decide +kernel)]; exact ⟨rfl, rfl⟩))
    (fun os started H enc _ => lifted os started H enc)

theorem proved : Rows.NumPadsSaid := over
end Go.Proofs.Ytknkgahhehjikaa.numPads
