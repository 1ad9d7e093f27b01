/-
  THE DOCUMENT's RECORDS. Conditions: a right head of bounded texts.
-/
import Derived.Test.YthnaanjhmehgcaaGreatDoorN29
import Derived.Test.YthnaanjhmehgcaaGreatDoorN39
import Derived.Test.YthnaanjhmehgcaaGreatDoorN36
import Derived.Test.YthnaanjhmehgcaaGreatDoorN37
import Derived.Deep.RegionHeld3
namespace Go.Proofs.YthnaanjhmehgcaaGreatDoor
open Go.ChangeShapes Go.WideShapes Go.ChangeAt Go.RowKit Go.Lib
set_option linter.unusedVariables false
set_option linter.unusedSimpArgs false
set_option maxRecDepth 20000

theorem hd_cells {w : World} {g : Nat} {t : TypeId} {h : Hd} {x : Value} (hB : Blk w g (h.cs x) t) :
    w.cell? ⟨g, 0, none⟩ = some (.int .i64 h.kind) ∧ w.cell? ⟨g, 1, none⟩ = some (.string h.name) ∧ w.cell? ⟨g, 2, none⟩ = some (.string h.link) ∧ w.cell? ⟨g, 3, none⟩ = some (.int .i64 h.mode) ∧ w.cell? ⟨g, 4, none⟩ = some (.int .i64 h.uid) ∧ w.cell? ⟨g, 5, none⟩ = some (.int .i64 h.gid) ∧ w.cell? ⟨g, 6, none⟩ = some (.int .i64 h.size) ∧
    w.cell? ⟨g, 7, none⟩ = some (.int .i64 h.sec) ∧ w.cell? ⟨g, 8, none⟩ = some (.int .i64 h.nano) ∧ w.cell? ⟨g, 9, none⟩ = some (.string h.user) ∧ w.cell? ⟨g, 10, none⟩ = some (.string h.group) ∧ w.cell? ⟨g, 11, none⟩ = some (.int .i64 h.major) ∧ w.cell? ⟨g, 12, none⟩ = some (.int .i64 h.minor) ∧ w.cell? ⟨g, 13, none⟩ = some x :=
  ⟨hB.cell 0, hB.cell 1, hB.cell 2, hB.cell 3, hB.cell 4, hB.cell 5, hB.cell 6, hB.cell 7, hB.cell 8, hB.cell 9, hB.cell 10, hB.cell 11, hB.cell 12, hB.cell 13⟩

theorem fldsB_in (k : Nat) (hk : k < 8) : (1 ≤ fldsB.getD k 0 ∧ fldsB.getD k 0 ≤ 13) ∧ fldsB.take (k + 1) = fldsB.take k ++ [fldsB.getD k 0] := by
  match k, hk with
  | 0, _ => decide
  | 1, _ => decide
  | 2, _ => decide
  | 3, _ => decide
  | 4, _ => decide
  | 5, _ => decide
  | 6, _ => decide
  | 7, _ => decide
theorem cell_map {w : World} {g : Nat} {t : TypeId} {fs : List Int} {f : Int → Value} (h : w.heap[g]? = some (.cells (fs.map f).toArray t)) (k : Nat) (hk : k < fs.length) : w.cell? ⟨g, k, none⟩ = some (f (fs.getD k 0)) := by
  have hg : fs[k]? = some (fs.getD k 0) := by rw [List.getD_eq_getElem?_getD, List.getElem?_eq_getElem hk]; rfl
  have e : (fs.map f)[k]? = some (f (fs.getD k 0)) := by rw [List.getElem?_map, hg]; rfl
  generalize fs.map f = l at *
  simp [World.cell?, h, e]
theorem cell_map2 {w : World} {g : Nat} {fs : List Int} {f : Int → ByteArray} (h : Sts w g (fs.map f)) (k : Nat) (hk : k < fs.length) : w.cell? ⟨g, k, none⟩ = some (.string (f (fs.getD k 0))) := by
  unfold Sts at h
  rw [List.map_map] at h
  exact cell_map (f := Value.string ∘ f) h k hk
theorem fldsB_cells {w : World} {gi gk gv : Nat} {F : Int → ByteArray} (hI : w.heap[gi]? = some (.cells (fldsB.map (Value.int .i64)).toArray 3)) (hK : Sts w gk (fldsB.map keyF)) (hV : Sts w gv (fldsB.map F)) (k : Nat) (hk : k < fldsB.length) :
    w.cell? ⟨gi, k, none⟩ = some (.int .i64 (fldsB.getD k 0)) ∧ w.cell? ⟨gk, k, none⟩ = some (.string (keyF (fldsB.getD k 0))) ∧ w.cell? ⟨gv, k, none⟩ = some (.string (F (fldsB.getD k 0))) := by
  generalize fldsB = fs at *
  exact ⟨cell_map hI k hk, cell_map2 hK k hk, cell_map2 hV k hk⟩
/-- the cells of a head -/
def S14h (w' : World) (g : Nat) (h : Hd) (x : Value) : Prop := w'.cell? ⟨g, 0, none⟩ = some (.int .i64 h.kind) ∧ w'.cell? ⟨g, 1, none⟩ = some (.string h.name) ∧ w'.cell? ⟨g, 2, none⟩ = some (.string h.link) ∧ w'.cell? ⟨g, 3, none⟩ = some (.int .i64 h.mode) ∧ w'.cell? ⟨g, 4, none⟩ = some (.int .i64 h.uid) ∧ w'.cell? ⟨g, 5, none⟩ = some (.int .i64 h.gid) ∧ w'.cell? ⟨g, 6, none⟩ = some (.int .i64 h.size) ∧ w'.cell? ⟨g, 7, none⟩ = some (.int .i64 h.sec) ∧ w'.cell? ⟨g, 8, none⟩ = some (.int .i64 h.nano) ∧ w'.cell? ⟨g, 9, none⟩ = some (.string h.user) ∧ w'.cell? ⟨g, 10, none⟩ = some (.string h.group) ∧ w'.cell? ⟨g, 11, none⟩ = some (.int .i64 h.major) ∧ w'.cell? ⟨g, 12, none⟩ = some (.int .i64 h.minor) ∧ w'.cell? ⟨g, 13, none⟩ = some x
theorem S14h.below {w1 w2 : World} {g : Nat} {h : Hd} {x : Value} (hb : Below w1.heap.size w1 w2) (s : S14h w1 g h x) : S14h w2 g h x := by
  obtain ⟨q0, q1, q2, q3, q4, q5, q6, q7, q8, q9, q10, q11, q12, q13⟩ := s
  exact ⟨cell_later hb q0, cell_later hb q1, cell_later hb q2, cell_later hb q3, cell_later hb q4, cell_later hb q5, cell_later hb q6, cell_later hb q7, cell_later hb q8, cell_later hb q9, cell_later hb q10, cell_later hb q11, cell_later hb q12, cell_later hb q13⟩
theorem wpAnyH_strong {P : Program} {md : Region.Mode} {ops : Array Oper} {Q : Exit → Act → World → Prop} {S T : World → Prop} (hST : ∀ w, S w → T w) : ∀ (fuel : Nat) (listed : Array Bool) (a : Act) (w : World), wpAnyH P md ops Q S fuel listed a w → wpAnyH P md ops Q T fuel listed a w
  | 0, _, _, _, h => h
  | fuel + 1, _, _, _, h => ⟨h.1, fun i hi => wpOp_mono (fun a' w' h' => ⟨hST _ h'.1, wpAnyH_strong hST fuel _ a' w' h'.2⟩) (h.2 i hi)⟩

set_option maxHeartbeats 16000000 in
theorem rrecords_ok {w : World} {a : Option Addr} {n c : Nat} {l : PL} {h : Hd} (r : RH w a n c l h) (h1 : h.name.size ≤ 900000) (h2 : h.link.size ≤ 900000) (h3 : h.user.size ≤ 900000) (h4 : h.group.size ≤ 900000) :
    Calls Tryz.prog 18 #[.agg (h.cs (.slice a n c))] w fun e w' => (∃ a2 m c2, e = .returned (.tuple #[.slice a2 m c2, .bool (txtsB h n)]) ∧ Pys w' a2 m c2 (recO h l)) ∧ Below w.heap.size w w' := by
  have hac := below_alloc w (.cells (h.cs (.slice a n c)) 26)
  have hB : Blk (w.alloc (.cells (h.cs (.slice a n c)) 26)) w.heap.size (h.cs (.slice a n c)) 26 := heap_alloc_new _ _
  have hinf : (Tryz.prog.info? 26).map (·.size) = some (h.cs (.slice a n c)).size := by kernel_rfl
  have hbn := r.bnd
  have e3 : ∀ f, 1 ≤ f ∧ f ≤ 13 → rcanN 3 h n f = canN 3 h n f := fun f hf => rcan_is 3 h n f hf (by omega) (by omega) hbn
  have hcan := fun (f : Int) hf w => rcan_ok 3 h a n c f hf h1 h2 h3 h4 w
  have k2 := hcan 2 (by omega)
  have k3 := hcan 3 (by omega)
  have k9 := hcan 9 (by omega)
  have k10 := hcan 10 (by omega)
  rw [e3 2 (by omega)] at k2
  rw [e3 3 (by omega)] at k3
  rw [e3 9 (by omega)] at k9
  rw [e3 10 (by omega)] at k10
  obtain ⟨R, hR⟩ : ∃ R, R = recO h l := ⟨_, rfl⟩
  obtain ⟨O, hO⟩ : ∃ O, O = txtsB h n := ⟨_, rfl⟩
  rw [← hR, ← hO]
  have hO' : Hid (O = (canN 3 h n 2 && canN 3 h n 3 && canN 3 h n 9 && canN 3 h n 10)) := hid hO
  have hR' : Hid (R = if O = true then layL [] (recsOf h n fldsA ++ l) else []) := hid (by rw [hR, hO]; unfold recO recA; rw [r.py.1])
  clear hR hO e3 hcan
  generalize canN 3 h n 2 = b2 at *
  generalize canN 3 h n 3 = b3 at *
  generalize canN 3 h n 9 = b9 at *
  generalize canN 3 h n 10 = b10 at *
  unfold Hd.cs at hac hB hinf k2 k3 k9 k10 ⊢
  by_cases hall : (b2 && b3 && b9 && b10) = true
  · simp only [Bool.and_eq_true] at hall
    obtain ⟨⟨⟨rfl, rfl⟩, rfl⟩, rfl⟩ := hall
    have EO : O = true := hO'.out
    subst EO
    have ER : Hid (R = layL [] (recsOf h n fldsA ++ l)) := hid (by rw [hR'.out, if_pos rfl])
    clear hO' hR'
    go_enter Tryz.func18, Tryz.ntmps18
    go_upto_region 5 with (first
      | (go_at_call 13; refine (k2 _).mono ?_; rintro e w1 ⟨rfl, hb1⟩; replace hB := hB.below hb1; replace hac := hac.trans (hb1.mono hac.size); clear k2 hb1; obtain ⟨q0, q1, q2, q3, q4, q5, q6, q7, q8, q9, q10, q11, q12, q13⟩ := hd_cells (h := h) hB)
      | (go_at_call 13; refine (k3 _).mono ?_; rintro e w1 ⟨rfl, hb1⟩; replace hB := hB.below hb1; replace hac := hac.trans (hb1.mono hac.size); clear q0 q1 q2 q3 q4 q5 q6 q7 q8 q9 q10 q11 q12 q13; clear k3 hb1; obtain ⟨q0, q1, q2, q3, q4, q5, q6, q7, q8, q9, q10, q11, q12, q13⟩ := hd_cells (h := h) hB)
      | (go_at_call 13; refine (k9 _).mono ?_; rintro e w1 ⟨rfl, hb1⟩; replace hB := hB.below hb1; replace hac := hac.trans (hb1.mono hac.size); clear q0 q1 q2 q3 q4 q5 q6 q7 q8 q9 q10 q11 q12 q13; clear k9 hb1; obtain ⟨q0, q1, q2, q3, q4, q5, q6, q7, q8, q9, q10, q11, q12, q13⟩ := hd_cells (h := h) hB)
      | (go_at_call 13; refine (k10 _).mono ?_; rintro e w1 ⟨rfl, hb1⟩; replace hB := hB.below hb1; replace hac := hac.trans (hb1.mono hac.size); clear q0 q1 q2 q3 q4 q5 q6 q7 q8 q9 q10 q11 q12 q13; clear k10 hb1; obtain ⟨q0, q1, q2, q3, q4, q5, q6, q7, q8, q9, q10, q11, q12, q13⟩ := hd_cells (h := h) hB)
      | (refine wpList_load_row (P := Tryz.prog) rfl 26 (.tmp 1) rfl w.heap.size rfl 26 _ (0, 0) _ hB Tryz.underlying26 rfl hinf ?_))
    have hK0 : Sts ((w1.alloc (.cells #[.string ⟨#[103, 105, 100]⟩, .string ⟨#[103, 110, 97, 109, 101]⟩, .string ⟨#[108, 105, 110, 107, 112, 97, 116, 104]⟩, .string ⟨#[109, 116, 105, 109, 101]⟩, .string ⟨#[112, 97, 116, 104]⟩, .string ⟨#[115, 105, 122, 101]⟩, .string ⟨#[117, 105, 100]⟩, .string ⟨#[117, 110, 97, 109, 101]⟩] 9)).alloc (.cells #[.int .i64 6, .int .i64 10, .int .i64 3, .int .i64 8, .int .i64 2, .int .i64 7, .int .i64 5, .int .i64 9] 3)) w1.heap.size (fldsB.map keyF) := by
      have := (heap_alloc_new w1 (.cells #[.string ⟨#[103, 105, 100]⟩, .string ⟨#[103, 110, 97, 109, 101]⟩, .string ⟨#[108, 105, 110, 107, 112, 97, 116, 104]⟩, .string ⟨#[109, 116, 105, 109, 101]⟩, .string ⟨#[112, 97, 116, 104]⟩, .string ⟨#[115, 105, 122, 101]⟩, .string ⟨#[117, 105, 100]⟩, .string ⟨#[117, 110, 97, 109, 101]⟩] 9))
      exact Sts.below (l := fldsB.map keyF) this (below_alloc _ _)
    have hI0 : ((w1.alloc (.cells #[.string ⟨#[103, 105, 100]⟩, .string ⟨#[103, 110, 97, 109, 101]⟩, .string ⟨#[108, 105, 110, 107, 112, 97, 116, 104]⟩, .string ⟨#[109, 116, 105, 109, 101]⟩, .string ⟨#[112, 97, 116, 104]⟩, .string ⟨#[115, 105, 122, 101]⟩, .string ⟨#[117, 105, 100]⟩, .string ⟨#[117, 110, 97, 109, 101]⟩] 9)).alloc (.cells #[.int .i64 6, .int .i64 10, .int .i64 3, .int .i64 8, .int .i64 2, .int .i64 7, .int .i64 5, .int .i64 9] 3)).heap[w1.heap.size + 1]? = some (.cells (fldsB.map (Value.int .i64)).toArray 3) := by
      have := heap_alloc_new (w1.alloc (.cells #[.string ⟨#[103, 105, 100]⟩, .string ⟨#[103, 110, 97, 109, 101]⟩, .string ⟨#[108, 105, 110, 107, 112, 97, 116, 104]⟩, .string ⟨#[109, 116, 105, 109, 101]⟩, .string ⟨#[112, 97, 116, 104]⟩, .string ⟨#[115, 105, 122, 101]⟩, .string ⟨#[117, 105, 100]⟩, .string ⟨#[117, 110, 97, 109, 101]⟩] 9)) (.cells #[.int .i64 6, .int .i64 10, .int .i64 3, .int .i64 8, .int .i64 2, .int .i64 7, .int .i64 5, .int .i64 9] 3)
      rwa [show (w1.alloc (.cells #[.string ⟨#[103, 105, 100]⟩, .string ⟨#[103, 110, 97, 109, 101]⟩, .string ⟨#[108, 105, 110, 107, 112, 97, 116, 104]⟩, .string ⟨#[109, 116, 105, 109, 101]⟩, .string ⟨#[112, 97, 116, 104]⟩, .string ⟨#[115, 105, 122, 101]⟩, .string ⟨#[117, 105, 100]⟩, .string ⟨#[117, 110, 97, 109, 101]⟩] 9)).heap.size = w1.heap.size + 1 by simp] at this
    have hba := (below_alloc w1 (.cells #[.string ⟨#[103, 105, 100]⟩, .string ⟨#[103, 110, 97, 109, 101]⟩, .string ⟨#[108, 105, 110, 107, 112, 97, 116, 104]⟩, .string ⟨#[109, 116, 105, 109, 101]⟩, .string ⟨#[112, 97, 116, 104]⟩, .string ⟨#[115, 105, 122, 101]⟩, .string ⟨#[117, 105, 100]⟩, .string ⟨#[117, 110, 97, 109, 101]⟩] 9))
    have hba2 := hba.trans ((below_alloc (w1.alloc (.cells #[.string ⟨#[103, 105, 100]⟩, .string ⟨#[103, 110, 97, 109, 101]⟩, .string ⟨#[108, 105, 110, 107, 112, 97, 116, 104]⟩, .string ⟨#[109, 116, 105, 109, 101]⟩, .string ⟨#[112, 97, 116, 104]⟩, .string ⟨#[115, 105, 122, 101]⟩, .string ⟨#[117, 105, 100]⟩, .string ⟨#[117, 110, 97, 109, 101]⟩] 9)) (.cells #[.int .i64 6, .int .i64 10, .int .i64 3, .int .i64 8, .int .i64 2, .int .i64 7, .int .i64 5, .int .i64 9] 3)).mono hba.size)
    replace hB := hB.below hba2
    replace hac := hac.trans (hba2.mono hac.size)
    clear hba hba2 q0 q1 q2 q3 q4 q5 q6 q7 q8 q9 q10 q11 q12 q13
    generalize ((w1.alloc (.cells #[.string ⟨#[103, 105, 100]⟩, .string ⟨#[103, 110, 97, 109, 101]⟩, .string ⟨#[108, 105, 110, 107, 112, 97, 116, 104]⟩, .string ⟨#[109, 116, 105, 109, 101]⟩, .string ⟨#[112, 97, 116, 104]⟩, .string ⟨#[115, 105, 122, 101]⟩, .string ⟨#[117, 105, 100]⟩, .string ⟨#[117, 110, 97, 109, 101]⟩] 9)).alloc (.cells #[.int .i64 6, .int .i64 10, .int .i64 3, .int .i64 8, .int .i64 2, .int .i64 7, .int .i64 5, .int .i64 9] 3)) = W at *
    generalize hgk : w1.heap.size = gk at *
    generalize hgi : gk + 1 = gi at *
    clear hgk hgi
    have hfu := rfulls_ok h (.slice a n c) (by omega)
    have hv2 : valF h 2 = (fulls h.kind h.name).headD ⟨#[]⟩ := rfl
    obtain ⟨-, hl0, -⟩ := fulls_sz h.kind h.name
    obtain ⟨L, hL⟩ : ∃ L, L = fulls h.kind h.name := ⟨_, rfl⟩
    rw [← hL] at hfu hv2 hl0
    clear hL
    obtain ⟨f0, t0, rfl⟩ : ∃ f t, L = f :: t := by cases L with | nil => simp at hl0 | cons f t => exact ⟨f, t, rfl⟩
    replace hv2 := hid (show valF h 2 = f0 from hv2)
    clear hl0
    obtain ⟨⟨u1, u2⟩, ⟨g1, g2⟩, ⟨z1, z2⟩, ⟨s1, s2⟩, -⟩ := hbn
    have gn := r.nano
    unfold Hd.cs at hfu
    obtain ⟨q0, q1, q2, q3, q4, q5, q6, q7, q8, q9, q10, q11, q12, q13⟩ := hd_cells (h := h) hB
    go_cut [6] from 29 to 51 (fun p wc => ∃ g, p = .slice (some ⟨g, 0, none⟩) 8 8 ∧ Sts wc g (fldsB.map (valF h)) ∧ Below W.heap.size W wc)
    case first =>
      have hS0 : S14h W.drew w.heap.size h (.slice a n c) := ⟨q0, q1, q2, q3, q4, q5, q6, q7, q8, q9, q10, q11, q12, q13⟩
      refine wp_region_held_drew (S := fun w' => w'.cell? ⟨w.heap.size, 0, none⟩ = some (.int .i64 h.kind) ∧ w'.cell? ⟨w.heap.size, 1, none⟩ = some (.string h.name) ∧ w'.cell? ⟨w.heap.size, 2, none⟩ = some (.string h.link) ∧ w'.cell? ⟨w.heap.size, 3, none⟩ = some (.int .i64 h.mode) ∧ w'.cell? ⟨w.heap.size, 4, none⟩ = some (.int .i64 h.uid) ∧ w'.cell? ⟨w.heap.size, 5, none⟩ = some (.int .i64 h.gid) ∧ w'.cell? ⟨w.heap.size, 6, none⟩ = some (.int .i64 h.size) ∧ w'.cell? ⟨w.heap.size, 7, none⟩ = some (.int .i64 h.sec) ∧ w'.cell? ⟨w.heap.size, 8, none⟩ = some (.int .i64 h.nano) ∧ w'.cell? ⟨w.heap.size, 9, none⟩ = some (.string h.user) ∧ w'.cell? ⟨w.heap.size, 10, none⟩ = some (.string h.group) ∧ w'.cell? ⟨w.heap.size, 11, none⟩ = some (.int .i64 h.major) ∧ w'.cell? ⟨w.heap.size, 12, none⟩ = some (.int .i64 h.minor) ∧ w'.cell? ⟨w.heap.size, 13, none⟩ = some (.slice a n c)) (by kernel_rfl) hS0 (fun hHeld => ?_)
      refine wpAnyH_take (i := 0) (v := ?vy0) rfl (by kernel_rfl) (by kernel_rfl) (by kernel_rfl) (fun _ _ _ h => h) (Or.inl ⟨by rfl, ?hy0⟩) (by assumption) ?rm0
      case hy0 => (intro w0 hSw; (try dsimp only at hSw); go_simp; try with_reducible rfl)
      try simp only [Act.put, List.setIfInBounds_toArray, List.set_cons_zero, List.set_cons_succ]
      refine wpAnyH_take (i := 1) (v := ?vy1) rfl (by kernel_rfl) (by kernel_rfl) (by kernel_rfl) (fun _ _ _ h => h) (Or.inl ⟨by rfl, ?hy1⟩) (by assumption) ?rm1
      case hy1 => (intro w0 hSw; (try dsimp only at hSw); go_simp; try with_reducible rfl)
      try simp only [Act.put, List.setIfInBounds_toArray, List.set_cons_zero, List.set_cons_succ]
      refine wpAnyH_take (i := 3) (v := ?vy3) rfl (by kernel_rfl) (by kernel_rfl) (by kernel_rfl) (fun _ _ _ h => h) (Or.inl ⟨by rfl, ?hy3⟩) (by assumption) ?rm3
      case hy3 => (intro w0 hSw; (try dsimp only at hSw); go_simp; try with_reducible rfl)
      try simp only [Act.put, List.setIfInBounds_toArray, List.set_cons_zero, List.set_cons_succ]
      refine wpAnyH_take (i := 4) (v := ?vy4) rfl (by kernel_rfl) (by kernel_rfl) (by kernel_rfl) (fun _ _ _ h => h) (Or.inl ⟨by rfl, ?hy4⟩) (by assumption) ?rm4
      case hy4 => (intro w0 hSw; (try dsimp only at hSw); go_simp; try with_reducible rfl)
      try simp only [Act.put, List.setIfInBounds_toArray, List.set_cons_zero, List.set_cons_succ]
      refine wpAnyH_take (i := 5) (v := ?vy5) rfl (by kernel_rfl) (by kernel_rfl) (by kernel_rfl) (fun _ _ _ h => h) (Or.inl ⟨by rfl, ?hy5⟩) (by assumption) ?rm5
      case hy5 => (intro w0 hSw; (try dsimp only at hSw); go_simp; try with_reducible rfl)
      try simp only [Act.put, List.setIfInBounds_toArray, List.set_cons_zero, List.set_cons_succ]
      refine wpAnyH_take (i := 6) (v := ?vy6) rfl (by kernel_rfl) (by kernel_rfl) (by kernel_rfl) (fun _ _ _ h => h) (Or.inl ⟨by rfl, ?hy6⟩) (by assumption) ?rm6
      case hy6 => (intro w0 hSw; (try dsimp only at hSw); go_simp; try with_reducible rfl)
      try simp only [Act.put, List.setIfInBounds_toArray, List.set_cons_zero, List.set_cons_succ]
      refine wpAnyH_take (i := 7) (v := ?vy7) rfl (by kernel_rfl) (by kernel_rfl) (by kernel_rfl) (fun _ _ _ h => h) (Or.inl ⟨by rfl, ?hy7⟩) (by assumption) ?rm7
      case hy7 => (intro w0 hSw; (try dsimp only at hSw); go_simp; try with_reducible rfl)
      try simp only [Act.put, List.setIfInBounds_toArray, List.set_cons_zero, List.set_cons_succ]
      refine wpAnyH_take (i := 8) (v := ?vy8) rfl (by kernel_rfl) (by kernel_rfl) (by kernel_rfl) (fun _ _ _ h => h) (Or.inl ⟨by rfl, ?hy8⟩) (by assumption) ?rm8
      case hy8 => (intro w0 hSw; (try dsimp only at hSw); go_simp; try with_reducible rfl)
      try simp only [Act.put, List.setIfInBounds_toArray, List.set_cons_zero, List.set_cons_succ]
      refine wpAnyH_take (i := 10) (v := ?vy10) rfl (by kernel_rfl) (by kernel_rfl) (by kernel_rfl) (fun _ _ _ h => h) (Or.inl ⟨by rfl, ?hy10⟩) (by assumption) ?rm10
      case hy10 => (intro w0 hSw; (try dsimp only at hSw); go_simp; try with_reducible rfl)
      try simp only [Act.put, List.setIfInBounds_toArray, List.set_cons_zero, List.set_cons_succ]
      refine wpAnyH_take (i := 14) (v := ?vy14) rfl (by kernel_rfl) (by kernel_rfl) (by kernel_rfl) (fun _ _ _ h => h) (Or.inl ⟨by rfl, ?hy14⟩) (by assumption) ?rm14
      case hy14 => (intro w0 hSw; (try dsimp only at hSw); go_simp; try with_reducible rfl)
      try simp only [Act.put, List.setIfInBounds_toArray, List.set_cons_zero, List.set_cons_succ]
      refine wpAnyH_take (i := 15) (v := ?vy15) rfl (by kernel_rfl) (by kernel_rfl) (by kernel_rfl) (fun _ _ _ h => h) (Or.inl ⟨by rfl, ?hy15⟩) (by assumption) ?rm15
      case hy15 => (intro w0 hSw; (try dsimp only at hSw); go_simp; try with_reducible rfl)
      try simp only [Act.put, List.setIfInBounds_toArray, List.set_cons_zero, List.set_cons_succ]
      refine wpAnyH_take (i := 17) (v := ?vy17) rfl (by kernel_rfl) (by kernel_rfl) (by kernel_rfl) (fun _ _ _ h => h) (Or.inl ⟨by rfl, ?hy17⟩) (by assumption) ?rm17
      case hy17 => (intro w0 hSw; (try dsimp only at hSw); go_simp; try with_reducible rfl)
      try simp only [Act.put, List.setIfInBounds_toArray, List.set_cons_zero, List.set_cons_succ]
      refine wpAnyH_take (i := 18) (v := ?vy18) rfl (by kernel_rfl) (by kernel_rfl) (by kernel_rfl) (fun _ _ _ h => h) (Or.inl ⟨by rfl, ?hy18⟩) (by assumption) ?rm18
      case hy18 => (intro w0 hSw; (try dsimp only at hSw); go_simp; try with_reducible rfl)
      try simp only [Act.put, List.setIfInBounds_toArray, List.set_cons_zero, List.set_cons_succ]
      refine wpAnyH_take (i := 20) (v := ?vy20) rfl (by kernel_rfl) (by kernel_rfl) (by kernel_rfl) (fun _ _ _ h => h) (Or.inl ⟨by rfl, ?hy20⟩) (by assumption) ?rm20
      case hy20 => (intro w0 hSw; (try dsimp only at hSw); go_simp; try with_reducible rfl)
      try simp only [Act.put, List.setIfInBounds_toArray, List.set_cons_zero, List.set_cons_succ]
      refine wpAnyH_take (i := 21) (v := ?vy21) rfl (by kernel_rfl) (by kernel_rfl) (by kernel_rfl) (fun _ _ _ h => h) (Or.inl ⟨by rfl, ?hy21⟩) (by assumption) ?rm21
      case hy21 => (intro w0 hSw; (try dsimp only at hSw); go_simp; try with_reducible rfl)
      try simp only [Act.put, List.setIfInBounds_toArray, List.set_cons_zero, List.set_cons_succ]
      refine wpAnyH_ready (rs := [2]) (by kernel_rfl) (by simp) ?_
      refine AllReadyH.cons rfl (fun K hK => ?_) AllReadyH.nil
      go_simp
      go_at_call 40
      refine (rtext_ok _ g1 g2 _).mono ?_
      rintro e wA ⟨rfl, hbA⟩
      refine hK.out _ _ (S14h.below hbA hS0) (fun hHeld => ?_)
      clear hK K
      try simp only [Act.put, List.setIfInBounds_toArray, List.set_cons_zero, List.set_cons_succ]
      refine wpAnyH_ready (rs := [9]) (by kernel_rfl) (by simp) ?_
      refine AllReadyH.cons rfl (fun K hK => ?_) AllReadyH.nil
      go_simp
      go_at_call 41
      refine (rprint_ok _ _ s1 s2 gn.1 gn.2 _).mono ?_
      rintro e wB ⟨rfl, hbB⟩
      refine hK.out _ _ (S14h.below hbB (S14h.below hbA hS0)) (fun hHeld => ?_)
      clear hK K
      try simp only [Act.put, List.setIfInBounds_toArray, List.set_cons_zero, List.set_cons_succ]
      refine wpAnyH_ready (rs := [11]) (by kernel_rfl) (by simp) ?_
      refine AllReadyH.cons rfl (fun K hK => ?_) AllReadyH.nil
      go_simp
      go_at_call 36
      refine (hfu _).mono ?_
      rintro e wC ⟨g, m, rfl, hm, hst, hbC⟩
      refine hK.out _ _ (S14h.below hbC (S14h.below hbB (S14h.below hbA hS0))) (fun hHeld => ?_)
      clear hK K
      try simp only [Act.put, List.setIfInBounds_toArray, List.set_cons_zero, List.set_cons_succ]
      have c0 : wC.cell? ⟨g, 0, none⟩ = some (.string f0) := by unfold Sts at hst; simp [World.cell?, hst]
      have hm0 : (0 : Int) < (m : Int) := by rw [hm, List.length_cons]; omega
      refine wpAnyH_strong (S := fun w' => w'.cell? ⟨g, 0, none⟩ = some (.string f0) ∧ S14h w' w.heap.size h (.slice a n c)) (fun w0 hw0 => hw0.2) _ _ _ _ ?_
      have hHeld2 := And.intro c0 (S14h.below hbC (S14h.below hbB (S14h.below hbA hS0)))
      refine wpAnyH_take (i := 12) (v := ?vy12) rfl (by kernel_rfl) (by kernel_rfl) (by kernel_rfl) (fun _ _ _ h => h) (Or.inl ⟨by rfl, ?hy12⟩) (by assumption) ?rm12
      case hy12 => (intro w0 hSw; (try dsimp only at hSw); go_simp; try with_reducible rfl)
      try simp only [Act.put, List.setIfInBounds_toArray, List.set_cons_zero, List.set_cons_succ]
      refine wpAnyH_take (i := 13) (v := ?vy13) rfl (by kernel_rfl) (by kernel_rfl) (by kernel_rfl) (fun _ _ _ h => h) (Or.inl ⟨by rfl, ?hy13⟩) (by assumption) ?rm13
      case hy13 => (intro w0 hSw; (try dsimp only at hSw); go_simp; try with_reducible rfl)
      try simp only [Act.put, List.setIfInBounds_toArray, List.set_cons_zero, List.set_cons_succ]
      refine wpAnyH_ready (rs := [16]) (by kernel_rfl) (by simp) ?_
      refine AllReadyH.cons rfl (fun K hK => ?_) AllReadyH.nil
      go_simp
      go_at_call 40
      refine (rtext_ok _ z1 z2 _).mono ?_
      rintro e wD ⟨rfl, hbD⟩
      refine hK.out _ _ ⟨cell_later hbD c0, S14h.below hbD hHeld2.2⟩ (fun hHeld => ?_)
      clear hK K
      try simp only [Act.put, List.setIfInBounds_toArray, List.set_cons_zero, List.set_cons_succ]
      refine wpAnyH_ready (rs := [19]) (by kernel_rfl) (by simp) ?_
      refine AllReadyH.cons rfl (fun K hK => ?_) AllReadyH.nil
      go_simp
      go_at_call 40
      refine (rtext_ok _ u1 u2 _).mono ?_
      rintro e wE ⟨rfl, hbE⟩
      refine hK.out _ _ ⟨cell_later hbE (cell_later hbD c0), S14h.below hbE (S14h.below hbD hHeld2.2)⟩ (fun hHeld => ?_)
      clear hK K
      try simp only [Act.put, List.setIfInBounds_toArray, List.set_cons_zero, List.set_cons_succ]
      refine wpAnyH_ready (rs := [22]) (by kernel_rfl) (by simp) ?_
      refine AllReadyH.cons rfl (fun K hK => ?_) AllReadyH.nil
      go_simp
      have hbE2 : Below W.heap.size W wE := ((((Below.refl _ W).drew.trans hbA).trans (hbB.mono hbA.size)).trans (hbC.mono (Nat.le_trans hbA.size hbB.size))).trans ((hbD.mono (Nat.le_trans hbA.size (Nat.le_trans hbB.size hbC.size))).trans (hbE.mono (Nat.le_trans hbA.size (Nat.le_trans hbB.size (Nat.le_trans hbC.size hbD.size)))))
      have hsts : Sts (wE.alloc (.cells #[.string (numT h.gid), .string h.group, .string h.link, .string (txt (printOf h.sec h.nano)), .string f0, .string (numT h.size), .string (numT h.uid), .string h.user] 9)) wE.heap.size (fldsB.map (valF h)) := by
        have e : fldsB.map (valF h) = [numT h.gid, h.group, h.link, txt (printOf h.sec h.nano), valF h 2, numT h.size, numT h.uid, h.user] := rfl
        rw [e, hv2.out]
        exact heap_alloc_new _ _
      refine hK.out _ _ ⟨cell_later (below_alloc wE _) (cell_later hbE (cell_later hbD c0)), S14h.below (below_alloc wE _) (S14h.below hbE (S14h.below hbD hHeld2.2))⟩ (fun hHeld => ?_)
      clear hK K
      try simp only [Act.put, List.setIfInBounds_toArray, List.set_cons_zero, List.set_cons_succ]
      refine wpAnyH_ready (rs := [23]) (by kernel_rfl) (by simp) ?_
      refine AllReadyH.cons rfl (fun K hK => ?_) AllReadyH.nil
      go_simp
      refine hK.out _ _ hHeld (fun hHeld => ?_)
      clear hK K
      try simp only [Act.put, List.setIfInBounds_toArray, List.set_cons_zero, List.set_cons_succ]
      refine wpAnyH_done (by kernel_rfl) ?_ _
      go_wp2
      go_meet
      all_goals (refine ⟨wE.heap.size, ?_, hsts, hbE2.alloc hbE2.size _⟩; first | rfl | (simp [Act.eval, Act.put]; done) | (simp; done) | kernel_rfl)
    case rest =>
      obtain ⟨gv, rfl, hVc, hbc⟩ := hcut
      have hKc := hK0.below hbc
      have hIc : wc.heap[gi]? = some (.cells (fldsB.map (Value.int .i64)).toArray 3) := by rw [hbc.block gi (Array.getElem?_eq_some_iff.1 hI0).1]; exact hI0
      have hBc := hB.below hbc
      have hcc := hac.trans (hbc.mono hac.size)
      have hcn := fun (f : Int) hf w => plain_ok 2 h a n c f hf h1 w
      have hpi : ∀ f, 1 ≤ f ∧ f ≤ 13 → plainN 2 h n f = canN 2 h n f := fun f hf => (show plainN 2 h n f = rcanN 2 h n f from rfl).trans (rcan_is 2 h n f hf (by omega) (by omega) r.bnd)
      have hown0 := World.ownsRow_nil wc wc.heap.size 50 2
      obtain ⟨i0, hi0, hz0, hz1, hz2⟩ := info_parts infoPair
      have hn1 := r.few
      clear q0 q1 q2 q3 q4 q5 q6 q7 q8 q9 q10 q11 q12 q13 hB hac hK0 hI0 hfu hv2 hbc gn
      unfold Hd.cs at hcn
      go_wp2
      go_loopw [7, 8] (fun x y wr => ∃ k : Nat, y = .int .i64 k ∧ k ≤ 8 ∧ wr.ownsRow wc.heap.size 50 2 x (recsOf h n (fldsB.take k)).length (pcs2 (recsOf h n (fldsB.take k))) ∧ Below wc.heap.size wc wr) (fun _ y _ => 8 - (RowKit.intOf y).toNat)
      case atStart => exact ⟨0, rfl, by omega, hown0, Below.refl _ _⟩
      case round =>
        obtain ⟨k, rfl, hk8, how, hb⟩ := hrel
        clear hown0
        have hBr := hBc.below hb
        have hacr := hcc.trans (hb.mono hcc.size)
        by_cases hlt : k < 8
        · obtain ⟨hin, htk⟩ := fldsB_in k hlt
          have hcc2 := hcn _ hin
          rw [hpi _ hin] at hcc2
          have hrl := recs_len h n (fldsB.take k)
          have hle : (fldsB.take k).length ≤ 8 := by rw [List.length_take]; omega
          obtain ⟨ci, ck, cv⟩ := fldsB_cells (F := valF h) (show wr.heap[gi]? = _ by rw [hb.block gi (Array.getElem?_eq_some_iff.1 hIc).1]; exact hIc) (hKc.below hb) (hVc.below hb) k hlt
          generalize hfv : fldsB.getD k 0 = f at *
          have hkI : (k : Int) < 8 := by omega
          have j0 : ∀ p : After wr, p.out.cell? ⟨w.heap.size, 0, none⟩ = some (.int .i64 h.kind) := fun p => (hBr.below p.bel).cell 0
          have j1 : ∀ p : After wr, p.out.cell? ⟨w.heap.size, 1, none⟩ = some (.string h.name) := fun p => (hBr.below p.bel).cell 1
          have j2 : ∀ p : After wr, p.out.cell? ⟨w.heap.size, 2, none⟩ = some (.string h.link) := fun p => (hBr.below p.bel).cell 2
          have j3 : ∀ p : After wr, p.out.cell? ⟨w.heap.size, 3, none⟩ = some (.int .i64 h.mode) := fun p => (hBr.below p.bel).cell 3
          have j4 : ∀ p : After wr, p.out.cell? ⟨w.heap.size, 4, none⟩ = some (.int .i64 h.uid) := fun p => (hBr.below p.bel).cell 4
          have j5 : ∀ p : After wr, p.out.cell? ⟨w.heap.size, 5, none⟩ = some (.int .i64 h.gid) := fun p => (hBr.below p.bel).cell 5
          have j6 : ∀ p : After wr, p.out.cell? ⟨w.heap.size, 6, none⟩ = some (.int .i64 h.size) := fun p => (hBr.below p.bel).cell 6
          have j7 : ∀ p : After wr, p.out.cell? ⟨w.heap.size, 7, none⟩ = some (.int .i64 h.sec) := fun p => (hBr.below p.bel).cell 7
          have j8 : ∀ p : After wr, p.out.cell? ⟨w.heap.size, 8, none⟩ = some (.int .i64 h.nano) := fun p => (hBr.below p.bel).cell 8
          have j9 : ∀ p : After wr, p.out.cell? ⟨w.heap.size, 9, none⟩ = some (.string h.user) := fun p => (hBr.below p.bel).cell 9
          have j10 : ∀ p : After wr, p.out.cell? ⟨w.heap.size, 10, none⟩ = some (.string h.group) := fun p => (hBr.below p.bel).cell 10
          have j11 : ∀ p : After wr, p.out.cell? ⟨w.heap.size, 11, none⟩ = some (.int .i64 h.major) := fun p => (hBr.below p.bel).cell 11
          have j12 : ∀ p : After wr, p.out.cell? ⟨w.heap.size, 12, none⟩ = some (.int .i64 h.minor) := fun p => (hBr.below p.bel).cell 12
          have j13 : ∀ p : After wr, p.out.cell? ⟨w.heap.size, 13, none⟩ = some (.slice a n c) := fun p => (hBr.below p.bel).cell 13
          have ji : ∀ p : After wr, p.out.cell? ⟨gi, k, none⟩ = some (.int .i64 f) := fun p => cell_later p.bel ci
          have hne : Nonempty (After wr) := ⟨⟨_, Below.refl _ _⟩⟩
          cases hv : canN 2 h n f
          · have E := hid (show recsOf h n (fldsB.take (k + 1)) = recsOf h n (fldsB.take k) ++ [(keyF f, valF h f)] by rw [htk, recs_no h n _ f hv]; rfl)
            rw [hv] at hcc2
            clear htk hfv hv hcn hpi hin ER hBr hBc hcc hKc hIc hVc ci r
            generalize recsOf h n (fldsB.take k) = rs at *
            generalize (fldsB.take k).length = q at *
            generalize keyF f = K at *
            generalize valF h f = V at *
            go_wp2
            refine wp_region_after (by kernel_rfl) (by kernel_rfl) ?_
            repeat (go_big_quiet_step ((first
              | (go_at_call 32; exact after_below _ (hcc2 _)))))
            refine wpQuiet_nil ?_
            intro wq hw'
            obtain ⟨⟨z, hwq⟩, hx⟩ := hw'
            simp only at hx
            subst hx
            have ck2 := cell_later hwq ck
            have cv2 := cell_later hwq cv
            have how2 := own_below hwq how
            have hbq := hb.trans (hwq.mono hb.size)
            have hnw := pair_new wq.drew K V
            have hbW : Below wq.heap.size wq (wq.drew.alloc (.cells #[.string K, .string V] 50)) := (Below.refl _ wq).drew.alloc (by simp) _
            obtain ⟨v', w', hr, hown', hgr, -⟩ := run_append_own (P := Tryz.prog) (wq.drew.alloc (.cells #[.string K, .string V] 50)) wc.heap.size 24 24 50 i0 (.agg #[.string ⟨#[]⟩, .string ⟨#[]⟩]) 2 32 Tryz.underlying24 hi0 hz0 hz1 hz2 rfl (by decide) _ rs.length (pcs2 rs) (own_below hbW how2) ⟨wq.heap.size, 0, none⟩ 1 1 [.string K, .string V] rfl hnw (pair_one K V) (by unfold maxLen; omega) (by omega) (by have := hbq.size; have := hbW.size; omega)
            clear j0 j1 j2 j3 j4 j5 j6 j7 j8 j9 j10 j11 j12 j13 ji ck cv how hwq hcc2 hne hnw
            go_wp2
            go_region_law (refine step_append_run rfl (.tmp 65) (.tmp 75) 24 24 rfl _ _ (by simp [Act.eval, Act.put]) (by simp [Act.eval, Act.put]) hr ?_)
            all_goals go_wp2
            all_goals go_roundw
            all_goals first | exact ⟨k + 1, by go_num, by omega, by rw [E.out, List.length_append, pcs2_app]; exact hown', (hbq.trans (hbW.mono hbq.size)).grown hgr (by have := hbq.size; have := hbW.size; omega) (fun g hg => (how2.lt g hg).1)⟩ | (simp [RowKit.intOf]; omega)
          · have E := hid (show recsOf h n (fldsB.take (k + 1)) = recsOf h n (fldsB.take k) by rw [htk, recs_yes h n _ f hv])
            rw [hv] at hcc2
            clear htk hfv hv hcn hpi hin ER hBr hBc hcc hKc hIc hVc ci ck cv r
            generalize recsOf h n (fldsB.take k) = rs at *
            go_wp2
            refine wp_region_after (by kernel_rfl) (by kernel_rfl) ?_
            repeat (go_big_quiet_step ((first
              | (go_at_call 32; exact after_below _ (hcc2 _)))))
            refine wpQuiet_nil ?_
            intro wq hw'
            obtain ⟨⟨z, hwq⟩, hx⟩ := hw'
            simp only at hx
            subst hx
            clear j0 j1 j2 j3 j4 j5 j6 j7 j8 j9 j10 j11 j12 j13 ji hne hcc2
            go_wp2
            go_roundw
            case rel => exact ⟨k + 1, by go_num, by omega, by rw [E.out]; exact own_below hwq how, hb.trans (hwq.mono hb.size)⟩
            case measure => simp [RowKit.intOf]; omega
        · have hkI : ¬ (k : Int) < 8 := by omega
          have et : fldsB.take k = fldsB := by have ek : k = 8 := by omega
                                               rw [ek]; rfl
          rw [et] at how
          have hrl := recs_len h n fldsB
          have hle : fldsB.length = 8 := rfl
          have k13 : wr.cell? ⟨w.heap.size, 13, none⟩ = some (.slice a n c) := hBr.cell 13
          obtain ⟨a5, c5, hv5, hp5, hn5⟩ := own_pys2 how rfl
          subst hv5
          have hlay := rlay_ok hp5 (r.py.below hacr) (by omega) (by omega) hn5 r.nl
          have hR3 : Hid (R = layL [] (recsOf h n fldsB ++ l)) := hid (by rw [ER.out]; exact perm_lay (recs_dst h n r.srt r.unk) (recs_perm h n l))
          clear hcn hpi ER hBr hBc hKc hIc hVc et r hp5 how
          generalize recsOf h n fldsB = rs at *
          go_wp2_with (first
            | (go_at_call 42; refine hlay.mono ?_; rintro e w6 ⟨a6, m6, c6, rfl, hp6, hb6⟩))
          all_goals go_ret2
          all_goals exact ⟨⟨a6, m6, c6, rfl, by rw [hR3.out]; exact hp6⟩, hacr.trans (hb6.mono hacr.size)⟩
  · have EO : O = false := by rw [hO'.out]; simpa using hall
    have ER : Hid (R = []) := hid (by rw [hR'.out, EO]; rfl)
    subst EO
    clear hO' hR' r
    have hnil : Pys w none 0 0 ([] : PL) := ⟨rfl, Nat.le_refl _, by omega, .inl ⟨rfl, rfl⟩⟩
    cases b2
    · clear hall
      go_enter Tryz.func18, Tryz.ntmps18
      go_wp2_with (first
        | (go_at_call 13; refine (k2 _).mono ?_; rintro e w1 ⟨rfl, hb1⟩; replace hB := hB.below hb1; replace hac := hac.trans (hb1.mono hac.size); clear k2 hb1; obtain ⟨q0, q1, q2, q3, q4, q5, q6, q7, q8, q9, q10, q11, q12, q13⟩ := hd_cells (h := h) hB)
        | (go_at_call 13; refine (k3 _).mono ?_; rintro e w1 ⟨rfl, hb1⟩; replace hB := hB.below hb1; replace hac := hac.trans (hb1.mono hac.size); clear q0 q1 q2 q3 q4 q5 q6 q7 q8 q9 q10 q11 q12 q13; clear k3 hb1; obtain ⟨q0, q1, q2, q3, q4, q5, q6, q7, q8, q9, q10, q11, q12, q13⟩ := hd_cells (h := h) hB)
        | (go_at_call 13; refine (k9 _).mono ?_; rintro e w1 ⟨rfl, hb1⟩; replace hB := hB.below hb1; replace hac := hac.trans (hb1.mono hac.size); clear q0 q1 q2 q3 q4 q5 q6 q7 q8 q9 q10 q11 q12 q13; clear k9 hb1; obtain ⟨q0, q1, q2, q3, q4, q5, q6, q7, q8, q9, q10, q11, q12, q13⟩ := hd_cells (h := h) hB)
        | (go_at_call 13; refine (k10 _).mono ?_; rintro e w1 ⟨rfl, hb1⟩; replace hB := hB.below hb1; replace hac := hac.trans (hb1.mono hac.size); clear q0 q1 q2 q3 q4 q5 q6 q7 q8 q9 q10 q11 q12 q13; clear k10 hb1; obtain ⟨q0, q1, q2, q3, q4, q5, q6, q7, q8, q9, q10, q11, q12, q13⟩ := hd_cells (h := h) hB)
        | (refine wpList_load_row (P := Tryz.prog) rfl 26 (.tmp 1) rfl w.heap.size rfl 26 _ (0, 0) _ hB Tryz.underlying26 rfl hinf ?_))
      all_goals go_ret2
      all_goals exact ⟨⟨none, 0, 0, rfl, by rw [ER.out]; exact ⟨rfl, Nat.le_refl _, by omega, .inl ⟨rfl, rfl⟩⟩⟩, hac⟩
    cases b3
    · clear hall
      go_enter Tryz.func18, Tryz.ntmps18
      go_wp2_with (first
        | (go_at_call 13; refine (k2 _).mono ?_; rintro e w1 ⟨rfl, hb1⟩; replace hB := hB.below hb1; replace hac := hac.trans (hb1.mono hac.size); clear k2 hb1; obtain ⟨q0, q1, q2, q3, q4, q5, q6, q7, q8, q9, q10, q11, q12, q13⟩ := hd_cells (h := h) hB)
        | (go_at_call 13; refine (k3 _).mono ?_; rintro e w1 ⟨rfl, hb1⟩; replace hB := hB.below hb1; replace hac := hac.trans (hb1.mono hac.size); clear q0 q1 q2 q3 q4 q5 q6 q7 q8 q9 q10 q11 q12 q13; clear k3 hb1; obtain ⟨q0, q1, q2, q3, q4, q5, q6, q7, q8, q9, q10, q11, q12, q13⟩ := hd_cells (h := h) hB)
        | (go_at_call 13; refine (k9 _).mono ?_; rintro e w1 ⟨rfl, hb1⟩; replace hB := hB.below hb1; replace hac := hac.trans (hb1.mono hac.size); clear q0 q1 q2 q3 q4 q5 q6 q7 q8 q9 q10 q11 q12 q13; clear k9 hb1; obtain ⟨q0, q1, q2, q3, q4, q5, q6, q7, q8, q9, q10, q11, q12, q13⟩ := hd_cells (h := h) hB)
        | (go_at_call 13; refine (k10 _).mono ?_; rintro e w1 ⟨rfl, hb1⟩; replace hB := hB.below hb1; replace hac := hac.trans (hb1.mono hac.size); clear q0 q1 q2 q3 q4 q5 q6 q7 q8 q9 q10 q11 q12 q13; clear k10 hb1; obtain ⟨q0, q1, q2, q3, q4, q5, q6, q7, q8, q9, q10, q11, q12, q13⟩ := hd_cells (h := h) hB)
        | (refine wpList_load_row (P := Tryz.prog) rfl 26 (.tmp 1) rfl w.heap.size rfl 26 _ (0, 0) _ hB Tryz.underlying26 rfl hinf ?_))
      all_goals go_ret2
      all_goals exact ⟨⟨none, 0, 0, rfl, by rw [ER.out]; exact ⟨rfl, Nat.le_refl _, by omega, .inl ⟨rfl, rfl⟩⟩⟩, hac⟩
    cases b9
    · clear hall
      go_enter Tryz.func18, Tryz.ntmps18
      go_wp2_with (first
        | (go_at_call 13; refine (k2 _).mono ?_; rintro e w1 ⟨rfl, hb1⟩; replace hB := hB.below hb1; replace hac := hac.trans (hb1.mono hac.size); clear k2 hb1; obtain ⟨q0, q1, q2, q3, q4, q5, q6, q7, q8, q9, q10, q11, q12, q13⟩ := hd_cells (h := h) hB)
        | (go_at_call 13; refine (k3 _).mono ?_; rintro e w1 ⟨rfl, hb1⟩; replace hB := hB.below hb1; replace hac := hac.trans (hb1.mono hac.size); clear q0 q1 q2 q3 q4 q5 q6 q7 q8 q9 q10 q11 q12 q13; clear k3 hb1; obtain ⟨q0, q1, q2, q3, q4, q5, q6, q7, q8, q9, q10, q11, q12, q13⟩ := hd_cells (h := h) hB)
        | (go_at_call 13; refine (k9 _).mono ?_; rintro e w1 ⟨rfl, hb1⟩; replace hB := hB.below hb1; replace hac := hac.trans (hb1.mono hac.size); clear q0 q1 q2 q3 q4 q5 q6 q7 q8 q9 q10 q11 q12 q13; clear k9 hb1; obtain ⟨q0, q1, q2, q3, q4, q5, q6, q7, q8, q9, q10, q11, q12, q13⟩ := hd_cells (h := h) hB)
        | (go_at_call 13; refine (k10 _).mono ?_; rintro e w1 ⟨rfl, hb1⟩; replace hB := hB.below hb1; replace hac := hac.trans (hb1.mono hac.size); clear q0 q1 q2 q3 q4 q5 q6 q7 q8 q9 q10 q11 q12 q13; clear k10 hb1; obtain ⟨q0, q1, q2, q3, q4, q5, q6, q7, q8, q9, q10, q11, q12, q13⟩ := hd_cells (h := h) hB)
        | (refine wpList_load_row (P := Tryz.prog) rfl 26 (.tmp 1) rfl w.heap.size rfl 26 _ (0, 0) _ hB Tryz.underlying26 rfl hinf ?_))
      all_goals go_ret2
      all_goals exact ⟨⟨none, 0, 0, rfl, by rw [ER.out]; exact ⟨rfl, Nat.le_refl _, by omega, .inl ⟨rfl, rfl⟩⟩⟩, hac⟩
    cases b10
    · clear hall
      go_enter Tryz.func18, Tryz.ntmps18
      go_wp2_with (first
        | (go_at_call 13; refine (k2 _).mono ?_; rintro e w1 ⟨rfl, hb1⟩; replace hB := hB.below hb1; replace hac := hac.trans (hb1.mono hac.size); clear k2 hb1; obtain ⟨q0, q1, q2, q3, q4, q5, q6, q7, q8, q9, q10, q11, q12, q13⟩ := hd_cells (h := h) hB)
        | (go_at_call 13; refine (k3 _).mono ?_; rintro e w1 ⟨rfl, hb1⟩; replace hB := hB.below hb1; replace hac := hac.trans (hb1.mono hac.size); clear q0 q1 q2 q3 q4 q5 q6 q7 q8 q9 q10 q11 q12 q13; clear k3 hb1; obtain ⟨q0, q1, q2, q3, q4, q5, q6, q7, q8, q9, q10, q11, q12, q13⟩ := hd_cells (h := h) hB)
        | (go_at_call 13; refine (k9 _).mono ?_; rintro e w1 ⟨rfl, hb1⟩; replace hB := hB.below hb1; replace hac := hac.trans (hb1.mono hac.size); clear q0 q1 q2 q3 q4 q5 q6 q7 q8 q9 q10 q11 q12 q13; clear k9 hb1; obtain ⟨q0, q1, q2, q3, q4, q5, q6, q7, q8, q9, q10, q11, q12, q13⟩ := hd_cells (h := h) hB)
        | (go_at_call 13; refine (k10 _).mono ?_; rintro e w1 ⟨rfl, hb1⟩; replace hB := hB.below hb1; replace hac := hac.trans (hb1.mono hac.size); clear q0 q1 q2 q3 q4 q5 q6 q7 q8 q9 q10 q11 q12 q13; clear k10 hb1; obtain ⟨q0, q1, q2, q3, q4, q5, q6, q7, q8, q9, q10, q11, q12, q13⟩ := hd_cells (h := h) hB)
        | (refine wpList_load_row (P := Tryz.prog) rfl 26 (.tmp 1) rfl w.heap.size rfl 26 _ (0, 0) _ hB Tryz.underlying26 rfl hinf ?_))
      all_goals go_ret2
      all_goals exact ⟨⟨none, 0, 0, rfl, by rw [ER.out]; exact ⟨rfl, Nat.le_refl _, by omega, .inl ⟨rfl, rfl⟩⟩⟩, hac⟩
    · exact absurd rfl hall

end Go.Proofs.YthnaanjhmehgcaaGreatDoor
