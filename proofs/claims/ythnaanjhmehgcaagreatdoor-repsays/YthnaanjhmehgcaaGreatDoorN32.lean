/-
  THE PAIR THAT TELLS A FIELD (rep's record). Conditions: how long the texts may be; numbers of 64 bits; what the listed variables hold.
-/
import Derived.Test.YthnaanjhmehgcaaGreatDoorN27
import Derived.Test.YthnaanjhmehgcaaGreatDoorN18
import Derived.Test.YthnaanjhmehgcaaGreatDoorN31
import Derived.Laws.Tables
import Derived.Laws.Rows
import Derived.Lib.SmallJoins
namespace Go.Proofs.YthnaanjhmehgcaaGreatDoor
open Go.ChangeShapes Go.WideShapes Go.ChangeAt Go.RowKit Go.Lib
set_option linter.unusedVariables false
set_option linter.unusedSimpArgs false
set_option maxRecDepth 20000

theorem below_setRow2 {B : Nat} {a w : World} (h : Below B a w) {g : Nat} (hg : B ≤ g) (cs : Array Value) : Below B a (w.setRow g cs) :=
  ⟨h.os, h.tape, h.output, by have := h.size; simpa [World.setRow] using this, fun k hk => (setRow_other w g k cs (by omega)).trans (h.block k hk)⟩
theorem str_one (k v : ByteArray) : (#[Value.string k, Value.string v] : Array Value).all (·.oneCell') = true := by kernel_rfl

set_option maxHeartbeats 8000000 in
theorem record_2 (h : Hd) (x : Value) (w : World) (hs : h.name.size ≤ 9000000000000000) : Calls Tryz.prog 75 #[.agg (h.cs x), .int .i64 2] w fun e w' => e = .returned (.agg #[.string (keyF 2), .string (valF h 2)]) ∧ Below w.heap.size w w' := by
  have hac := (two_new w (.cells (h.cs x) 26) (.cells #[.string ⟨#[]⟩, .string ⟨#[]⟩] 50)).1
  have hZ : Blk ((w.alloc (.cells (h.cs x) 26)).alloc (.cells #[.string ⟨#[]⟩, .string ⟨#[]⟩] 50)) (w.heap.size + 1) #[.string ⟨#[]⟩, .string ⟨#[]⟩] 50 := (two_new w _ _).2
  have hinf : (Tryz.prog.info? 50).map (·.size) = some 2 := by kernel_rfl
  have ek : keyF 2 = ⟨#[112, 97, 116, 104]⟩ := rfl
  obtain ⟨V, hV⟩ : ∃ V, V = valF h 2 := ⟨_, rfl⟩
  rw [ek, ← hV]
  clear ek
  have eV : V = (fulls h.kind h.name).headD ⟨#[]⟩ := hV
  clear hV
  have hf := fulls_ok h x hs ((w.alloc (.cells (h.cs x) 26)).alloc (.cells #[.string ⟨#[]⟩, .string ⟨#[]⟩] 50))
  obtain ⟨-, hl0, -⟩ := fulls_sz h.kind h.name
  generalize fulls h.kind h.name = L at *
  obtain ⟨f0, t0, rfl⟩ : ∃ f t, L = f :: t := by cases L with | nil => simp at hl0 | cons f t => exact ⟨f, t, rfl⟩
  obtain rfl : V = f0 := eV
  unfold Hd.cs at hac hZ hf ⊢
  clear hl0
  go_enter Tryz.func75, Tryz.ntmps75
  go_wp2_with (first
    | (go_at_call 78; refine hf.mono ?_; rintro e w1 ⟨g, n, rfl, hn, hst, hb1⟩; replace hZ := hZ.below hb1; replace hac := hac.trans (hb1.mono hac.size); (have c0 : w1.cell? ⟨g, 0, none⟩ = some (.string V) := by unfold Sts at hst; simp [World.cell?, hst]); (have hn0 : (0 : Int) < (n : Int) := by rw [hn, List.length_cons]; omega); clear hn hst hb1)
    | (refine wpList_store_row (P := Tryz.prog) rfl 50 (.tmp 4) (.tmp 14) rfl (w.heap.size + 1) #[.string ⟨#[112, 97, 116, 104]⟩, .string V] rfl rfl 50 #[.string ⟨#[]⟩, .string ⟨#[]⟩] hZ hinf rfl (str_one _ _) ?_))
  refine bodyPost_ret (v := .agg #[.string ⟨#[112, 97, 116, 104]⟩, .string V]) (results_cell_row (P := Tryz.prog) Tryz.results75 _ _ (w.heap.size + 1) 50 #[.string ⟨#[112, 97, 116, 104]⟩, .string V] (0, 0) _ rfl (setRow_heap _ _ _ _ 50 (0, 0) hZ) Tryz.underlying50 rfl hinf) rfl ⟨rfl, below_setRow2 hac (by omega) _⟩

set_option maxHeartbeats 8000000 in
theorem record_3 (h : Hd) (x : Value) (w : World) : Calls Tryz.prog 75 #[.agg (h.cs x), .int .i64 3] w fun e w' => e = .returned (.agg #[.string (keyF 3), .string (valF h 3)]) ∧ Below w.heap.size w w' := by
  have hac := (two_new w (.cells (h.cs x) 26) (.cells #[.string ⟨#[]⟩, .string ⟨#[]⟩] 50)).1
  have hZ : Blk ((w.alloc (.cells (h.cs x) 26)).alloc (.cells #[.string ⟨#[]⟩, .string ⟨#[]⟩] 50)) (w.heap.size + 1) #[.string ⟨#[]⟩, .string ⟨#[]⟩] 50 := (two_new w _ _).2
  have hinf : (Tryz.prog.info? 50).map (·.size) = some 2 := by kernel_rfl
  have ek : keyF 3 = ⟨#[108, 105, 110, 107, 112, 97, 116, 104]⟩ := rfl
  obtain ⟨V, hV⟩ : ∃ V, V = valF h 3 := ⟨_, rfl⟩
  rw [ek, ← hV]
  clear ek
  have eV : V = h.link := hV
  subst eV
  clear hV
  unfold Hd.cs at hac hZ ⊢
  go_enter Tryz.func75, Tryz.ntmps75
  go_wp2_with (first
    | (refine wpList_store_row (P := Tryz.prog) rfl 50 (.tmp 4) (.tmp 19) rfl (w.heap.size + 1) #[.string ⟨#[108, 105, 110, 107, 112, 97, 116, 104]⟩, .string h.link] rfl rfl 50 #[.string ⟨#[]⟩, .string ⟨#[]⟩] hZ hinf rfl (str_one _ _) ?_))
  refine bodyPost_ret (v := .agg #[.string ⟨#[108, 105, 110, 107, 112, 97, 116, 104]⟩, .string h.link]) (results_cell_row (P := Tryz.prog) Tryz.results75 _ _ (w.heap.size + 1) 50 #[.string ⟨#[108, 105, 110, 107, 112, 97, 116, 104]⟩, .string h.link] (0, 0) _ rfl (setRow_heap _ _ _ _ 50 (0, 0) hZ) Tryz.underlying50 rfl hinf) rfl ⟨rfl, below_setRow2 hac (by omega) _⟩

set_option maxHeartbeats 8000000 in
theorem record_5 (h : Hd) (x : Value) (w : World) (g0 : -9223372036854775808 ≤ h.uid) (g1 : h.uid ≤ 9223372036854775807) (hL : Laid w) : Calls Tryz.prog 75 #[.agg (h.cs x), .int .i64 5] w fun e w' => e = .returned (.agg #[.string (keyF 5), .string (valF h 5)]) ∧ Below w.heap.size w w' := by
  have hac := (two_new w (.cells (h.cs x) 26) (.cells #[.string ⟨#[]⟩, .string ⟨#[]⟩] 50)).1
  have hZ : Blk ((w.alloc (.cells (h.cs x) 26)).alloc (.cells #[.string ⟨#[]⟩, .string ⟨#[]⟩] 50)) (w.heap.size + 1) #[.string ⟨#[]⟩, .string ⟨#[]⟩] 50 := (two_new w _ _).2
  have hinf : (Tryz.prog.info? 50).map (·.size) = some 2 := by kernel_rfl
  have ek : keyF 5 = ⟨#[117, 105, 100]⟩ := rfl
  obtain ⟨V, hV⟩ : ∃ V, V = valF h 5 := ⟨_, rfl⟩
  rw [ek, ← hV]
  clear ek
  have hcall := fun w' (hb : Below w.heap.size w w') => text_ok h.uid g0 g1 w' (hL.below hb)
  have eV : V = txt (signOf h.uid ++ decDigits (h.uid).natAbs) := hV
  rw [← eV] at hcall
  clear hV eV
  unfold Hd.cs at hac hZ ⊢
  go_enter Tryz.func75, Tryz.ntmps75
  go_wp2_with (first
    | (go_at_call 99; refine (hcall _ hac).mono ?_; rintro e w1 ⟨rfl, hb1⟩; replace hZ := hZ.below hb1; replace hac := hac.trans (hb1.mono hac.size); clear hb1)
    | (refine wpList_store_row (P := Tryz.prog) rfl 50 (.tmp 4) (.tmp 25) rfl (w.heap.size + 1) #[.string ⟨#[117, 105, 100]⟩, .string V] rfl rfl 50 #[.string ⟨#[]⟩, .string ⟨#[]⟩] hZ hinf rfl (str_one _ _) ?_))
  refine bodyPost_ret (v := .agg #[.string ⟨#[117, 105, 100]⟩, .string V]) (results_cell_row (P := Tryz.prog) Tryz.results75 _ _ (w.heap.size + 1) 50 #[.string ⟨#[117, 105, 100]⟩, .string V] (0, 0) _ rfl (setRow_heap _ _ _ _ 50 (0, 0) hZ) Tryz.underlying50 rfl hinf) rfl ⟨rfl, below_setRow2 hac (by omega) _⟩

set_option maxHeartbeats 8000000 in
theorem record_6 (h : Hd) (x : Value) (w : World) (g0 : -9223372036854775808 ≤ h.gid) (g1 : h.gid ≤ 9223372036854775807) (hL : Laid w) : Calls Tryz.prog 75 #[.agg (h.cs x), .int .i64 6] w fun e w' => e = .returned (.agg #[.string (keyF 6), .string (valF h 6)]) ∧ Below w.heap.size w w' := by
  have hac := (two_new w (.cells (h.cs x) 26) (.cells #[.string ⟨#[]⟩, .string ⟨#[]⟩] 50)).1
  have hZ : Blk ((w.alloc (.cells (h.cs x) 26)).alloc (.cells #[.string ⟨#[]⟩, .string ⟨#[]⟩] 50)) (w.heap.size + 1) #[.string ⟨#[]⟩, .string ⟨#[]⟩] 50 := (two_new w _ _).2
  have hinf : (Tryz.prog.info? 50).map (·.size) = some 2 := by kernel_rfl
  have ek : keyF 6 = ⟨#[103, 105, 100]⟩ := rfl
  obtain ⟨V, hV⟩ : ∃ V, V = valF h 6 := ⟨_, rfl⟩
  rw [ek, ← hV]
  clear ek
  have hcall := fun w' (hb : Below w.heap.size w w') => text_ok h.gid g0 g1 w' (hL.below hb)
  have eV : V = txt (signOf h.gid ++ decDigits (h.gid).natAbs) := hV
  rw [← eV] at hcall
  clear hV eV
  unfold Hd.cs at hac hZ ⊢
  go_enter Tryz.func75, Tryz.ntmps75
  go_wp2_with (first
    | (go_at_call 99; refine (hcall _ hac).mono ?_; rintro e w1 ⟨rfl, hb1⟩; replace hZ := hZ.below hb1; replace hac := hac.trans (hb1.mono hac.size); clear hb1)
    | (refine wpList_store_row (P := Tryz.prog) rfl 50 (.tmp 4) (.tmp 31) rfl (w.heap.size + 1) #[.string ⟨#[103, 105, 100]⟩, .string V] rfl rfl 50 #[.string ⟨#[]⟩, .string ⟨#[]⟩] hZ hinf rfl (str_one _ _) ?_))
  refine bodyPost_ret (v := .agg #[.string ⟨#[103, 105, 100]⟩, .string V]) (results_cell_row (P := Tryz.prog) Tryz.results75 _ _ (w.heap.size + 1) 50 #[.string ⟨#[103, 105, 100]⟩, .string V] (0, 0) _ rfl (setRow_heap _ _ _ _ 50 (0, 0) hZ) Tryz.underlying50 rfl hinf) rfl ⟨rfl, below_setRow2 hac (by omega) _⟩

set_option maxHeartbeats 8000000 in
theorem record_7 (h : Hd) (x : Value) (w : World) (g0 : -9223372036854775808 ≤ h.size) (g1 : h.size ≤ 9223372036854775807) (hL : Laid w) : Calls Tryz.prog 75 #[.agg (h.cs x), .int .i64 7] w fun e w' => e = .returned (.agg #[.string (keyF 7), .string (valF h 7)]) ∧ Below w.heap.size w w' := by
  have hac := (two_new w (.cells (h.cs x) 26) (.cells #[.string ⟨#[]⟩, .string ⟨#[]⟩] 50)).1
  have hZ : Blk ((w.alloc (.cells (h.cs x) 26)).alloc (.cells #[.string ⟨#[]⟩, .string ⟨#[]⟩] 50)) (w.heap.size + 1) #[.string ⟨#[]⟩, .string ⟨#[]⟩] 50 := (two_new w _ _).2
  have hinf : (Tryz.prog.info? 50).map (·.size) = some 2 := by kernel_rfl
  have ek : keyF 7 = ⟨#[115, 105, 122, 101]⟩ := rfl
  obtain ⟨V, hV⟩ : ∃ V, V = valF h 7 := ⟨_, rfl⟩
  rw [ek, ← hV]
  clear ek
  have hcall := fun w' (hb : Below w.heap.size w w') => text_ok h.size g0 g1 w' (hL.below hb)
  have eV : V = txt (signOf h.size ++ decDigits (h.size).natAbs) := hV
  rw [← eV] at hcall
  clear hV eV
  unfold Hd.cs at hac hZ ⊢
  go_enter Tryz.func75, Tryz.ntmps75
  go_wp2_with (first
    | (go_at_call 99; refine (hcall _ hac).mono ?_; rintro e w1 ⟨rfl, hb1⟩; replace hZ := hZ.below hb1; replace hac := hac.trans (hb1.mono hac.size); clear hb1)
    | (refine wpList_store_row (P := Tryz.prog) rfl 50 (.tmp 4) (.tmp 37) rfl (w.heap.size + 1) #[.string ⟨#[115, 105, 122, 101]⟩, .string V] rfl rfl 50 #[.string ⟨#[]⟩, .string ⟨#[]⟩] hZ hinf rfl (str_one _ _) ?_))
  refine bodyPost_ret (v := .agg #[.string ⟨#[115, 105, 122, 101]⟩, .string V]) (results_cell_row (P := Tryz.prog) Tryz.results75 _ _ (w.heap.size + 1) 50 #[.string ⟨#[115, 105, 122, 101]⟩, .string V] (0, 0) _ rfl (setRow_heap _ _ _ _ 50 (0, 0) hZ) Tryz.underlying50 rfl hinf) rfl ⟨rfl, below_setRow2 hac (by omega) _⟩

set_option maxHeartbeats 8000000 in
theorem record_8 (h : Hd) (x : Value) (w : World) (g0 : -9223372036854775808 ≤ h.sec) (g1 : h.sec ≤ 9223372036854775807) (gn : 0 ≤ h.nano ∧ h.nano < 1000000000) (hL : Laid w) : Calls Tryz.prog 75 #[.agg (h.cs x), .int .i64 8] w fun e w' => e = .returned (.agg #[.string (keyF 8), .string (valF h 8)]) ∧ Below w.heap.size w w' := by
  have hac := (two_new w (.cells (h.cs x) 26) (.cells #[.string ⟨#[]⟩, .string ⟨#[]⟩] 50)).1
  have hZ : Blk ((w.alloc (.cells (h.cs x) 26)).alloc (.cells #[.string ⟨#[]⟩, .string ⟨#[]⟩] 50)) (w.heap.size + 1) #[.string ⟨#[]⟩, .string ⟨#[]⟩] 50 := (two_new w _ _).2
  have hinf : (Tryz.prog.info? 50).map (·.size) = some 2 := by kernel_rfl
  have ek : keyF 8 = ⟨#[109, 116, 105, 109, 101]⟩ := rfl
  obtain ⟨V, hV⟩ : ∃ V, V = valF h 8 := ⟨_, rfl⟩
  rw [ek, ← hV]
  clear ek
  have hcall := fun w' (hb : Below w.heap.size w w') => print_yes h.sec h.nano g0 g1 gn w' (hL.below hb)
  have eV : V = txt (printOf h.sec h.nano) := hV
  rw [← eV] at hcall
  clear hV eV
  unfold Hd.cs at hac hZ ⊢
  go_enter Tryz.func75, Tryz.ntmps75
  go_wp2_with (first
    | (go_at_call 107; refine (hcall _ hac).mono ?_; rintro e w1 ⟨rfl, hb1⟩; replace hZ := hZ.below hb1; replace hac := hac.trans (hb1.mono hac.size); clear hb1)
    | (refine wpList_store_row (P := Tryz.prog) rfl 50 (.tmp 4) (.tmp 47) rfl (w.heap.size + 1) #[.string ⟨#[109, 116, 105, 109, 101]⟩, .string V] rfl rfl 50 #[.string ⟨#[]⟩, .string ⟨#[]⟩] hZ hinf rfl (str_one _ _) ?_))
  refine bodyPost_ret (v := .agg #[.string ⟨#[109, 116, 105, 109, 101]⟩, .string V]) (results_cell_row (P := Tryz.prog) Tryz.results75 _ _ (w.heap.size + 1) 50 #[.string ⟨#[109, 116, 105, 109, 101]⟩, .string V] (0, 0) _ rfl (setRow_heap _ _ _ _ 50 (0, 0) hZ) Tryz.underlying50 rfl hinf) rfl ⟨rfl, below_setRow2 hac (by omega) _⟩

set_option maxHeartbeats 8000000 in
theorem record_9 (h : Hd) (x : Value) (w : World) : Calls Tryz.prog 75 #[.agg (h.cs x), .int .i64 9] w fun e w' => e = .returned (.agg #[.string (keyF 9), .string (valF h 9)]) ∧ Below w.heap.size w w' := by
  have hac := (two_new w (.cells (h.cs x) 26) (.cells #[.string ⟨#[]⟩, .string ⟨#[]⟩] 50)).1
  have hZ : Blk ((w.alloc (.cells (h.cs x) 26)).alloc (.cells #[.string ⟨#[]⟩, .string ⟨#[]⟩] 50)) (w.heap.size + 1) #[.string ⟨#[]⟩, .string ⟨#[]⟩] 50 := (two_new w _ _).2
  have hinf : (Tryz.prog.info? 50).map (·.size) = some 2 := by kernel_rfl
  have ek : keyF 9 = ⟨#[117, 110, 97, 109, 101]⟩ := rfl
  obtain ⟨V, hV⟩ : ∃ V, V = valF h 9 := ⟨_, rfl⟩
  rw [ek, ← hV]
  clear ek
  have eV : V = h.user := hV
  subst eV
  clear hV
  unfold Hd.cs at hac hZ ⊢
  go_enter Tryz.func75, Tryz.ntmps75
  go_wp2_with (first
    | (refine wpList_store_row (P := Tryz.prog) rfl 50 (.tmp 4) (.tmp 52) rfl (w.heap.size + 1) #[.string ⟨#[117, 110, 97, 109, 101]⟩, .string h.user] rfl rfl 50 #[.string ⟨#[]⟩, .string ⟨#[]⟩] hZ hinf rfl (str_one _ _) ?_))
  refine bodyPost_ret (v := .agg #[.string ⟨#[117, 110, 97, 109, 101]⟩, .string h.user]) (results_cell_row (P := Tryz.prog) Tryz.results75 _ _ (w.heap.size + 1) 50 #[.string ⟨#[117, 110, 97, 109, 101]⟩, .string h.user] (0, 0) _ rfl (setRow_heap _ _ _ _ 50 (0, 0) hZ) Tryz.underlying50 rfl hinf) rfl ⟨rfl, below_setRow2 hac (by omega) _⟩

set_option maxHeartbeats 8000000 in
theorem record_10 (h : Hd) (x : Value) (w : World) : Calls Tryz.prog 75 #[.agg (h.cs x), .int .i64 10] w fun e w' => e = .returned (.agg #[.string (keyF 10), .string (valF h 10)]) ∧ Below w.heap.size w w' := by
  have hac := (two_new w (.cells (h.cs x) 26) (.cells #[.string ⟨#[]⟩, .string ⟨#[]⟩] 50)).1
  have hZ : Blk ((w.alloc (.cells (h.cs x) 26)).alloc (.cells #[.string ⟨#[]⟩, .string ⟨#[]⟩] 50)) (w.heap.size + 1) #[.string ⟨#[]⟩, .string ⟨#[]⟩] 50 := (two_new w _ _).2
  have hinf : (Tryz.prog.info? 50).map (·.size) = some 2 := by kernel_rfl
  have ek : keyF 10 = ⟨#[103, 110, 97, 109, 101]⟩ := rfl
  obtain ⟨V, hV⟩ : ∃ V, V = valF h 10 := ⟨_, rfl⟩
  rw [ek, ← hV]
  clear ek
  have eV : V = h.group := hV
  subst eV
  clear hV
  unfold Hd.cs at hac hZ ⊢
  go_enter Tryz.func75, Tryz.ntmps75
  go_wp2_with (first
    | (refine wpList_store_row (P := Tryz.prog) rfl 50 (.tmp 4) (.tmp 55) rfl (w.heap.size + 1) #[.string ⟨#[103, 110, 97, 109, 101]⟩, .string h.group] rfl rfl 50 #[.string ⟨#[]⟩, .string ⟨#[]⟩] hZ hinf rfl (str_one _ _) ?_))
  refine bodyPost_ret (v := .agg #[.string ⟨#[103, 110, 97, 109, 101]⟩, .string h.group]) (results_cell_row (P := Tryz.prog) Tryz.results75 _ _ (w.heap.size + 1) 50 #[.string ⟨#[103, 110, 97, 109, 101]⟩, .string h.group] (0, 0) _ rfl (setRow_heap _ _ _ _ 50 (0, 0) hZ) Tryz.underlying50 rfl hinf) rfl ⟨rfl, below_setRow2 hac (by omega) _⟩

/-- all of these -/
theorem record_ok11 (h : Hd) (x : Value) (f : Int) (hf : f ∈ fldsA) (hB : Bnd h) (gn : 0 ≤ h.nano ∧ h.nano < 1000000000) (w : World) (hL : Laid w) :
    Calls Tryz.prog 75 #[.agg (h.cs x), .int .i64 f] w fun e w' => e = .returned (.agg #[.string (keyF f), .string (valF h f)]) ∧ Below w.heap.size w w' := by
  obtain ⟨⟨u1, u2⟩, ⟨g1, g2⟩, ⟨z1, z2⟩, ⟨s1, s2⟩, n1, n2, n3, n4⟩ := hB
  simp only [fldsA, List.mem_cons, List.mem_nil_iff, or_false] at hf
  rcases hf with rfl | rfl | rfl | rfl | rfl | rfl | rfl | rfl
  · exact record_2 h x w n1
  · exact record_3 h x w
  · exact record_5 h x w u1 u2 hL
  · exact record_6 h x w g1 g2 hL
  · exact record_7 h x w z1 z2 hL
  · exact record_8 h x w s1 s2 gn hL
  · exact record_9 h x w
  · exact record_10 h x w

end Go.Proofs.YthnaanjhmehgcaaGreatDoor
