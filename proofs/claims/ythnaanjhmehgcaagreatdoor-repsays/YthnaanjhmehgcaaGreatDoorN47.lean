/-
  WHAT A RIGHT HEAD OF BOUNDED TEXTS IS; AND WHAT FOLLOWS OF IT. Conditions: those that each part names.
-/
import Derived.Test.YthnaanjhmehgcaaGreatDoorN43
import Derived.Test.YthnaanjhmehgcaaGreatDoorN14
import Derived.Test.YthnaanjhmehgcaaGreatDoorN19
import Derived.Test.YthnaanjhmehgcaaGreatDoorN46
import Derived.Test.YthnaanjhmehgcaaGreatDoorN17
/-
  WHAT A RIGHT HEAD OF BOUNDED TEXTS IS. Conditions: none but its own.
-/
namespace Go.Proofs.YthnaanjhmehgcaaGreatDoor
open Go.ChangeShapes Go.WideShapes Go.ChangeAt Go.RowKit Go.Lib
set_option linter.unusedVariables false
set_option linter.unusedSimpArgs false
set_option maxRecDepth 20000

theorem right_all {h : Hd} {l : PL} (e : wrongH h l = 0) : ∀ b ∈ fieldsR h l, b = true := wrongN_zero _ _ (by decide) e
/-- what its fields are -/
theorem right_facts {h : Hd} {l : PL} (e : wrongH h l = 0) : (1 ≤ h.kind ∧ h.kind ≤ 7) ∧ (0 < h.name.size ∧ h.name.size ≤ 65536 ∧ has 0 (bs h.name) = false ∧ (h.kind = 1 → endsS h.name = false)) ∧ (h.link.size ≤ 65536 ∧ has 0 (bs h.link) = false) ∧ (0 ≤ h.uid ∧ 0 ≤ h.gid ∧ 0 ≤ h.size) ∧ (0 ≤ h.nano ∧ h.nano < 1000000000) ∧
    (h.user.size ≤ 65536 ∧ has 0 (bs h.user) = false) ∧ (h.group.size ≤ 65536 ∧ has 0 (bs h.group) = false) ∧ (Srt l ∧ Ful l ∧ Rgt l) ∧ anyK l = false := by
  have hb := right_all e
  unfold fieldsR at hb
  simp only [List.mem_cons, List.mem_nil_iff, or_false, forall_eq_or_imp, forall_eq] at hb
  obtain ⟨b1, b2, b3, b4, b5, b6, b7, b8, b9, b10, b11, b12, b13⟩ := hb
  have hn := right_name e
  unfold kndR at b1
  unfold fnameR namR txtR at b2
  unfold flinkR at b3
  unfold numR at b7
  unfold txtR at b9 b10
  unfold fextraR at b13
  simp only [Bool.and_eq_true, Bool.not_eq_true', decide_eq_true_eq, Bool.or_eq_true] at b1 b2 b4 b5 b6 b7 b8 b9 b10 b13
  refine ⟨b1, ⟨hn.1, b2.1.2.1, b2.1.2.2, hn.2⟩, ?_, ⟨b5, b6, ?_⟩, b8, b9, b10, (ovB_iff l).1 b13.1, b13.2⟩
  · split at b3
    · unfold namR txtR at b3
      simp only [Bool.and_eq_true, Bool.not_eq_true', decide_eq_true_eq] at b3
      exact b3.2
    · have e0 : h.link = ⟨#[]⟩ := by
        have := b3
        rw [toList_data] at this
        have h2 : h.link.data.toList = [] := by simpa using this
        apply ByteArray.ext
        simpa using h2
      rw [e0]
      exact ⟨by decide, by decide⟩
  · omega

theorem dec_pos (n : Nat) : 0 < (decDigits n).length := by rw [decDigits_length]; exact nDigits_pos n
theorem numT_size (n : Int) (h0 : -9223372036854775808 ≤ n) (h1 : n ≤ 9223372036854775807) : 0 < (numT n).size ∧ (numT n).size ≤ 21 := by
  unfold numT
  have := dec_pos n.natAbs
  have h2 := dec_size n.natAbs (by omega)
  have h3 := sign_size n
  rw [txt_size] at h2 h3 ⊢
  rw [List.length_append]
  omega
theorem print_size (a b : Int) (h0 : -9223372036854775808 ≤ a) (h1 : a ≤ 9223372036854775807) (hb : 0 ≤ b ∧ b < 1000000000) : 0 < (txt (printOf a b)).size ∧ (txt (printOf a b)).size ≤ 31 := by
  unfold printOf
  have hw : wholeOf a b < 18446744073709551616 := by unfold wholeOf; split <;> omega
  have hp : partOf a b < 1000000000 := by unfold partOf; split <;> omega
  have := dec_pos (wholeOf a b)
  have h2 := dec_size (wholeOf a b) hw
  have h3 := sign_size a
  have h4 := tail_size (partOf a b) hp
  rw [txt_size] at h2 h3 h4 ⊢
  rw [List.length_append, List.length_append]
  omega
theorem keyF_size : ∀ f ∈ fldsA, (keyF f).size ≤ 8 := by decide +kernel

/-- values of records are not empty, and are short -/
theorem valF_size {h : Hd} {l : PL} (e : wrongH h l = 0) (hI : I64 h) (n : Nat) (f : Int) (hf : f ∈ fldsA) (hc : canN 2 h n f = false) : 0 < (valF h f).size ∧ (valF h f).size ≤ 65537 := by
  obtain ⟨hk, ⟨n1, n2, -, -⟩, ⟨l2, -⟩, -, hno, ⟨u2, -⟩, ⟨g2, -⟩, -, -⟩ := right_facts e
  obtain ⟨⟨i1, i2⟩, ⟨i3, i4⟩, ⟨i5, i6⟩, ⟨i7, i8⟩⟩ := hI
  simp only [fldsA, List.mem_cons, List.mem_nil_iff, or_false] at hf
  rcases hf with rfl | rfl | rfl | rfl | rfl | rfl | rfl | rfl
  · show 0 < ((fulls h.kind h.name).headD ⟨#[]⟩).size ∧ ((fulls h.kind h.name).headD ⟨#[]⟩).size ≤ 65537
    obtain ⟨f0, t0, hL⟩ := fulls_ne h.kind h.name
    have hs := (fulls_sz h.kind h.name).1 f0 (by rw [hL]; exact List.mem_cons_self ..)
    have hp : 0 < f0.size := by
      have hm : f0 ∈ fulls h.kind h.name := by rw [hL]; exact List.mem_cons_self ..
      have hs' : (h.name ++ ⟨#[47]⟩ : ByteArray).size = h.name.size + 1 := by rw [ByteArray.size_append]; rfl
      unfold fulls at hm
      split at hm
      · split at hm
        · have e : f0 = h.name ++ ⟨#[47]⟩ := by simpa using hm
          rw [e]; omega
        · have e : f0 = h.name ∨ f0 = h.name ++ ⟨#[47]⟩ := by simpa using hm
          rcases e with rfl | rfl
          · omega
          · omega
      · have e : f0 = h.name := by simpa using hm
        rw [e]; omega
    rw [hL]
    show 0 < f0.size ∧ f0.size ≤ 65537
    omega
  · have : ¬ h.link.size ≤ 100 := fun hh => by
      have : canN 2 h n 3 = true := by show textT 2 h.link (colI 2 100 100 100 9223372036854775807) = true; unfold textT colI; simp; omega
      rw [this] at hc; cases hc
    show 0 < h.link.size ∧ h.link.size ≤ 65537
    omega
  · have := numT_size h.uid i1 i2; show 0 < (numT h.uid).size ∧ (numT h.uid).size ≤ 65537; omega
  · have := numT_size h.gid i3 i4; show 0 < (numT h.gid).size ∧ (numT h.gid).size ≤ 65537; omega
  · have := numT_size h.size i5 i6; show 0 < (numT h.size).size ∧ (numT h.size).size ≤ 65537; omega
  · have := print_size h.sec h.nano i7 i8 hno; show 0 < (txt (printOf h.sec h.nano)).size ∧ (txt (printOf h.sec h.nano)).size ≤ 65537; omega
  · have : ¬ h.user.size ≤ 32 := fun hh => by
      have : canN 2 h n 9 = true := by show textT 2 h.user (colI 2 0 32 32 32) = true; unfold textT colI; simp; omega
      rw [this] at hc; cases hc
    show 0 < h.user.size ∧ h.user.size ≤ 65537
    omega
  · have : ¬ h.group.size ≤ 32 := fun hh => by
      have : canN 2 h n 10 = true := by show textT 2 h.group (colI 2 0 32 32 32) = true; unfold textT colI; simp; omega
      rw [this] at hc; cases hc
    show 0 < h.group.size ∧ h.group.size ≤ 65537
    omega

theorem layP_len2 (l : PL) (p : ByteArray × ByteArray) : (layP l p).length ≤ l.length + 1 := by
  induction l with
  | nil => rw [layP]; split <;> simp
  | cons q t ih =>
    rw [layP]
    repeat' split
    all_goals simp only [List.length_cons]
    all_goals omega
theorem layL_len2 : ∀ (ps l : PL), (layL l ps).length ≤ l.length + ps.length
  | [], l => by simp [layL]
  | p :: t, l => by
    have h1 := layL_len2 t (layP l p)
    have h2 := layP_len2 l p
    show (layL (layP l p) t).length ≤ _
    rw [List.length_cons]
    omega

/-- a record's pair, among the records -/
theorem recs_mem {h : Hd} {n : Nat} {fs : List Int} {p : ByteArray × ByteArray} (hp : p ∈ recsOf h n fs) : ∃ f ∈ fs, canN 2 h n f = false ∧ p = (keyF f, valF h f) := by
  obtain ⟨f, hf, rfl⟩ := List.mem_map.1 hp
  have := List.mem_filter.1 hf
  exact ⟨f, this.1, by simpa using this.2, rfl⟩

/-- what the walks ask of a head -/
theorem rh_of {w : World} {a : Option Addr} {n c : Nat} {l : PL} {h : Hd} (hp : Pys w a n c l) (hnl : a = none → n = 0 ∧ c = 0) (hn : n ≤ 40) (hS : Sml l) (hI : I64 h) (e : wrongH h l = 0) (hL : Laid w) : RI w a n c l h := by
  have hf := right_facts e
  obtain ⟨hk, ⟨n1, n2, -, -⟩, ⟨l2, -⟩, -, hno, ⟨u2, -⟩, ⟨g2, -⟩, ⟨hs, hfu, -⟩, hun⟩ := hf
  have hful : Ful (recsOf h n fldsA ++ l) := fun p hp' => by
    rcases List.mem_append.1 hp' with h1 | h1
    · obtain ⟨f, hfm, hc, rfl⟩ := recs_mem h1
      have := valF_size e hI n f hfm hc
      show (valF h f).size ≠ 0
      omega
    · exact hfu p h1
  have hmem : ∀ q ∈ recO h l, q ∈ recsOf h l.length fldsA ++ l := fun q hq => by
    unfold recO recA at hq
    split at hq
    · rcases layL_mem _ _ q hq with h1 | h1
      · cases h1
      · exact h1
    · cases hq
  refine ⟨⟨hp, hnl, by omega, ⟨hI.1, hI.2.1, hI.2.2.1, hI.2.2.2, by omega, by omega, by omega, by omega⟩, hno, hs, hun, hful, fun q hq => ?_, ?_, hL⟩, by omega, by omega, by omega, by omega⟩
  · rcases List.mem_append.1 (hmem q hq) with h1 | h1
    · obtain ⟨f, hfm, hc, rfl⟩ := recs_mem h1
      have := valF_size e hI _ f hfm hc
      have := keyF_size f hfm
      show (keyF f).size ≤ 1000000 ∧ (valF h f).size ≤ 1000000
      omega
    · exact hS q h1
  · unfold recO recA
    split
    · have h1 := layL_len2 (recsOf h l.length fldsA ++ l) []
      have h2 := recs_len h l.length fldsA
      have h3 : fldsA.length = 8 := rfl
      have h4 := hp.1
      rw [List.length_append] at h1
      simp only [List.length_nil] at h1
      omega
    · simp

end Go.Proofs.YthnaanjhmehgcaaGreatDoor

/-
  THE CHAPTER's EXAMPLE HOLDS. Conditions: what the listed variables hold.
-/
namespace Go.Proofs.YthnaanjhmehgcaaGreatDoor
open Go.ChangeShapes Go.WideShapes Go.ChangeAt Go.RowKit Go.Lib
set_option linter.unusedVariables false
set_option linter.unusedSimpArgs false
set_option maxRecDepth 20000

/-- the example's head -/
def exH : Hd := ⟨7, ⟨#[97]⟩, ⟨#[]⟩, 0, 0, 0, 0, 0, 0, ⟨#[]⟩, ⟨#[]⟩, 0, 0⟩
theorem ex_right : wrongH exH [] = 0 := by decide +kernel
theorem ex_1 : firstA 1 exH [] = 1 := by decide +kernel
theorem ex_4 : firstA 4 exH [] = 0 := by decide +kernel
theorem ex_nil (w : World) : Pys w none 0 0 ([] : PL) := ⟨rfl, Nat.le_refl _, by omega, .inl ⟨rfl, rfl⟩⟩
theorem ex_rh (w : World) (hL : Laid w) : RI w none 0 0 [] exH :=
  rh_of (ex_nil w) (fun _ => ⟨rfl, rfl⟩) (by omega) (fun q hq => by cases hq) ⟨by decide, by decide, by decide, by decide⟩ ex_right hL
theorem ex_wrg (w : World) (hL : Laid w) : WrgIs w none 0 0 exH 0 := by
  have h := wrg_is exH (ex_nil w) (fun q hq => by cases hq) (by decide) hL
  rwa [ex_right] at h

set_option maxHeartbeats 4000000 in
theorem alive_ok (w : World) (hL : Laid w) : Calls Tryz.prog 7 #[] w fun e w' => e = .returned (.bool true) ∧ Below w.heap.size w w' := by
  have h1 := fun (wr : World) (hb : Below w.heap.size w wr) => first_yes 1 exH (by omega) (ex_wrg wr (hL.below hb)) (ex_rh wr (hL.below hb)).r
  have h4 := fun (wr : World) (hb : Below w.heap.size w wr) => first_yes 4 exH (by omega) (ex_wrg wr (hL.below hb)) (ex_rh wr (hL.below hb)).r
  rw [ex_1] at h1
  rw [ex_4] at h4
  unfold Hd.cs exH at h1 h4
  have hac := Below.refl w.heap.size w
  clear hL
  go_enter Tryz.func7, Tryz.ntmps7
  go_wp2_with (first
    | (go_at_call 10; refine (h1 _ hac).mono ?_; rintro e w1 ⟨rfl, hb1⟩; replace hac := hac.trans (hb1.mono hac.size); clear h1 hb1)
    | (go_at_call 10; refine (h4 _ hac).mono ?_; rintro e w1 ⟨rfl, hb1⟩; replace hac := hac.trans (hb1.mono hac.size); clear h4 hb1))
  all_goals go_ret
  all_goals exact ⟨rfl, hac⟩

end Go.Proofs.YthnaanjhmehgcaaGreatDoor

/-
  THE WALK OF RepRecords. Conditions: how long the texts may be; what the listed variables hold.
-/
namespace Go.Proofs.YthnaanjhmehgcaaGreatDoor
open Go.ChangeShapes Go.WideShapes Go.ChangeAt Go.RowKit Go.Lib
set_option linter.unusedVariables false
set_option linter.unusedSimpArgs false
set_option maxRecDepth 20000

/-- what the walk of the statement is handed -/
structure FR (w : World) (d : Int) (h : Hd) (a : Option Addr) (n c : Nat) (W : Int) (fs : ByteArray) (fc : Int) : Prop where
  al : ∀ wr, Below w.heap.size w wr → Calls Tryz.prog 7 #[] wr fun e w' => e = .returned (.bool true) ∧ Below wr.heap.size wr w'
  mn : ∀ wr, Below w.heap.size w wr → Calls Tryz.prog 8 #[.agg (h.cs (.slice a n c))] wr fun e w' => e = .returned (.bool false) ∧ Below wr.heap.size wr w'
  fu : ∀ wr, Below w.heap.size w wr → Calls Tryz.prog 16 #[.int .i64 d, .agg (h.cs (.slice a n c))] wr fun e w' => e = .returned (.tuple #[.string fs, .int .u8 fc]) ∧ Below wr.heap.size wr w'
  rw : ∀ wr, Below w.heap.size w wr → Calls Tryz.prog 11 #[.agg (h.cs (.slice a n c))] wr fun e w' => e = .returned (.int .i64 W) ∧ Below wr.heap.size wr w'

theorem same_self {w : World} {a1 a2 : Option Addr} {n1 c1 n2 c2 : Nat} {l : PL} (h1 : Pys w a1 n1 c1 l) (h2 : Pys w a2 n2 c2 l) :
    Calls Tryz.prog 19 #[.slice a1 n1 c1, .slice a2 n2 c2] w fun e w' => e = .returned (.bool true) ∧ Below w.heap.size w w' :=
  (same_ok h1 h2).mono fun e w' hh => ⟨by rw [hh.1, decide_eq_true rfl], hh.2⟩
theorem str_self (s : ByteArray) : (s.toList != s.toList) = false := by simp
theorem fullS_no {d : Int} {h : Hd} (e : fullB d h = false) : fullS d h = ⟨#[]⟩ := by
  unfold fullB at e
  unfold fullS
  cases hx : fullO d h with
  | none => rfl
  | some f => rw [hx] at e; cases e
theorem recO_no {h : Hd} {l : PL} (e : txtsB h l.length = false) : recO h l = [] := by unfold recO; rw [e]; rfl

set_option maxHeartbeats 8000000 in
theorem rw_y0tt {w : World} {d : Int} {h : Hd} {a : Option Addr} {n c : Nat} {W : Int} {fs : ByteArray} {R : PL} (x : FR w d h a n c W fs 0)
    (rec : ∀ wr, Below w.heap.size w wr → Calls Tryz.prog 15 #[.agg (h.cs (.slice a n c))] wr fun e w' => (∃ a2 m c2, e = .returned (.tuple #[.slice a2 m c2, .int .u8 0]) ∧ Pys w' a2 m c2 R ∧ (a2 = none → m = 0 ∧ c2 = 0)) ∧ Below wr.heap.size wr w')
    (rr : ∀ wr, Below w.heap.size w wr → Calls Tryz.prog 18 #[.agg (h.cs (.slice a n c))] wr fun e w' => (∃ a2 m c2, e = .returned (.tuple #[.slice a2 m c2, .bool true]) ∧ Pys w' a2 m c2 R) ∧ Below wr.heap.size wr w')
    (rl : ∀ wr, Below w.heap.size w wr → Calls Tryz.prog 17 #[.int .i64 d, .agg (h.cs (.slice a n c))] wr fun e w' => e = .returned (.tuple #[.string fs, .bool true]) ∧ Below wr.heap.size wr w')
    (hd : 1 ≤ d ∧ d ≤ 4) (hw : W = 0) :
    Calls Tryz.prog 4 #[.int .i64 d, .agg (h.cs (.slice a n c))] w fun e w' => e = .returned (.bool true) ∧ Below w.heap.size w w' := by
  have hac := below_alloc w (.cells (h.cs (.slice a n c)) 26)
  have hB : Blk (w.alloc (.cells (h.cs (.slice a n c)) 26)) w.heap.size (h.cs (.slice a n c)) 26 := heap_alloc_new _ _
  have hinf : (Tryz.prog.info? 26).map (·.size) = some (h.cs (.slice a n c)).size := by kernel_rfl
  obtain ⟨al, mn, fu, rw⟩ := x
  have hd1 : ¬ d < 1 := by omega
  have hd4 : ¬ 4 < d := by omega
  clear hd
  subst hw
  have e1 := str_self fs
  have e2 := str_self ⟨#[]⟩
  unfold Hd.cs at hac hB hinf mn fu rw rec rr rl ⊢
  go_enter Tryz.func4, Tryz.ntmps4
  go_wp2_with (first
    | (go_at_call 7; refine (al _ hac).mono ?_; rintro e w1 ⟨rfl, hb1⟩; replace hB := hB.below hb1; replace hac := hac.trans (hb1.mono hac.size); clear hb1)
    | (go_at_call 8; refine (mn _ hac).mono ?_; rintro e w1 ⟨rfl, hb1⟩; replace hB := hB.below hb1; replace hac := hac.trans (hb1.mono hac.size); clear hb1)
    | (go_at_call 15; refine (rec _ hac).mono ?_; rintro e w1 ⟨⟨a2, m2, c2, rfl, hp1, -⟩, hb1⟩; replace hB := hB.below hb1; replace hac := hac.trans (hb1.mono hac.size); clear hb1)
    | (go_at_call 16; refine (fu _ hac).mono ?_; rintro e w1 ⟨rfl, hb1⟩; replace hp1 := hp1.below hb1; replace hB := hB.below hb1; replace hac := hac.trans (hb1.mono hac.size); clear hb1)
    | (go_at_call 11; refine (rw _ hac).mono ?_; rintro e w1 ⟨rfl, hb1⟩; replace hp1 := hp1.below hb1; replace hB := hB.below hb1; replace hac := hac.trans (hb1.mono hac.size); clear hb1)
    | (go_at_call 17; refine (rl _ hac).mono ?_; rintro e w1 ⟨rfl, hb1⟩; replace hp1 := hp1.below hb1; replace hB := hB.below hb1; replace hac := hac.trans (hb1.mono hac.size); clear hb1)
    | (go_at_call 18; refine (rr _ hac).mono ?_; rintro e w1 ⟨⟨a3, m3, c3, rfl, hp2⟩, hb1⟩; replace hp1 := hp1.below hb1; replace hB := hB.below hb1; replace hac := hac.trans (hb1.mono hac.size); clear hb1)
    | (go_at_call 19; refine (same_self hp1 hp2).mono ?_; rintro e w1 ⟨rfl, hb1⟩; replace hac := hac.trans (hb1.mono hac.size))
    | (refine wpList_load_row (P := Tryz.prog) rfl 26 (.tmp 3) rfl w.heap.size rfl 26 _ (0, 0) _ hB Tryz.underlying26 rfl hinf ?_))
  all_goals go_ret
  all_goals exact ⟨rfl, hac⟩

set_option maxHeartbeats 8000000 in
theorem rw_y0tf {w : World} {d : Int} {h : Hd} {a : Option Addr} {n c : Nat} {W : Int} {fs : ByteArray} {R : PL} (x : FR w d h a n c W fs 0)
    (rec : ∀ wr, Below w.heap.size w wr → Calls Tryz.prog 15 #[.agg (h.cs (.slice a n c))] wr fun e w' => e = .returned (.tuple #[.slice none 0 0, .int .u8 13]) ∧ Below wr.heap.size wr w')
    (rr : ∀ wr, Below w.heap.size w wr → Calls Tryz.prog 18 #[.agg (h.cs (.slice a n c))] wr fun e w' => (∃ a2 m c2, e = .returned (.tuple #[.slice a2 m c2, .bool false]) ∧ Pys w' a2 m c2 []) ∧ Below wr.heap.size wr w')
    (rl : ∀ wr, Below w.heap.size w wr → Calls Tryz.prog 17 #[.int .i64 d, .agg (h.cs (.slice a n c))] wr fun e w' => e = .returned (.tuple #[.string fs, .bool true]) ∧ Below wr.heap.size wr w')
    (hd : 1 ≤ d ∧ d ≤ 4) (hw : W = 0) :
    Calls Tryz.prog 4 #[.int .i64 d, .agg (h.cs (.slice a n c))] w fun e w' => e = .returned (.bool true) ∧ Below w.heap.size w w' := by
  have hac := below_alloc w (.cells (h.cs (.slice a n c)) 26)
  have hB : Blk (w.alloc (.cells (h.cs (.slice a n c)) 26)) w.heap.size (h.cs (.slice a n c)) 26 := heap_alloc_new _ _
  have hinf : (Tryz.prog.info? 26).map (·.size) = some (h.cs (.slice a n c)).size := by kernel_rfl
  obtain ⟨al, mn, fu, rw⟩ := x
  have hd1 : ¬ d < 1 := by omega
  have hd4 : ¬ 4 < d := by omega
  clear hd
  subst hw
  have e1 := str_self fs
  have e2 := str_self ⟨#[]⟩
  unfold Hd.cs at hac hB hinf mn fu rw rec rr rl ⊢
  go_enter Tryz.func4, Tryz.ntmps4
  go_wp2_with (first
    | (go_at_call 7; refine (al _ hac).mono ?_; rintro e w1 ⟨rfl, hb1⟩; replace hB := hB.below hb1; replace hac := hac.trans (hb1.mono hac.size); clear hb1)
    | (go_at_call 8; refine (mn _ hac).mono ?_; rintro e w1 ⟨rfl, hb1⟩; replace hB := hB.below hb1; replace hac := hac.trans (hb1.mono hac.size); clear hb1)
    | (go_at_call 15; refine (rec _ hac).mono ?_; rintro e w1 ⟨rfl, hb1⟩; replace hB := hB.below hb1; replace hac := hac.trans (hb1.mono hac.size); clear hb1)
    | (go_at_call 16; refine (fu _ hac).mono ?_; rintro e w1 ⟨rfl, hb1⟩; replace hB := hB.below hb1; replace hac := hac.trans (hb1.mono hac.size); clear hb1)
    | (go_at_call 11; refine (rw _ hac).mono ?_; rintro e w1 ⟨rfl, hb1⟩; replace hB := hB.below hb1; replace hac := hac.trans (hb1.mono hac.size); clear hb1)
    | (go_at_call 17; refine (rl _ hac).mono ?_; rintro e w1 ⟨rfl, hb1⟩; replace hB := hB.below hb1; replace hac := hac.trans (hb1.mono hac.size); clear hb1)
    | (go_at_call 18; refine (rr _ hac).mono ?_; rintro e w1 ⟨⟨a3, m3, c3, rfl, hp2⟩, hb1⟩; replace hB := hB.below hb1; replace hac := hac.trans (hb1.mono hac.size); clear hb1)
    | (go_at_call 19; refine (same_self (ex_nil _) hp2).mono ?_; rintro e w1 ⟨rfl, hb1⟩; replace hac := hac.trans (hb1.mono hac.size))
    | (refine wpList_load_row (P := Tryz.prog) rfl 26 (.tmp 3) rfl w.heap.size rfl 26 _ (0, 0) _ hB Tryz.underlying26 rfl hinf ?_))
  all_goals go_ret
  all_goals exact ⟨rfl, hac⟩

set_option maxHeartbeats 8000000 in
theorem rw_y0ft {w : World} {d : Int} {h : Hd} {a : Option Addr} {n c : Nat} {W : Int} {fs : ByteArray} {R : PL} (x : FR w d h a n c W ⟨#[]⟩ 13)
    (rec : ∀ wr, Below w.heap.size w wr → Calls Tryz.prog 15 #[.agg (h.cs (.slice a n c))] wr fun e w' => (∃ a2 m c2, e = .returned (.tuple #[.slice a2 m c2, .int .u8 0]) ∧ Pys w' a2 m c2 R ∧ (a2 = none → m = 0 ∧ c2 = 0)) ∧ Below wr.heap.size wr w')
    (rr : ∀ wr, Below w.heap.size w wr → Calls Tryz.prog 18 #[.agg (h.cs (.slice a n c))] wr fun e w' => (∃ a2 m c2, e = .returned (.tuple #[.slice a2 m c2, .bool true]) ∧ Pys w' a2 m c2 R) ∧ Below wr.heap.size wr w')
    (rl : ∀ wr, Below w.heap.size w wr → Calls Tryz.prog 17 #[.int .i64 d, .agg (h.cs (.slice a n c))] wr fun e w' => e = .returned (.tuple #[.string ⟨#[]⟩, .bool false]) ∧ Below wr.heap.size wr w')
    (hd : 1 ≤ d ∧ d ≤ 4) (hw : W = 0) :
    Calls Tryz.prog 4 #[.int .i64 d, .agg (h.cs (.slice a n c))] w fun e w' => e = .returned (.bool true) ∧ Below w.heap.size w w' := by
  have hac := below_alloc w (.cells (h.cs (.slice a n c)) 26)
  have hB : Blk (w.alloc (.cells (h.cs (.slice a n c)) 26)) w.heap.size (h.cs (.slice a n c)) 26 := heap_alloc_new _ _
  have hinf : (Tryz.prog.info? 26).map (·.size) = some (h.cs (.slice a n c)).size := by kernel_rfl
  obtain ⟨al, mn, fu, rw⟩ := x
  have hd1 : ¬ d < 1 := by omega
  have hd4 : ¬ 4 < d := by omega
  clear hd
  subst hw
  have e1 := str_self fs
  have e2 := str_self ⟨#[]⟩
  unfold Hd.cs at hac hB hinf mn fu rw rec rr rl ⊢
  go_enter Tryz.func4, Tryz.ntmps4
  go_wp2_with (first
    | (go_at_call 7; refine (al _ hac).mono ?_; rintro e w1 ⟨rfl, hb1⟩; replace hB := hB.below hb1; replace hac := hac.trans (hb1.mono hac.size); clear hb1)
    | (go_at_call 8; refine (mn _ hac).mono ?_; rintro e w1 ⟨rfl, hb1⟩; replace hB := hB.below hb1; replace hac := hac.trans (hb1.mono hac.size); clear hb1)
    | (go_at_call 15; refine (rec _ hac).mono ?_; rintro e w1 ⟨⟨a2, m2, c2, rfl, hp1, -⟩, hb1⟩; replace hB := hB.below hb1; replace hac := hac.trans (hb1.mono hac.size); clear hb1)
    | (go_at_call 16; refine (fu _ hac).mono ?_; rintro e w1 ⟨rfl, hb1⟩; replace hp1 := hp1.below hb1; replace hB := hB.below hb1; replace hac := hac.trans (hb1.mono hac.size); clear hb1)
    | (go_at_call 11; refine (rw _ hac).mono ?_; rintro e w1 ⟨rfl, hb1⟩; replace hp1 := hp1.below hb1; replace hB := hB.below hb1; replace hac := hac.trans (hb1.mono hac.size); clear hb1)
    | (go_at_call 17; refine (rl _ hac).mono ?_; rintro e w1 ⟨rfl, hb1⟩; replace hp1 := hp1.below hb1; replace hB := hB.below hb1; replace hac := hac.trans (hb1.mono hac.size); clear hb1)
    | (go_at_call 18; refine (rr _ hac).mono ?_; rintro e w1 ⟨⟨a3, m3, c3, rfl, hp2⟩, hb1⟩; replace hp1 := hp1.below hb1; replace hB := hB.below hb1; replace hac := hac.trans (hb1.mono hac.size); clear hb1)
    | (go_at_call 19; refine (same_self hp1 hp2).mono ?_; rintro e w1 ⟨rfl, hb1⟩; replace hac := hac.trans (hb1.mono hac.size))
    | (refine wpList_load_row (P := Tryz.prog) rfl 26 (.tmp 3) rfl w.heap.size rfl 26 _ (0, 0) _ hB Tryz.underlying26 rfl hinf ?_))
  all_goals go_ret
  all_goals exact ⟨rfl, hac⟩

set_option maxHeartbeats 8000000 in
theorem rw_y0ff {w : World} {d : Int} {h : Hd} {a : Option Addr} {n c : Nat} {W : Int} {fs : ByteArray} {R : PL} (x : FR w d h a n c W ⟨#[]⟩ 13)
    (rec : ∀ wr, Below w.heap.size w wr → Calls Tryz.prog 15 #[.agg (h.cs (.slice a n c))] wr fun e w' => e = .returned (.tuple #[.slice none 0 0, .int .u8 13]) ∧ Below wr.heap.size wr w')
    (rr : ∀ wr, Below w.heap.size w wr → Calls Tryz.prog 18 #[.agg (h.cs (.slice a n c))] wr fun e w' => (∃ a2 m c2, e = .returned (.tuple #[.slice a2 m c2, .bool false]) ∧ Pys w' a2 m c2 []) ∧ Below wr.heap.size wr w')
    (rl : ∀ wr, Below w.heap.size w wr → Calls Tryz.prog 17 #[.int .i64 d, .agg (h.cs (.slice a n c))] wr fun e w' => e = .returned (.tuple #[.string ⟨#[]⟩, .bool false]) ∧ Below wr.heap.size wr w')
    (hd : 1 ≤ d ∧ d ≤ 4) (hw : W = 0) :
    Calls Tryz.prog 4 #[.int .i64 d, .agg (h.cs (.slice a n c))] w fun e w' => e = .returned (.bool true) ∧ Below w.heap.size w w' := by
  have hac := below_alloc w (.cells (h.cs (.slice a n c)) 26)
  have hB : Blk (w.alloc (.cells (h.cs (.slice a n c)) 26)) w.heap.size (h.cs (.slice a n c)) 26 := heap_alloc_new _ _
  have hinf : (Tryz.prog.info? 26).map (·.size) = some (h.cs (.slice a n c)).size := by kernel_rfl
  obtain ⟨al, mn, fu, rw⟩ := x
  have hd1 : ¬ d < 1 := by omega
  have hd4 : ¬ 4 < d := by omega
  clear hd
  subst hw
  have e1 := str_self fs
  have e2 := str_self ⟨#[]⟩
  unfold Hd.cs at hac hB hinf mn fu rw rec rr rl ⊢
  go_enter Tryz.func4, Tryz.ntmps4
  go_wp2_with (first
    | (go_at_call 7; refine (al _ hac).mono ?_; rintro e w1 ⟨rfl, hb1⟩; replace hB := hB.below hb1; replace hac := hac.trans (hb1.mono hac.size); clear hb1)
    | (go_at_call 8; refine (mn _ hac).mono ?_; rintro e w1 ⟨rfl, hb1⟩; replace hB := hB.below hb1; replace hac := hac.trans (hb1.mono hac.size); clear hb1)
    | (go_at_call 15; refine (rec _ hac).mono ?_; rintro e w1 ⟨rfl, hb1⟩; replace hB := hB.below hb1; replace hac := hac.trans (hb1.mono hac.size); clear hb1)
    | (go_at_call 16; refine (fu _ hac).mono ?_; rintro e w1 ⟨rfl, hb1⟩; replace hB := hB.below hb1; replace hac := hac.trans (hb1.mono hac.size); clear hb1)
    | (go_at_call 11; refine (rw _ hac).mono ?_; rintro e w1 ⟨rfl, hb1⟩; replace hB := hB.below hb1; replace hac := hac.trans (hb1.mono hac.size); clear hb1)
    | (go_at_call 17; refine (rl _ hac).mono ?_; rintro e w1 ⟨rfl, hb1⟩; replace hB := hB.below hb1; replace hac := hac.trans (hb1.mono hac.size); clear hb1)
    | (go_at_call 18; refine (rr _ hac).mono ?_; rintro e w1 ⟨⟨a3, m3, c3, rfl, hp2⟩, hb1⟩; replace hB := hB.below hb1; replace hac := hac.trans (hb1.mono hac.size); clear hb1)
    | (go_at_call 19; refine (same_self (ex_nil _) hp2).mono ?_; rintro e w1 ⟨rfl, hb1⟩; replace hac := hac.trans (hb1.mono hac.size))
    | (refine wpList_load_row (P := Tryz.prog) rfl 26 (.tmp 3) rfl w.heap.size rfl 26 _ (0, 0) _ hB Tryz.underlying26 rfl hinf ?_))
  all_goals go_ret
  all_goals exact ⟨rfl, hac⟩

set_option maxHeartbeats 8000000 in
theorem rw_yx {w : World} {d : Int} {h : Hd} {a : Option Addr} {n c : Nat} {W : Int} {fs : ByteArray} {R : PL} (x : FR w d h a n c W ⟨#[]⟩ 15)
    (rec : ∀ wr, Below w.heap.size w wr → Calls Tryz.prog 15 #[.agg (h.cs (.slice a n c))] wr fun e w' => e = .returned (.tuple #[.slice none 0 0, .int .u8 15]) ∧ Below wr.heap.size wr w')
    (hd : 1 ≤ d ∧ d ≤ 4) (hw : W ≠ 0) :
    Calls Tryz.prog 4 #[.int .i64 d, .agg (h.cs (.slice a n c))] w fun e w' => e = .returned (.bool true) ∧ Below w.heap.size w w' := by
  have hac := below_alloc w (.cells (h.cs (.slice a n c)) 26)
  have hB : Blk (w.alloc (.cells (h.cs (.slice a n c)) 26)) w.heap.size (h.cs (.slice a n c)) 26 := heap_alloc_new _ _
  have hinf : (Tryz.prog.info? 26).map (·.size) = some (h.cs (.slice a n c)).size := by kernel_rfl
  obtain ⟨al, mn, fu, rw⟩ := x
  have hd1 : ¬ d < 1 := by omega
  have hd4 : ¬ 4 < d := by omega
  clear hd
  have hw0 : (W == 0) = false := by simpa using hw
  clear hw
  have e1 := str_self fs
  have e2 := str_self ⟨#[]⟩
  unfold Hd.cs at hac hB hinf mn fu rw rec ⊢
  go_enter Tryz.func4, Tryz.ntmps4
  go_wp2_with (first
    | (go_at_call 7; refine (al _ hac).mono ?_; rintro e w1 ⟨rfl, hb1⟩; replace hB := hB.below hb1; replace hac := hac.trans (hb1.mono hac.size); clear hb1)
    | (go_at_call 8; refine (mn _ hac).mono ?_; rintro e w1 ⟨rfl, hb1⟩; replace hB := hB.below hb1; replace hac := hac.trans (hb1.mono hac.size); clear hb1)
    | (go_at_call 15; refine (rec _ hac).mono ?_; rintro e w1 ⟨rfl, hb1⟩; replace hB := hB.below hb1; replace hac := hac.trans (hb1.mono hac.size); clear hb1)
    | (go_at_call 16; refine (fu _ hac).mono ?_; rintro e w1 ⟨rfl, hb1⟩; replace hB := hB.below hb1; replace hac := hac.trans (hb1.mono hac.size); clear hb1)
    | (go_at_call 11; refine (rw _ hac).mono ?_; rintro e w1 ⟨rfl, hb1⟩; replace hB := hB.below hb1; replace hac := hac.trans (hb1.mono hac.size); clear hb1)
    | (refine wpList_load_row (P := Tryz.prog) rfl 26 (.tmp 3) rfl w.heap.size rfl 26 _ (0, 0) _ hB Tryz.underlying26 rfl hinf ?_))
  all_goals go_ret
  all_goals exact ⟨rfl, hac⟩

set_option maxHeartbeats 8000000 in
theorem rw_l0t {w : World} {d : Int} {h : Hd} {a : Option Addr} {n c : Nat} {W : Int} {fs : ByteArray} {R : PL} (x : FR w d h a n c W ⟨#[]⟩ 2)
    (rec : ∀ wr, Below w.heap.size w wr → Calls Tryz.prog 15 #[.agg (h.cs (.slice a n c))] wr fun e w' => (∃ a2 m c2, e = .returned (.tuple #[.slice a2 m c2, .int .u8 0]) ∧ Pys w' a2 m c2 R ∧ (a2 = none → m = 0 ∧ c2 = 0)) ∧ Below wr.heap.size wr w')
    (rr : ∀ wr, Below w.heap.size w wr → Calls Tryz.prog 18 #[.agg (h.cs (.slice a n c))] wr fun e w' => (∃ a2 m c2, e = .returned (.tuple #[.slice a2 m c2, .bool true]) ∧ Pys w' a2 m c2 R) ∧ Below wr.heap.size wr w')
    (hd : d < 1) (hw : W = 0) :
    Calls Tryz.prog 4 #[.int .i64 d, .agg (h.cs (.slice a n c))] w fun e w' => e = .returned (.bool true) ∧ Below w.heap.size w w' := by
  have hac := below_alloc w (.cells (h.cs (.slice a n c)) 26)
  have hB : Blk (w.alloc (.cells (h.cs (.slice a n c)) 26)) w.heap.size (h.cs (.slice a n c)) 26 := heap_alloc_new _ _
  have hinf : (Tryz.prog.info? 26).map (·.size) = some (h.cs (.slice a n c)).size := by kernel_rfl
  obtain ⟨al, mn, fu, rw⟩ := x
  skip
  subst hw
  have e1 := str_self fs
  have e2 := str_self ⟨#[]⟩
  unfold Hd.cs at hac hB hinf mn fu rw rec rr ⊢
  go_enter Tryz.func4, Tryz.ntmps4
  go_wp2_with (first
    | (go_at_call 7; refine (al _ hac).mono ?_; rintro e w1 ⟨rfl, hb1⟩; replace hB := hB.below hb1; replace hac := hac.trans (hb1.mono hac.size); clear hb1)
    | (go_at_call 8; refine (mn _ hac).mono ?_; rintro e w1 ⟨rfl, hb1⟩; replace hB := hB.below hb1; replace hac := hac.trans (hb1.mono hac.size); clear hb1)
    | (go_at_call 15; refine (rec _ hac).mono ?_; rintro e w1 ⟨⟨a2, m2, c2, rfl, hp1, -⟩, hb1⟩; replace hB := hB.below hb1; replace hac := hac.trans (hb1.mono hac.size); clear hb1)
    | (go_at_call 16; refine (fu _ hac).mono ?_; rintro e w1 ⟨rfl, hb1⟩; replace hp1 := hp1.below hb1; replace hB := hB.below hb1; replace hac := hac.trans (hb1.mono hac.size); clear hb1)
    | (go_at_call 11; refine (rw _ hac).mono ?_; rintro e w1 ⟨rfl, hb1⟩; replace hp1 := hp1.below hb1; replace hB := hB.below hb1; replace hac := hac.trans (hb1.mono hac.size); clear hb1)
    | (go_at_call 18; refine (rr _ hac).mono ?_; rintro e w1 ⟨⟨a3, m3, c3, rfl, hp2⟩, hb1⟩; replace hp1 := hp1.below hb1; replace hB := hB.below hb1; replace hac := hac.trans (hb1.mono hac.size); clear hb1)
    | (go_at_call 19; refine (same_self hp1 hp2).mono ?_; rintro e w1 ⟨rfl, hb1⟩; replace hac := hac.trans (hb1.mono hac.size))
    | (refine wpList_load_row (P := Tryz.prog) rfl 26 (.tmp 3) rfl w.heap.size rfl 26 _ (0, 0) _ hB Tryz.underlying26 rfl hinf ?_))
  all_goals go_ret
  all_goals exact ⟨rfl, hac⟩

set_option maxHeartbeats 8000000 in
theorem rw_l0f {w : World} {d : Int} {h : Hd} {a : Option Addr} {n c : Nat} {W : Int} {fs : ByteArray} {R : PL} (x : FR w d h a n c W ⟨#[]⟩ 2)
    (rec : ∀ wr, Below w.heap.size w wr → Calls Tryz.prog 15 #[.agg (h.cs (.slice a n c))] wr fun e w' => e = .returned (.tuple #[.slice none 0 0, .int .u8 13]) ∧ Below wr.heap.size wr w')
    (rr : ∀ wr, Below w.heap.size w wr → Calls Tryz.prog 18 #[.agg (h.cs (.slice a n c))] wr fun e w' => (∃ a2 m c2, e = .returned (.tuple #[.slice a2 m c2, .bool false]) ∧ Pys w' a2 m c2 []) ∧ Below wr.heap.size wr w')
    (hd : d < 1) (hw : W = 0) :
    Calls Tryz.prog 4 #[.int .i64 d, .agg (h.cs (.slice a n c))] w fun e w' => e = .returned (.bool true) ∧ Below w.heap.size w w' := by
  have hac := below_alloc w (.cells (h.cs (.slice a n c)) 26)
  have hB : Blk (w.alloc (.cells (h.cs (.slice a n c)) 26)) w.heap.size (h.cs (.slice a n c)) 26 := heap_alloc_new _ _
  have hinf : (Tryz.prog.info? 26).map (·.size) = some (h.cs (.slice a n c)).size := by kernel_rfl
  obtain ⟨al, mn, fu, rw⟩ := x
  skip
  subst hw
  have e1 := str_self fs
  have e2 := str_self ⟨#[]⟩
  unfold Hd.cs at hac hB hinf mn fu rw rec rr ⊢
  go_enter Tryz.func4, Tryz.ntmps4
  go_wp2_with (first
    | (go_at_call 7; refine (al _ hac).mono ?_; rintro e w1 ⟨rfl, hb1⟩; replace hB := hB.below hb1; replace hac := hac.trans (hb1.mono hac.size); clear hb1)
    | (go_at_call 8; refine (mn _ hac).mono ?_; rintro e w1 ⟨rfl, hb1⟩; replace hB := hB.below hb1; replace hac := hac.trans (hb1.mono hac.size); clear hb1)
    | (go_at_call 15; refine (rec _ hac).mono ?_; rintro e w1 ⟨rfl, hb1⟩; replace hB := hB.below hb1; replace hac := hac.trans (hb1.mono hac.size); clear hb1)
    | (go_at_call 16; refine (fu _ hac).mono ?_; rintro e w1 ⟨rfl, hb1⟩; replace hB := hB.below hb1; replace hac := hac.trans (hb1.mono hac.size); clear hb1)
    | (go_at_call 11; refine (rw _ hac).mono ?_; rintro e w1 ⟨rfl, hb1⟩; replace hB := hB.below hb1; replace hac := hac.trans (hb1.mono hac.size); clear hb1)
    | (go_at_call 18; refine (rr _ hac).mono ?_; rintro e w1 ⟨⟨a3, m3, c3, rfl, hp2⟩, hb1⟩; replace hB := hB.below hb1; replace hac := hac.trans (hb1.mono hac.size); clear hb1)
    | (go_at_call 19; refine (same_self (ex_nil _) hp2).mono ?_; rintro e w1 ⟨rfl, hb1⟩; replace hac := hac.trans (hb1.mono hac.size))
    | (refine wpList_load_row (P := Tryz.prog) rfl 26 (.tmp 3) rfl w.heap.size rfl 26 _ (0, 0) _ hB Tryz.underlying26 rfl hinf ?_))
  all_goals go_ret
  all_goals exact ⟨rfl, hac⟩

set_option maxHeartbeats 8000000 in
theorem rw_lx {w : World} {d : Int} {h : Hd} {a : Option Addr} {n c : Nat} {W : Int} {fs : ByteArray} {R : PL} (x : FR w d h a n c W ⟨#[]⟩ 2)
    (rec : ∀ wr, Below w.heap.size w wr → Calls Tryz.prog 15 #[.agg (h.cs (.slice a n c))] wr fun e w' => e = .returned (.tuple #[.slice none 0 0, .int .u8 15]) ∧ Below wr.heap.size wr w')
    (hd : d < 1) (hw : W ≠ 0) :
    Calls Tryz.prog 4 #[.int .i64 d, .agg (h.cs (.slice a n c))] w fun e w' => e = .returned (.bool true) ∧ Below w.heap.size w w' := by
  have hac := below_alloc w (.cells (h.cs (.slice a n c)) 26)
  have hB : Blk (w.alloc (.cells (h.cs (.slice a n c)) 26)) w.heap.size (h.cs (.slice a n c)) 26 := heap_alloc_new _ _
  have hinf : (Tryz.prog.info? 26).map (·.size) = some (h.cs (.slice a n c)).size := by kernel_rfl
  obtain ⟨al, mn, fu, rw⟩ := x
  skip
  have hw0 : (W == 0) = false := by simpa using hw
  clear hw
  have e1 := str_self fs
  have e2 := str_self ⟨#[]⟩
  unfold Hd.cs at hac hB hinf mn fu rw rec ⊢
  go_enter Tryz.func4, Tryz.ntmps4
  go_wp2_with (first
    | (go_at_call 7; refine (al _ hac).mono ?_; rintro e w1 ⟨rfl, hb1⟩; replace hB := hB.below hb1; replace hac := hac.trans (hb1.mono hac.size); clear hb1)
    | (go_at_call 8; refine (mn _ hac).mono ?_; rintro e w1 ⟨rfl, hb1⟩; replace hB := hB.below hb1; replace hac := hac.trans (hb1.mono hac.size); clear hb1)
    | (go_at_call 15; refine (rec _ hac).mono ?_; rintro e w1 ⟨rfl, hb1⟩; replace hB := hB.below hb1; replace hac := hac.trans (hb1.mono hac.size); clear hb1)
    | (go_at_call 16; refine (fu _ hac).mono ?_; rintro e w1 ⟨rfl, hb1⟩; replace hB := hB.below hb1; replace hac := hac.trans (hb1.mono hac.size); clear hb1)
    | (go_at_call 11; refine (rw _ hac).mono ?_; rintro e w1 ⟨rfl, hb1⟩; replace hB := hB.below hb1; replace hac := hac.trans (hb1.mono hac.size); clear hb1)
    | (refine wpList_load_row (P := Tryz.prog) rfl 26 (.tmp 3) rfl w.heap.size rfl 26 _ (0, 0) _ hB Tryz.underlying26 rfl hinf ?_))
  all_goals go_ret
  all_goals exact ⟨rfl, hac⟩

set_option maxHeartbeats 8000000 in
theorem rw_g0t {w : World} {d : Int} {h : Hd} {a : Option Addr} {n c : Nat} {W : Int} {fs : ByteArray} {R : PL} (x : FR w d h a n c W ⟨#[]⟩ 2)
    (rec : ∀ wr, Below w.heap.size w wr → Calls Tryz.prog 15 #[.agg (h.cs (.slice a n c))] wr fun e w' => (∃ a2 m c2, e = .returned (.tuple #[.slice a2 m c2, .int .u8 0]) ∧ Pys w' a2 m c2 R ∧ (a2 = none → m = 0 ∧ c2 = 0)) ∧ Below wr.heap.size wr w')
    (rr : ∀ wr, Below w.heap.size w wr → Calls Tryz.prog 18 #[.agg (h.cs (.slice a n c))] wr fun e w' => (∃ a2 m c2, e = .returned (.tuple #[.slice a2 m c2, .bool true]) ∧ Pys w' a2 m c2 R) ∧ Below wr.heap.size wr w')
    (hd : ¬ d < 1) (hd4 : 4 < d) (hw : W = 0) :
    Calls Tryz.prog 4 #[.int .i64 d, .agg (h.cs (.slice a n c))] w fun e w' => e = .returned (.bool true) ∧ Below w.heap.size w w' := by
  have hac := below_alloc w (.cells (h.cs (.slice a n c)) 26)
  have hB : Blk (w.alloc (.cells (h.cs (.slice a n c)) 26)) w.heap.size (h.cs (.slice a n c)) 26 := heap_alloc_new _ _
  have hinf : (Tryz.prog.info? 26).map (·.size) = some (h.cs (.slice a n c)).size := by kernel_rfl
  obtain ⟨al, mn, fu, rw⟩ := x
  skip
  subst hw
  have e1 := str_self fs
  have e2 := str_self ⟨#[]⟩
  unfold Hd.cs at hac hB hinf mn fu rw rec rr ⊢
  go_enter Tryz.func4, Tryz.ntmps4
  go_wp2_with (first
    | (go_at_call 7; refine (al _ hac).mono ?_; rintro e w1 ⟨rfl, hb1⟩; replace hB := hB.below hb1; replace hac := hac.trans (hb1.mono hac.size); clear hb1)
    | (go_at_call 8; refine (mn _ hac).mono ?_; rintro e w1 ⟨rfl, hb1⟩; replace hB := hB.below hb1; replace hac := hac.trans (hb1.mono hac.size); clear hb1)
    | (go_at_call 15; refine (rec _ hac).mono ?_; rintro e w1 ⟨⟨a2, m2, c2, rfl, hp1, -⟩, hb1⟩; replace hB := hB.below hb1; replace hac := hac.trans (hb1.mono hac.size); clear hb1)
    | (go_at_call 16; refine (fu _ hac).mono ?_; rintro e w1 ⟨rfl, hb1⟩; replace hp1 := hp1.below hb1; replace hB := hB.below hb1; replace hac := hac.trans (hb1.mono hac.size); clear hb1)
    | (go_at_call 11; refine (rw _ hac).mono ?_; rintro e w1 ⟨rfl, hb1⟩; replace hp1 := hp1.below hb1; replace hB := hB.below hb1; replace hac := hac.trans (hb1.mono hac.size); clear hb1)
    | (go_at_call 18; refine (rr _ hac).mono ?_; rintro e w1 ⟨⟨a3, m3, c3, rfl, hp2⟩, hb1⟩; replace hp1 := hp1.below hb1; replace hB := hB.below hb1; replace hac := hac.trans (hb1.mono hac.size); clear hb1)
    | (go_at_call 19; refine (same_self hp1 hp2).mono ?_; rintro e w1 ⟨rfl, hb1⟩; replace hac := hac.trans (hb1.mono hac.size))
    | (refine wpList_load_row (P := Tryz.prog) rfl 26 (.tmp 3) rfl w.heap.size rfl 26 _ (0, 0) _ hB Tryz.underlying26 rfl hinf ?_))
  all_goals go_ret
  all_goals exact ⟨rfl, hac⟩

set_option maxHeartbeats 8000000 in
theorem rw_g0f {w : World} {d : Int} {h : Hd} {a : Option Addr} {n c : Nat} {W : Int} {fs : ByteArray} {R : PL} (x : FR w d h a n c W ⟨#[]⟩ 2)
    (rec : ∀ wr, Below w.heap.size w wr → Calls Tryz.prog 15 #[.agg (h.cs (.slice a n c))] wr fun e w' => e = .returned (.tuple #[.slice none 0 0, .int .u8 13]) ∧ Below wr.heap.size wr w')
    (rr : ∀ wr, Below w.heap.size w wr → Calls Tryz.prog 18 #[.agg (h.cs (.slice a n c))] wr fun e w' => (∃ a2 m c2, e = .returned (.tuple #[.slice a2 m c2, .bool false]) ∧ Pys w' a2 m c2 []) ∧ Below wr.heap.size wr w')
    (hd : ¬ d < 1) (hd4 : 4 < d) (hw : W = 0) :
    Calls Tryz.prog 4 #[.int .i64 d, .agg (h.cs (.slice a n c))] w fun e w' => e = .returned (.bool true) ∧ Below w.heap.size w w' := by
  have hac := below_alloc w (.cells (h.cs (.slice a n c)) 26)
  have hB : Blk (w.alloc (.cells (h.cs (.slice a n c)) 26)) w.heap.size (h.cs (.slice a n c)) 26 := heap_alloc_new _ _
  have hinf : (Tryz.prog.info? 26).map (·.size) = some (h.cs (.slice a n c)).size := by kernel_rfl
  obtain ⟨al, mn, fu, rw⟩ := x
  skip
  subst hw
  have e1 := str_self fs
  have e2 := str_self ⟨#[]⟩
  unfold Hd.cs at hac hB hinf mn fu rw rec rr ⊢
  go_enter Tryz.func4, Tryz.ntmps4
  go_wp2_with (first
    | (go_at_call 7; refine (al _ hac).mono ?_; rintro e w1 ⟨rfl, hb1⟩; replace hB := hB.below hb1; replace hac := hac.trans (hb1.mono hac.size); clear hb1)
    | (go_at_call 8; refine (mn _ hac).mono ?_; rintro e w1 ⟨rfl, hb1⟩; replace hB := hB.below hb1; replace hac := hac.trans (hb1.mono hac.size); clear hb1)
    | (go_at_call 15; refine (rec _ hac).mono ?_; rintro e w1 ⟨rfl, hb1⟩; replace hB := hB.below hb1; replace hac := hac.trans (hb1.mono hac.size); clear hb1)
    | (go_at_call 16; refine (fu _ hac).mono ?_; rintro e w1 ⟨rfl, hb1⟩; replace hB := hB.below hb1; replace hac := hac.trans (hb1.mono hac.size); clear hb1)
    | (go_at_call 11; refine (rw _ hac).mono ?_; rintro e w1 ⟨rfl, hb1⟩; replace hB := hB.below hb1; replace hac := hac.trans (hb1.mono hac.size); clear hb1)
    | (go_at_call 18; refine (rr _ hac).mono ?_; rintro e w1 ⟨⟨a3, m3, c3, rfl, hp2⟩, hb1⟩; replace hB := hB.below hb1; replace hac := hac.trans (hb1.mono hac.size); clear hb1)
    | (go_at_call 19; refine (same_self (ex_nil _) hp2).mono ?_; rintro e w1 ⟨rfl, hb1⟩; replace hac := hac.trans (hb1.mono hac.size))
    | (refine wpList_load_row (P := Tryz.prog) rfl 26 (.tmp 3) rfl w.heap.size rfl 26 _ (0, 0) _ hB Tryz.underlying26 rfl hinf ?_))
  all_goals go_ret
  all_goals exact ⟨rfl, hac⟩

set_option maxHeartbeats 8000000 in
theorem rw_gx {w : World} {d : Int} {h : Hd} {a : Option Addr} {n c : Nat} {W : Int} {fs : ByteArray} {R : PL} (x : FR w d h a n c W ⟨#[]⟩ 2)
    (rec : ∀ wr, Below w.heap.size w wr → Calls Tryz.prog 15 #[.agg (h.cs (.slice a n c))] wr fun e w' => e = .returned (.tuple #[.slice none 0 0, .int .u8 15]) ∧ Below wr.heap.size wr w')
    (hd : ¬ d < 1) (hd4 : 4 < d) (hw : W ≠ 0) :
    Calls Tryz.prog 4 #[.int .i64 d, .agg (h.cs (.slice a n c))] w fun e w' => e = .returned (.bool true) ∧ Below w.heap.size w w' := by
  have hac := below_alloc w (.cells (h.cs (.slice a n c)) 26)
  have hB : Blk (w.alloc (.cells (h.cs (.slice a n c)) 26)) w.heap.size (h.cs (.slice a n c)) 26 := heap_alloc_new _ _
  have hinf : (Tryz.prog.info? 26).map (·.size) = some (h.cs (.slice a n c)).size := by kernel_rfl
  obtain ⟨al, mn, fu, rw⟩ := x
  skip
  have hw0 : (W == 0) = false := by simpa using hw
  clear hw
  have e1 := str_self fs
  have e2 := str_self ⟨#[]⟩
  unfold Hd.cs at hac hB hinf mn fu rw rec ⊢
  go_enter Tryz.func4, Tryz.ntmps4
  go_wp2_with (first
    | (go_at_call 7; refine (al _ hac).mono ?_; rintro e w1 ⟨rfl, hb1⟩; replace hB := hB.below hb1; replace hac := hac.trans (hb1.mono hac.size); clear hb1)
    | (go_at_call 8; refine (mn _ hac).mono ?_; rintro e w1 ⟨rfl, hb1⟩; replace hB := hB.below hb1; replace hac := hac.trans (hb1.mono hac.size); clear hb1)
    | (go_at_call 15; refine (rec _ hac).mono ?_; rintro e w1 ⟨rfl, hb1⟩; replace hB := hB.below hb1; replace hac := hac.trans (hb1.mono hac.size); clear hb1)
    | (go_at_call 16; refine (fu _ hac).mono ?_; rintro e w1 ⟨rfl, hb1⟩; replace hB := hB.below hb1; replace hac := hac.trans (hb1.mono hac.size); clear hb1)
    | (go_at_call 11; refine (rw _ hac).mono ?_; rintro e w1 ⟨rfl, hb1⟩; replace hB := hB.below hb1; replace hac := hac.trans (hb1.mono hac.size); clear hb1)
    | (refine wpList_load_row (P := Tryz.prog) rfl 26 (.tmp 3) rfl w.heap.size rfl 26 _ (0, 0) _ hB Tryz.underlying26 rfl hinf ?_))
  all_goals go_ret
  all_goals exact ⟨rfl, hac⟩

set_option maxHeartbeats 8000000 in
theorem rw_many {w : World} {d : Int} {h : Hd} {a : Option Addr} {n c : Nat} (al : ∀ wr, Below w.heap.size w wr → Calls Tryz.prog 7 #[] wr fun e w' => e = .returned (.bool true) ∧ Below wr.heap.size wr w')
    (mn : ∀ wr, Below w.heap.size w wr → Calls Tryz.prog 8 #[.agg (h.cs (.slice a n c))] wr fun e w' => e = .returned (.bool true) ∧ Below wr.heap.size wr w') :
    Calls Tryz.prog 4 #[.int .i64 d, .agg (h.cs (.slice a n c))] w fun e w' => e = .returned (.bool true) ∧ Below w.heap.size w w' := by
  have hac := below_alloc w (.cells (h.cs (.slice a n c)) 26)
  have hB : Blk (w.alloc (.cells (h.cs (.slice a n c)) 26)) w.heap.size (h.cs (.slice a n c)) 26 := heap_alloc_new _ _
  have hinf : (Tryz.prog.info? 26).map (·.size) = some (h.cs (.slice a n c)).size := by kernel_rfl
  unfold Hd.cs at hac hB hinf mn ⊢
  go_enter Tryz.func4, Tryz.ntmps4
  go_wp2_with (first
    | (go_at_call 7; refine (al _ hac).mono ?_; rintro e w1 ⟨rfl, hb1⟩; replace hB := hB.below hb1; replace hac := hac.trans (hb1.mono hac.size); clear hb1)
    | (go_at_call 8; refine (mn _ hac).mono ?_; rintro e w1 ⟨rfl, hb1⟩; replace hB := hB.below hb1; replace hac := hac.trans (hb1.mono hac.size); clear hb1)
    | (refine wpList_load_row (P := Tryz.prog) rfl 26 (.tmp 3) rfl w.heap.size rfl 26 _ (0, 0) _ hB Tryz.underlying26 rfl hinf ?_))
  all_goals go_ret
  all_goals exact ⟨rfl, hac⟩

/-- whatever is handed in -/
theorem records_walk {w : World} {a : Option Addr} {n c : Nat} {l : PL} (h : Hd) (hp : Pys w a n c l) (hnl : a = none → n = 0 ∧ c = 0) (hz : ∀ p ∈ l, p.1.size ≤ 140737488351232 ∧ p.2.size ≤ 140737488351232)
    (h1 : h.name.size ≤ 140737488351232) (h2 : h.link.size ≤ 140737488351232) (h3 : h.user.size ≤ 140737488351232) (h4 : h.group.size ≤ 140737488351232) (hI : I64 h) (d : Int) (hL : Laid w) :
    Calls Tryz.prog 4 #[.int .i64 d, .agg (h.cs (.slice a n c))] w fun e w' => e = .returned (.bool true) ∧ Below w.heap.size w w' := by
  have al := fun (wr : World) (hb : Below w.heap.size w wr) => alive_ok wr (hL.below hb)
  have mn := fun (wr : World) (hb : Below w.heap.size w wr) => many_all h (hp.below hb) hz h1 h2 h3 h4
  by_cases hm : 300000 < sumH h + totN l ∨ 40 < n
  · rw [decide_eq_true hm] at mn
    exact rw_many al mn
  · rw [decide_eq_false hm] at mn
    have hS : Sml l := fun p hp' => by have := mem_tot l p hp'; omega
    have hn40 : n ≤ 40 := by omega
    have hsum : h.name.size + h.link.size + h.user.size + h.group.size ≤ 300000 := by unfold sumH at hm; omega
    have hw0 := fun (wr : World) (hb : Below w.heap.size w wr) => wrg_is h (hp.below hb) hS (by omega) (hL.below hb)
    have rw := fun (wr : World) (hb : Below w.heap.size w wr) => rwrong_ok h (hp.below hb) hS (by omega) hnl (by omega) (by omega) (by omega) (by omega)
    by_cases hW : wrongH h l = 0
    · have hri := fun (wr : World) (hb : Below w.heap.size w wr) => rh_of (hp.below hb) hnl hn40 hS hI hW (hL.below hb)
      have hw1 := fun (wr : World) (hb : Below w.heap.size w wr) => hW ▸ hw0 wr hb
      have rr := fun (wr : World) (hb : Below w.heap.size w wr) => rrecords_ok (hri wr hb).r (hri wr hb).h1 (hri wr hb).h2 (hri wr hb).h3 (hri wr hb).h4
      have hfb := fun (hd : ¬ (1 ≤ d ∧ d ≤ 4)) (wr : World) (hb : Below w.heap.size w wr) => full_bad (w := wr) (a := a) (n := n) (c := c) d h hd
      have hnn : l.length = n := hp.1
      cases hT : txtsB h n
      · have hre := fun (wr : World) (hb : Below w.heap.size w wr) => records_no h (hw1 wr hb) (hri wr hb).r hT
        have hR : recO h l = [] := recO_no (by rw [hnn]; exact hT)
        rw [hT, hR] at rr
        by_cases d1 : d < 1
        · exact rw_l0f ⟨al, mn, hfb (by omega), rw⟩ hre rr d1 hW (fs := ⟨#[]⟩) (R := [])
        by_cases d4 : 4 < d
        · exact rw_g0f ⟨al, mn, hfb (by omega), rw⟩ hre rr d1 d4 hW (fs := ⟨#[]⟩) (R := [])
        have hd : 1 ≤ d ∧ d ≤ 4 := by omega
        have rl := fun (wr : World) (hb : Below w.heap.size w wr) => rfull_ok d h (.slice a n c) (by omega) wr
        cases hF : fullB d h
        · rw [hF, fullS_no hF] at rl
          exact rw_y0ff ⟨al, mn, fun wr hb => full_no d h hd (hw1 wr hb) (by omega) hF, rw⟩ hre rr rl hd hW (fs := ⟨#[]⟩) (R := [])
        · rw [hF] at rl
          exact rw_y0tf ⟨al, mn, fun wr hb => full_yes d h hd (hw1 wr hb) (by omega) hF, rw⟩ hre rr rl hd hW (R := [])
      · have hre := fun (wr : World) (hb : Below w.heap.size w wr) => records_yes h (hw1 wr hb) (hri wr hb).r hT
        rw [hT] at rr
        by_cases d1 : d < 1
        · exact rw_l0t ⟨al, mn, hfb (by omega), rw⟩ hre rr d1 hW (fs := ⟨#[]⟩)
        by_cases d4 : 4 < d
        · exact rw_g0t ⟨al, mn, hfb (by omega), rw⟩ hre rr d1 d4 hW (fs := ⟨#[]⟩)
        have hd : 1 ≤ d ∧ d ≤ 4 := by omega
        have rl := fun (wr : World) (hb : Below w.heap.size w wr) => rfull_ok d h (.slice a n c) (by omega) wr
        cases hF : fullB d h
        · rw [hF, fullS_no hF] at rl
          exact rw_y0ft ⟨al, mn, fun wr hb => full_no d h hd (hw1 wr hb) (by omega) hF, rw⟩ hre rr rl hd hW (fs := ⟨#[]⟩)
        · rw [hF] at rl
          exact rw_y0tt ⟨al, mn, fun wr hb => full_yes d h hd (hw1 wr hb) (by omega) hF, rw⟩ hre rr rl hd hW
    · have hre := fun (wr : World) (hb : Below w.heap.size w wr) => records_wrong h (hw0 wr hb) hW
      by_cases d1 : d < 1
      · exact rw_lx ⟨al, mn, fun wr hb => full_bad d h (by omega), rw⟩ hre d1 hW (fs := ⟨#[]⟩) (R := [])
      by_cases d4 : 4 < d
      · exact rw_gx ⟨al, mn, fun wr hb => full_bad d h (by omega), rw⟩ hre d1 d4 hW (fs := ⟨#[]⟩) (R := [])
      have hd : 1 ≤ d ∧ d ≤ 4 := by omega
      exact rw_yx ⟨al, mn, fun wr hb => full_wrong d h hd (hw0 wr hb) hW, rw⟩ hre hd hW (fs := ⟨#[]⟩) (R := [])

end Go.Proofs.YthnaanjhmehgcaaGreatDoor
