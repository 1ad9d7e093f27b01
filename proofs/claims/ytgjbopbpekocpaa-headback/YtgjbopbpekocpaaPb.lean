/-
  WHAT IS MADE IS GOT, on lists of bytes. Conditions: that Make made it.
-/
import Derived.Test.YtgjbopbpekocpaaPm
import Derived.Test.YtgjbopbpekocpaaTold
namespace Go.Proofs.Ytgjbopbpekocpaa
open Go.ChangeShapes Go.WideShapes Go.ChangeAt Go.RowKit
set_option linter.unusedVariables false
set_option maxRecDepth 20000

theorem fieldL_get (l : List Int) (st wd i : Nat) : (fieldL l st wd)[i]? = if i < wd then l[st + i]? else none := by
  unfold fieldL
  rw [List.getElem?_take, List.getElem?_drop]

theorem fieldL_ext {l l' : List Int} {st wd : Nat} (h : ∀ i, st ≤ i → i < st + wd → l[i]? = l'[i]?) : fieldL l st wd = fieldL l' st wd := by
  apply List.ext_getElem?
  intro i
  rw [fieldL_get, fieldL_get]
  split
  · exact h _ (by omega) (by omega)
  · rfl

theorem field_lay (L : List Int) (st wd : Nat) (bs : List Int) (h : st + wd ≤ L.length) (hb : bs.length = wd) : fieldL (layB L st bs) st wd = bs := by
  apply List.ext_getElem?
  intro i
  rw [fieldL_get]
  split
  · rw [layB_get _ _ _ (by omega), if_neg (by omega), if_pos (by omega), Nat.add_sub_cancel_left]
  · rw [List.getElem?_eq_none (by omega)]

theorem rows_apart : rowsD.Pairwise (fun a b => a.st + a.wd ≤ b.st) := by
  unfold rowsD
  simp

theorem mk_fields {R : RawV} (hR : R.ok) (wide dev : Bool) (rows : List RowD) : (∀ r ∈ rows, r ∈ rowsD) → rows.Pairwise (fun a b => a.st + a.wd ≤ b.st) → ∀ L : List Int, L.length = 512 → (mkR R wide dev rows L).1 = 0 →
    (mkR R wide dev rows L).2.length = 512 ∧ (∀ i, (∀ r ∈ rows, ¬ (r.st ≤ i ∧ i < r.st + r.wd)) → (mkR R wide dev rows L).2[i]? = L[i]?) ∧
    (∀ r ∈ rows, isInB r.inn R.m dev = true → fldC R wide r = 0 ∧ fieldL (mkR R wide dev rows L).2 r.st r.wd = fldL R wide r) ∧
    (∀ r ∈ rows, isInB r.inn R.m dev = false → fieldL (mkR R wide dev rows L).2 r.st r.wd = fieldL L r.st r.wd) := by
  induction rows with
  | nil => intro _ _ L hL _; rw [mkR_nil]; exact ⟨hL, fun _ _ => rfl, by simp, by simp⟩
  | cons r t ih =>
    intro hin hpw L hL h0
    have hr := hin r (List.mem_cons_self ..)
    have ih' := ih (fun x hx => hin x (List.mem_cons_of_mem _ hx)) (List.pairwise_cons.mp hpw).2
    have hlt := (List.pairwise_cons.mp hpw).1
    obtain ⟨p1, p2, p3, -⟩ := row_places r hr
    cases hi : isInB r.inn R.m dev
    · rw [mkR_out R wide dev r t _ hi] at h0 ⊢
      obtain ⟨i1, i2, i3, i4⟩ := ih' L hL h0
      refine ⟨i1, fun i h => i2 i fun s hs => h s (List.mem_cons_of_mem _ hs), ?_, ?_⟩
      · intro s hs hs'
        rcases List.mem_cons.mp hs with rfl | hs
        · rw [hi] at hs'; cases hs'
        · exact i3 s hs hs'
      · intro s hs hs'
        rcases List.mem_cons.mp hs with rfl | hs
        · apply fieldL_ext
          intro i h1 h2
          exact i2 i fun q hq => by have := hlt q hq; omega
        · exact i4 s hs hs'
    · by_cases hc : fldC R wide r = 0
      · have hl := fldL_length hR hr hc
        rw [mkR_lay R wide dev r t _ hi hc] at h0 ⊢
        obtain ⟨i1, i2, i3, i4⟩ := ih' _ (by rw [layB_length _ _ _ (by rw [hl]; omega)]; exact hL) h0
        refine ⟨i1, ?_, ?_, ?_⟩
        · intro i h
          rw [i2 i fun s hs => h s (List.mem_cons_of_mem _ hs), layB_get _ _ _ (by omega), hl]
          have := h r (List.mem_cons_self ..)
          split
          · rfl
          · rw [if_neg (by omega)]
        · intro s hs hs'
          rcases List.mem_cons.mp hs with rfl | hs
          · refine ⟨hc, ?_⟩
            rw [← field_lay L s.st s.wd (fldL R wide s) (by omega) hl]
            apply fieldL_ext
            intro i h1 h2
            rw [field_lay L s.st s.wd (fldL R wide s) (by omega) hl]
            exact i2 i fun q hq => by have := hlt q hq; omega
          · exact i3 s hs hs'
        · intro s hs hs'
          rcases List.mem_cons.mp hs with rfl | hs
          · rw [hi] at hs'; cases hs'
          · rw [i4 s hs hs']
            apply fieldL_ext
            intro i h1 h2
            have := hlt s hs
            rw [layB_get _ _ _ (by omega), hl, if_neg (by omega), if_neg (by omega)]
      · rw [mkR_bad R wide dev r t _ hi hc] at h0
        exact absurd h0 hc

theorem seal_get (l : List Int) (h : l.length = 512) (i : Nat) (hi : i < 148 ∨ 156 ≤ i) : (sealL l)[i]? = l[i]? := by
  rcases hi with hi | hi
  · have := congrArg (fun x => x[i]?) (seal_ahead l h)
    simpa [List.getElem?_take, hi] using this
  · have := congrArg (fun x => x[i - 156]?) (seal_behind l h)
    simp only [List.getElem?_drop] at this
    rwa [show 156 + (i - 156) = i by omega] at this

theorem upto_clean {l : List Int} (h : cleanB l = true) : upto l = l := by
  have h1 : (upto l).length = l.length := by simpa [cleanB] using h
  have h2 := upto_take l
  rwa [h1, List.take_length, eq_comm] at h2

theorem txt_back {s : ByteArray} {n : Nat} (h : tputC s n = 0) : strOfNums (upto (txtL s n)) = s := by
  obtain ⟨h1, h1', h2, h3⟩ := tputC_good h
  unfold txtL
  rw [if_pos h]
  unfold fillL
  have hn := nums_length s
  rw [upto_zeros, List.take_of_length_le (by rw [hn]; omega), upto_clean h2, str_nums]

theorem num_back {id n : Int} {wd : Nat} {wide : Bool} (h : numC id n wd wide = 0) (h3 : -9223372036854775808 ≤ n) (h4 : n ≤ 9223372036854775807) : got (numL id n wd wide) = some n ∧ mayB id n = true := by
  unfold numC at h
  unfold numL
  cases hm : mayB id n
  · rw [hm] at h; simp at h
  · rw [hm] at h
    simp only [if_true] at h ⊢
    rcases put_back n wd wide h3 h4 with ⟨_, hg, _⟩ | ⟨h', _⟩
    · exact ⟨hg, trivial⟩
    · exact absurd h h'

/-- a header that was made: what of it is got -/
structure Made (R : RawV) (l : List Int) : Prop where
  len : l.length = 512
  chk : chk l = 0
  flag : l.getD 156 0 = R.x
  isf : flagB R.x = true
  mark : markL (fieldL l 257 8) = R.m
  isMk : 0 ≤ R.m ∧ R.m ≤ 2
  txt : ∀ r ∈ rowsD, r.txt = true → isInB r.inn R.m true = true → strOfNums (upto (fieldL l r.st r.wd)) = R.T r.fld
  num : ∀ r ∈ rowsD, r.txt = false → isInB r.inn R.m true = true → got (fieldL l r.st r.wd) = some (R.N r.fld) ∧ mayB r.id (R.N r.fld) = true
  out : ∀ r ∈ rowsD, isInB r.inn R.m true = false → fieldL l r.st r.wd = List.replicate r.wd 0

theorem made {R : RawV} (hR : R.ok) (wide : Bool) (h : makeC R wide true = 0) : Made R (makeL R wide true) := by
  have hm : 0 ≤ R.m ∧ R.m ≤ 2 := by
    by_cases hm : 0 ≤ R.m ∧ R.m ≤ 2
    · exact hm
    · unfold makeC at h; rw [if_pos hm] at h; cases h
  have hf : flagB R.x = true := by
    cases hf : flagB R.x
    · unfold makeC at h; rw [if_neg (by simpa using hm), if_pos hf] at h; cases h
    · rfl
  have h0 : (mkR R wide true rowsD zeros).1 = 0 := by
    unfold makeC at h; rwa [if_neg (by simpa using hm), if_neg (by simp [hf])] at h
  have hl : makeL R wide true = sealL (rawB R (mkR R wide true rowsD zeros).2) := by unfold makeL; rw [if_pos h]
  obtain ⟨f1, f2, f3, f4⟩ := mk_fields hR wide true rowsD (fun _ h => h) rows_apart zeros zeros_length h0
  have hrange : ∀ x ∈ rawB R (mkR R wide true rowsD zeros).2, 0 ≤ x ∧ x ≤ 255 := by
    refine layB_range _ _ _ (set_range _ _ _ ?_ hR.1 hR.2.1) (nums_range _)
    have : ∀ rows : List RowD, ∀ L : List Int, (∀ x ∈ L, 0 ≤ x ∧ x ≤ 255) → ∀ x ∈ (mkR R wide true rows L).2, 0 ≤ x ∧ x ≤ 255 := by
      intro rows
      induction rows with
      | nil => intro L hL; exact hL
      | cons r t ih =>
        intro L hL
        cases hi : isInB r.inn R.m true
        · rw [mkR_out R wide true r t _ hi]; exact ih L hL
        · by_cases hc : fldC R wide r = 0
          · rw [mkR_lay R wide true r t _ hi hc]; exact ih _ (layB_range _ _ _ hL (fldL_range R wide r))
          · rw [mkR_bad R wide true r t _ hi hc]; simp
    exact this rowsD zeros zeros_ok
  rw [hl]
  generalize (mkR R wide true rowsD zeros).2 = L at *
  have hB := rawB_length R L f1 hm
  have hfield : ∀ r ∈ rowsD, fieldL (sealL (rawB R L)) r.st r.wd = fieldL L r.st r.wd := by
    intro r hr
    have hap := row_apart r hr
    apply fieldL_ext
    intro i h1 h2
    rw [seal_get _ hB i (by omega), raw_get R L f1 hm, if_neg (by omega)]
    split
    · rfl
    · rw [if_neg (by omega)]
  have hpl := pl_range _ hrange 0
  rw [hB] at hpl
  refine ⟨seal_length _ hB, chk_seal _ hB hpl.1 (by omega), ?_, hf, ?_, hm, ?_, ?_, ?_⟩
  · rw [List.getD_eq_getElem?_getD, seal_get _ hB 156 (by omega), raw_get R L f1 hm, if_pos rfl]; rfl
  · have e : fieldL (sealL (rawB R L)) 257 8 = nums (markS R.m) := by
      apply List.ext_getElem?
      intro i
      rw [fieldL_get]
      split
      · rw [seal_get _ hB _ (by omega), raw_get R L f1 hm, if_neg (by omega), if_neg (by omega), if_pos (by omega), Nat.add_sub_cancel_left]
      · rw [List.getElem?_eq_none (by rw [mark_len R.m hm]; omega)]
    rw [e]
    have : R.m = 0 ∨ R.m = 1 ∨ R.m = 2 := by omega
    rcases this with e | e | e <;> rw [e] <;> decide
  · intro r hr ht hi
    rw [hfield r hr, (f3 r hr hi).2]
    have hc := (f3 r hr hi).1
    unfold fldC at hc
    unfold fldL
    rw [ht] at hc ⊢
    simp only [if_true] at hc ⊢
    exact txt_back hc
  · intro r hr ht hi
    rw [hfield r hr, (f3 r hr hi).2]
    have hc := (f3 r hr hi).1
    unfold fldC at hc
    unfold fldL
    rw [ht] at hc ⊢
    simp only [Bool.false_eq_true, if_false] at hc ⊢
    exact num_back hc (hR.2.2.2 _).1 (hR.2.2.2 _).2
  · intro r hr hi
    rw [hfield r hr, f4 r hr hi]
    have hp := row_places r hr
    unfold fieldL zeros
    rw [List.drop_replicate, List.take_replicate, Nat.min_eq_left (by omega)]

/-- the numbers of a header that was made -/
theorem Made.numIn {R : RawV} {l : List Int} (h : Made R l) (f : Int) (r : RowD) (hr : r ∈ rowsD) (ht : r.txt = false) (hi : isInB r.inn R.m true = true) (hf : numR l f rowsD = (numV r.id (got (fieldL l r.st r.wd)), numE r.id (got (fieldL l r.st r.wd)))) : numR l f rowsD = (R.N r.fld, 0) := by
  obtain ⟨h1, h2⟩ := h.num r hr ht hi
  rw [hf, h1]
  unfold numV numE
  simp [h2]
theorem Made.numOut {R : RawV} {l : List Int} (h : Made R l) (f : Int) (r : RowD) (hr : r ∈ rowsD) (hw : r.wd = 8) (hi : isInB r.inn R.m true = false) (hf : numR l f rowsD = (numV r.id (got (fieldL l r.st r.wd)), numE r.id (got (fieldL l r.st r.wd)))) : numR l f rowsD = (0, 0) := by
  have h1 := h.out r hr hi
  rw [hw] at h1
  rw [hf, hw, h1, show got (List.replicate 8 0) = some 0 by decide]
  unfold numV numE
  have : mayB r.id 0 = true := by unfold mayB; simp
  simp [this]

theorem Made.nums {R : RawV} {l : List Int} (h : Made R l) : numR l 4 rowsD = (R.N 7, 0) ∧ numR l 5 rowsD = (R.N 8, 0) ∧ numR l 6 rowsD = (R.N 9, 0) ∧ numR l 7 rowsD = (R.N 10, 0) ∧ numR l 8 rowsD = (R.N 11, 0) ∧
    numR l 11 rowsD = (if R.m = 0 then 0 else R.N 12, 0) ∧ numR l 12 rowsD = (if R.m = 0 then 0 else R.N 13, 0) := by
  have hm := h.isMk
  refine ⟨h.numIn 4 ⟨100, 8, 0, 4, false, 7⟩ (by simp [rowsD]) rfl rfl rfl, h.numIn 5 ⟨108, 8, 0, 5, false, 8⟩ (by simp [rowsD]) rfl rfl rfl, h.numIn 6 ⟨116, 8, 0, 6, false, 9⟩ (by simp [rowsD]) rfl rfl rfl, h.numIn 7 ⟨124, 12, 0, 7, false, 10⟩ (by simp [rowsD]) rfl rfl rfl, h.numIn 8 ⟨136, 12, 0, 8, false, 11⟩ (by simp [rowsD]) rfl rfl rfl, ?_, ?_⟩
  · by_cases h0 : R.m = 0
    · rw [if_pos h0]
      exact h.numOut 11 ⟨329, 8, 2, 11, false, 12⟩ (by simp [rowsD]) rfl (by rw [h0]; rfl) rfl
    · rw [if_neg h0]
      refine h.numIn 11 ⟨329, 8, 2, 11, false, 12⟩ (by simp [rowsD]) rfl ?_ rfl
      have : R.m = 1 ∨ R.m = 2 := by omega
      rcases this with e | e <;> rw [e] <;> rfl
  · by_cases h0 : R.m = 0
    · rw [if_pos h0]
      exact h.numOut 12 ⟨337, 8, 2, 12, false, 13⟩ (by simp [rowsD]) rfl (by rw [h0]; rfl) rfl
    · rw [if_neg h0]
      refine h.numIn 12 ⟨337, 8, 2, 12, false, 13⟩ (by simp [rowsD]) rfl ?_ rfl
      have : R.m = 1 ∨ R.m = 2 := by omega
      rcases this with e | e <;> rw [e] <;> rfl

theorem Made.get {R : RawV} {l : List Int} (h : Made R l) : rawE l = #[.int .i64 R.m, .int .u8 R.x, .string (R.T 2), .string (R.T 3), .string (if R.m = 1 then R.T 4 else ⟨#[]⟩), .string (if R.m = 0 then ⟨#[]⟩ else R.T 5), .string (if R.m = 0 then ⟨#[]⟩ else R.T 6), .int .i64 0, .int .i64 0, .int .i64 0, .int .i64 0, .int .i64 0, .int .i64 0, .int .i64 0] := by
  unfold rawE rawL
  rw [h.mark, h.flag]
  have t2 := h.txt ⟨0, 100, 0, 2, true, 2⟩ (by simp [rowsD]) rfl rfl
  have t3 := h.txt ⟨157, 100, 0, 3, true, 3⟩ (by simp [rowsD]) rfl rfl
  have t5 := h.txt ⟨265, 32, 1, 9, true, 5⟩ (by simp [rowsD]) rfl
  have t6 := h.txt ⟨297, 32, 1, 10, true, 6⟩ (by simp [rowsD]) rfl
  have t4 := h.txt ⟨345, 155, 3, 0, true, 4⟩ (by simp [rowsD]) rfl
  simp only at t2 t3 t4 t5 t6
  have hm := h.isMk
  have : R.m = 0 ∨ R.m = 1 ∨ R.m = 2 := by omega
  rcases this with e | e | e
  · rw [e]; unfold gt; simp [isInB, t2, t3]
  · rw [e] at t4 t5 t6; rw [e]; unfold gt; simp [isInB, t2, t3] at t4 t5 t6 ⊢; simp [t4, t5, t6]
  · rw [e] at t4 t5 t6; rw [e]; unfold gt; simp [isInB, t2, t3] at t4 t5 t6 ⊢; simp [t5, t6]

end Go.Proofs.Ytgjbopbpekocpaa
