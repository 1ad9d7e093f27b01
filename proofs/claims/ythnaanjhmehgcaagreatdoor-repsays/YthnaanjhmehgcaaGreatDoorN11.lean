/-
  HOW MANY BYTES A RECORD HAS: the program's way round; AND WHAT FOLLOWS OF IT. Conditions: those that each part names.
-/
import Derived.Test.YthnaanjhmehgcaaGreatDoorN10
import Derived.Lib.ItoaLen
import Derived.Deep.RegionHeld3
import Derived.Lib.AppendStr
import Derived.BigRegion
/-
  HOW MANY BYTES A RECORD HAS: the program's way round. Conditions: how many bytes its texts may have; what the listed variables hold.
-/
namespace Go.Proofs.YthnaanjhmehgcaaGreatDoor
open Go.ChangeShapes Go.WideShapes Go.ChangeAt Go.RowKit Go.Lib
set_option linter.unusedVariables false
set_option maxRecDepth 20000

theorem nDigits_mono : ∀ (n m : Nat), m ≤ n → nDigits m ≤ nDigits n := by
  intro n
  induction n using Nat.strongRecOn with
  | _ n ih =>
    intro m h
    by_cases hm : m < 10
    · rw [nDigits_small hm]; exact nDigits_pos n
    · rw [nDigits_big hm, nDigits_big (u := n) (by omega)]
      have := ih (n / 10) (by omega) (m / 10) (Nat.div_le_div_right h)
      omega

/-- the length, going round: so many times -/
def lenF (rest : Nat) : Nat → Nat → Nat
  | 0, n => n
  | f + 1, n => if n = rest + nDigits n then n else lenF rest f (rest + nDigits n)
def lenN (rest : Nat) : Nat := lenF rest 40 rest

theorem lenF_done (rest n : Nat) (h : n = rest + nDigits n) : ∀ f, lenF rest f n = n
  | 0 => rfl
  | f + 1 => by rw [lenF, if_pos h]

theorem lenF_spec (rest : Nat) (hr : rest ≤ 9223372036854775807) : ∀ (f n : Nat), rest ≤ n → n ≤ rest + 20 → n ≤ rest + nDigits n → (∀ m, m = rest + nDigits m → n ≤ m) → rest + 30 ≤ n + f →
    lenF rest f n = rest + nDigits (lenF rest f n) ∧ ∀ m, m = rest + nDigits m → lenF rest f n ≤ m := by
  intro f
  induction f with
  | zero => intro n h1 h2 h3 h4 h5; omega
  | succ f ih =>
    intro n h1 h2 h3 h4 h5
    by_cases h : n = rest + nDigits n
    · rw [lenF_done rest n h]; exact ⟨h, h4⟩
    · rw [lenF, if_neg h]
      have hm := nDigits_mono (rest + nDigits n) n h3
      have h20 := nDigits_le20 n (by omega)
      refine ih (rest + nDigits n) (by omega) (by omega) (by omega) ?_ (by omega)
      intro m e
      have := nDigits_mono m n (h4 m e)
      omega

theorem lenN_spec (rest : Nat) (hr : rest ≤ 9223372036854775807) : lenN rest = rest + nDigits (lenN rest) ∧ ∀ m, m = rest + nDigits m → lenN rest ≤ m := by
  refine lenF_spec rest hr 40 rest (Nat.le_refl _) (by omega) (by have := nDigits_pos rest; omega) ?_ (by omega)
  intro m e; omega
theorem lenN_le (rest : Nat) (hr : rest ≤ 9223372036854775807) : lenN rest ≤ rest + 20 := by
  obtain ⟨h, h2⟩ := lenN_spec rest hr
  have : nDigits (lenN rest) ≤ 20 := by
    by_cases hb : lenN rest < 18446744073709551616
    · exact nDigits_le20 _ hb
    · exfalso
      have h3 := lt_pow_nDigits (lenN rest)
      have hs : ∀ f n, rest ≤ n → n ≤ rest + 20 → lenF rest f n ≤ rest + 20 := by
        intro f
        induction f with
        | zero => intro n _ h; exact h
        | succ f ih =>
          intro n a b
          rw [lenF]
          split
          · exact b
          · exact ih _ (by omega) (by have := nDigits_le20 n (by omega); omega)
      have := hs 40 rest (Nat.le_refl _) (by omega)
      unfold lenN at hb
      omega
  omega

theorem digits_w (n : Nat) (hn : n ≤ 9223372036854775807) (w : World) (hL : Laid w) : Calls Tryz.prog 125 #[.int .i64 n] w fun e w' => e = .returned (.int .i64 (nDigits n)) ∧ Below w.heap.size w w' := by
  have ht := text_ok (n : Int) (by omega) (by omega) w hL
  have hs : (txt (signOf (n : Int) ++ decDigits (n : Int).natAbs)).size = nDigits n := by
    rw [txt_size, List.length_append, decDigits_length]
    have : signOf (n : Int) = [] := by unfold signOf; rw [if_neg (by omega)]
    rw [this]; simp
  generalize txt (signOf (n : Int) ++ decDigits (n : Int).natAbs) = s at *
  have hs' : (s.size : Int) = (nDigits n : Int) := by omega
  clear hs
  go_enter Tryz.func125, Tryz.ntmps125
  go_wp2_with (go_at_call 99; refine ht.mono ?_; rintro e w1 ⟨rfl, hb⟩)
  all_goals go_ret
  all_goals first | exact ⟨rfl, hb⟩ | exact ⟨ret_int hs', hb⟩

/-- the bytes of a record behind its length -/
def restN (k v : ByteArray) : Nat := k.size + v.size + 3

set_option maxHeartbeats 2000000 in
theorem len_ok (k v : ByteArray) (hk : k.size ≤ 281474976710656) (hv : v.size ≤ 281474976710656) (w : World) (hL : Laid w) :
    Calls Tryz.prog 100 #[.agg #[.string k, .string v]] w fun e w' => e = .returned (.int .i64 (lenN (restN k v))) ∧ Below w.heap.size w w' := by
  have hb0 := (Below.refl w.heap.size w).alloc (Nat.le_refl _) (.cells #[.string k, .string v] 50)
  obtain ⟨R, hR⟩ : ∃ R, R = restN k v := ⟨_, rfl⟩
  have hR1 : (R : Int) = (k.size : Int) + (v.size : Int) + 3 := by rw [hR]; unfold restN; omega
  rw [← hR]
  have hE : 1 + (k.size : Int) + 1 + (v.size : Int) + 1 = (R : Int) := by omega
  have hR2 : R ≤ 562949953421315 := by rw [hR]; unfold restN; omega
  have hdg := fun (n : Nat) hn w' (hb : Below w.heap.size w w') => digits_w n hn w' (hL.below hb)
  clear hR hL
  obtain ⟨q, hq⟩ : ∃ q, q = lenN R := ⟨_, rfl⟩
  rw [← hq]
  go_enter Tryz.func100, Tryz.ntmps100
  go_wp2
  go_loopw [4] (fun x wr => ∃ (n f : Nat), x = .int .i64 n ∧ R ≤ n ∧ n ≤ R + 20 ∧ Hid (n ≤ R + nDigits n ∧ R + 40 ≤ n + f ∧ q = lenF R f n) ∧ Below w.heap.size w wr) (fun x _ => R + 30 - (RowKit.intOf x).toNat)
  case atStart => exact ⟨R, 40, by rw [hR1], by omega, by omega, hid ⟨by have := nDigits_pos R; omega, by omega, hq⟩, hb0⟩
  case round =>
    obtain ⟨n, f, rfl, h1, h2, hr, hb⟩ := hrel
    have hd := hdg n (by omega) wr hb
    have h20 := nDigits_le20 n (by omega)
    have hm := hid (nDigits_mono (R + nDigits n) n hr.out.1)
    have hms := hid (nDigits_le20 (R + nDigits n) (by omega))
    by_cases he : n = R + nDigits n
    · have hq2 : Hid (q = n) := hid (by rw [hr.out.2.2, lenF_done R n he])
      have hI : ((n : Int) != (R : Int) + (nDigits n : Int)) = false := by simp; omega
      generalize nDigits n = d at *
      clear hr he hq hm hms
      go_wp2_with (go_at_call 125; refine hd.mono ?_; rintro e w1 ⟨rfl, hb1⟩)
      all_goals go_ret
      all_goals exact ⟨ret_int (by rw [hq2.out]), hb.trans (hb1.mono hb.size)⟩
    · have hI : ((n : Int) != (R : Int) + (nDigits n : Int)) = true := by simp; omega
      have hlt : n < R + nDigits n := by have := hr.out.1; omega
      have hq2 : Hid (R + nDigits n ≤ R + nDigits (R + nDigits n) ∧ R + 40 ≤ R + nDigits n + (f - 1) ∧ q = lenF R (f - 1) (R + nDigits n)) := hid (by
        have h5 := hr.out.2.1
        refine ⟨by have := hm.out; omega, by omega, ?_⟩
        rw [hr.out.2.2]
        cases f with
        | zero => omega
        | succ f => rw [lenF, if_neg he]; rfl)
      have hd2 := hdg n (by omega)
      generalize nDigits n = d at *
      clear hr he hq hm hms
      go_wp2_with (first
        | (go_at_call 125; refine hd.mono ?_; rintro e w1 ⟨rfl, hb1⟩; have hacc := hb.trans (hb1.mono hb.size); clear hd)
        | (go_at_call 125; refine (hd2 _ hacc).mono ?_; rintro e w2 ⟨rfl, hb2⟩; replace hacc := hacc.trans (hb2.mono hacc.size)))
      go_roundw
      case rel => exact ⟨R + d, f - 1, by go_num, by omega, by omega, hq2, hacc⟩
      case measure => simp [RowKit.intOf]; omega

end Go.Proofs.YthnaanjhmehgcaaGreatDoor

/-
  A PAIR's RECORD. Conditions: how many bytes its texts may have; what the listed variables hold.
-/
namespace Go.Proofs.YthnaanjhmehgcaaGreatDoor
open Go.ChangeShapes Go.WideShapes Go.ChangeAt Go.RowKit Go.Lib
set_option linter.unusedVariables false
set_option maxRecDepth 20000

/-- a pair's record -/
def recB (k v : ByteArray) : ByteArray := txt (decDigits (lenN (restN k v))) ++ ⟨#[32]⟩ ++ k ++ ⟨#[61]⟩ ++ v ++ ⟨#[10]⟩

theorem one_size (c : UInt8) : (⟨#[c]⟩ : ByteArray).size = 1 := rfl

theorem new_two (w : World) (a b : Value) (t : TypeId) : (w.alloc (.cells #[a, b] t)).cell? ⟨w.heap.size, 0, none⟩ = some a ∧ (w.alloc (.cells #[a, b] t)).cell? ⟨w.heap.size, 1, none⟩ = some b := two_cells (Below.refl _ _)

set_option maxHeartbeats 2000000 in
theorem record_ok (k v : ByteArray) (hk : k.size ≤ 1000000) (hv : v.size ≤ 1000000) (w : World) (hL : Laid w) :
    Calls Tryz.prog 60 #[.agg #[.string k, .string v]] w fun e w' => e = .returned (.string (recB k v)) ∧ Below w.heap.size w w' := by
  have hb0 := (Below.refl w.heap.size w).alloc (Nat.le_refl _) (.cells #[.string k, .string v] 50)
  have hlen := fun w' (hb : Below w.heap.size w w') => len_ok k v (by omega) (by omega) w' (hL.below hb)
  obtain ⟨c0, c1⟩ := new_two w (.string k) (.string v) 50
  have hrs : restN k v ≤ 2000003 := by unfold restN; omega
  have hn := lenN_le (restN k v) (by omega)
  have hn2 : lenN (restN k v) ≤ 9223372036854775807 := by omega
  have htx := fun w' (hb : Below w.heap.size w w') => text_ok (lenN (restN k v) : Nat) (by omega) (by omega) w' (hL.below hb)
  have hT : txt (signOf ((lenN (restN k v) : Nat) : Int) ++ decDigits ((lenN (restN k v) : Nat) : Int).natAbs) = txt (decDigits (lenN (restN k v))) := by
    have : signOf ((lenN (restN k v) : Nat) : Int) = [] := by unfold signOf; rw [if_neg (by omega)]
    rw [this]; simp
  rw [hT] at htx
  have hsz := dec_size (lenN (restN k v)) (by omega)
  unfold recB
  generalize txt (decDigits (lenN (restN k v))) = D at *
  generalize lenN (restN k v) = n at *
  have s1 := one_size 32
  have s2 := one_size 61
  have s3 := one_size 10
  have a1 : ¬ 9223372036854775807 < D.size + (⟨#[32]⟩ : ByteArray).size := by omega
  have a2 : ¬ 9223372036854775807 < (D ++ ⟨#[32]⟩).size + k.size := by rw [ByteArray.size_append]; omega
  have a3 : ¬ 9223372036854775807 < (D ++ ⟨#[32]⟩ ++ k).size + (⟨#[61]⟩ : ByteArray).size := by rw [ByteArray.size_append, ByteArray.size_append]; omega
  have a4 : ¬ 9223372036854775807 < (D ++ ⟨#[32]⟩ ++ k ++ ⟨#[61]⟩).size + v.size := by rw [ByteArray.size_append, ByteArray.size_append, ByteArray.size_append]; omega
  have a5 : ¬ 9223372036854775807 < (D ++ ⟨#[32]⟩ ++ k ++ ⟨#[61]⟩ ++ v).size + (⟨#[10]⟩ : ByteArray).size := by rw [ByteArray.size_append, ByteArray.size_append, ByteArray.size_append, ByteArray.size_append]; omega
  have d1 : ¬ 9223372036854775807 < D.size + 1 := by omega
  have d2 : ¬ 9223372036854775807 < D.size + 1 + k.size := by omega
  have d3 : ¬ 9223372036854775807 < D.size + 1 + k.size + 1 := by omega
  have d4 : ¬ 9223372036854775807 < D.size + 1 + k.size + 1 + v.size := by omega
  have d5 : ¬ 9223372036854775807 < D.size + 1 + k.size + 1 + v.size + 1 := by omega
  clear s1 s2 s3 hrs hT hL hn hsz hn2
  go_enter Tryz.func60, Tryz.ntmps60
  go_wp2
  go_region_held3 (fun w' => w'.cell? ⟨w.heap.size, 0, none⟩ = some (.string k) ∧ w'.cell? ⟨w.heap.size, 1, none⟩ = some (.string v)) (go_keep)
    (first
      | (go_at_call 100; refine (hlen _ hb0.drew).mono ?_; rintro e w1 ⟨rfl, hb1⟩; have f0 := cell_later (w := (w.alloc (.cells #[.string k, .string v] 50)).drew) hb1 c0; have f1 := cell_later (w := (w.alloc (.cells #[.string k, .string v] 50)).drew) hb1 c1; have hacc := hb0.drew.trans (hb1.mono hb0.drew.size))
      | (go_at_call 99; refine (htx _ hacc).mono ?_; rintro e w2 ⟨rfl, hb2⟩; have g0 := cell_later hb2 f0; have g1 := cell_later hb2 f1; have hfin := hacc.trans (hb2.mono hacc.size)))
  all_goals go_wp2
  all_goals go_ret
  all_goals exact ⟨rfl, hfin⟩

end Go.Proofs.YthnaanjhmehgcaaGreatDoor

/-
  SLICES OF PAIRS; THE RECORDS OF PAIRS. Conditions: how many pairs there are, and how many bytes their texts have; what the listed variables hold.
-/
namespace Go.Proofs.YthnaanjhmehgcaaGreatDoor
open Go.ChangeShapes Go.WideShapes Go.ChangeAt Go.RowKit Go.Lib
set_option linter.unusedVariables false
set_option maxRecDepth 20000

/-- the cells of pairs, from offset 'off' of block 'b' on -/
def PCells (w : World) (b off : Nat) (l : List (ByteArray × ByteArray)) : Prop :=
  ∀ i, i < l.length → w.cell? ⟨b, off + i * 2, none⟩ = some (.string (l.getD i (⟨#[]⟩, ⟨#[]⟩)).1) ∧ w.cell? ⟨b, off + i * 2 + 1, none⟩ = some (.string (l.getD i (⟨#[]⟩, ⟨#[]⟩)).2)
/-- the pairs that a slice value holds -/
def Pys (w : World) (a : Option Addr) (n c : Nat) (l : List (ByteArray × ByteArray)) : Prop :=
  l.length = n ∧ n ≤ c ∧ c ≤ 9223372036854775807 ∧ ((l = [] ∧ n = 0) ∨ (0 < n ∧ ∃ b off, a = some ⟨b, off, none⟩ ∧ PCells w b off l))
/-- pairs that are no greater than are gone through -/
def Few (l : List (ByteArray × ByteArray)) : Prop := l.length ≤ 1000 ∧ ∀ p ∈ l, p.1.size ≤ 1000000 ∧ p.2.size ≤ 1000000

theorem PCells.below {w w' : World} (hb : Below w.heap.size w w') {b off : Nat} {l : List (ByteArray × ByteArray)} (h : PCells w b off l) : PCells w' b off l :=
  fun i hi => ⟨cell_later hb (h i hi).1, cell_later hb (h i hi).2⟩
theorem Pys.below {w w' : World} (hb : Below w.heap.size w w') {a : Option Addr} {n c : Nat} {l : List (ByteArray × ByteArray)} (h : Pys w a n c l) : Pys w' a n c l := by
  obtain ⟨h1, h2, h3, h4 | ⟨h0, b, off, rfl, hc⟩⟩ := h
  · exact ⟨h1, h2, h3, .inl h4⟩
  · exact ⟨h1, h2, h3, .inr ⟨h0, b, off, rfl, hc.below hb⟩⟩
theorem PCells.at {w : World} {b off : Nat} {l : List (ByteArray × ByteArray)} (h : PCells w b off l) (i : Nat) (hi : i < l.length) :
    ∃ k v : ByteArray, (k, v) ∈ l ∧ Hid (l.drop i = (k, v) :: l.drop (i + 1)) ∧ w.cell? ⟨b, off + i * 2, none⟩ = some (.string k) ∧ w.cell? ⟨b, off + i * 2 + 1, none⟩ = some (.string v) := by
  have := h i hi
  rw [List.getD_eq_getElem?_getD, List.getElem?_eq_getElem hi] at this
  exact ⟨l[i].1, l[i].2, List.getElem_mem hi, hid (List.drop_eq_getElem_cons hi), this.1, this.2⟩

/-- what Print answers: the records, or that a pair isn't right -/
def prn : List (ByteArray × ByteArray) → List Int → Option (List Int)
  | [], acc => some acc
  | (k, v) :: t, acc => if rightP (bs k) (bs v) then prn t (acc ++ nums (recB k v)) else none
def prnC (o : Option (List Int)) : Int := match o with | some _ => 0 | none => 15
def prnL (o : Option (List Int)) : List Int := match o with | some l => l | none => []

theorem strCells_nums (s : ByteArray) : strCells s = u8s (nums s) := by unfold strCells u8s nums; rw [List.map_map]; rfl

theorem rec_size (k v : ByteArray) (hk : k.size ≤ 1000000) (hv : v.size ≤ 1000000) : (recB k v).size ≤ 2000100 := by
  have hrs : restN k v ≤ 2000003 := by unfold restN; omega
  have hn := lenN_le (restN k v) (by omega)
  have hsz := dec_size (lenN (restN k v)) (by omega)
  unfold recB
  rw [ByteArray.size_append, ByteArray.size_append, ByteArray.size_append, ByteArray.size_append, ByteArray.size_append, one_size, one_size, one_size]
  omega

theorem Tryz.info5' : (Tryz.prog.info? 5).map (fun i => (i.zero, i.size, i.bytes)) = some (some (.int .u8 0), 1, 1) := by kernel_rfl

set_option maxHeartbeats 4000000 in
theorem print_ok {w : World} {a : Option Addr} {n c : Nat} {l : List (ByteArray × ByteArray)} (h : Pys w a n c l) (hf : Few l) (hL : Laid w) :
    Calls Tryz.prog 25 #[.slice a n c] w fun e w' => ∃ a' m c', e = .returned (.tuple #[.slice a' m c', .int .u8 (prnC (prn l []))]) ∧ Bys w' a' m c' (prnL (prn l [])) ∧ Below w.heap.size w w' := by
  obtain ⟨i0, hi, hz0, hz1, hz2⟩ := info_parts Tryz.info5'
  obtain ⟨hl, hlc, hm, ⟨rfl, rfl⟩ | ⟨h0, b, off, rfl, hc⟩⟩ := h
  · go_enter Tryz.func25, Tryz.ntmps25
    go_wp2
    refine wp_loop_rounds 1 ?_
    rw [rounds_succ]
    go_wp2
    go_ret2
    exact ⟨none, 0, 0, rfl, Bys.mk0 (by omega), Below.refl _ _⟩
  · obtain ⟨q, hq⟩ : ∃ q, q = prn l [] := ⟨_, rfl⟩
    rw [← hq]
    have hn1000 : n ≤ 1000 := by have := hf.1; omega
    have hl' := hid hl
    have hq' := hid hq
    have hf' := hid hf
    have hown0 := World.ownsRow_nil w w.heap.size 5 1
    clear hq hl hf
    go_enter Tryz.func25, Tryz.ntmps25
    go_wp2
    go_loopw [4, 9] (fun y x wr => ∃ (v : Value) (k : Nat) (acc : List Int), y = v ∧ x = .int .i64 k ∧ k ≤ n ∧ acc.length ≤ 2000100 * k ∧ wr.ownsRow w.heap.size 5 1 v acc.length (u8s acc) ∧ Below w.heap.size w wr ∧ Hid ((∀ z ∈ acc, 0 ≤ z ∧ z ≤ 255) ∧ q = prn (l.drop k) acc)) (fun _ x _ => n - (RowKit.intOf x).toNat)
    case atStart => exact ⟨_, 0, [], rfl, rfl, by omega, by simp, hown0, Below.refl _ _, hid ⟨by simp, hq'.out⟩⟩
    case round =>
      obtain ⟨v, k, acc, rfl, rfl, hk, hacc, hown, hb, hr⟩ := hrel
      have hBsz := hb.size
      by_cases hlt : k < n
      · obtain ⟨ky, vl, hmem, hd, c0, c1⟩ := (hc.below hb).at k (by rw [hl'.out]; exact hlt)
        obtain ⟨hs1, hs2⟩ := hf'.out.2 _ hmem
        simp only at hs1 hs2
        have hfr := (Below.refl wr.heap.size wr).alloc (Nat.le_refl _) (.cells #[.string ky, .string vl] 50)
        have hbn := hb.trans (hfr.mono hb.size)
        have hri := right_ok ky vl (by omega) (by omega) _ (hL.below hbn)
        have hrc := fun w' (hb : Below w.heap.size w w') => record_ok ky vl hs1 hs2 w' (hL.below hb)
        have hrs := rec_size ky vl hs1 hs2
        have hkI : (k : Int) < (n : Int) := by omega
        cases hR : rightP (bs ky) (bs vl)
        · have E := hid (by rw [hr.out.2, hd.out, prn, hR]; rfl : q = none)
          rw [hR] at hri
          clear hr hd hmem hR hrc
          go_wp2_with (go_at_call 56; refine hri.mono ?_; rintro e w1 ⟨rfl, hb1⟩)
          all_goals go_ret2
          all_goals exact ⟨none, 0, 0, ret_vc (by rw [E.out]; rfl), by rw [E.out]; exact Bys.mk0 (by omega), hbn.trans (hb1.mono hbn.size)⟩
        · have E := hid (And.intro (by intro z hz; rcases List.mem_append.1 hz with hz | hz; exact hr.out.1 z hz; exact nums_range _ z hz : ∀ z ∈ acc ++ nums (recB ky vl), 0 ≤ z ∧ z ≤ 255) (by rw [hr.out.2, hd.out, prn, hR]; rfl : q = prn (l.drop (k + 1)) (acc ++ nums (recB ky vl))))
          have hnl := hid (nums_length (recB ky vl))
          have hsn := hid (strCells_nums (recB ky vl))
          rw [hR] at hri
          generalize recB ky vl = S at *
          clear hr hd hmem hR
          go_wp2_with (first
            | (go_at_call 56; refine hri.mono ?_; rintro e w1 ⟨rfl, hb1⟩; obtain ⟨d0, d1⟩ := two_cells hb1; have hac := hbn.trans (hb1.mono hbn.size); have how := own_below hb1 (own_below hfr hown))
            | (go_at_call 60; refine (hrc _ hac).mono ?_; rintro e w2 ⟨rfl, hb2⟩; replace hac := hac.trans (hb2.mono hac.size); replace how := own_below hb2 how)
            | (at_builtin; refine wpList_append_own_string (P := Tryz.prog) (w := w2) rfl (.tmp 16) (.tmp 18) 56 9 rfl w.heap.size 5 i0 Tryz.underlying56 Tryz.underlying9 hi hz0 hz1 hz2 _ _ _ rfl how S rfl (by unfold maxLen; omega) (by omega) hac.size ?_; intro v' w3 hown' hgrow' _))
          go_roundw
          case rel => exact ⟨_, k + 1, acc ++ nums S, rfl, by go_num, by omega, by rw [List.length_append, hnl.out]; omega, by rw [hsn.out, u8s_app] at hown'; rw [List.length_append, hnl.out]; exact hown', hac.grown hgrow' hac.size (fun g hg => (how.lt g hg).1), E⟩
          case measure => simp [RowKit.intOf]; omega
      · obtain rfl : k = n := by omega
        have E := hid (by rw [hr.out.2, List.drop_eq_nil_iff.mpr (by rw [hl'.out]; exact Nat.le_refl _)]; rfl : q = some acc)
        obtain ⟨aa, cc, rfl, hby⟩ := own_bys hown rfl hr.out.1
        clear hr
        go_wp2
        go_ret2
        exact ⟨aa, _, cc, ret_vc (by rw [E.out]; rfl), by rw [E.out]; exact hby, hb⟩

end Go.Proofs.YthnaanjhmehgcaaGreatDoor

/-
  BYTES PARTED AT A BYTE (bytes.Cut), AND WITHOUT THEIR LAST ONE (bytes.CutSuffix). Conditions: how many bytes there are.
-/
namespace Go.Proofs.YthnaanjhmehgcaaGreatDoor
open Go.ChangeShapes Go.WideShapes Go.ChangeAt Go.RowKit Go.Lib
set_option linter.unusedVariables false
set_option maxRecDepth 20000

/-- ahead of a byte, behind it, is it there -/
def ahI (c : Int) (l : List Int) : List Int := l.takeWhile (fun x => x != c)
def beI (c : Int) (l : List Int) : List Int := (l.dropWhile (fun x => x != c)).drop 1
def inI (c : Int) (l : List Int) : Bool := decide (c ∈ l)

theorem cut_index (c : Int) (h0 : 0 ≤ c) (h1 : c ≤ 255) : ∀ l : List Int, (∀ x ∈ l, 0 ≤ x ∧ x ≤ 255) →
    (indexByte (bytesOf l) c.toNat.toUInt8 = -1 ∧ ahI c l = l ∧ beI c l = [] ∧ inI c l = false) ∨
    (∃ i : Nat, indexByte (bytesOf l) c.toNat.toUInt8 = i ∧ i < l.length ∧ ahI c l = l.take i ∧ beI c l = l.drop (i + 1) ∧ inI c l = true)
  | [], _ => .inl ⟨rfl, rfl, rfl, rfl⟩
  | x :: l, h => by
    obtain ⟨x0, x1⟩ := h x (List.mem_cons_self ..)
    have ih := cut_index c h0 h1 l fun y hy => h y (List.mem_cons_of_mem _ hy)
    by_cases hx : x = c
    · subst hx
      refine .inr ⟨0, ?_, by simp, ?_, ?_, ?_⟩
      · simp [bytesOf, indexByte]
      · simp [ahI]
      · simp [beI]
      · simp [inI]
    · have hu : (UInt8.ofNat x.toNat == c.toNat.toUInt8) = false := by
        rw [beq_eq_false_iff_ne]
        intro e
        have := congrArg UInt8.toNat e
        simp at this
        omega
      have hxc : (x != c) = true := by simpa using hx
      have hb : bytesOf (x :: l) = UInt8.ofNat x.toNat :: bytesOf l := rfl
      rcases ih with ⟨e, a1, a2, a3⟩ | ⟨i, e, hi, a1, a2, a3⟩
      · refine .inl ⟨?_, ?_, ?_, ?_⟩
        · rw [hb, indexByte, hu, e]; rfl
        · unfold ahI at a1 ⊢; rw [List.takeWhile_cons, hxc, if_pos rfl, a1]
        · unfold beI at a2 ⊢; rw [List.dropWhile_cons, hxc, if_pos rfl, a2]
        · unfold inI at a3 ⊢
          have : ¬ c ∈ l := of_decide_eq_false a3
          simp [this, Ne.symm hx]
      · refine .inr ⟨i + 1, ?_, by simp; omega, ?_, ?_, ?_⟩
        · rw [hb, indexByte, hu, e]
          simp
        · unfold ahI at a1 ⊢; rw [List.takeWhile_cons, hxc, if_pos rfl, a1, List.take_succ_cons]
        · unfold beI at a2 ⊢; rw [List.dropWhile_cons, hxc, if_pos rfl, a2]; rfl
        · unfold inI at a3 ⊢
          have : c ∈ l := of_decide_eq_true a3
          simp [this]

theorem Bys.from {w : World} {a : Option Addr} {n c : Nat} {l : List Int} (h : Bys w a n c l) (j : Nat) (hj : j ≤ n) : ∃ a', Lib.fromV a n c j = .slice a' (n - j) (c - j) ∧ Bys w a' (n - j) (c - j) (l.drop j) := by
  obtain ⟨hl, hlc, hm, hr, h'⟩ := h
  refine ⟨_, rfl, by rw [List.length_drop, hl], by omega, by omega, fun x hx => hr x (List.mem_of_mem_drop hx), ?_⟩
  by_cases he : j = n
  · left; exact ⟨List.drop_eq_nil_iff.2 (by omega), by omega⟩
  · right
    refine ⟨by omega, ?_⟩
    rcases h' with ⟨rfl, rfl⟩ | ⟨h0, b, off, rfl, hc⟩
    · omega
    · refine ⟨b, off + j, ?_, hc.drop j⟩
      rw [if_neg (by omega)]
      simp [Addr.add]

theorem Bys.in {w : World} {a : Option Addr} {n c : Nat} {l : List Int} (h : Bys w a n c l) : Lib.BytesIn w a n l := by
  obtain ⟨hl, hlc, hm, hr, ⟨rfl, rfl⟩ | ⟨h0, b, off, rfl, hc⟩⟩ := h
  · exact Lib.BytesIn.nil _ _ _
  · exact fun _ => ⟨b, off, rfl, fun i hi => hc.2 i (by omega)⟩

set_option maxHeartbeats 1000000 in
theorem idx_nil (b2 : Nat) (cv : Int) (w : World) (hc2 : w.cell? ⟨b2, 0, none⟩ = some (.int .u8 cv)) : Calls Tryz.prog 126 #[.slice none 0 0, .slice (some ⟨b2, 0, none⟩) 1 1] w fun e w' => e = .returned (.int .i64 (-1)) ∧ w' = w := by
  have hn := Tryz.bytes_IndexByte_nil cv
  go_enter Tryz.func126, Tryz.ntmps126
  go_wp2_with (go_at_call 154; refine (hn _).mono ?_; rintro e w' ⟨rfl, hw⟩; obtain rfl := hw.symm)
  all_goals go_ret
  all_goals exact ⟨rfl, rfl⟩

theorem bcut {w : World} {a : Option Addr} {n c : Nat} {l : List Int} (h : Bys w a n c l) (hn : n ≤ 4611686018427387904) (hnil : a = none → n = 0 ∧ c = 0) (b2 : Nat) (cv : Int) (h0 : 0 ≤ cv) (h1 : cv ≤ 255) (hc2 : w.cell? ⟨b2, 0, none⟩ = some (.int .u8 cv)) :
    Calls Tryz.prog 101 #[.slice a n c, .slice (some ⟨b2, 0, none⟩) 1 1] w fun e w' => (∃ n1 c1 a2 n2 c2, e = .returned (.tuple #[.slice a n1 c1, .slice a2 n2 c2, .bool (inI cv l)]) ∧ Bys w' a n1 c1 (ahI cv l) ∧ Bys w' a2 n2 c2 (beI cv l) ∧ (a2 = none → n2 = 0 ∧ c2 = 0)) ∧ Below w.heap.size w w' := by
  have hl := h.1
  have hlc := h.2.1
  have hidx : Calls Tryz.prog 126 #[.slice a n c, .slice (some ⟨b2, 0, none⟩) 1 1] w fun e w' => e = .returned (.int .i64 (indexByte (bytesOf l) cv.toNat.toUInt8)) ∧ ∃ q, w' = w.drewN q := by
    match a, h, hnil with
    | none, h, hnil =>
      obtain ⟨rfl, rfl⟩ := hnil rfl
      have : l = [] := by simpa using h.1
      subst this
      exact (idx_nil b2 cv w hc2).mono fun e w' ⟨e1, e2⟩ => ⟨e1, 0, e2⟩
    | some x, h, hnil =>
      refine (Tryz.bytes_Index_one_at x n c b2 0 1 l cv w h.1 ?_ hc2).mono fun e w' ⟨e1, e2⟩ => ⟨e1, 0, e2⟩
      intro i hi
      obtain ⟨-, -, -, -, ⟨rfl, rfl⟩ | ⟨-, b, off, e, hc⟩⟩ := h
      · omega
      · cases e
        rw [show (⟨b, off, none⟩ : Addr).add i = ⟨b, off + i, none⟩ by simp [Addr.add]]
        exact hc.2 i (by omega)
  rcases cut_index cv h0 h1 l h.2.2.2.1 with ⟨e, a1, a2, a3⟩ | ⟨i, e, hi, a1, a2, a3⟩
  · rw [e] at hidx
    refine (Tryz.bytes_Cut_of a (some ⟨b2, 0, none⟩) n c 1 1 (-1) w hlc (by omega) (by omega) hn hidx).mono ?_
    rintro e' w' ⟨rfl, q, rfl⟩
    have hbq := below_drewN w q
    rw [a1, a2, a3]
    exact ⟨⟨n, c, none, 0, 0, rfl, h.below hbq, Bys.mk0 (by omega), fun _ => ⟨rfl, rfl⟩⟩, hbq⟩
  · rw [e] at hidx
    refine (Tryz.bytes_Cut_of a (some ⟨b2, 0, none⟩) n c 1 1 (i : Int) w hlc (by omega) (by omega) hn hidx).mono ?_
    rintro e' w' ⟨rfl, q, rfl⟩
    have hbq := below_drewN w q
    obtain ⟨a', hv, hb'⟩ := (h.below hbq).from (i + 1) (by omega)
    rw [a1, a2, a3]
    refine ⟨⟨i, c, a', n - (i + 1), c - (i + 1), ?_, (h.below hbq).take i (by omega), hb', ?_⟩, hbq⟩
    · unfold Lib.cutV
      rw [if_pos (by omega), Int.toNat_natCast, hv]
    · intro ha
      subst ha
      obtain ⟨-, -, -, -, ⟨-, e1⟩ | ⟨-, b, off, e1, -⟩⟩ := hb'
      · refine ⟨e1, ?_⟩
        unfold Lib.fromV at hv
        simp only [Value.slice.injEq, and_true] at hv
        split at hv
        · omega
        · cases a with
          | none => have := (hnil rfl).1; omega
          | some x => cases hv
      · cases e1

/-- without the last byte -/
def endI (c : Int) (l : List Int) : Bool := l.getLast? == some c
def trI (c : Int) (l : List Int) : List Int := if endI c l then l.dropLast else l

end Go.Proofs.YthnaanjhmehgcaaGreatDoor

/-
  THE RECORD AT THE BEGINNING OF BYTES. Conditions: how many bytes there are; what the listed variables hold.
-/
namespace Go.Proofs.YthnaanjhmehgcaaGreatDoor
open Go.ChangeShapes Go.WideShapes Go.ChangeAt Go.RowKit Go.Lib
set_option linter.unusedVariables false
set_option maxRecDepth 20000

theorem suffix_one (c : UInt8) (l : List UInt8) : hasSuffix l [c] = (l.getLast? == some c) := by
  unfold hasSuffix
  rw [Bool.eq_iff_iff, List.isSuffixOf_iff_suffix]
  constructor
  · rintro ⟨t, rfl⟩; simp
  · intro h
    have h' : l.getLast? = some c := by simpa using h
    rw [List.getLast?_eq_some_iff] at h'
    obtain ⟨t, rfl⟩ := h'
    exact ⟨t, rfl⟩

theorem end_is (c : Int) (h0 : 0 ≤ c) (h1 : c ≤ 255) (l : List Int) (hr : ∀ x ∈ l, 0 ≤ x ∧ x ≤ 255) : hasSuffix (bytesOf l) (bytesOf [c]) = endI c l := by
  have e : bytesOf [c] = [UInt8.ofNat c.toNat] := rfl
  rw [e, suffix_one]
  unfold endI bytesOf
  rw [List.getLast?_map]
  cases h : l.getLast? with
  | none => rfl
  | some x =>
    have hx := hr x (List.mem_of_getLast? h)
    rw [Bool.eq_iff_iff]
    simp only [Option.map_some, beq_iff_eq, Option.some.injEq]
    constructor
    · intro e
      have := congrArg UInt8.toNat e
      simp at this
      omega
    · rintro rfl; rfl

theorem bsuf {w : World} {a : Option Addr} {n c : Nat} {l : List Int} (h : Bys w a n c l) (b2 : Nat) (cv : Int) (h0 : 0 ≤ cv) (h1 : cv ≤ 255) (hc2 : w.cell? ⟨b2, 0, none⟩ = some (.int .u8 cv)) :
    Calls Tryz.prog 102 #[.slice a n c, .slice (some ⟨b2, 0, none⟩) 1 1] w fun e w' => (∃ n', e = .returned (.tuple #[.slice a n' c, .bool (endI cv l)]) ∧ Bys w' a n' c (trI cv l)) ∧ w' = w := by
  have hs := h
  obtain ⟨hl, hlc, hm, hr, h'⟩ := h
  have h2 : Lib.BytesIn w (some ⟨b2, 0, none⟩) 1 [cv] := fun _ => ⟨b2, 0, rfl, fun i hi => by obtain rfl : i = 0 := by omega
                                                                                              exact hc2⟩
  refine (Tryz.bytes_CutSuffix_all a (some ⟨b2, 0, none⟩) n c 1 1 l [cv] w hl rfl hlc (by omega) hs.in h2).mono ?_
  rintro e w' ⟨rfl, rfl⟩
  rw [end_is cv h0 h1 l hr]
  refine ⟨?_, rfl⟩
  unfold trI
  cases he : endI cv l
  · refine ⟨n, ?_, by simpa using hs⟩
    congr 2
    unfold Lib.trimSuffixV
    split
    · unfold Lib.bytesTrimSuffix
      rw [end_is cv h0 h1 l hr, he]; rfl
    · rfl
  · have hn : 0 < n := by
      cases l with
      | nil => simp [endI] at he
      | cons x t => simp at hl; omega
    refine ⟨n - 1, ?_, ?_⟩
    · rcases h' with ⟨rfl, rfl⟩ | ⟨_, b, off, rfl, hc⟩
      · omega
      · congr 2
        unfold Lib.trimSuffixV Lib.bytesTrimSuffix
        rw [end_is cv h0 h1 l hr, he]; rfl
    · rw [if_pos rfl, List.dropLast_eq_take, hl]
      exact hs.take (n - 1) (by omega)

/-- a block of cells -/
def Blk (w : World) (g : Nat) (cs : Array Value) (t : TypeId) : Prop := w.heap[g]? = some (.cells cs t (0, 0))
theorem Blk.lt {w : World} {g : Nat} {cs : Array Value} {t : TypeId} (h : Blk w g cs t) : g < w.heap.size := (Array.getElem?_eq_some_iff.mp h).1
theorem Blk.cell {w : World} {g : Nat} {cs : Array Value} {t : TypeId} (h : Blk w g cs t) (i : Nat) : w.cell? ⟨g, i, none⟩ = cs[i]? := Joins.cell_of_block h i
theorem Blk.free {w : World} {g : Nat} {cs : Array Value} {t : TypeId} (h : Blk w g cs t) (i : Nat) : w.frozen? ⟨g, i, none⟩ = false := Joins.unfrozen_of_block h i
theorem Blk.below {w w' : World} {g : Nat} {cs : Array Value} {t : TypeId} (h : Blk w g cs t) (hb : Below w.heap.size w w') : Blk w' g cs t := by
  have := h.lt
  unfold Blk at *
  rw [hb.block g this]; exact h
theorem Blk.new (w : World) (cs : Array Value) (t : TypeId) : Blk (w.alloc (.cells cs t)) w.heap.size cs t := by unfold Blk World.alloc; simp

theorem sep_cell (w : World) (c : Int) (k : Nat) (hk : w.heap.size = k) : (w.alloc (.cells #[.int .u8 c] 5 (1, 2))).cell? ⟨k, 0, none⟩ = some (.int .u8 c) := by
  subst hk; exact Joins.cell_alloc_mark_at w #[.int .u8 c] 5 (1, 2) w.heap.size 0 rfl
theorem conv_sep (w : World) (c : Int) (k : Nat) (hk : w.heap.size = k) : (convert 56 56 (.slice (some ⟨k, 0, none⟩) 1 1)).run Tryz.prog (w.alloc (.cells #[.int .u8 c] 5)) = .ok (.slice (some ⟨k, 0, none⟩) 1 1) (w.alloc (.cells #[.int .u8 c] 5 (1, 2))) :=
  Joins.run_convert_bytes_const_at w 56 5 #[.int .u8 c] 1 1 k hk.symm Tryz.underlying56 Tryz.underlying5

theorem bs_str (l : List Int) : bs (strOfNums l) = bytesOf l := by unfold bs strOfNums bytesOf; simp
theorem strN_size (l : List Int) : (strOfNums l).size = l.length := by rw [← bs_len, bs_str, bytesOf_length]
theorem Bys.some_of {w : World} {a : Option Addr} {n c : Nat} {l : List Int} (h : Bys w a n c l) (h0 : 0 < n) : ∃ b off, a = some ⟨b, off, none⟩ := by
  obtain ⟨_, _, _, _, ⟨_, e⟩ | ⟨_, b, off, rfl, _⟩⟩ := h
  · omega
  · exact ⟨b, off, rfl⟩

/-- the record at the beginning: its pair, and how many bytes it has -/
def frst (l : List Int) : Option (List Int × List Int × Nat) :=
  match nat63 (bytesOf (ahI 32 l)) with
  | none => none
  | some u => if u ≤ l.length then
      (if endI 10 (beI 32 (l.take u)) && (inI 61 (trI 10 (beI 32 (l.take u))) && rightP (bytesOf (ahI 61 (trI 10 (beI 32 (l.take u))))) (bytesOf (beI 61 (trI 10 (beI 32 (l.take u)))))) then some (ahI 61 (trI 10 (beI 32 (l.take u))), beI 61 (trI 10 (beI 32 (l.take u))), u) else none)
    else none

theorem ahI_len (c : Int) (l : List Int) : (ahI c l).length ≤ l.length := (List.takeWhile_sublist _).length_le
theorem beI_len (c : Int) (l : List Int) : (beI c l).length ≤ l.length := by
  unfold beI
  rw [List.length_drop]
  have := (List.dropWhile_sublist (l := l) (fun x => x != c)).length_le
  omega
theorem trI_len (c : Int) (l : List Int) : (trI c l).length ≤ l.length := by
  unfold trI
  split
  · rw [List.length_dropLast]; omega
  · exact Nat.le_refl _

theorem frst_pos {l K V : List Int} {u : Nat} (h : frst l = some (K, V, u)) : 0 < u ∧ u ≤ l.length := by
  unfold frst at h
  split at h
  · cases h
  · rename_i u' _
    split at h
    · rename_i hu
      split at h
      · rename_i hc
        simp only [Option.some.injEq, Prod.mk.injEq] at h
        obtain ⟨_, _, rfl⟩ := h
        refine ⟨?_, hu⟩
        rcases Nat.eq_zero_or_pos u' with e | e
        · subst e
          simp [beI, endI] at hc
        · exact e
      · cases h
    · cases h

set_option maxHeartbeats 4000000 in
theorem first_num {w : World} {a : Option Addr} {n c : Nat} {l : List Int} (h : Bys w a n c l) (h0 : 0 < n) (hn : n ≤ 1000000) (hL : Laid w) (hF : ¬ ∃ u, nat63 (bytesOf (ahI 32 l)) = some u ∧ u ≤ l.length) :
    Calls Tryz.prog 61 #[.slice a n c] w fun e w' => e = .returned (.tuple #[.agg #[.string ⟨#[]⟩, .string ⟨#[]⟩], .slice none 0 0, .bool false]) ∧ Below w.heap.size w w' := by
  obtain ⟨b, off, rfl⟩ := h.some_of h0
  have hb0 := (Below.refl w.heap.size w).alloc (Nat.le_refl _) (.cells #[.string ⟨#[]⟩, .string ⟨#[]⟩] 50)
  have hP := Blk.new w #[.string ⟨#[]⟩, .string ⟨#[]⟩] 50
  have hba := hb0.alloc hb0.size (.cells #[.int .u8 32] 5 (1, 2))
  have hcs := conv_sep (w.alloc (.cells #[.string ⟨#[]⟩, .string ⟨#[]⟩] 50)) 32 (w.heap.size + 1) (by simp)
  have hc1 := bcut ((h.alloc (.cells #[.string ⟨#[]⟩, .string ⟨#[]⟩] 50)).alloc (.cells #[.int .u8 32] 5 (1, 2))) (by omega) (fun e => by cases e) (w.heap.size + 1) 32 (by omega) (by omega) (sep_cell _ _ _ (by simp))
  obtain ⟨r, hr⟩ : ∃ r : Int, r = match nat63 (bytesOf (ahI 32 l)) with | some u => if u ≤ 9223372036854775807 then (u : Int) else 0 | none => 0 := ⟨_, rfl⟩
  obtain ⟨cd, hcd⟩ : ∃ c : Int, c = match nat63 (bytesOf (ahI 32 l)) with | some u => if u ≤ 9223372036854775807 then (0 : Int) else 15 | none => 15 := ⟨_, rfl⟩
  have hnum := fun w' (hb : Below w.heap.size w w') => number_ok (strOfNums (ahI 32 l)) (by rw [strN_size]; have := ahI_len 32 l; have := h.1; omega) w' (hL.below hb) r cd (by rw [bs_str]; exact hr) (by rw [bs_str]; exact hcd)
  have hbad : (cd = 15 ∧ r = 0) ∨ (cd = 0 ∧ (n : Int) < r) := by
    cases hN : nat63 (bytesOf (ahI 32 l)) with
    | none => rw [hN] at hr hcd; exact .inl ⟨hcd, hr⟩
    | some u =>
      rw [hN] at hr hcd
      simp only at hr hcd
      by_cases hu : u ≤ 9223372036854775807
      · rw [if_pos hu] at hr hcd
        right
        refine ⟨hcd, ?_⟩
        have : ¬ u ≤ l.length := fun hh => hF ⟨u, hN, hh⟩
        have := h.1
        omega
      · rw [if_neg hu] at hr hcd; exact .inl ⟨hcd, hr⟩
  clear hr hcd hF hL
  rcases hbad with ⟨rfl, rfl⟩ | ⟨rfl, hgt⟩
  all_goals
    go_enter Tryz.func61, Tryz.ntmps61
    go_wp2_with (first
      | (go_at_call 101; refine hc1.mono ?_; rintro e w1 ⟨⟨n1, c1, a2, n2, c2, rfl, hbA, hbB, hnB⟩, hb1⟩; have hacc := hba.trans (hb1.mono hba.size); have hcv := bys_string (P := Tryz.prog) Tryz.underlying56 Tryz.underlying5 Tryz.underlying9 hbA; have hP1 := (hP.below ((Below.refl _ _).alloc (Nat.le_refl _) (.cells #[.int .u8 32] 5 (1, 2)))).below hb1)
      | (go_at_call 95; refine (hnum _ hacc).mono ?_; rintro e w2 ⟨rfl, hb2⟩; replace hacc := hacc.trans (hb2.mono hacc.size); have hP2 := hP1.below hb2; have p0 := hP2.cell 0; have p1 := hP2.cell 1; have q0 := hP2.free 0; have q1 := hP2.free 1; simp at p0 p1))
    refine bodyPost_ret (v := .tuple #[.agg #[.string ⟨#[]⟩, .string ⟨#[]⟩], .slice none 0 0, .bool false]) ?_ rfl ⟨rfl, ?_⟩
    · simp [results, Tryz.results61, go_sem, p0, p1]
    · exact (hacc.setCell (by simp) _).setCell (by simp) _

end Go.Proofs.YthnaanjhmehgcaaGreatDoor
