/-
  THE DOCUMENT's RECORDS OF PAIRS. Conditions: how many pairs there are, and how many bytes their texts have.
-/
import Derived.Test.YtkocnbdakfhpaaaGreatDoorRrc
import Derived.Test.YtkocnbdakfhpaaaGreatDoorBak
import Derived.Test.YtkocnbdakfhpaaaGreatDoorPrt
namespace Go.Proofs.YtkocnbdakfhpaaaGreatDoor
open Go.ChangeShapes Go.WideShapes Go.ChangeAt Go.RowKit Go.Lib
set_option linter.unusedVariables false
set_option maxRecDepth 20000

theorem prB_drop (l : List (ByteArray × ByteArray)) (i : Nat) (k v : ByteArray) (h : l.drop i = (k, v) :: l.drop (i + 1)) : prB (l.drop i) = nums (recB k v) ++ prB (l.drop (i + 1)) := by rw [h]; simp [prB]
theorem rec_pos (k v : ByteArray) : 0 < (recB k v).size := by
  unfold recB
  rw [ByteArray.size_append, one_size]; omega

set_option maxHeartbeats 4000000 in
theorem rprint_ok {w : World} {a : Option Addr} {n c : Nat} {l : List (ByteArray × ByteArray)} (h : Pys w a n c l) (hf : Few l) :
    Calls Tryz.prog 17 #[.slice a n c] w fun e w' => ∃ a' m c', e = .returned (.slice a' m c') ∧ Bys w' a' m c' (prB l) ∧ Below w.heap.size w w' := by
  obtain ⟨i0, hi, hz0, hz1, hz2⟩ := info_parts Tryz.info5'
  obtain ⟨hl, hlc, hm, ⟨rfl, rfl⟩ | ⟨h0, b, off, rfl, hc⟩⟩ := h
  · go_enter Tryz.func17, Tryz.ntmps17
    go_wp2
    refine wp_loop_rounds 1 ?_
    rw [rounds_succ]
    go_wp2
    go_ret
    exact ⟨none, 0, 0, rfl, Bys.mk0 (by omega), Below.refl _ _⟩
  · obtain ⟨q, hq⟩ : ∃ q, q = prB l := ⟨_, rfl⟩
    rw [← hq]
    have hn1000 : n ≤ 1000 := by have := hf.1; omega
    have hl' := hid hl
    have hq' := hid hq
    have hf' := hid hf
    have hown0 := World.ownsRow_nil w w.heap.size 5 1
    clear hq hl hf
    go_enter Tryz.func17, Tryz.ntmps17
    go_wp2
    go_loopw [3, 4] (fun y x wr => ∃ (v : Value) (k : Nat) (acc : List Int), y = v ∧ x = .int .i64 k ∧ k ≤ n ∧ acc.length ≤ 2000100 * k ∧ wr.ownsRow w.heap.size 5 1 v acc.length (u8s acc) ∧ Below w.heap.size w wr ∧ Hid ((∀ z ∈ acc, 0 ≤ z ∧ z ≤ 255) ∧ q = acc ++ prB (l.drop k))) (fun _ x _ => n - (RowKit.intOf x).toNat)
    case atStart => exact ⟨_, 0, [], rfl, rfl, by omega, by simp, hown0, Below.refl _ _, hid ⟨by simp, by rw [hq'.out]; simp⟩⟩
    case round =>
      obtain ⟨v, k, acc, rfl, rfl, hk, hacc, hown, hb, hr⟩ := hrel
      have hBsz := hb.size
      by_cases hlt : k < n
      · obtain ⟨ky, vl, hmem, hd, c0, c1⟩ := (hc.below hb).at k (by rw [hl'.out]; exact hlt)
        obtain ⟨hs1, hs2⟩ := hf'.out.2 _ hmem
        simp only at hs1 hs2
        have hrc := rrecord_ok ky vl hs1 hs2 wr
        have hrs := rec_size ky vl hs1 hs2
        have hrp := rec_pos ky vl
        have hkI : (k : Int) < (n : Int) := by omega
        have E := hid (And.intro (by intro z hz; rcases List.mem_append.1 hz with hz | hz; exact hr.out.1 z hz; exact nums_range _ z hz : ∀ z ∈ acc ++ nums (recB ky vl), 0 ≤ z ∧ z ≤ 255) (by rw [hr.out.2, prB_drop l k ky vl hd.out, List.append_assoc] : q = (acc ++ nums (recB ky vl)) ++ prB (l.drop (k + 1))))
        have hnl := hid (nums_length (recB ky vl))
        generalize recB ky vl = S at *
        clear hr hd hmem
        go_wp2_with (first
          | (go_at_call 43; refine hrc.mono ?_; rintro e w2 ⟨a2, m2, c2, rfl, hby2, hb2⟩; obtain rfl : m2 = S.size := hby2.1.symm.trans hnl.out; obtain ⟨b2, o2, rfl⟩ := hby2.some_of hrp; have hnews := bys_news hby2; have hac := hb.trans (hb2.mono hb.size); have how := own_below hb2 hown)
          | (at_builtin; refine wpList_append_own (P := Tryz.prog) _ rfl (.tmp 11) (.tmp 16) 31 rfl w.heap.size 5 i0 (.int .u8 0) 1 1 Tryz.underlying31 hi hz0 hz1 hz2 rfl (by decide) _ _ _ rfl how ⟨b2, o2, none⟩ S.size c2 (u8s (nums S)) rfl (by rw [u8s_len, hnl.out]) hnews (u8s_one _) (by unfold maxLen; omega) (by omega) hac.size ?_; intro v' w3 hown' hgrow' _))
        go_roundw
        case rel => exact ⟨_, k + 1, acc ++ nums S, rfl, by go_num, by omega, by rw [List.length_append, hnl.out]; omega, by rw [u8s_app] at hown'; rw [List.length_append, hnl.out]; exact hown', hac.grown hgrow' hac.size (fun g hg => (how.lt g hg).1), E⟩
        case measure => simp [RowKit.intOf]; omega
      · obtain rfl : k = n := by omega
        have E := hid (by rw [hr.out.2, List.drop_eq_nil_iff.mpr (by rw [hl'.out]; exact Nat.le_refl _)]; simp [prB] : q = acc)
        obtain ⟨aa, cc, rfl, hby⟩ := own_bys hown rfl hr.out.1
        clear hr
        go_wp2
        go_ret
        exact ⟨aa, _, cc, rfl, by rw [E.out]; exact hby, hb⟩

end Go.Proofs.YtkocnbdakfhpaaaGreatDoor
