/-
  WHAT Mend GIVES, AS A FUNCTION OF THE TEXT's BYTES. No conditions but the length.
-/
import Derived.Test.YtlepgfkhgmgobaaBld
namespace Go.Proofs.Ytlepgfkhgmgobaa
open Go.Shelf Go.ChangeShapes Go.WideShapes Go.ChangeAt Go.RowKit
set_option linter.unusedVariables false

theorem iterPos_at {w : World} {k : Nat} {s : ByteArray} {p : Nat} (h : w.heap[k]? = some (.stringIter s p)) : w.iterPos k = p := by simp [World.iterPos, h]

theorem Bld.iterAt {B b : Nat} {l : List Int} {w : World} (h : Bld B b l w) {k : Nat} {s : ByteArray} {pos : Nat} (hk : w.heap[k]? = some (.stringIter s pos)) (pos' : Nat) : Bld B b l (w.iterAt k s pos') := by
  obtain ⟨p, v, hp, hB, hb, hown, hne, hnil⟩ := h
  have hkb : b ≠ k := by
    intro e1
    rw [e1, hk] at hb
    cases hb
  refine ⟨p, v, hp, hB, (Lib.iterAt_other w k b s pos' hkb).trans hb, ⟨hown.1, ?_⟩, hne, hnil⟩
  rcases hown.2 with hn | ⟨g, cap, cur, hv, hbg, hg, rest⟩
  · exact .inl hn
  · have hkg : g ≠ k := by
      intro e1
      rw [e1, hk] at hg
      cases hg
    exact .inr ⟨g, cap, cur, hv, hbg, (Lib.iterAt_other w k g s pos' hkg).trans hg, rest⟩

/-- bytes as numbers -/
def zs (l : List UInt8) : List Int := l.map fun c => (c.toNat : Int)
theorem zs_app (a b : List UInt8) : zs (a ++ b) = zs a ++ zs b := by simp [zs]
theorem zs_len (a : List UInt8) : (zs a).length = a.length := by simp [zs]
theorem zs_range (a : List UInt8) : ∀ x ∈ zs a, 0 ≤ x ∧ x ≤ 255 := by
  intro x hx
  simp only [zs, List.mem_map] at hx
  obtain ⟨c, _, rfl⟩ := hx
  have := c.toNat_lt
  omega
theorem str_zs (a : List UInt8) : strOfNums (zs a) = ⟨a.toArray⟩ := by
  unfold strOfNums zs
  rw [List.map_map]
  have : ((fun n : Int => UInt8.ofNat n.toNat) ∘ fun c : UInt8 => (c.toNat : Int)) = id := by funext c; simp
  rw [this, List.map_id]
theorem zs_rune (r : Int) : zs (Lib.encodeRune r) = Lib.encodeRuneZ r := by
  unfold zs Lib.encodeRune
  rw [List.map_map]
  conv => rhs; rw [← List.map_id (Lib.encodeRuneZ r)]
  apply List.map_congr_left
  intro x hx
  obtain ⟨h0, h1⟩ := Lib.encodeRuneZ_byte r x hx
  simp [Function.comp]
  omega

theorem rune_len (l : List UInt8) (hne : l ≠ []) : (Lib.encodeRune ((Lib.decodeL l).1 : Int)).length ≤ 3 * wd l := by
  have hw := wd_pos l
  rw [piece_rune l hne]
  split
  · rw [List.length_take]; omega
  · simp only [List.length_cons, List.length_nil]; omega

set_option maxHeartbeats 4000000 in
set_option maxRecDepth 10000 in
theorem mend_walk (s : ByteArray) (hs : s.size ≤ 10000000000000) (w : World) :
    Calls Try.prog 12 #[.string s] w fun e w' => e = .returned (.string ⟨(mendL s.data.toList).toArray⟩) ∧ Below w.heap.size w w' := by
  obtain ⟨q, hq⟩ : ∃ q, q = mendL s.data.toList := ⟨_, rfl⟩
  rw [← hq]
  have hfr := (Bld.fresh w w.heap.size (Nat.le_refl _)).alloc (.stringIter s 0)
  have hit : ((w.alloc (.cells #[.pointer none, .slice none 0 0] 36)).alloc (.stringIter s 0)).heap[w.heap.size + 1]? = some (.stringIter s 0) := by
    have := World.iter_heap (w.alloc (.cells #[.pointer none, .slice none 0 0] 36)) s 0
    simpa [World.iter] using this
  have hbl := ((Below.refl w.heap.size w).alloc (Nat.le_refl _) (.cells #[.pointer none, .slice none 0 0] 36)).alloc (by simp) (.stringIter s 0)
  go_enter Try.func12, Try.ntmps12
  go_wp2
  go_loopw [5] (fun x wr => ∃ (pos : Nat) (acc : List UInt8), pos ≤ s.size ∧ wr.heap[w.heap.size + 1]? = some (.stringIter s pos) ∧ Bld w.heap.size w.heap.size (zs acc) wr ∧ Below w.heap.size w wr ∧ acc.length ≤ 3 * pos ∧ Hid (acc ++ mendL (s.data.toList.drop pos) = q)) (fun _ wr => s.size - wr.iterPos (w.heap.size + 1))
  case atStart => exact ⟨0, [], Nat.zero_le _, hit, hfr, hbl, by simp, hid (by rw [hq]; rfl)⟩
  case round =>
    obtain ⟨pos, acc, hpos, hk, hB, hb, hacc, hp⟩ := hrel
    by_cases hlt : pos < s.size
    · have hnx : ∀ ty, (Instr.next (.pointer (some ⟨w.heap.size + 1, 0, none⟩)) true ty).run Try.prog wr = _ := fun ty => Lib.run_next_any_at wr _ s pos ty hk hlt
      have hne := drop_ne s pos hlt
      have hst := mend_step _ hne
      have hle := wd_le _ hne
      have hwp := wd_pos (s.data.toList.drop pos)
      rw [List.length_drop, bytes_len] at hle
      have hd := Lib.decodeL_drop s pos
      have hw2 : (Utf8.decode s pos).2 = wd (s.data.toList.drop pos) := by rw [← hd]; rfl
      rw [hw2] at hnx
      have hrl := rune_len _ hne
      rw [← piece_rune _ hne, List.drop_drop] at hst
      rw [hd] at hst hrl
      have hr1 := decode_le s pos
      have hr0 : (0 : Int) ≤ ((Utf8.decode s pos).1 : Int) := by omega
      have hr2 : ((Utf8.decode s pos).1 : Int) ≤ 2147483647 := by omega
      generalize hdw : wd (s.data.toList.drop pos) = d at *
      have hp' : Hid ((acc ++ Lib.encodeRune ((Utf8.decode s pos).1 : Int)) ++ mendL (s.data.toList.drop (pos + d)) = q) := hid (by rw [← hp.out, hst, List.append_assoc])
      have hB1 := hB.iterAt hk (pos + d)
      have hk1 := Lib.iterAt_heap wr _ s pos (pos + d) hk
      have hb1 := Lib.below_iterAt hb (Nat.le_succ _) s (pos + d)
      have hs1 := hb1.size
      have hip := iterPos_at hk
      clear hst hq hp hd hne hw2 hB hb hk hfr hit hbl hdw
      go_wp2_with (go_at_call 18; refine (wrune _ hr0 hr2 hB1 (by rw [zs_len]; omega) hs1).mono ?_; rintro e w2 ⟨⟨nn, rfl⟩, hB2, hb2, hok2⟩)
      have hk2 := hok2.iter hk1 (by omega)
      rw [← zs_rune, ← zs_app] at hB2
      go_roundw
      case rel => exact ⟨pos + d, _, by omega, hk2, hB2, hb1.trans hb2, by rw [List.length_append]; omega, hp'⟩
      case measure => rw [hip, iterPos_at hk2]; omega
    · have hnx : ∀ ty, (Instr.next (.pointer (some ⟨w.heap.size + 1, 0, none⟩)) true ty).run Try.prog wr = _ := fun ty => Lib.run_next_end_at wr _ s pos ty hk hlt
      have hq' : Hid (q = acc) := hid (by rw [← hp.out, List.drop_eq_nil_iff.2 (by rw [bytes_len]; omega), mend_nil, List.append_nil])
      clear hq hp hfr hit hbl
      go_wp2_with (go_at_call 19; refine (bstring hB (zs_range _)).mono ?_; rintro e w1 ⟨rfl, hb1⟩)
      go_ret
      exact ⟨ret_string (by rw [str_zs, hq'.out]), hb.trans hb1⟩

end Go.Proofs.Ytlepgfkhgmgobaa
