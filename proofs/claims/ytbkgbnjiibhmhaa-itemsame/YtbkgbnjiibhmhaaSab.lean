/-
  WHETHER HEADS ARE THE SAME: the document's SameHead. No condition.
-/
import Derived.Test.YtbkgbnjiibhmhaaSam
namespace Go.Proofs.Ytbkgbnjiibhmhaa
open Go.ChangeShapes Go.WideShapes Go.ChangeAt Go.RowKit Go.Lib
set_option linter.unusedVariables false
set_option linter.unusedSimpArgs false
set_option maxRecDepth 20000

set_option maxHeartbeats 16000000 in
theorem rsamehead_ok {w : World} {a1 a2 : Option Addr} {n1 c1 n2 c2 : Nat} {l1 l2 : List (ByteArray × ByteArray)} (h1 h2 : Hd) (hp1 : Pys w a1 n1 c1 l1) (hp2 : Pys w a2 n2 c2 l2) :
    Calls Try.prog 12 #[.agg (h1.cs (.slice a1 n1 c1)), .agg (h2.cs (.slice a2 n2 c2))] w fun e w' => e = .returned (.bool (eqH h1 h2 && decide (l1 = l2))) ∧ Below w.heap.size w w' := by
  have hb0 := (Below.refl w.heap.size w).alloc (Nat.le_refl _) (.cells (h1.cs (.slice a1 n1 c1)) 26)
  have hb1 := hb0.alloc hb0.size (.cells (h2.cs (.slice a2 n2 c2)) 26)
  have hsm := same_ok (hp1.below hb1) (hp2.below hb1)
  have ht := fun w : World => time_eq w h1.sec h1.nano h2.sec h2.nano
  generalize hq : (eqH h1 h2 && decide (l1 = l2)) = q
  replace hq := hid hq
  unfold Hd.cs at hb0 hb1 hsm ⊢
  clear hp1 hp2
  generalize decide (l1 = l2) = bp at *
  clear hb0
  replace hb1 := hid hb1
  replace hsm := hid hsm
  cases f0 : (h1.kind == h2.kind)
  · go_enter Try.func12, Try.ntmps12
    go_wp2
    go_ret
    exact ⟨ret_bool (by rw [← hq.out]; unfold eqH; simp [f0]), hb1.out⟩
  · cases f1 : (h1.name.toList == h2.name.toList)
    · go_enter Try.func12, Try.ntmps12
      go_wp2
      go_ret
      exact ⟨ret_bool (by rw [← hq.out]; unfold eqH; simp [f0, f1]), hb1.out⟩
    · cases f2 : (h1.link.toList == h2.link.toList)
      · go_enter Try.func12, Try.ntmps12
        go_wp2
        go_ret
        exact ⟨ret_bool (by rw [← hq.out]; unfold eqH; simp [f0, f1, f2]), hb1.out⟩
      · cases f3 : (h1.mode == h2.mode)
        · go_enter Try.func12, Try.ntmps12
          go_wp2
          go_ret
          exact ⟨ret_bool (by rw [← hq.out]; unfold eqH; simp [f0, f1, f2, f3]), hb1.out⟩
        · cases f4 : (h1.uid == h2.uid)
          · go_enter Try.func12, Try.ntmps12
            go_wp2
            go_ret
            exact ⟨ret_bool (by rw [← hq.out]; unfold eqH; simp [f0, f1, f2, f3, f4]), hb1.out⟩
          · cases f5 : (h1.gid == h2.gid)
            · go_enter Try.func12, Try.ntmps12
              go_wp2
              go_ret
              exact ⟨ret_bool (by rw [← hq.out]; unfold eqH; simp [f0, f1, f2, f3, f4, f5]), hb1.out⟩
            · cases f6 : (h1.size == h2.size)
              · go_enter Try.func12, Try.ntmps12
                go_wp2
                go_ret
                exact ⟨ret_bool (by rw [← hq.out]; unfold eqH; simp [f0, f1, f2, f3, f4, f5, f6]), hb1.out⟩
              · cases f7 : decide (h1.sec = h2.sec ∧ h1.nano = h2.nano)
                · rw [f7] at ht
                  go_enter Try.func12, Try.ntmps12
                  go_wp2
                  go_ret
                  exact ⟨ret_bool (by rw [← hq.out]; unfold eqH; simp [f0, f1, f2, f3, f4, f5, f6, f7]), hb1.out⟩
                · rw [f7] at ht
                  cases f8 : (h1.user.toList == h2.user.toList)
                  · go_enter Try.func12, Try.ntmps12
                    go_wp2
                    go_ret
                    exact ⟨ret_bool (by rw [← hq.out]; unfold eqH; simp [f0, f1, f2, f3, f4, f5, f6, f7, f8]), hb1.out⟩
                  · cases f9 : (h1.group.toList == h2.group.toList)
                    · go_enter Try.func12, Try.ntmps12
                      go_wp2
                      go_ret
                      exact ⟨ret_bool (by rw [← hq.out]; unfold eqH; simp [f0, f1, f2, f3, f4, f5, f6, f7, f8, f9]), hb1.out⟩
                    · cases f10 : (h1.major == h2.major)
                      · go_enter Try.func12, Try.ntmps12
                        go_wp2
                        go_ret
                        exact ⟨ret_bool (by rw [← hq.out]; unfold eqH; simp [f0, f1, f2, f3, f4, f5, f6, f7, f8, f9, f10]), hb1.out⟩
                      · cases f11 : (h1.minor == h2.minor)
                        · go_enter Try.func12, Try.ntmps12
                          go_wp2
                          go_ret
                          exact ⟨ret_bool (by rw [← hq.out]; unfold eqH; simp [f0, f1, f2, f3, f4, f5, f6, f7, f8, f9, f10, f11]), hb1.out⟩
                        · go_enter Try.func12, Try.ntmps12
                          go_wp2_with (go_at_call 14; refine hsm.out.mono ?_; rintro e w1 ⟨rfl, hw1⟩)
                          go_ret
                          exact ⟨ret_bool (by rw [← hq.out]; unfold eqH; simp [f0, f1, f2, f3, f4, f5, f6, f7, f8, f9, f10, f11]), hb1.out.trans (hw1.mono hb1.out.size)⟩

end Go.Proofs.Ytbkgbnjiibhmhaa
