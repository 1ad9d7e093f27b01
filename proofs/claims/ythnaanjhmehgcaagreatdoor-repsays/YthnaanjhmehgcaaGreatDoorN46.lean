/-
  THE DOCUMENT's Wrong AND Right; item.Right. Conditions: how long the texts and lists may be; what the listed variables hold.
-/
import Derived.Test.YthnaanjhmehgcaaGreatDoorN45
namespace Go.Proofs.YthnaanjhmehgcaaGreatDoor
open Go.ChangeShapes Go.WideShapes Go.ChangeAt Go.RowKit Go.Lib
set_option linter.unusedVariables false
set_option linter.unusedSimpArgs false
set_option maxRecDepth 20000

/-- the array's answers from i on -/
theorem wrong_step (L : List Bool) (k : Nat) (hk : k < L.length) (b : Bool) (hb : L[k]? = some b) : wrongN (L.drop k) (k + 1) = if b = true then wrongN (L.drop (k + 1)) ((k + 1 : Nat) + 1) else (k + 1 : Nat) := by
  have e : L[k] = b := by rw [List.getElem?_eq_getElem hk] at hb; exact Option.some.inj hb
  rw [List.drop_eq_getElem_cons hk, e, wrongN]
  cases b
  · simp
  · simp

set_option maxHeartbeats 16000000 in
theorem rwrong_ok {w : World} {a : Option Addr} {n c : Nat} {l : PL} (h : Hd) (hp : Pys w a n c l) (hz : Sml l) (hn : n ≤ 1000) (hnl : a = none → n = 0 ∧ c = 0)
    (h1 : h.name.size ≤ 1000000) (h2 : h.link.size ≤ 1000000) (h3 : h.user.size ≤ 1000000) (h4 : h.group.size ≤ 1000000) :
    Calls Tryz.prog 11 #[.agg (h.cs (.slice a n c))] w fun e w' => e = .returned (.int .i64 (wrongH h l)) ∧ Below w.heap.size w w' := by
  have hb0 := below_alloc w (.cells (h.cs (.slice a n c)) 26)
  have hf := rfields_ok h (hp.below hb0) hz hn hnl h1 h2 h3 h4
  have hL : (fieldsR h l) = [kndR h.kind, fnameR h, flinkR h, decide (0 ≤ h.mode), decide (0 ≤ h.uid), decide (0 ≤ h.gid), numR h.size (h.kind == 1), decide (0 ≤ h.nano ∧ h.nano < 1000000000), txtR h.user, txtR h.group, numR h.major (devR h.kind), numR h.minor (devR h.kind), fextraR l] := rfl
  unfold wrongH
  generalize fieldsR h l = L at *
  generalize kndR h.kind = b1 at *
  generalize fnameR h = b2 at *
  generalize flinkR h = b3 at *
  generalize decide (0 ≤ h.mode) = b4 at *
  generalize decide (0 ≤ h.uid) = b5 at *
  generalize decide (0 ≤ h.gid) = b6 at *
  generalize numR h.size (h.kind == 1) = b7 at *
  generalize decide (0 ≤ h.nano ∧ h.nano < 1000000000) = b8 at *
  generalize txtR h.user = b9 at *
  generalize txtR h.group = b10 at *
  generalize numR h.major (devR h.kind) = b11 at *
  generalize numR h.minor (devR h.kind) = b12 at *
  generalize fextraR l = b13 at *
  have hlen : L.length = 13 := by rw [hL]; rfl
  have hget : ∀ k, k < 13 → ∃ b, L[k]? = some b ∧ (#[.bool false, .bool b1, .bool b2, .bool b3, .bool b4, .bool b5, .bool b6, .bool b7, .bool b8, .bool b9, .bool b10, .bool b11, .bool b12, .bool b13] : Array Value)[k + 1]? = some (.bool b) := by
    intro k hk
    rw [hL]
    rcases k with _ | _ | _ | _ | _ | _ | _ | _ | _ | _ | _ | _ | _ | k
    all_goals first | exact ⟨_, rfl, rfl⟩ | omega
  obtain ⟨q, hq⟩ : ∃ q, q = wrongN L 1 := ⟨_, rfl⟩
  rw [← hq]
  replace hq := hid hq
  clear hL hp hz hnl
  unfold Hd.cs at *
  go_enter Tryz.func11, Tryz.ntmps11
  go_wp2_with (go_at_call 30; refine hf.mono ?_; rintro e w1 ⟨rfl, hb1⟩)
  have hac := hb0.trans (hb1.mono (by simp))
  have hB : Blk (w1.alloc (.cells #[.bool false, .bool b1, .bool b2, .bool b3, .bool b4, .bool b5, .bool b6, .bool b7, .bool b8, .bool b9, .bool b10, .bool b11, .bool b12, .bool b13] 63)) w1.heap.size #[.bool false, .bool b1, .bool b2, .bool b3, .bool b4, .bool b5, .bool b6, .bool b7, .bool b8, .bool b9, .bool b10, .bool b11, .bool b12, .bool b13] 63 := heap_alloc_new _ _
  have hac2 := hac.trans ((below_alloc w1 (.cells #[.bool false, .bool b1, .bool b2, .bool b3, .bool b4, .bool b5, .bool b6, .bool b7, .bool b8, .bool b9, .bool b10, .bool b11, .bool b12, .bool b13] 63)).mono hac.size)
  generalize (w1.alloc (.cells #[.bool false, .bool b1, .bool b2, .bool b3, .bool b4, .bool b5, .bool b6, .bool b7, .bool b8, .bool b9, .bool b10, .bool b11, .bool b12, .bool b13] 63)) = W at *
  clear hf hb0 hb1 hac
  go_loopw [4] (fun x wr => ∃ k : Nat, x = .int .i64 (k + 1 : Nat) ∧ k ≤ 13 ∧ wr = W ∧ Hid (q = wrongN (L.drop k) (k + 1))) (fun x _ => 14 - (RowKit.intOf x).toNat)
  case atStart => exact ⟨0, rfl, by omega, rfl, hid (by rw [hq.out]; rfl)⟩
  case round =>
    obtain ⟨k, rfl, hk, rfl, hr⟩ := hrel
    by_cases hlt : k < 13
    · obtain ⟨b, hb, hc⟩ := hget k hlt
      have hcell := (hB.cell (k + 1)).trans hc
      have hst := wrong_step L k (by omega) b hb
      have hkI : ((k + 1 : Nat) : Int) < 14 := by omega
      cases b
      · have E := hid (by rw [hr.out, hst]; rfl : q = (k + 1 : Nat))
        clear hr hst hb hc hget hq
        go_wp2
        go_ret
        exact ⟨ret_int E.out.symm, hac2⟩
      · have E := hid (by rw [hr.out, hst]; rfl : q = wrongN (L.drop (k + 1)) ((k + 1 : Nat) + 1))
        clear hr hst hb hc hget hq
        go_wp2
        go_roundw
        case rel => exact ⟨k + 1, by go_num, by omega, by trivial, E⟩
        case measure => simp [RowKit.intOf]; omega
    · obtain rfl : k = 13 := by omega
      have E := hid (by rw [hr.out, List.drop_eq_nil_iff.mpr (by omega)]; rfl : q = 0)
      clear hr hq hget
      go_wp2
      go_ret
      exact ⟨ret_int E.out.symm, hac2⟩

/-- an item's cells -/
def Hd.it (h : Hd) (x y : Value) : Array Value := #[.int .i64 h.kind, .string h.name, .string h.link, .int .i64 h.mode, .int .i64 h.uid, .int .i64 h.gid, .int .i64 h.size, .int .i64 h.sec, .int .i64 h.nano, .string h.user, .string h.group, .int .i64 h.major, .int .i64 h.minor, x, y]
/-- is an item right? -/
def rightI (h : Hd) (l : PL) (m : Nat) : Bool := (wrongH h l == 0) && (h.size == (m : Int))

end Go.Proofs.YthnaanjhmehgcaaGreatDoor
