/-
  WHAT IS PUT, AND WHAT WAS MADE OF IT: the writer and the bytes of all that was put, beside each other; pieces that are put one behind the other. Conditions: how many bytes there are.
-/
import Derived.Test.YtlpkhaegfghdkaaKx
namespace Go.Proofs.Ytlpkhaegfghdkaa
open Go.ChangeShapes Go.WideShapes Go.ChangeAt Go.RowKit Go.Lib Go.Deep
set_option linter.unusedVariables false
set_option linter.unusedSimpArgs false
set_option maxRecDepth 20000

theorem app_p {w : World} {ty : TypeId} {R R' : Nat → Prop} {v u : Value} {xs news : List Value} (h : Kp w v xs R) (hu : Rng w u news R') (h63 : xs.length + news.length ≤ 1000000000) :
    ∃ v' w', (Builtin.append_ #[22, 22] ty #[v, u]).run Try.prog w = .ok v' w' ∧ Kp w' v' (xs ++ news) (fun k => R k ∨ w.heap.size ≤ k) ∧ Nr R w w' := by
  have info_p : (Try.prog.info? 27).map (fun i => (i.zero, i.size, i.bytes)) = some (some (.slice none 0 0), 1, 24) := by kernel_rfl
  obtain ⟨i0, hi, hz0, hz1, hz2⟩ := info_parts info_p
  exact run_append_kp Try.underlying22 hi hz0 hz1 hz2 rfl h hu (by unfold maxLen; omega) (by omega)

theorem make_b (n : Nat) (hn : n ≤ 1000000) : ∃ M : Array Value, M.toList = u8s (zer n) ∧ ∀ w, (Instr.makeSlice 27 (.int .i64 n) (.int .i64 n)).run Try.prog w = .ok (.slice (some ⟨w.heap.size, 0, none⟩) n n) (w.alloc (.cells M 5)) := by
  obtain ⟨i0, hi, hz0, hz1, hz2⟩ := info_parts info_b
  refine ⟨madeCells (Value.int .u8 0).cells n, madeBytes' n, fun w => ?_⟩
  have h := run_make (P := Try.prog) w 27 5 i0 _ Try.underlying27 hi hz0 .i64 .i64 n n (by omega) (by omega) (by rw [hz2]; omega) (by omega)
  rw [hz1] at h
  simpa using h

/-- the writer p into the sink s that has T; beside it in v the bytes A of all that was put -/
def St (w : World) (p s : Nat) (room : Int) (T A : List Int) (f : Int) (c : Nat) (v : Value) (X : Nat → Prop) : Prop :=
  ∃ R Ra, Wk w p s room T f c R ∧ Kp w v (u8s A) Ra ∧ (∀ k, R k → X k ∧ ¬ Ra k ∧ k < w.heap.size) ∧ (∀ k, Ra k → X k ∧ k < w.heap.size)

theorem St.nr {S X : Nat → Prop} {w w' : World} {p s : Nat} {room f : Int} {c : Nat} {T A : List Int} {v : Value} (h : St w p s room T A f c v X) (hn : Nr S w w') (hd : ∀ k, X k → ¬ S k) : St w' p s room T A f c v X := by
  obtain ⟨R, Ra, h1, h2, h3, h4⟩ := h
  have := hn.size
  exact ⟨R, Ra, h1.nr hn (fun k hk => hd k (h3 k hk).1), h2.nr hn (fun k hk => hd k (h4 k hk).1), fun k hk => ⟨(h3 k hk).1, (h3 k hk).2.1, by have := (h3 k hk).2.2; omega⟩, fun k hk => ⟨(h4 k hk).1, by have := (h4 k hk).2; omega⟩⟩
theorem St.below {X : Nat → Prop} {w w' : World} {p s : Nat} {room f : Int} {c : Nat} {T A : List Int} {v : Value} (h : St w p s room T A f c v X) (hb : Below w.heap.size w w') : St w' p s room T A f c v X := h.nr (S := No) (Nr.of_below hb) (fun _ _ h => h)
theorem St.mono {X X' : Nat → Prop} {w : World} {p s : Nat} {room f : Int} {c : Nat} {T A : List Int} {v : Value} (h : St w p s room T A f c v X) (hd : ∀ k, k < w.heap.size → X k → X' k) : St w p s room T A f c v X' := by
  obtain ⟨R, Ra, h1, h2, h3, h4⟩ := h
  exact ⟨R, Ra, h1, h2, fun k hk => ⟨hd k (h3 k hk).2.2 (h3 k hk).1, (h3 k hk).2⟩, fun k hk => ⟨hd k (h4 k hk).2 (h4 k hk).1, (h4 k hk).2⟩⟩
theorem St.shape {X : Nat → Prop} {w : World} {p s : Nat} {room f : Int} {c : Nat} {T A : List Int} {v : Value} (h : St w p s room T A f c v X) : ∃ a vc, v = .slice a A.length vc := by
  obtain ⟨R, Ra, h1, h2, h3, h4⟩ := h
  obtain ⟨a, vc, e, -⟩ := h2.rng.shape
  rw [u8s_len'] at e
  exact ⟨a, vc, e⟩
theorem St.rng {X : Nat → Prop} {w : World} {p s : Nat} {room f : Int} {c : Nat} {T A : List Int} {v : Value} (h : St w p s room T A f c v X) : Rng w v (u8s A) X := by
  obtain ⟨R, Ra, h1, h2, h3, h4⟩ := h
  exact h2.rng.mono (fun k _ hk => (h4 k hk).1)
theorem St.sk {X : Nat → Prop} {w : World} {p s : Nat} {room f : Int} {c : Nat} {T A : List Int} {v : Value} (h : St w p s room T A f c v X) : Sk w s room T X := by
  obtain ⟨R, Ra, h1, h2, h3, h4⟩ := h
  exact h1.sk.mono (fun k _ hk => (h3 k hk).1)

theorem st_put {X R' : Nat → Prop} {w : World} {p s : Nat} {room : Int} {c : Nat} {T A L : List Int} {v u : Value} (h : St w p s room T A 0 c v X) (hv : Rng w u (u8s L) R') (hT : T.length ≤ 100000000) (hL : L.length ≤ 100000000) (hc : c ≤ 1000000000000) (hr : room < 0 ∨ (T.length : Int) ≤ room) (hr2 : room ≤ 9223372036854775807) :
    Calls Try.prog 15 #[.pointer (some ⟨p, 0, none⟩), u] w fun e w' =>
      e = .returned (.int .u8 (takeC (fitN room T.length L.length) L.length)) ∧
      St w' p s room (T ++ L.take (fitN room T.length L.length)) A (takeC (fitN room T.length L.length) L.length) (cntN c (fitN room T.length L.length) L.length) v (fun k => X k ∨ w.heap.size ≤ k) ∧ Nr X w w' := by
  obtain ⟨R, Ra, h1, h2, h3, h4⟩ := h
  refine (put_ok h1 hv hT hL hc hr hr2).mono ?_
  rintro e w' ⟨rfl, k1, k2⟩
  have hs := k2.size
  refine ⟨rfl, ⟨fun k => (R k ∨ w.heap.size ≤ k) ∧ k < w'.heap.size, Ra, ?_, h2.nr k2 (fun k hk hk' => (h3 k hk').2.1 hk), ?_, fun k hk => ⟨.inl (h4 k hk).1, by have := (h4 k hk).2; omega⟩⟩, k2.mono (fun k hk => (h3 k hk).1)⟩
  · obtain ⟨Rs, q1, q2, q3, q4⟩ := k1
    exact ⟨fun k => Rs k ∧ k < w'.heap.size, ⟨q1, q2.lt⟩, q2, q3.mono (fun k hk h => ⟨h, hk⟩), fun k hk => ⟨⟨(q4 k hk.1).1, hk.2⟩, (q4 k hk.1).2⟩⟩
  · rintro k ⟨hk | hk, hl⟩
    · exact ⟨.inl (h3 k hk).1, (h3 k hk).2.1, hl⟩
    · exact ⟨.inr hk, fun h => by have := (h4 k h).2; omega, hl⟩

theorem st_pad {X : Nat → Prop} {w : World} {p s : Nat} {room : Int} {c : Nat} {T A : List Int} {v : Value} (h : St w p s room T A 0 c v X) (hT : T.length ≤ 100000000) (hc : c ≤ 1000000000000) (hr : room < 0 ∨ (T.length : Int) ≤ room) (hr2 : room ≤ 9223372036854775807) :
    Calls Try.prog 16 #[.pointer (some ⟨p, 0, none⟩)] w fun e w' =>
      e = .returned (.int .u8 (takeC (fitN room T.length (restN c)) (restN c))) ∧
      St w' p s room (T ++ (zer (restN c)).take (fitN room T.length (restN c))) A (takeC (fitN room T.length (restN c)) (restN c)) (cntN c (fitN room T.length (restN c)) (restN c)) v (fun k => X k ∨ w.heap.size ≤ k) ∧ Nr X w w' := by
  obtain ⟨R, Ra, h1, h2, h3, h4⟩ := h
  refine (pad_ok h1 hT hc hr hr2).mono ?_
  rintro e w' ⟨rfl, k1, k2⟩
  have hs := k2.size
  refine ⟨rfl, ⟨fun k => (R k ∨ w.heap.size ≤ k) ∧ k < w'.heap.size, Ra, ?_, h2.nr k2 (fun k hk hk' => (h3 k hk').2.1 hk), ?_, fun k hk => ⟨.inl (h4 k hk).1, by have := (h4 k hk).2; omega⟩⟩, k2.mono (fun k hk => (h3 k hk).1)⟩
  · obtain ⟨Rs, q1, q2, q3, q4⟩ := k1
    exact ⟨fun k => Rs k ∧ k < w'.heap.size, ⟨q1, q2.lt⟩, q2, q3.mono (fun k hk h => ⟨h, hk⟩), fun k hk => ⟨⟨(q4 k hk.1).1, hk.2⟩, (q4 k hk.1).2⟩⟩
  · rintro k ⟨hk | hk, hl⟩
    · exact ⟨.inl (h3 k hk).1, (h3 k hk).2.1, hl⟩
    · exact ⟨.inr hk, fun h => by have := (h4 k h).2; omega, hl⟩

theorem st_app {X R' : Nat → Prop} {w : World} {ty : TypeId} {p s : Nat} {room f : Int} {c : Nat} {T A L : List Int} {v u : Value} (h : St w p s room T A f c v X) (hu : Rng w u (u8s L) R') (hA : A.length ≤ 100000000) (hL : L.length ≤ 100000000) :
    ∃ v' w', (Builtin.append_ #[27, 27] ty #[v, u]).run Try.prog w = .ok v' w' ∧ St w' p s room T (A ++ L) f c v' (fun k => X k ∨ w.heap.size ≤ k) ∧ Nr X w w' := by
  obtain ⟨R, Ra, h1, h2, h3, h4⟩ := h
  obtain ⟨v', w', e1, e2, e3⟩ := app_b (ty := ty) h2 hu (by rw [u8s_len', u8s_len']; omega)
  have hs := e3.size
  rw [u8s_app] at e2
  refine ⟨v', w', e1, ⟨R, fun k => (Ra k ∨ w.heap.size ≤ k) ∧ k < w'.heap.size, h1.nr e3 (fun k hk => (h3 k hk).2.1), e2.mono (fun k hk h => ⟨h, hk⟩), fun k hk => ⟨.inl (h3 k hk).1, ?_, by have := (h3 k hk).2.2; omega⟩, ?_⟩, e3.mono (fun k hk => (h4 k hk).1)⟩
  · rintro ⟨hk' | hk', -⟩
    · exact (h3 k hk).2.1 hk'
    · have := (h3 k hk).2.2; omega
  · rintro k ⟨hk | hk, hl⟩
    · exact ⟨.inl (h4 k hk).1, hl⟩
    · exact ⟨.inr hk, hl⟩

theorem st_told {X : Nat → Prop} {w : World} {p s : Nat} {room f : Int} {c : Nat} {T A : List Int} {v : Value} (h : St w p s room T A f c v X) (hf : f ≠ 0) (a : Option Addr) (n c' : Nat) : Calls Try.prog 15 #[.pointer (some ⟨p, 0, none⟩), .slice a n c'] w fun e w' => w' = w ∧ e = .returned (.int .u8 f) := by
  obtain ⟨R, Ra, h1, h2, h3, h4⟩ := h
  exact put_told h1 hf a n c'
theorem st_padtold {X : Nat → Prop} {w : World} {p s : Nat} {room f : Int} {c : Nat} {T A : List Int} {v : Value} (h : St w p s room T A f c v X) (hf : f ≠ 0) (hc : c ≤ 1000000000000) : Calls Try.prog 16 #[.pointer (some ⟨p, 0, none⟩)] w fun e w' => e = .returned (.int .u8 f) ∧ Below w.heap.size w w' := by
  obtain ⟨R, Ra, h1, h2, h3, h4⟩ := h
  exact pad_told h1 hf hc
theorem st_count {X : Nat → Prop} {w : World} {p s : Nat} {room f : Int} {c : Nat} {T A : List Int} {v : Value} (h : St w p s room T A f c v X) : Calls Try.prog 17 #[.pointer (some ⟨p, 0, none⟩)] w fun e w' => w' = w ∧ e = .returned (.int .i64 c) := by
  obtain ⟨R, Ra, h1, h2, h3, h4⟩ := h
  exact count_ok h1

/-- what is said of a writer behind A: whether it has failed -/
def Fl (room : Int) (T A : List Int) (f : Int) (c : Nat) (fl : Bool) : Prop :=
  T = tkN room A ∧ (fl = false → f = 0 ∧ c = A.length ∧ T = A) ∧ (fl = true → f = 14 ∧ c ≤ A.length)

theorem Fl.start (room : Int) : Fl room [] [] 0 0 false := by
  refine ⟨?_, fun _ => ⟨rfl, rfl, rfl⟩, fun h => by cases h⟩
  unfold tkN; split <;> simp

/-- more is put: it fits, or it doesn't -/
theorem Fl.fits {room : Int} {T A L : List Int} {f : Int} {c : Nat} (h : Fl room T A f c false) (hN : ¬ fitN room T.length L.length < L.length) :
    fitN room T.length L.length = L.length ∧ Fl room (T ++ L.take (fitN room T.length L.length)) (A ++ L) (takeC (fitN room T.length L.length) L.length) (cntN c (fitN room T.length L.length) L.length) false ∧
    takeC (fitN room T.length L.length) L.length = 0 ∧ cntN c (fitN room T.length L.length) L.length = (A ++ L).length ∧ (tkN room (A ++ L)).length = (A ++ L).length := by
  obtain ⟨h1, h2, -⟩ := h
  obtain ⟨rfl, rfl, hTA⟩ := h2 rfl
  have hle := fitN_le room T.length L.length
  have e : fitN room T.length L.length = L.length := by omega
  have ht := tkN_app room A L
  rw [← h1, e] at ht
  rw [e, List.take_length] at *
  have e1 : takeC L.length L.length = 0 := by unfold takeC; rw [if_neg (by omega)]
  have e2 : cntN A.length L.length L.length = (A ++ L).length := by unfold cntN; rw [if_neg (by omega), List.length_append]
  rw [e1, e2]
  exact ⟨rfl, ⟨ht.symm, fun _ => ⟨rfl, rfl, by rw [hTA]⟩, fun h => by cases h⟩, rfl, rfl, by rw [ht, hTA]⟩
theorem Fl.fails {room : Int} {T A L : List Int} {f : Int} {c : Nat} (h : Fl room T A f c false) (hN : fitN room T.length L.length < L.length) :
    Fl room (T ++ L.take (fitN room T.length L.length)) (A ++ L) (takeC (fitN room T.length L.length) L.length) (cntN c (fitN room T.length L.length) L.length) true ∧
    takeC (fitN room T.length L.length) L.length = 14 ∧ (tkN room (A ++ L)).length < (A ++ L).length := by
  obtain ⟨h1, h2, -⟩ := h
  obtain ⟨rfl, rfl, hTA⟩ := h2 rfl
  have ht := tkN_app room A L
  rw [← h1] at ht
  have e1 : takeC (fitN room T.length L.length) L.length = 14 := by unfold takeC; rw [if_pos hN]
  have e2 : cntN A.length (fitN room T.length L.length) L.length = A.length := by unfold cntN; rw [if_pos hN]
  rw [e1, e2]
  refine ⟨⟨ht.symm, (fun h => by cases h), fun _ => ⟨rfl, by rw [List.length_append]; omega⟩⟩, rfl, ?_⟩
  rw [ht, List.length_append, List.length_append, List.length_take, hTA]
  rw [hTA] at hN
  omega

theorem Fl.le {room : Int} {T A : List Int} {f : Int} {c : Nat} {fl : Bool} (h : Fl room T A f c fl) : T.length ≤ A.length ∧ c ≤ A.length ∧ (room < 0 ∨ (T.length : Int) ≤ room) := by
  obtain ⟨h1, h2, h3⟩ := h
  refine ⟨by rw [h1]; exact tkN_len _ _, ?_, by rw [h1]; exact tkN_le _ _⟩
  cases fl with
  | false => have := (h2 rfl).2.1; omega
  | true => exact (h3 rfl).2

/-- pieces M in memory, out of the way of X -/
def More (w : World) (v : Value) (M : List (List Int)) (X : Nat → Prop) : Prop :=
  ∃ g off vc, v = .slice (some ⟨g, off, none⟩) M.length vc ∧ M.length ≤ vc ∧ vc ≤ 9223372036854775807 ∧ ¬ X g ∧
    ∀ j, j < M.length → ∃ u uc, w.cell? ⟨g, off + j, none⟩ = some (.slice u (M.getD j []).length uc) ∧ Rng w (.slice u (M.getD j []).length uc) (u8s (M.getD j [])) (fun k => ¬ X k)

theorem More.nr {X : Nat → Prop} {w w' : World} {v : Value} {M : List (List Int)} (h : More w v M X) (hn : Nr X w w') : More w' v M X := by
  obtain ⟨g, off, vc, rfl, h1, h2, h3, h4⟩ := h
  refine ⟨g, off, vc, rfl, h1, h2, h3, fun j hj => ?_⟩
  obtain ⟨u, uc, k1, k2⟩ := h4 j hj
  exact ⟨u, uc, hn.cell h3 k1, k2.nr hn (fun k hk h => hk h)⟩

end Go.Proofs.Ytlpkhaegfghdkaa
