/-
  WHAT A RIGHT HEAD's RECORDS SAY OF IT. Nothing of the program. No condition.; AND WHAT FOLLOWS OF IT. Conditions: those that each part names.
-/
import Derived.Test.YthnaanjhmehgcaaGreatDoorM51
import Derived.Test.YthnaanjhmehgcaaGreatDoorM53
import Derived.Test.YthnaanjhmehgcaaGreatDoorN46
import Derived.Test.YthnaanjhmehgcaaGreatDoorN47
import Derived.Laws.Tables
/-
  WHAT A RIGHT HEAD's RECORDS SAY OF IT. Nothing of the program. No condition.
-/
namespace Go.Proofs.YthnaanjhmehgcaaGreatDoor
open Go.ChangeShapes Go.WideShapes Go.ChangeAt Go.RowKit Go.Lib
set_option linter.unusedVariables false
set_option linter.unusedSimpArgs false
set_option maxRecDepth 20000

theorem appE_is : ∀ (R e : PL), appE R e = e ++ R.filter (fun p => decide (whichK (bs p.1) = -1))
  | [], e => by simp [appE]
  | p :: t, e => by
    rw [appE, appE_is t, List.filter_cons]
    unfold sayE
    by_cases h : whichK (bs p.1) = -1
    · rw [if_pos h, if_pos (by simp [h])]; simp
    · rw [if_neg h, if_neg (by simp [h])]

theorem getK_mem : ∀ (l : PL) (k v : ByteArray), getK l k = some v → (k, v) ∈ l
  | [], k, v, h => by cases h
  | q :: t, k, v, h => by
    rw [getK] at h
    split at h
    · rename_i e; cases h; rw [← e]; exact List.mem_cons_self ..
    · exact List.mem_cons_of_mem _ (getK_mem t k v h)
theorem mem_getK : ∀ (l : PL) (k v : ByteArray), Dst l → (k, v) ∈ l → getK l k = some v
  | [], k, v, _, h => by cases h
  | q :: t, k, v, hd, h => by
    obtain ⟨h1, h2⟩ := List.pairwise_cons.1 hd
    rw [getK]
    rcases List.mem_cons.1 h with e | e
    · subst e; simp
    · rw [if_neg (fun e' => h1 _ e e'), mem_getK t k v h2 e]

/-- the records are the fields' records and the pairs, in order -/
theorem recA_mem {h : Hd} {l : PL} (e : wrongH h l = 0) (hI : I64 h) (p : ByteArray × ByteArray) : p ∈ recA h l ↔ p ∈ recsOf h l.length fldsA ++ l := by
  obtain ⟨-, -, -, -, -, -, -, ⟨hs, hf, hr⟩, hun⟩ := right_facts e
  have hd := recs_dst h l.length hs hun
  have hful : Ful (recsOf h l.length fldsA ++ l) := fun q hq => by
    rcases List.mem_append.1 hq with h1 | h1
    · obtain ⟨f, hfm, hc, rfl⟩ := recs_mem h1
      have := valF_size e hI _ f hfm hc
      show (valF h f).size ≠ 0
      omega
    · exact hf q h1
  constructor
  · intro hp
    rcases layL_mem _ _ p hp with h1 | h1
    · cases h1
    · exact h1
  · intro hp
    have h1 := dst_last _ p.1 p.2 hd hp
    have h2 := get_layL (recsOf h l.length fldsA ++ l) [] p.1 Srt.nil
    rw [h1] at h2
    simp only [if_neg (hful p hp)] at h2
    exact getK_mem _ _ _ h2

theorem known_which (k : List UInt8) : whichK k = -1 ↔ kindK k = 0 := by
  rcases which_kind k with h | h | h | h
  · exact ⟨fun _ => h.2, fun _ => h.1⟩
  · exact ⟨fun e => by omega, fun e => by omega⟩
  · exact ⟨fun e => by omega, fun e => by omega⟩
  · exact ⟨fun e => by omega, fun e => by omega⟩

/-- the records that are of no field are the pairs -/
theorem recA_rest {h : Hd} {l : PL} (e : wrongH h l = 0) (hI : I64 h) : appE (recA h l) [] = l := by
  obtain ⟨-, -, -, -, -, -, -, ⟨hs, hf, hr⟩, hun⟩ := right_facts e
  have hS : Srt (recA h l) := layL_srt _ _ Srt.nil
  rw [appE_is, List.nil_append]
  have hF : Srt ((recA h l).filter (fun p => decide (whichK (bs p.1) = -1))) := List.Pairwise.sublist List.filter_sublist hS
  have hm : ∀ p, p ∈ (recA h l).filter (fun p => decide (whichK (bs p.1) = -1)) ↔ p ∈ l := fun p => by
    rw [List.mem_filter, recA_mem e hI, decide_eq_true_eq, known_which, List.mem_append]
    constructor
    · rintro ⟨h1 | h1, h2⟩
      · obtain ⟨f, hfm, hc, rfl⟩ := recs_mem h1
        exact absurd h2 (keyF_known f hfm)
      · exact h1
    · intro h1
      exact ⟨.inr h1, anyK_mem l hun p h1⟩
  refine srt_ext _ _ hF hs fun k => ?_
  apply Option.ext
  intro v
  constructor
  · intro hv; exact mem_getK _ _ _ hs.dst ((hm _).1 (getK_mem _ _ _ hv))
  · intro hv; exact mem_getK _ _ _ hF.dst ((hm _).2 (getK_mem _ _ _ hv))

/-- the record of a field -/
theorem recA_key {h : Hd} {l : PL} (e : wrongH h l = 0) (hI : I64 h) (f : Int) (hf : f ∈ fldsA) : lastK (recA h l) (keyF f) = if canN 2 h l.length f = false then some (valF h f) else none := by
  obtain ⟨-, -, -, -, -, -, -, -, hun⟩ := right_facts e
  have hS : Srt (recA h l) := layL_srt _ _ Srt.nil
  have hm : ∀ v, (keyF f, v) ∈ recA h l ↔ canN 2 h l.length f = false ∧ v = valF h f := fun v => by
    rw [recA_mem e hI, List.mem_append]
    constructor
    · rintro (h1 | h1)
      · obtain ⟨g, hg, hc, he⟩ := recs_mem h1
        have h2 := congrArg Prod.fst he
        have h3 := congrArg Prod.snd he
        simp only at h2 h3
        have : f = g := Classical.byContradiction fun hne => by
          have hp := keyF_dst
          rcases List.Pairwise.forall_of_forall_of_flip (R := fun a b => a = b ∨ keyF a ≠ keyF b) (fun x _ => .inl rfl) (hp.imp fun h => .inr h) (hp.imp fun h => .inr fun q => h q.symm) hf hg with q | q
          · exact hne q
          · exact q h2
        subst this
        exact ⟨hc, h3⟩
      · exact absurd (anyK_mem l hun _ h1) (keyF_known f hf)
    · rintro ⟨h1, rfl⟩
      refine .inl (List.mem_map.2 ⟨f, List.mem_filter.2 ⟨hf, by simp [h1]⟩, rfl⟩)
  cases hc : canN 2 h l.length f
  · rw [if_pos rfl]
    exact dst_last _ _ _ hS.dst ((hm _).2 ⟨hc, rfl⟩)
  · rw [if_neg (by simp)]
    cases hv : lastK (recA h l) (keyF f) with
    | none => rfl
    | some v =>
      have := (hm v).1 (last_mem _ _ _ hv)
      rw [hc] at this
      exact absurd this.1 (by simp)

/-- what pairs say of a field -/
def lastW (i : Int) : PL → Option ByteArray
  | [] => none
  | p :: t => (lastW i t).or (if whichK (bs p.1) = i then some p.2 else none)
theorem or_get {α β : Type} (o : Option α) (b : α) (g : α → β) (c : β) : ((o.or (some b)).map g).getD c = (o.map g).getD (g b) := by cases o <;> rfl
theorem or_get0 {α : Type} (o : Option α) (b c : α) : (o.or (some b)).getD c = o.getD b := by cases o <;> rfl
theorem which_all (k : List UInt8) : whichK k = -1 ∨ whichK k = 0 ∨ whichK k = 1 ∨ whichK k = 2 ∨ whichK k = 3 ∨ whichK k = 4 ∨ whichK k = 5 ∨ whichK k = 6 ∨ whichK k = 7 := by
  unfold whichK
  repeat' split
  all_goals simp
theorem appH_is : ∀ (R : PL) (x : Hd), appH R x = { x with name := (lastW 0 R).getD x.name, link := (lastW 1 R).getD x.link, user := (lastW 2 R).getD x.user, group := (lastW 3 R).getD x.group, uid := ((lastW 4 R).map fun v => numL (bs v)).getD x.uid, gid := ((lastW 5 R).map fun v => numL (bs v)).getD x.gid, size := ((lastW 6 R).map fun v => numL (bs v)).getD x.size, sec := ((lastW 7 R).map fun v => timA (bs v)).getD x.sec, nano := ((lastW 7 R).map fun v => timB (bs v)).getD x.nano }
  | [], x => by simp [appH, lastW]
  | p :: t, x => by
    rw [appH, appH_is t]
    rcases which_all (bs p.1) with hw | hw | hw | hw | hw | hw | hw | hw | hw
    all_goals simp [sayH, lastW, hw, or_get, or_get0]

/-- the last value of a key that a field has -/
theorem lastW_key (f : Int) (i : Int) (hk : ∀ k : ByteArray, whichK (bs k) = i ↔ k = keyF f) : ∀ R : PL, lastW i R = lastK R (keyF f)
  | [] => rfl
  | p :: t => by
    rw [lastW, lastK, lastW_key f i hk t]
    by_cases h : p.1 = keyF f
    · rw [if_pos ((hk _).2 h), if_pos h]; cases lastK t (keyF f) <;> rfl
    · rw [if_neg (fun e => h ((hk _).1 e)), if_neg h]; cases lastK t (keyF f) <;> rfl
theorem key_of (k : ByteArray) (l : List UInt8) : bs k = l ↔ k = txt l := ⟨fun e => by rw [← e, txt_bs], fun e => by rw [e, bs_txt]⟩
theorem which_key (k : ByteArray) : (whichK (bs k) = 0 ↔ k = keyF 2) ∧ (whichK (bs k) = 1 ↔ k = keyF 3) ∧ (whichK (bs k) = 2 ↔ k = keyF 9) ∧ (whichK (bs k) = 3 ↔ k = keyF 10) ∧ (whichK (bs k) = 4 ↔ k = keyF 5) ∧ (whichK (bs k) = 5 ↔ k = keyF 6) ∧ (whichK (bs k) = 6 ↔ k = keyF 7) ∧ (whichK (bs k) = 7 ↔ k = keyF 8) := by
  refine ⟨?_, ?_, ?_, ?_, ?_, ?_, ?_, ?_⟩
  all_goals constructor
  all_goals first
    | (rintro rfl; decide +kernel)
    | (intro e
       unfold whichK at e
       repeat' split at e
       all_goals first | (exfalso; omega) | (rename_i h; exact (key_of _ _).1 h))

theorem num_back (n : Int) (h0 : 0 ≤ n) (h1 : n ≤ 9223372036854775807) : numL (bs (numT n)) = n := by
  have hs : signOf n = [] := by unfold signOf; rw [if_neg (by omega)]
  unfold numT numL
  rw [hs, List.nil_append, bs_txt, nat63_dec (by omega)]
  simp only
  rw [if_pos (by omega)]
  omega
theorem tim_back (a b : Int) (h0 : -9223372036854775808 ≤ a) (h1 : a ≤ 9223372036854775807) (hb : 0 ≤ b ∧ b < 1000000000) : timA (bs (txt (printOf a b))) = a ∧ timB (bs (txt (printOf a b))) = b := by
  unfold timA timB
  rw [bs_txt, time_back h0 h1 hb.1 hb.2]
  exact ⟨rfl, rfl⟩

/-- a head but for fields that have records -/
structure Bare (h x : Hd) (n : Nat) : Prop where
  kind : x.kind = h.kind
  mode : x.mode = h.mode
  major : x.major = h.major
  minor : x.minor = h.minor
  name : canN 2 h n 2 = true → x.name = h.name
  link : canN 2 h n 3 = true → x.link = h.link
  uid : canN 2 h n 5 = true → x.uid = h.uid
  gid : canN 2 h n 6 = true → x.gid = h.gid
  size : canN 2 h n 7 = true → x.size = h.size
  time : canN 2 h n 8 = true → x.sec = h.sec ∧ x.nano = h.nano
  user : canN 2 h n 9 = true → x.user = h.user
  group : canN 2 h n 10 = true → x.group = h.group
theorem Bare.self (h : Hd) (n : Nat) : Bare h h n := ⟨rfl, rfl, rfl, rfl, fun _ => rfl, fun _ => rfl, fun _ => rfl, fun _ => rfl, fun _ => rfl, fun _ => ⟨rfl, rfl⟩, fun _ => rfl, fun _ => rfl⟩

theorem if_get {α β : Type} (b : Bool) (v : α) (g : α → β) (c d : β) (h1 : b = false → g v = d) (h2 : b = true → c = d) : (((if b = false then some v else none) : Option α).map g).getD c = d := by
  cases b
  · exact h1 rfl
  · exact h2 rfl
theorem if_get0 {α : Type} (b : Bool) (v c d : α) (h1 : b = false → v = d) (h2 : b = true → c = d) : ((if b = false then some v else none) : Option α).getD c = d := by
  cases b
  · exact h1 rfl
  · exact h2 rfl

/-- the records, laid over a head that lacks what they tell, tell the head, its full name in the place of the name -/
theorem app_back {h x : Hd} {l : PL} (e : wrongH h l = 0) (hI : I64 h) (b : Bare h x l.length) : appH (recA h l) x = { h with name := if canN 2 h l.length 2 = false then valF h 2 else h.name } := by
  obtain ⟨-, -, -, ⟨hu, hg, hz⟩, hno, -⟩ := right_facts e
  obtain ⟨⟨i1, i2⟩, ⟨i3, i4⟩, ⟨i5, i6⟩, ⟨i7, i8⟩⟩ := hI
  have hI : I64 h := ⟨⟨i1, i2⟩, ⟨i3, i4⟩, ⟨i5, i6⟩, ⟨i7, i8⟩⟩
  have k := fun (f : Int) (i : Int) (hf : f ∈ fldsA) (hk : ∀ k : ByteArray, whichK (bs k) = i ↔ k = keyF f) => (lastW_key f i hk (recA h l)).trans (recA_key e hI f hf)
  have q0 := k 2 0 (by decide) fun k => (which_key k).1
  have q1 := k 3 1 (by decide) fun k => (which_key k).2.1
  have q2 := k 9 2 (by decide) fun k => (which_key k).2.2.1
  have q3 := k 10 3 (by decide) fun k => (which_key k).2.2.2.1
  have q4 := k 5 4 (by decide) fun k => (which_key k).2.2.2.2.1
  have q5 := k 6 5 (by decide) fun k => (which_key k).2.2.2.2.2.1
  have q6 := k 7 6 (by decide) fun k => (which_key k).2.2.2.2.2.2.1
  have q7 := k 8 7 (by decide) fun k => (which_key k).2.2.2.2.2.2.2
  rw [appH_is, q0, q1, q2, q3, q4, q5, q6, q7]
  have ht := tim_back h.sec h.nano i7 i8 hno
  rw [if_get0 _ _ x.name (if canN 2 h l.length 2 = false then valF h 2 else h.name) (fun z => by rw [if_pos z]) (fun z => by rw [if_neg (by simp [z])]; exact b.name z),
    if_get0 _ (valF h 3) x.link h.link (fun _ => rfl) b.link, if_get0 _ (valF h 9) x.user h.user (fun _ => rfl) b.user, if_get0 _ (valF h 10) x.group h.group (fun _ => rfl) b.group,
    if_get _ (valF h 5) (fun v => numL (bs v)) x.uid h.uid (fun _ => num_back h.uid hu i2) b.uid, if_get _ (valF h 6) (fun v => numL (bs v)) x.gid h.gid (fun _ => num_back h.gid hg i4) b.gid, if_get _ (valF h 7) (fun v => numL (bs v)) x.size h.size (fun _ => num_back h.size hz i6) b.size,
    if_get _ (valF h 8) (fun v => timA (bs v)) x.sec h.sec (fun _ => ht.1) (fun z => (b.time z).1), if_get _ (valF h 8) (fun v => timB (bs v)) x.nano h.nano (fun _ => ht.2) (fun z => (b.time z).2)]
  rw [b.kind, b.mode, b.major, b.minor]

/-- what Told makes of the full name -/
theorem told_back {h : Hd} {l : PL} (e : wrongH h l = 0) : toldS h.kind (valF h 2) = h.name := by
  obtain ⟨hk, ⟨n1, -, -, n4⟩, -⟩ := right_facts e
  obtain ⟨f0, t0, hL⟩ := fulls_ne h.kind h.name
  have hm : f0 ∈ fulls h.kind h.name := by rw [hL]; exact List.mem_cons_self ..
  have hv : valF h 2 = f0 := by show (fulls h.kind h.name).headD ⟨#[]⟩ = f0; rw [hL]; rfl
  rw [hv]
  exact (fulls_tell h.kind h.name n1 n4 f0 hm).2

/-! ### how long the records are -/

theorem lenF_low (rest u : Nat) (h : rest + nDigits u ≤ u) : ∀ f n, n ≤ u → lenF rest f n ≤ u
  | 0, n, hn => hn
  | f + 1, n, hn => by
    rw [lenF]
    split
    · exact hn
    · exact lenF_low rest u h f _ (by have := nDigits_mono u n hn; omega)
theorem lenN_low (rest u : Nat) (h : rest + nDigits u ≤ u) : lenN rest ≤ u := lenF_low rest u h 40 rest (by omega)

theorem nDigits_lt (k n : Nat) (hk : 0 < k) (h : n < 10 ^ k) : nDigits n ≤ k := by
  induction k generalizing n with
  | zero => omega
  | succ k ih =>
    by_cases hn : n < 10
    · rw [nDigits_small hn]; omega
    · rw [nDigits_big hn]
      have : 0 < k := by
        rcases Nat.eq_zero_or_pos k with e | e
        · subst e; simp at h; omega
        · exact e
      have := ih (n / 10) this (by rw [Nat.div_lt_iff_lt_mul (by omega)]; rw [Nat.pow_succ] at h; exact h)
      omega


theorem lenN_most (k v : ByteArray) (h : k.size + v.size ≤ 9000000) : lenN (restN k v) ≤ k.size + v.size + 10 := by
  have hr : restN k v = k.size + v.size + 3 := by unfold restN; omega
  rw [hr]
  refine lenN_low _ _ ?_
  have := nDigits_lt 7 (k.size + v.size + 10) (by omega) (by omega)
  omega
theorem lenS_layP : ∀ (l : PL) (p : ByteArray × ByteArray), lenS (layP l p) ≤ lenS l + lenN (restN p.1 p.2)
  | [], p => by
    rw [layP]
    split
    · simp [lenS]
    · simp [lenS]
  | q :: t, p => by
    have ih := lenS_layP t p
    rw [layP]
    repeat' split
    all_goals simp only [lenS]
    all_goals omega
theorem lenS_layL : ∀ (ps l : PL), lenS (layL l ps) ≤ lenS l + lenS ps
  | [], l => by simp [layL, lenS]
  | p :: t, l => by
    have h1 := lenS_layL t (layP l p)
    have h2 := lenS_layP l p
    show lenS (layL (layP l p) t) ≤ _
    rw [show lenS (p :: t) = lenN (restN p.1 p.2) + lenS t from rfl]
    omega
theorem lenS_app : ∀ a b : PL, lenS (a ++ b) = lenS a + lenS b
  | [], b => by simp [lenS]
  | p :: t, b => by rw [List.cons_append, lenS, lenS, lenS_app t b]; omega
theorem lenS_tot : ∀ l : PL, totN l ≤ 9000000 → lenS l ≤ totN l + 10 * l.length
  | [], _ => by simp [lenS]
  | p :: t, h => by
    have e : totN (p :: t) = p.1.size + p.2.size + totN t := rfl
    have h1 := lenS_tot t (by omega)
    have h2 := lenN_most p.1 p.2 (by omega)
    rw [lenS, e, List.length_cons]
    omega

theorem lenS_filter (g : Int → ByteArray × ByteArray) (q : Int → Bool) : ∀ fs : List Int, lenS ((fs.filter q).map g) ≤ lenS (fs.map g)
  | [] => Nat.le_refl _
  | f :: t => by
    have ih := lenS_filter g q t
    rw [List.filter_cons, List.map_cons, lenS]
    split
    · rw [List.map_cons, lenS]; omega
    · omega
/-- the records of a head are not long -/
theorem lenS_recA {h : Hd} {l : PL} (e : wrongH h l = 0) (hI : I64 h) (hs : sumH h + totN l ≤ 300000) (hn : l.length ≤ 40) : lenS (recA h l) ≤ 301000 := by
  obtain ⟨-, -, -, -, hno, -⟩ := right_facts e
  obtain ⟨⟨i1, i2⟩, ⟨i3, i4⟩, ⟨i5, i6⟩, ⟨i7, i8⟩⟩ := hI
  have hs' : h.name.size + h.link.size + h.user.size + h.group.size + totN l ≤ 300000 := hs
  have h1 := lenS_layL (recsOf h l.length fldsA ++ l) []
  rw [lenS_app] at h1
  have h2 : lenS (recsOf h l.length fldsA) ≤ lenS (fldsA.map (pairF h)) := lenS_filter _ _ _
  have h3 := lenS_tot l (by omega)
  have e0 : lenS (fldsA.map (pairF h)) = lenN (restN (keyF 2) (valF h 2)) + (lenN (restN (keyF 3) (valF h 3)) + (lenN (restN (keyF 5) (valF h 5)) + (lenN (restN (keyF 6) (valF h 6)) + (lenN (restN (keyF 7) (valF h 7)) + (lenN (restN (keyF 8) (valF h 8)) + (lenN (restN (keyF 9) (valF h 9)) + (lenN (restN (keyF 10) (valF h 10)) + 0))))))) := rfl
  have ks := keyF_size
  have v2 : (valF h 2).size ≤ h.name.size + 1 := by
    obtain ⟨f0, t0, hL⟩ := fulls_ne h.kind h.name
    have hm : f0 ∈ fulls h.kind h.name := by rw [hL]; exact List.mem_cons_self ..
    have hv : valF h 2 = f0 := by show (fulls h.kind h.name).headD ⟨#[]⟩ = f0; rw [hL]; rfl
    have hs2 : (h.name ++ ⟨#[47]⟩ : ByteArray).size = h.name.size + 1 := by rw [ByteArray.size_append]; rfl
    rw [hv]
    rcases full_mem hm with rfl | rfl
    · omega
    · omega
  have v3 : (valF h 3).size = h.link.size := rfl
  have v5 : (valF h 5).size ≤ 21 := (numT_size h.uid i1 i2).2
  have v6 : (valF h 6).size ≤ 21 := (numT_size h.gid i3 i4).2
  have v7 : (valF h 7).size ≤ 21 := (numT_size h.size i5 i6).2
  have v8 : (valF h 8).size ≤ 31 := (print_size h.sec h.nano i7 i8 hno).2
  have v9 : (valF h 9).size = h.user.size := rfl
  have v10 : (valF h 10).size = h.group.size := rfl
  have k2 := ks 2 (by decide)
  have k3 := ks 3 (by decide)
  have k5 := ks 5 (by decide)
  have k6 := ks 6 (by decide)
  have k7 := ks 7 (by decide)
  have k8 := ks 8 (by decide)
  have k9 := ks 9 (by decide)
  have k10 := ks 10 (by decide)
  have m2 := lenN_most (keyF 2) (valF h 2) (by omega)
  have m3 := lenN_most (keyF 3) (valF h 3) (by omega)
  have m5 := lenN_most (keyF 5) (valF h 5) (by omega)
  have m6 := lenN_most (keyF 6) (valF h 6) (by omega)
  have m7 := lenN_most (keyF 7) (valF h 7) (by omega)
  have m8 := lenN_most (keyF 8) (valF h 8) (by omega)
  have m9 := lenN_most (keyF 9) (valF h 9) (by omega)
  have m10 := lenN_most (keyF 10) (valF h 10) (by omega)
  have hz : lenS [] = 0 := rfl
  show lenS (layL [] (recsOf h l.length fldsA ++ l)) ≤ 301000
  omega

end Go.Proofs.YthnaanjhmehgcaaGreatDoor

/-
  A HEAD, BUT FOR THE FIELDS THAT ITS RECORDS TELL. Nothing of the program. No condition.
-/
namespace Go.Proofs.YthnaanjhmehgcaaGreatDoor
open Go.ChangeShapes Go.WideShapes Go.ChangeAt Go.RowKit Go.Lib
set_option linter.unusedVariables false
set_option linter.unusedSimpArgs false
set_option maxRecDepth 20000

def oth : ByteArray := ⟨#[111, 116, 104, 101, 114]⟩
/-- one record's field becomes something else -/
def bareS (k : ByteArray) (x : Hd) : Hd :=
  if whichK (bs k) = 0 then { x with name := oth } else if whichK (bs k) = 1 then { x with link := oth } else if whichK (bs k) = 2 then { x with user := oth } else if whichK (bs k) = 3 then { x with group := oth }
  else if whichK (bs k) = 4 then { x with uid := 0 } else if whichK (bs k) = 5 then { x with gid := 0 } else if whichK (bs k) = 6 then { x with size := 0 } else if whichK (bs k) = 7 then { x with sec := 0, nano := 0 } else x
def bareL : PL → Hd → Hd
  | [], x => x
  | p :: t, x => bareL t (bareS p.1 x)

theorem bareS_keep (k : ByteArray) (x : Hd) : (bareS k x).kind = x.kind ∧ (bareS k x).mode = x.mode ∧ (bareS k x).major = x.major ∧ (bareS k x).minor = x.minor ∧
    (whichK (bs k) ≠ 0 → (bareS k x).name = x.name) ∧ (whichK (bs k) ≠ 1 → (bareS k x).link = x.link) ∧ (whichK (bs k) ≠ 2 → (bareS k x).user = x.user) ∧ (whichK (bs k) ≠ 3 → (bareS k x).group = x.group) ∧
    (whichK (bs k) ≠ 4 → (bareS k x).uid = x.uid) ∧ (whichK (bs k) ≠ 5 → (bareS k x).gid = x.gid) ∧ (whichK (bs k) ≠ 6 → (bareS k x).size = x.size) ∧ (whichK (bs k) ≠ 7 → (bareS k x).sec = x.sec ∧ (bareS k x).nano = x.nano) := by
  rcases which_all (bs k) with hw | hw | hw | hw | hw | hw | hw | hw | hw
  all_goals simp [bareS, hw]
theorem bareL_keep : ∀ (R : PL) (x : Hd), (bareL R x).kind = x.kind ∧ (bareL R x).mode = x.mode ∧ (bareL R x).major = x.major ∧ (bareL R x).minor = x.minor ∧
    ((∀ p ∈ R, whichK (bs p.1) ≠ 0) → (bareL R x).name = x.name) ∧ ((∀ p ∈ R, whichK (bs p.1) ≠ 1) → (bareL R x).link = x.link) ∧ ((∀ p ∈ R, whichK (bs p.1) ≠ 2) → (bareL R x).user = x.user) ∧ ((∀ p ∈ R, whichK (bs p.1) ≠ 3) → (bareL R x).group = x.group) ∧
    ((∀ p ∈ R, whichK (bs p.1) ≠ 4) → (bareL R x).uid = x.uid) ∧ ((∀ p ∈ R, whichK (bs p.1) ≠ 5) → (bareL R x).gid = x.gid) ∧ ((∀ p ∈ R, whichK (bs p.1) ≠ 6) → (bareL R x).size = x.size) ∧ ((∀ p ∈ R, whichK (bs p.1) ≠ 7) → (bareL R x).sec = x.sec ∧ (bareL R x).nano = x.nano)
  | [], x => ⟨rfl, rfl, rfl, rfl, fun _ => rfl, fun _ => rfl, fun _ => rfl, fun _ => rfl, fun _ => rfl, fun _ => rfl, fun _ => rfl, fun _ => ⟨rfl, rfl⟩⟩
  | p :: t, x => by
    obtain ⟨a1, a2, a3, a4, a5, a6, a7, a8, a9, a10, a11, a12⟩ := bareL_keep t (bareS p.1 x)
    obtain ⟨b1, b2, b3, b4, b5, b6, b7, b8, b9, b10, b11, b12⟩ := bareS_keep p.1 x
    have m0 : p ∈ p :: t := List.mem_cons_self ..
    have m1 : ∀ q ∈ t, q ∈ p :: t := fun q hq => List.mem_cons_of_mem _ hq
    exact ⟨a1.trans b1, a2.trans b2, a3.trans b3, a4.trans b4, fun h => (a5 fun q hq => h q (m1 q hq)).trans (b5 (h p m0)), fun h => (a6 fun q hq => h q (m1 q hq)).trans (b6 (h p m0)), fun h => (a7 fun q hq => h q (m1 q hq)).trans (b7 (h p m0)), fun h => (a8 fun q hq => h q (m1 q hq)).trans (b8 (h p m0)),
      fun h => (a9 fun q hq => h q (m1 q hq)).trans (b9 (h p m0)), fun h => (a10 fun q hq => h q (m1 q hq)).trans (b10 (h p m0)), fun h => (a11 fun q hq => h q (m1 q hq)).trans (b11 (h p m0)), fun h => ⟨(a12 fun q hq => h q (m1 q hq)).1.trans (b12 (h p m0)).1, (a12 fun q hq => h q (m1 q hq)).2.trans (b12 (h p m0)).2⟩⟩

theorem no_rec {h : Hd} {l : PL} (e : wrongH h l = 0) (hI : I64 h) (f i : Int) (hf : f ∈ fldsA) (hk : ∀ k : ByteArray, whichK (bs k) = i ↔ k = keyF f) (hc : canN 2 h l.length f = true) : ∀ p ∈ recA h l, whichK (bs p.1) ≠ i := by
  intro p hp hi
  have hS : Srt (recA h l) := layL_srt _ _ Srt.nil
  have h1 := recA_key e hI f hf
  rw [if_neg (by simp [hc])] at h1
  have h2 := dst_last (recA h l) p.1 p.2 hS.dst hp
  rw [(hk p.1).1 hi, h1] at h2
  cases h2

theorem bare_all {h : Hd} {l : PL} (e : wrongH h l = 0) (hI : I64 h) : Bare h (bareL (recA h l) h) l.length := by
  obtain ⟨a1, a2, a3, a4, a5, a6, a7, a8, a9, a10, a11, a12⟩ := bareL_keep (recA h l) h
  have n := fun (f i : Int) (hf : f ∈ fldsA) (hk : ∀ k : ByteArray, whichK (bs k) = i ↔ k = keyF f) (hc : canN 2 h l.length f = true) => no_rec e hI f i hf hk hc
  exact ⟨a1, a2, a3, a4, fun c => a5 (n 2 0 (by decide) (fun k => (which_key k).1) c), fun c => a6 (n 3 1 (by decide) (fun k => (which_key k).2.1) c), fun c => a9 (n 5 4 (by decide) (fun k => (which_key k).2.2.2.2.1) c),
    fun c => a10 (n 6 5 (by decide) (fun k => (which_key k).2.2.2.2.2.1) c), fun c => a11 (n 7 6 (by decide) (fun k => (which_key k).2.2.2.2.2.2.1) c), fun c => a12 (n 8 7 (by decide) (fun k => (which_key k).2.2.2.2.2.2.2) c),
    fun c => a7 (n 9 2 (by decide) (fun k => (which_key k).2.2.1) c), fun c => a8 (n 10 3 (by decide) (fun k => (which_key k).2.2.2.1) c)⟩

end Go.Proofs.YthnaanjhmehgcaaGreatDoor

/-
  THE DOCUMENT's Same OF TWO ITEMS OF ONE HEAD AND NO DATA. No condition.
-/
namespace Go.Proofs.YthnaanjhmehgcaaGreatDoor
open Go.ChangeShapes Go.WideShapes Go.ChangeAt Go.RowKit Go.Lib
set_option linter.unusedVariables false
set_option linter.unusedSimpArgs false
set_option maxRecDepth 20000

set_option maxHeartbeats 1000000 in
theorem bsame_walk {w : World} {a a' : Option Addr} {n c n' c' : Nat} {l : List Int} (h : Bys w a n c l) (h' : Bys w a' n' c' l) : Calls Tryz.prog 63 #[.slice a n c, .slice a' n' c'] w fun e w' => w' = w ∧ e = .returned (.bool true) := by
  have h1 := bys_string (P := Tryz.prog) Tryz.underlying56 Tryz.underlying5 Tryz.underlying9 h
  have h2 := bys_string (P := Tryz.prog) Tryz.underlying56 Tryz.underlying5 Tryz.underlying9 h'
  go_enter Tryz.func63, Tryz.ntmps63
  go_wp2
  go_ret
  exact ⟨rfl, rfl⟩

theorem bys_nil (w : World) : Bys w none 0 0 [] := ⟨rfl, Nat.le_refl _, by omega, (fun n hn => by cases hn), .inl ⟨rfl, rfl⟩⟩
theorem two_newi (w : World) (a b : Array Value) (t u : TypeId) : Blk ((w.alloc (.cells a t)).alloc (.cells b u)) w.heap.size a t ∧ Blk ((w.alloc (.cells a t)).alloc (.cells b u)) (w.heap.size + 1) b u := by
  have b0 : Blk (w.alloc (.cells a t)) w.heap.size a t := heap_alloc_new _ _
  refine ⟨b0.below (below_alloc _ _), ?_⟩
  have := Blk.new (w.alloc (.cells a t)) b u
  rwa [show (w.alloc (.cells a t)).heap.size = w.heap.size + 1 by simp] at this

set_option maxHeartbeats 8000000 in
theorem rsame_head {w : World} {a1 a2 : Option Addr} {n1 c1 n2 c2 : Nat} {l : PL} (h : Hd) (hp1 : Pys w a1 n1 c1 l) (hp2 : Pys w a2 n2 c2 l) :
    Calls Tryz.prog 27 #[.agg (h.it (.slice a1 n1 c1) (.slice none 0 0)), .agg (h.it (.slice a2 n2 c2) (.slice none 0 0))] w fun e w' => e = .returned (.bool true) ∧ Below w.heap.size w w' := by
  have hb0 := below_alloc w (.cells (h.it (.slice a1 n1 c1) (.slice none 0 0)) 62)
  have hb1 := hb0.alloc hb0.size (.cells (h.it (.slice a2 n2 c2) (.slice none 0 0)) 62)
  obtain ⟨hB1, hB2⟩ := two_newi w (h.it (.slice a1 n1 c1) (.slice none 0 0)) (h.it (.slice a2 n2 c2) (.slice none 0 0)) 62 62
  have hs := samehead_ok h (hp1.below hb1) (hp2.below hb1)
  have hbq := fun (wr : World) => bsame_walk (bys_nil wr) (bys_nil wr)
  clear hp1 hp2
  unfold Hd.it at *
  unfold Hd.cs at hs
  go_enter Tryz.func27, Tryz.ntmps27
  go_wp2_with (first
    | (go_at_call 62; refine hs.mono ?_; rintro e w1 ⟨rfl, hbx⟩; have hac := hb1.trans (hbx.mono hb1.size); (have k1 : w1.cell? ⟨w.heap.size, 14, none⟩ = some (.slice none 0 0) := (hB1.below hbx).cell 14); (have k2 : w1.cell? ⟨w.heap.size + 1, 14, none⟩ = some (.slice none 0 0) := (hB2.below hbx).cell 14))
    | (go_at_call 63; refine (hbq _).mono ?_; rintro e w' ⟨hw, rfl⟩; obtain rfl := hw.symm))
  go_ret
  exact ⟨rfl, hac⟩

end Go.Proofs.YthnaanjhmehgcaaGreatDoor
