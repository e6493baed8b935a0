/-
  What is proved here: plain functions for the stuffing of bytes: that what was stuffed is told as it was, that nothing else is told, that no nought is in it, and how long it is.
  Conditions: none.
-/
import Derived.Test.YtchbfhckocfjhaaDoorShaPure
import Derived.Lib.BytesEntry
namespace Go.Proofs.YtchbfhckocfjhaaDoor

/-- How many bytes that are not 0 the first run has. -/
def fr (l : List UInt8) : Nat := ((l.take 254).takeWhile (· != 0)).length
theorem tw_le (l : List UInt8) : (l.takeWhile (· != 0)).length ≤ l.length := (List.takeWhile_prefix _).length_le
theorem fr_254 (l : List UInt8) : fr l ≤ 254 := by
  have := tw_le (l.take 254)
  simp only [List.length_take] at this
  unfold fr; omega
theorem fr_le (l : List UInt8) : fr l ≤ l.length := by
  have := tw_le (l.take 254)
  simp only [List.length_take] at this
  unfold fr; omega
theorem tw_take (l : List UInt8) : l.take (l.takeWhile (· != 0)).length = l.takeWhile (· != 0) := by
  induction l with
  | nil => rfl
  | cons x t ih =>
    by_cases h : x = 0
    · simp [h]
    · simp [h, ih]
theorem fr_take (l : List UInt8) : l.take (fr l) = (l.take 254).takeWhile (· != 0) := by
  have := tw_take (l.take 254)
  rw [List.take_take] at this
  rw [← this]
  congr 1
  have := fr_254 l
  unfold fr at *; omega
theorem tw_nz (l : List UInt8) : (0 : UInt8) ∉ l.takeWhile (· != 0) := by
  induction l with
  | nil => simp
  | cons x t ih =>
    by_cases h : x = 0
    · simp [h]
    · simp only [List.takeWhile_cons, bne_iff_ne, ne_eq, h, not_false_eq_true, if_true, List.mem_cons, not_or]
      exact ⟨fun e => h e.symm, ih⟩
theorem fr_nz (l : List UInt8) : (0 : UInt8) ∉ l.take (fr l) := by rw [fr_take]; exact tw_nz _
theorem tw_stop (l : List UInt8) (h : (l.takeWhile (· != 0)).length < l.length) : l.drop (l.takeWhile (· != 0)).length = 0 :: l.drop ((l.takeWhile (· != 0)).length + 1) := by
  induction l with
  | nil => simp at h
  | cons x t ih =>
    by_cases hx : x = 0
    · simp [hx]
    · simp only [List.takeWhile_cons, bne_iff_ne, ne_eq, hx, not_false_eq_true, if_true, List.length_cons, List.drop_succ_cons] at h ⊢
      exact ih (by omega)
theorem fr_stop (l : List UInt8) (h1 : fr l < 254) (h2 : fr l < l.length) : l.drop (fr l) = 0 :: l.drop (fr l + 1) := by
  have h := tw_stop (l.take 254) (by simp only [List.length_take]; unfold fr at *; omega)
  have e : ∀ n, n ≤ 254 → (l.take 254).drop n = (l.drop n).take (254 - n) := fun n _ => by rw [List.drop_take]
  have h' : (l.take 254).drop (fr l) = 0 :: (l.take 254).drop (fr l + 1) := h
  rw [e _ (by omega)] at h'
  obtain ⟨x, t, hx⟩ : ∃ x t, l.drop (fr l) = x :: t := by
    cases hd : l.drop (fr l) with
    | nil => have := congrArg List.length hd; simp at this; omega
    | cons x t => exact ⟨x, t, rfl⟩
  have hx' : x = 0 := by
    rw [hx, show 254 - fr l = (253 - fr l) + 1 by omega, List.take_succ_cons] at h'
    exact (List.cons.inj h').1
  subst hx'
  have : l.drop (fr l + 1) = t := by rw [← List.drop_drop, hx]; rfl
  rw [hx, this]
theorem fr_of (run rest : List UInt8) (h0 : (0 : UInt8) ∉ run) (h : run.length < 254) (hr : rest = [] ∨ ∃ m, rest = 0 :: m) : fr (run ++ rest) = run.length := by
  unfold fr
  rw [List.take_append]
  have e : (run.take 254 ++ rest.take (254 - run.length)).takeWhile (· != 0) = run := by
    rw [List.take_of_length_le (by omega), List.takeWhile_append_of_pos (fun x hx => by simp; rintro rfl; exact h0 hx)]
    rcases hr with rfl | ⟨m, rfl⟩
    · simp
    · rw [show 254 - run.length = (253 - run.length) + 1 by omega]; simp
  rw [e]
theorem fr_full (run rest : List UInt8) (h0 : (0 : UInt8) ∉ run) (h : run.length = 254) : fr (run ++ rest) = 254 := by
  unfold fr
  rw [List.take_append, List.take_of_length_le (by omega), h, Nat.sub_self, List.take_zero, List.append_nil]
  have e : run.takeWhile (· != 0) = run := by
    have := List.takeWhile_append_of_pos (p := (· != 0)) (l₁ := run) (l₂ := []) (fun x hx => by simp; rintro rfl; exact h0 hx)
    simpa using this
  rw [e, h]

/-- Bytes, and a nought behind, in runs: of each how many, and these. -/
def stuff (l : List UInt8) : List UInt8 :=
  UInt8.ofNat (fr l + 1) :: (l.take (fr l) ++ (if fr l = 254 then stuff (l.drop 254) else if fr l < l.length then stuff (l.drop (fr l + 1)) else []))
termination_by l.length
decreasing_by
  · have := fr_le l; simp only [List.length_drop]; omega
  · have := fr_le l; simp only [List.length_drop]; omega
theorem stuff_254 (l : List UInt8) (h : fr l = 254) : stuff l = UInt8.ofNat (fr l + 1) :: (l.take (fr l) ++ stuff (l.drop (fr l))) := by
  rw [stuff, if_pos h, h]
theorem stuff_more (l : List UInt8) (h : fr l ≠ 254) (h2 : fr l < l.length) : stuff l = UInt8.ofNat (fr l + 1) :: (l.take (fr l) ++ stuff (l.drop (fr l + 1))) := by
  rw [stuff, if_neg h, if_pos h2]
theorem stuff_last (l : List UInt8) (h : fr l ≠ 254) (h2 : ¬ fr l < l.length) : stuff l = UInt8.ofNat (fr l + 1) :: (l.take (fr l) ++ []) := by
  rw [stuff, if_neg h, if_neg h2]

/-- What stuffed bytes are, behind what was told already; whether the last run had its nought. -/
def plainA (acc : List UInt8) (ended : Bool) (l : List UInt8) : Option (List UInt8) :=
  match l with
  | [] => if ended then some acc.dropLast else none
  | x :: t => if x = 0 ∨ t.length + 1 < x.toNat ∨ (0 : UInt8) ∈ t.take (x.toNat - 1) then none
      else plainA (acc ++ t.take (x.toNat - 1) ++ (if x.toNat - 1 < 254 then [0] else [])) (decide (x.toNat - 1 < 254)) (t.drop (x.toNat - 1))
termination_by l.length
decreasing_by simp only [List.length_drop, List.length_cons]; omega
def plainOf (l : List UInt8) : Option (List UInt8) := plainA [] false l

theorem ofNat_run (n : Nat) (h : n ≤ 254) : (UInt8.ofNat (n + 1)).toNat = n + 1 := by
  rw [UInt8.toNat_ofNat_of_lt' (by show n + 1 < 256; omega)]
theorem ofNat_ne (n : Nat) (h : n ≤ 254) : UInt8.ofNat (n + 1) ≠ 0 := fun e => by
  have := ofNat_run n h; rw [e] at this; simp at this
/-- One run is taken. -/
theorem plainA_run (acc : List UInt8) (e : Bool) (run rest : List UInt8) (h : run.length ≤ 254) (h0 : (0 : UInt8) ∉ run) :
    plainA acc e (UInt8.ofNat (run.length + 1) :: (run ++ rest)) = plainA (acc ++ run ++ (if run.length < 254 then [0] else [])) (decide (run.length < 254)) rest := by
  rw [plainA, ofNat_run _ h]
  have e1 : (run ++ rest).take (run.length + 1 - 1) = run := by simp
  have e2 : (run ++ rest).drop (run.length + 1 - 1) = rest := by simp
  rw [e1, e2, if_neg]
  · simp
  · rintro (h1 | h1 | h1)
    · exact ofNat_ne _ h h1
    · simp at h1; omega
    · exact h0 h1
theorem plainA_stuff (n : Nat) : ∀ (l : List UInt8), l.length ≤ n → ∀ acc e, plainA acc e (stuff l) = some (acc ++ l) := by
  induction n with
  | zero =>
    intro l hl acc e
    obtain rfl := List.eq_nil_of_length_eq_zero (Nat.le_zero.1 hl)
    rw [stuff_last [] (by decide) (by decide)]
    have := plainA_run acc e [] [] (by decide) (by simp)
    rw [show fr [] = ([] : List UInt8).length from rfl]
    simp only [List.length_nil, List.take_nil, List.nil_append] at this ⊢
    rw [this]; simp [plainA]
  | succ n ih =>
    intro l hl acc e
    have hf := fr_le l
    have h254 := fr_254 l
    have hnz := fr_nz l
    have hlen : (l.take (fr l)).length = fr l := by simp; omega
    have key := fun rest => plainA_run acc e (l.take (fr l)) rest (by omega) hnz
    rw [hlen] at key
    by_cases h1 : fr l = 254
    · rw [stuff_254 l h1, key, if_neg (by omega), ih (l.drop (fr l)) (by simp; omega), List.append_nil, List.append_assoc, List.take_append_drop]
    · by_cases h2 : fr l < l.length
      · rw [stuff_more l h1 h2, key, if_pos (by omega), ih (l.drop (fr l + 1)) (by simp; omega)]
        congr 1
        rw [List.append_assoc, List.append_assoc]
        congr 1
        have := fr_stop l (by omega) h2
        rw [List.singleton_append, ← this, List.take_append_drop]
      · rw [stuff_last l h1 h2, key, if_pos (by omega), show decide (fr l < 254) = true by simp; omega]
        simp only [plainA, if_true]
        congr 1
        rw [List.dropLast_concat, List.take_of_length_le (by omega)]
theorem plainOf_stuff (l : List UInt8) : plainOf (stuff l) = some l := by
  have := plainA_stuff l.length l (Nat.le_refl _) [] false
  simpa [plainOf] using this

theorem stuff_run (run : List UInt8) (h : run.length < 254) (h0 : (0 : UInt8) ∉ run) : stuff run = UInt8.ofNat (run.length + 1) :: run := by
  have e : fr run = run.length := by have := fr_of run [] h0 h (.inl rfl); simpa using this
  rw [stuff_last run (by omega) (by omega), e]; simp
theorem stuff_zero (run m : List UInt8) (h : run.length < 254) (h0 : (0 : UInt8) ∉ run) : stuff (run ++ 0 :: m) = UInt8.ofNat (run.length + 1) :: (run ++ stuff m) := by
  have e : fr (run ++ 0 :: m) = run.length := fr_of run (0 :: m) h0 h (.inr ⟨m, rfl⟩)
  rw [stuff_more _ (by omega) (by rw [e]; simp), e]
  congr 2
  · simp
  · congr 1
    rw [List.drop_append, List.drop_eq_nil_of_le (by omega)]; simp
theorem stuff_long (run m : List UInt8) (h : run.length = 254) (h0 : (0 : UInt8) ∉ run) : stuff (run ++ m) = UInt8.ofNat (run.length + 1) :: (run ++ stuff m) := by
  have e : fr (run ++ m) = 254 := fr_full run m h0 h
  rw [stuff_254 _ e, e, ← h]
  congr 2
  · simp
  · congr 1; simp
theorem plainA_only (n : Nat) : ∀ (s : List UInt8), s.length ≤ n → ∀ acc e out, plainA acc e s = some out → (s = [] ∧ e = true ∧ out = acc.dropLast) ∨ ∃ m, out = acc ++ m ∧ stuff m = s := by
  induction n with
  | zero =>
    intro s hs acc e out h
    obtain rfl := List.eq_nil_of_length_eq_zero (Nat.le_zero.1 hs)
    rw [plainA] at h
    cases e with
    | true => simp at h; exact .inl ⟨rfl, rfl, h.symm⟩
    | false => simp at h
  | succ n ih =>
    intro s hs acc e out h
    cases s with
    | nil =>
      rw [plainA] at h
      cases e with
      | true => simp at h; exact .inl ⟨rfl, rfl, h.symm⟩
      | false => simp at h
    | cons x t =>
      rw [plainA] at h
      split at h
      · cases h
      rename_i hc
      simp only [not_or] at hc
      obtain ⟨hx, hl, hz⟩ := hc
      have hx1 : 1 ≤ x.toNat := by
        rcases Nat.eq_zero_or_pos x.toNat with h0 | h0
        · exact absurd (UInt8.toNat_inj.1 (by simpa using h0)) hx
        · exact h0
      have hx2 := x.toNat_lt
      obtain ⟨run, hrun⟩ : ∃ run, run = t.take (x.toNat - 1) := ⟨_, rfl⟩
      have hrl : run.length = x.toNat - 1 := by rw [hrun]; simp; omega
      have ht : t = run ++ t.drop (x.toNat - 1) := by rw [hrun, List.take_append_drop]
      have hxe : x = UInt8.ofNat (run.length + 1) := by
        apply UInt8.toNat_inj.1; rw [ofNat_run _ (by omega)]; omega
      rw [← hrun] at h hz
      generalize t.drop (x.toNat - 1) = rest at *
      right
      have hrest : rest.length ≤ n := by
        have := congrArg List.length ht
        simp at this hs; omega
      rw [← hrl] at h
      by_cases h254 : run.length < 254
      · rw [if_pos h254, decide_eq_true h254] at h
        rcases ih rest hrest _ _ _ h with ⟨rfl, _, ho⟩ | ⟨m, ho, hm⟩
        · refine ⟨run, ?_, ?_⟩
          · rw [ho, List.dropLast_concat]
          · rw [stuff_run run h254 hz, ht, hxe]; simp
        · refine ⟨run ++ 0 :: m, by rw [ho]; simp, ?_⟩
          rw [stuff_zero run m h254 hz, hm, ht, ← hxe]
      · rw [if_neg h254, decide_eq_false h254] at h
        rcases ih rest hrest _ _ _ h with ⟨_, hf, _⟩ | ⟨m, ho, hm⟩
        · cases hf
        · refine ⟨run ++ m, by rw [ho]; simp, ?_⟩
          rw [stuff_long run m (by omega) hz, hm, ht, ← hxe]
theorem plainOf_only (s out : List UInt8) (h : plainOf s = some out) : stuff out = s := by
  rcases plainA_only s.length s (Nat.le_refl _) [] false out h with ⟨_, h, _⟩ | ⟨m, h, hm⟩
  · cases h
  · rw [h]; simpa using hm

/-- The document's way: the runs without a look at noughts. -/
def docA (acc : List UInt8) (l : List UInt8) : Option (List UInt8) :=
  match l with
  | [] => some acc
  | x :: t => if x = 0 ∨ t.length + 1 < x.toNat then none
      else docA (acc ++ t.take (x.toNat - 1) ++ (if x.toNat - 1 < 254 then [0] else [])) (t.drop (x.toNat - 1))
termination_by l.length
decreasing_by simp only [List.length_drop, List.length_cons]; omega
theorem docA_plain (n : Nat) : ∀ (s : List UInt8), s.length ≤ n → ∀ acc e out, (e = true → acc = acc.dropLast ++ [0]) → plainA acc e s = some out → docA acc s = some (out ++ [0]) := by
  induction n with
  | zero =>
    intro s hs acc e out he h
    obtain rfl := List.eq_nil_of_length_eq_zero (Nat.le_zero.1 hs)
    rw [plainA] at h
    cases e with
    | true => simp at h; rw [docA, ← h, ← he rfl]
    | false => simp at h
  | succ n ih =>
    intro s hs acc e out he h
    cases s with
    | nil =>
      rw [plainA] at h
      cases e with
      | true => simp at h; rw [docA, ← h, ← he rfl]
      | false => simp at h
    | cons x t =>
      rw [plainA] at h
      split at h
      · cases h
      rename_i hc
      simp only [not_or] at hc
      rw [docA, if_neg (by rintro (h1 | h1); exact hc.1 h1; exact hc.2.1 h1)]
      refine ih _ (by simp at hs ⊢; omega) _ _ _ ?_ h
      intro hd
      simp only [decide_eq_true_eq] at hd
      rw [if_pos hd, List.dropLast_concat]
/-- What the document's Plain answers. -/
def docPlain (l : List UInt8) : Option (List UInt8) := match docA [] l with
  | none => none
  | some o => if o.getLast? = some 0 then if stuff o.dropLast = l then some o.dropLast else none else none
theorem docPlain_eq (l : List UInt8) : docPlain l = plainOf l := by
  unfold docPlain
  cases hp : plainOf l with
  | some out =>
    rw [docA_plain l.length l (Nat.le_refl _) [] false out (fun h => by cases h) hp]
    simp [plainOf_only l out hp]
  | none =>
    cases hd : docA [] l with
    | none => rfl
    | some o =>
      simp only
      split
      · split
        · rename_i h
          have := plainOf_stuff o.dropLast
          rw [h, hp] at this; cases this
        · rfl
      · rfl

theorem stuff_nz (n : Nat) : ∀ (l : List UInt8), l.length ≤ n → (0 : UInt8) ∉ stuff l := by
  induction n with
  | zero =>
    intro l hl
    obtain rfl := List.eq_nil_of_length_eq_zero (Nat.le_zero.1 hl)
    rw [stuff_last [] (by decide) (by decide)]; decide
  | succ n ih =>
    intro l hl
    have hf := fr_le l
    have h254 := fr_254 l
    have hnz := fr_nz l
    have hh := ofNat_ne (fr l) h254
    by_cases h1 : fr l = 254
    · rw [stuff_254 l h1]
      simp only [List.mem_cons, List.mem_append, not_or]
      exact ⟨hh.symm, hnz, ih _ (by simp; omega)⟩
    · by_cases h2 : fr l < l.length
      · rw [stuff_more l h1 h2]
        simp only [List.mem_cons, List.mem_append, not_or]
        exact ⟨hh.symm, hnz, ih _ (by simp; omega)⟩
      · rw [stuff_last l h1 h2]
        simp only [List.mem_cons, List.append_nil, not_or]
        exact ⟨hh.symm, hnz⟩
theorem stuff_len (n : Nat) : ∀ (l : List UInt8), l.length ≤ n → l.length + 1 ≤ (stuff l).length ∧ (stuff l).length ≤ l.length + 1 + l.length / 254 := by
  induction n with
  | zero =>
    intro l hl
    obtain rfl := List.eq_nil_of_length_eq_zero (Nat.le_zero.1 hl)
    rw [stuff_last [] (by decide) (by decide)]; decide
  | succ n ih =>
    intro l hl
    have hf := fr_le l
    have h254 := fr_254 l
    by_cases h1 : fr l = 254
    · have := ih (l.drop (fr l)) (by simp; omega)
      rw [stuff_254 l h1]
      simp only [List.length_cons, List.length_append, List.length_take, List.length_drop] at this ⊢
      omega
    · by_cases h2 : fr l < l.length
      · have := ih (l.drop (fr l + 1)) (by simp; omega)
        rw [stuff_more l h1 h2]
        simp only [List.length_cons, List.length_append, List.length_take, List.length_drop] at this ⊢
        omega
      · rw [stuff_last l h1 h2]
        simp only [List.length_cons, List.length_append, List.length_take, List.length_nil]
        omega

/-- Where the first nought stands. -/
theorem index_tw (l : List UInt8) : (Lib.indexByte l 0 = -1 ∧ (l.takeWhile (· != 0)) = l) ∨ (Lib.indexByte l 0 = ((l.takeWhile (· != 0)).length : Int) ∧ (l.takeWhile (· != 0)).length < l.length) := by
  induction l with
  | nil => exact .inl ⟨rfl, rfl⟩
  | cons x t ih =>
    by_cases h : x = 0
    · right; subst h; simp [Lib.indexByte]
    · have hx : (x == 0) = false := by simpa using h
      rcases ih with ⟨h1, h2⟩ | ⟨h1, h2⟩
      · left; simp [Lib.indexByte, h1, hx, h, h2]
      · right
        have hq : (Lib.indexByte t 0 == -1) = false := by rw [h1]; simp
        have e : ((x :: t).takeWhile (· != 0)).length = (t.takeWhile (· != 0)).length + 1 := by simp [h]
        have e2 : Lib.indexByte (x :: t) 0 = Lib.indexByte t 0 + 1 := by rw [Lib.indexByte, hx, hq]; simp
        rw [e, e2, h1]
        exact ⟨by omega, by simp; omega⟩
theorem index_none (l : List UInt8) : (Lib.indexByte l 0 < 0) ↔ (0 : UInt8) ∉ l := by
  rcases index_tw l with ⟨h1, h2⟩ | ⟨h1, h2⟩
  · rw [h1]; refine ⟨fun _ => by rw [← h2]; exact tw_nz l, fun _ => by decide⟩
  · rw [h1]
    refine ⟨fun h => by omega, fun h => absurd ?_ h⟩
    have := tw_stop l h2
    exact List.mem_of_mem_drop (i := (l.takeWhile (· != 0)).length) (by rw [this]; simp)
end Go.Proofs.YtchbfhckocfjhaaDoor
