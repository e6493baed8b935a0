/-
  What is proved here: plain facts on the pieces that bytes begin with, one behind the other, and what comes of them.
  Conditions: those that each fact names.
-/
import Derived.Test.YtdojdkmchipccaaWalTell
namespace Go.Proofs.Ytdojdkmchipccaa

/-- Is the first piece there whole? -/
def wholeP (b : List UInt8) : Prop := 5 ≤ b.length ∧ of4 (b.drop 1) ≤ 4096 ∧ of4 (b.drop 1) ≤ b.length - 5
instance (b : List UInt8) : Decidable (wholeP b) := by unfold wholeP; infer_instance
/-- The pieces that bytes begin with. -/
def seqP : Nat → List UInt8 → List (UInt8 × List UInt8)
  | 0, _ => []
  | n + 1, b => if wholeP b then (b.getD 0 0, (b.drop 5).take (of4 (b.drop 1))) :: seqP n (b.drop (5 + of4 (b.drop 1))) else []
def seqOf (b : List UInt8) : List (UInt8 × List UInt8) := seqP b.length b
theorem seqP_more : ∀ (n m : Nat) (b : List UInt8), b.length ≤ n → b.length ≤ m → seqP n b = seqP m b
  | 0, 0, _, _, _ => rfl
  | 0, m + 1, b, h, _ => by
    show [] = if wholeP b then _ else _
    rw [if_neg (fun hw => by have := hw.1; omega)]
  | n + 1, 0, b, _, h => by
    show (if wholeP b then _ else _) = []
    rw [if_neg (fun hw => by have := hw.1; omega)]
  | n + 1, m + 1, b, h1, h2 => by
    show (if wholeP b then _ :: seqP n _ else []) = if wholeP b then _ :: seqP m _ else []
    by_cases hw : wholeP b
    · rw [if_pos hw, if_pos hw, seqP_more n m (b.drop (5 + of4 (b.drop 1))) (by rw [List.length_drop]; have := hw.1; omega) (by rw [List.length_drop]; have := hw.1; omega)]
    · rw [if_neg hw, if_neg hw]
theorem seqOf_not {b : List UInt8} (h : ¬ wholeP b) : seqOf b = [] := by
  unfold seqOf
  cases hn : b.length with
  | zero => rfl
  | succ n => show (if wholeP b then _ else _) = _; rw [if_neg h]
theorem seqOf_step {b : List UInt8} (h : wholeP b) : seqOf b = (b.getD 0 0, (b.drop 5).take (of4 (b.drop 1))) :: seqOf ((b.drop 5).drop (of4 (b.drop 1))) := by
  unfold seqOf
  obtain ⟨n, hn⟩ : ∃ n, b.length = n + 1 := ⟨b.length - 1, by have := h.1; omega⟩
  rw [hn]
  show (if wholeP b then _ else _) = _
  rw [if_pos h, List.drop_drop]
  congr 1
  exact seqP_more _ _ _ (by rw [List.length_drop]; have := h.1; omega) (Nat.le_refl _)
/-- What has been told. -/
structure T3 where
  state : List UInt8
  recs : List (List UInt8)
  whole : Bool
def stepW (t : T3) (x : UInt8 × List UInt8) : Option T3 :=
  if x.1 = 1 ∧ t.whole = false then some { t with state := t.state ++ x.2 }
  else if x.1 = 2 ∧ t.whole = false then some ⟨t.state ++ x.2, t.recs, true⟩
  else if x.1 = 3 ∧ t.whole = true then some { t with recs := t.recs ++ [x.2] } else none
def goW (t : T3) : List (UInt8 × List UInt8) → T3
  | [] => t
  | x :: xs => match stepW t x with
    | none => t
    | some t' => goW t' xs
def foldW (t : T3) : List (UInt8 × List UInt8) → Option T3
  | [] => some t
  | x :: xs => match stepW t x with
    | none => none
    | some t' => foldW t' xs
theorem foldW_snoc : ∀ (l : List (UInt8 × List UInt8)) (t : T3) (x : UInt8 × List UInt8), foldW t (l ++ [x]) = (foldW t l).bind (stepW · x)
  | [], t, x => by
    show (match stepW t x with | none => none | some t' => some t') = stepW t x
    cases stepW t x <;> rfl
  | y :: l, t, x => by
    show (match stepW t y with | none => none | some t' => foldW t' (l ++ [x])) = (match stepW t y with | none => none | some t' => foldW t' l).bind _
    cases stepW t y with
    | none => rfl
    | some t' => exact foldW_snoc l t' x
theorem goW_append : ∀ (l m : List (UInt8 × List UInt8)) (t u : T3), foldW t l = some u → goW t (l ++ m) = goW u m
  | [], m, t, u, h => by cases h; rfl
  | y :: l, m, t, u, h => by
    show (match stepW t y with | none => t | some t' => goW t' (l ++ m)) = _
    have h2 : (match stepW t y with | none => none | some t' => foldW t' l) = some u := h
    cases hs : stepW t y with
    | none => rw [hs] at h2; cases h2
    | some t' => rw [hs] at h2; exact goW_append l m t' u h2
theorem foldW_len : ∀ (l : List (UInt8 × List UInt8)) (u t : T3), foldW u l = some t → (∀ x ∈ l, x.2.length ≤ 4096) → t.state.length ≤ u.state.length + 4096 * l.length ∧ t.recs.length ≤ u.recs.length + l.length
  | [], u, t, h, _ => by cases h; exact ⟨by omega, by omega⟩
  | y :: l, u, t, h, hl => by
    have h2 : (match stepW u y with | none => none | some t' => foldW t' l) = some t := h
    have hy := hl y List.mem_cons_self
    cases hs : stepW u y with
    | none => rw [hs] at h2; cases h2
    | some t' =>
      rw [hs] at h2
      have ih := foldW_len l t' t h2 (fun x hx => hl x (List.mem_cons_of_mem _ hx))
      have hs2 : t'.state.length ≤ u.state.length + 4096 ∧ t'.recs.length ≤ u.recs.length + 1 := by
        unfold stepW at hs
        split at hs
        · cases hs; exact ⟨by show (u.state ++ y.2).length ≤ _; rw [List.length_append]; omega, by show u.recs.length ≤ _; omega⟩
        · split at hs
          · cases hs; exact ⟨by show (u.state ++ y.2).length ≤ _; rw [List.length_append]; omega, by show u.recs.length ≤ _; omega⟩
          · split at hs
            · cases hs; exact ⟨by show u.state.length ≤ _; omega, by show (u.recs ++ [y.2]).length ≤ _; rw [List.length_append]; exact Nat.le_refl _⟩
            · cases hs
      rw [List.length_cons]
      omega
def zeroT : T3 := ⟨[], [], false⟩
theorem u8_eq (x : UInt8) (n : Nat) (hn : n < 256) : x = UInt8.ofNat n ↔ x.toNat = n := by
  constructor
  · rintro rfl; rw [UInt8.toNat_ofNat']; exact Nat.mod_eq_of_lt hn
  · intro h; exact UInt8.toNat_inj.1 (by rw [h, UInt8.toNat_ofNat']; exact (Nat.mod_eq_of_lt hn).symm)
theorem tell_go : ∀ (n : Nat) (b : List UInt8) (t : T3), b.length ≤ n → (goT n ⟨b, t.state, t.recs, t.whole⟩).state = (goW t (seqP n b)).state ∧ (goT n ⟨b, t.state, t.recs, t.whole⟩).recs = (goW t (seqP n b)).recs ∧ (goT n ⟨b, t.state, t.recs, t.whole⟩).whole = (goW t (seqP n b)).whole
  | 0, b, t, _ => ⟨rfl, rfl, rfl⟩
  | n + 1, b, t, h => by
    have e1 : goT (n + 1) ⟨b, t.state, t.recs, t.whole⟩ = if fitsT ⟨b, t.state, t.recs, t.whole⟩ then goT n (stepT ⟨b, t.state, t.recs, t.whole⟩) else ⟨b, t.state, t.recs, t.whole⟩ := rfl
    have e2 : seqP (n + 1) b = if wholeP b then (b.getD 0 0, (b.drop 5).take (of4 (b.drop 1))) :: seqP n (b.drop (5 + of4 (b.drop 1))) else [] := rfl
    have u1 := u8_eq (b.getD 0 0) 1 (by decide)
    have u2 := u8_eq (b.getD 0 0) 2 (by decide)
    have u3 := u8_eq (b.getD 0 0) 3 (by decide)
    rw [e1, e2]
    by_cases hw : wholeP b
    case neg =>
      have hf : ¬ fitsT ⟨b, t.state, t.recs, t.whole⟩ = true := fun hf => hw (by
        unfold fitsT at hf
        simp only [Bool.and_eq_true, decide_eq_true_eq] at hf
        exact ⟨hf.1.1.1.1.1, hf.1.1.1.1.2, hf.1.1.1.2⟩)
      rw [if_neg hw, if_neg hf]
      exact ⟨rfl, rfl, rfl⟩
    rw [if_pos hw]
    have hft : fitsT ⟨b, t.state, t.recs, t.whole⟩ = (decide (1 ≤ (b.getD 0 0).toNat) && decide ((b.getD 0 0).toNat ≤ 3) && decide (t.whole = decide ((b.getD 0 0).toNat = 3))) := by
      unfold fitsT
      dsimp only
      rw [decide_eq_true hw.1, decide_eq_true hw.2.1, decide_eq_true hw.2.2]
      rfl
    have hless : (b.drop (5 + of4 (b.drop 1))).length ≤ n := by rw [List.length_drop]; have := hw.1; omega
    have hgo : goW t ((b.getD 0 0, (b.drop 5).take (of4 (b.drop 1))) :: seqP n (b.drop (5 + of4 (b.drop 1)))) = match stepW t (b.getD 0 0, (b.drop 5).take (of4 (b.drop 1))) with | none => t | some t' => goW t' (seqP n (b.drop (5 + of4 (b.drop 1)))) := rfl
    rw [hgo]
    have hstop : stepW t (b.getD 0 0, (b.drop 5).take (of4 (b.drop 1))) = none → fitsT ⟨b, t.state, t.recs, t.whole⟩ = false → _ := fun h1 h2 => (by
      rw [h1, if_neg (by rw [h2]; decide)]
      exact ⟨rfl, rfl, rfl⟩ : ((if fitsT ⟨b, t.state, t.recs, t.whole⟩ then goT n (stepT ⟨b, t.state, t.recs, t.whole⟩) else ⟨b, t.state, t.recs, t.whole⟩).state = (match stepW t (b.getD 0 0, (b.drop 5).take (of4 (b.drop 1))) with | none => t | some t' => goW t' (seqP n (b.drop (5 + of4 (b.drop 1))))).state ∧ (if fitsT ⟨b, t.state, t.recs, t.whole⟩ then goT n (stepT ⟨b, t.state, t.recs, t.whole⟩) else ⟨b, t.state, t.recs, t.whole⟩).recs = (match stepW t (b.getD 0 0, (b.drop 5).take (of4 (b.drop 1))) with | none => t | some t' => goW t' (seqP n (b.drop (5 + of4 (b.drop 1))))).recs ∧ (if fitsT ⟨b, t.state, t.recs, t.whole⟩ then goT n (stepT ⟨b, t.state, t.recs, t.whole⟩) else ⟨b, t.state, t.recs, t.whole⟩).whole = (match stepW t (b.getD 0 0, (b.drop 5).take (of4 (b.drop 1))) with | none => t | some t' => goW t' (seqP n (b.drop (5 + of4 (b.drop 1))))).whole))
    have hon : ∀ t' : T3, stepW t (b.getD 0 0, (b.drop 5).take (of4 (b.drop 1))) = some t' → fitsT ⟨b, t.state, t.recs, t.whole⟩ = true → stepT ⟨b, t.state, t.recs, t.whole⟩ = ⟨b.drop (5 + of4 (b.drop 1)), t'.state, t'.recs, t'.whole⟩ → _ := fun t' h1 h2 h3 => (by
      rw [h1, if_pos h2, h3]
      exact tell_go n _ t' hless : ((if fitsT ⟨b, t.state, t.recs, t.whole⟩ then goT n (stepT ⟨b, t.state, t.recs, t.whole⟩) else ⟨b, t.state, t.recs, t.whole⟩).state = (match stepW t (b.getD 0 0, (b.drop 5).take (of4 (b.drop 1))) with | none => t | some t' => goW t' (seqP n (b.drop (5 + of4 (b.drop 1))))).state ∧ (if fitsT ⟨b, t.state, t.recs, t.whole⟩ then goT n (stepT ⟨b, t.state, t.recs, t.whole⟩) else ⟨b, t.state, t.recs, t.whole⟩).recs = (match stepW t (b.getD 0 0, (b.drop 5).take (of4 (b.drop 1))) with | none => t | some t' => goW t' (seqP n (b.drop (5 + of4 (b.drop 1))))).recs ∧ (if fitsT ⟨b, t.state, t.recs, t.whole⟩ then goT n (stepT ⟨b, t.state, t.recs, t.whole⟩) else ⟨b, t.state, t.recs, t.whole⟩).whole = (match stepW t (b.getD 0 0, (b.drop 5).take (of4 (b.drop 1))) with | none => t | some t' => goW t' (seqP n (b.drop (5 + of4 (b.drop 1))))).whole))
    cases hwh : t.whole with
    | false =>
      by_cases k1 : (b.getD 0 0).toNat = 1
      · refine hwh ▸ hon { t with state := t.state ++ (b.drop 5).take (of4 (b.drop 1)) } ?_ ?_ ?_
        · unfold stepW; rw [if_pos ⟨u1.2 k1, hwh⟩]
        · rw [hft, hwh, k1]; rfl
        · unfold stepT pieceT; dsimp only; rw [if_neg (by omega), hwh, k1]; rfl
      by_cases k2 : (b.getD 0 0).toNat = 2
      · refine hwh ▸ hon ⟨t.state ++ (b.drop 5).take (of4 (b.drop 1)), t.recs, true⟩ ?_ ?_ ?_
        · unfold stepW; rw [if_neg (fun h => k1 (u1.1 h.1)), if_pos ⟨u2.2 k2, hwh⟩]
        · rw [hft, hwh, k2]; rfl
        · unfold stepT pieceT; dsimp only; rw [if_neg (by omega), k2]; rfl
      · refine hwh ▸ hstop ?_ ?_
        · unfold stepW; rw [if_neg (fun h => k1 (u1.1 h.1)), if_neg (fun h => k2 (u2.1 h.1)), if_neg (fun h => by rw [hwh] at h; cases h.2)]
        · rw [hft, hwh]
          by_cases k3 : (b.getD 0 0).toNat = 3
          · rw [k3]; rfl
          · have : ¬ (1 ≤ (b.getD 0 0).toNat ∧ (b.getD 0 0).toNat ≤ 3) := by omega
            rw [Bool.and_eq_false_iff, Bool.and_eq_false_iff]
            rcases Nat.lt_or_ge (b.getD 0 0).toNat 1 with h | h
            · exact .inl (.inl (decide_eq_false (by omega)))
            · exact .inl (.inr (decide_eq_false (by omega)))
    | true =>
      by_cases k3 : (b.getD 0 0).toNat = 3
      · refine hwh ▸ hon { t with recs := t.recs ++ [(b.drop 5).take (of4 (b.drop 1))] } ?_ ?_ ?_
        · unfold stepW; rw [if_neg (fun h => by rw [hwh] at h; cases h.2), if_neg (fun h => by rw [hwh] at h; cases h.2), if_pos ⟨u3.2 k3, hwh⟩]
        · rw [hft, hwh, k3]; rfl
        · unfold stepT pieceT; dsimp only; rw [if_pos k3]
      · refine hwh ▸ hstop ?_ ?_
        · unfold stepW; rw [if_neg (fun h => by rw [hwh] at h; cases h.2), if_neg (fun h => by rw [hwh] at h; cases h.2), if_neg (fun h => k3 (u3.1 h.1))]
        · rw [hft, hwh, decide_eq_false k3]; simp
/-- What bytes tell, piece by piece. -/
theorem told_seq (b : List UInt8) : toldB b = if (goW zeroT (seqOf b)).whole then ((goW zeroT (seqOf b)).state, (goW zeroT (seqOf b)).recs) else ([], []) := by
  obtain ⟨h1, h2, h3⟩ := tell_go b.length b zeroT (Nat.le_refl _)
  unfold toldB tellB seqOf
  rw [← h1, ← h2, ← h3]
  rfl
end Go.Proofs.Ytdojdkmchipccaa
