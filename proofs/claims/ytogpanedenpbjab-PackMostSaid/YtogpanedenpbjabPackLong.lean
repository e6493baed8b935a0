/-
  What is proved here: the record in which all is as long as it may be has just as many bytes as its fields tell at most.
  Conditions: the fields may be.
-/
import Derived.Test.YtogpanedenpbjabPackPure2
namespace Go.Proofs.Ytogpanedenpbjab

def longOne (L : List Fld → List Val) (f : Fld) : Val := if f.kind = 1 then .mk f.max [] [] else if f.kind = 2 then .mk 0 (List.replicate f.max 0) [] else if f.kind = 3 then .mk 0 [] (List.replicate f.max (L f.of)) else .mk 0 [] []
def longL : Nat → List Fld → List Val
  | 0, _ => []
  | r + 1, l => l.map (longOne (longL r))
theorem catO_rep (q : List UInt8) : ∀ n, ∃ p, catO (List.replicate n (some q)) = some p ∧ p.length = n * q.length
  | 0 => ⟨[], rfl, by simp⟩
  | n + 1 => by
    obtain ⟨p, h1, h2⟩ := catO_rep q n
    refine ⟨q ++ p, ?_, ?_⟩
    · rw [List.replicate_succ]
      simp only [catO, h1, Option.map_some]
    · rw [List.length_append, h2, Nat.add_mul]; omega
theorem longOne_enc {M : List Fld → Option Nat} {E : List Fld → List Val → Option (List UInt8)} {L : List Fld → List Val} {f : Fld} {a : Nat} (h : mostOne M f = some a) (hE : ∀ l m, M l = some m → ∃ p, E l (L l) = some p ∧ p.length = m) : ∃ p, encOne E f (longOne L f) = some p ∧ p.length = a := by
  have hle := mostOne_le' h
  have hrng : ¬ (f.max < f.min ∨ f.max < f.max) := by omega
  by_cases h1 : f.kind = 1
  · have hx : longOne L f = .mk f.max [] [] := by unfold longOne; rw [if_pos h1]
    have ha : amountOf f (.mk f.max [] []) = some f.max := by unfold amountOf; simp [h1, Val.b, Val.l, Val.n]
    have hm : a = wid (f.max - f.min) := by
      unfold mostOne at h
      rw [if_neg (by omega), if_neg (by simp [h1]), if_pos h1] at h
      split at h
      · exact (Option.some.inj h).symm
      · cases h
    refine ⟨leN (f.max - f.min) (wid (f.max - f.min)), ?_, by rw [leN_len, hm]⟩
    rw [hx]
    unfold encOne
    rw [ha]
    simp only
    rw [if_neg hrng]
    simp [Val.l, Val.b, catO]
  by_cases h2 : f.kind = 2
  · have hx : longOne L f = .mk 0 (List.replicate f.max 0) [] := by unfold longOne; rw [if_neg h1, if_pos h2]
    have ha : amountOf f (.mk 0 (List.replicate f.max 0) []) = some f.max := by unfold amountOf; simp [h2, Val.b, Val.l, Val.n]
    have hm : a = wid (f.max - f.min) + f.max := by
      unfold mostOne at h
      split at h
      · cases h
      split at h
      · cases h
      split at h
      · exact (Option.some.inj h).symm
      · cases h
    refine ⟨leN (f.max - f.min) (wid (f.max - f.min)) ++ List.replicate f.max 0, ?_, by rw [List.length_append, leN_len, List.length_replicate, hm]⟩
    rw [hx]
    unfold encOne
    rw [ha]
    simp only
    rw [if_neg hrng]
    simp [Val.l, Val.b, catO]
  obtain ⟨h3, k, hk, rfl⟩ := mostOne_of h h1 h2
  have hx : longOne L f = .mk 0 [] (List.replicate f.max (L f.of)) := by unfold longOne; rw [if_neg h1, if_neg h2, if_pos h3]
  have ha : amountOf f (.mk 0 [] (List.replicate f.max (L f.of))) = some f.max := by unfold amountOf; simp [h3, Val.b, Val.l, Val.n]
  obtain ⟨q, hq, hql⟩ := hE f.of k hk
  obtain ⟨p, hp, hpl⟩ := catO_rep q f.max
  refine ⟨leN (f.max - f.min) (wid (f.max - f.min)) ++ p, ?_, by rw [List.length_append, leN_len, hpl, hql]⟩
  rw [hx]
  unfold encOne
  rw [ha]
  simp only
  rw [if_neg hrng]
  simp [Val.l, Val.b, List.map_replicate, hq, hp]
theorem longZip {M : List Fld → Option Nat} {E : List Fld → List Val → Option (List UInt8)} {L : List Fld → List Val} (hE : ∀ l m, M l = some m → ∃ p, E l (L l) = some p ∧ p.length = m) : ∀ (l : List Fld) (S : Nat), mostSum M l = some S → ∃ p, catO (List.zipWith (encOne E) l (l.map (longOne L))) = some p ∧ p.length = S
  | [], S, h => by
    simp [mostSum] at h
    exact ⟨[], rfl, by rw [← h]; rfl⟩
  | f :: l, S, h => by
    unfold mostSum at h
    cases hm : mostOne M f with
    | none => rw [hm] at h; cases h
    | some a =>
      rw [hm] at h
      obtain ⟨S', hS', rfl⟩ := Option.map_eq_some_iff.1 h
      obtain ⟨q, hq, hql⟩ := longOne_enc (L := L) hm hE
      obtain ⟨p, hp, hpl⟩ := longZip hE l S' hS'
      refine ⟨q ++ p, ?_, by rw [List.length_append, hql, hpl]⟩
      rw [List.map_cons, List.zipWith_cons_cons, hq]
      simp only [catO, hp, Option.map_some]
theorem long_enc : ∀ (r : Nat) (l : List Fld) (m : Nat), mostL r l = some m → ∃ p, encL r l (longL r l) = some p ∧ p.length = m
  | 0, _, _, h => by simp [mostL] at h
  | r + 1, l, m, h => by
    obtain ⟨hS, _⟩ := mostL_succ h
    obtain ⟨p, hp, hpl⟩ := longZip (long_enc r) l m hS
    refine ⟨p, ?_, hpl⟩
    unfold encL longL
    rw [if_pos (by simp)]
    exact hp
end Go.Proofs.Ytogpanedenpbjab
