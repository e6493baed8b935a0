/-
  What is proved here: plain facts on records' bytes: what a field's bytes tell of its value, and which values have bytes.
  Conditions: those that each fact names.
-/
import Derived.Test.YtgfcindkfnjeoaaJPackPure
import Derived.Test.YtgfcindkfnjeoaaJPackWorld
namespace Go.Proofs.Ytgfcindkfnjeoaa
open Go.RowKit

theorem enc_numM {E : List Fld → List Val → Option (List UInt8)} {a b : Nat} {v : Val} {p : List UInt8} (h : encOne E (.mk 1 a b []) v = some p) : ∃ n, v = .mk n [] [] ∧ a ≤ n ∧ n ≤ b := by
  obtain ⟨n, bs, l⟩ := v
  have h0 : amountOf (.mk 1 a b []) (.mk n bs l) = if bs.length = 0 ∧ l.length = 0 then some n else none := rfl
  unfold encOne at h
  rw [h0] at h
  by_cases hz : bs.length = 0 ∧ l.length = 0
  · rw [if_pos hz] at h
    have h1 : (if n < a ∨ b < n then none else _) = some p := h
    split at h1
    · cases h1
    · obtain rfl := List.eq_nil_of_length_eq_zero hz.1
      obtain rfl := List.eq_nil_of_length_eq_zero hz.2
      exact ⟨n, rfl, by omega, by omega⟩
  · rw [if_neg hz] at h
    cases h
theorem enc_bytM {E : List Fld → List Val → Option (List UInt8)} {a b : Nat} {v : Val} {p : List UInt8} (h : encOne E (.mk 2 a b []) v = some p) : ∃ bs, v = .mk 0 bs [] ∧ a ≤ bs.length ∧ bs.length ≤ b := by
  obtain ⟨n, bs, l⟩ := v
  have h0 : amountOf (.mk 2 a b []) (.mk n bs l) = if n = 0 ∧ l.length = 0 then some bs.length else none := rfl
  unfold encOne at h
  rw [h0] at h
  by_cases hz : n = 0 ∧ l.length = 0
  · rw [if_pos hz] at h
    have h1 : (if bs.length < a ∨ b < bs.length then none else _) = some p := h
    split at h1
    · cases h1
    · obtain rfl := hz.1
      obtain rfl := List.eq_nil_of_length_eq_zero hz.2
      exact ⟨bs, rfl, by omega, by omega⟩
  · rw [if_neg hz] at h
    cases h
theorem enc_recM {E : List Fld → List Val → Option (List UInt8)} {a b : Nat} {o : List Fld} {v : Val} {p : List UInt8} (h : encOne E (.mk 3 a b o) v = some p) : ∃ l q, v = .mk 0 [] l ∧ a ≤ l.length ∧ l.length ≤ b ∧ catO (l.map (E o)) = some q := by
  obtain ⟨n, bs, l⟩ := v
  have h0 : amountOf (.mk 3 a b o) (.mk n bs l) = if n = 0 ∧ bs.length = 0 then some l.length else none := rfl
  unfold encOne at h
  rw [h0] at h
  by_cases hz : n = 0 ∧ bs.length = 0
  · rw [if_pos hz] at h
    have h1 : (if l.length < a ∨ b < l.length then none else (catO (l.map (E o))).map _) = some p := h
    split at h1
    · cases h1
    · obtain rfl := hz.1
      obtain rfl := List.eq_nil_of_length_eq_zero hz.2
      obtain ⟨q, hq, _⟩ := Option.map_eq_some_iff.1 h1
      exact ⟨l, q, rfl, by omega, by omega, hq⟩
  · rw [if_neg hz] at h
    cases h
theorem catO_consM {x : Option (List UInt8)} {l : List (Option (List UInt8))} {q : List UInt8} (h : catO (x :: l) = some q) : ∃ a r, x = some a ∧ catO l = some r := by
  cases x with
  | none => cases h
  | some a =>
    have h : (catO l).map (a ++ ·) = some q := h
    obtain ⟨r, hr, _⟩ := Option.map_eq_some_iff.1 h
    exact ⟨a, r, rfl, hr⟩
theorem catO_all : ∀ l : List (Option (List UInt8)), (∀ x ∈ l, x.isSome = true) → (catO l).isSome = true
  | [], _ => rfl
  | none :: _, h => by have := h none List.mem_cons_self; cases this
  | some a :: l, h => by
    show ((catO l).map (a ++ ·)).isSome = true
    rw [Option.isSome_map]
    exact catO_all l fun x hx => h x (List.mem_cons_of_mem _ hx)
theorem encOne_numM {E : List Fld → List Val → Option (List UInt8)} {a b n : Nat} (h1 : a ≤ n) (h2 : n ≤ b) : (encOne E (.mk 1 a b []) (.mk n [] [])).isSome = true := by
  have h : encOne E (.mk 1 a b []) (.mk n [] []) = if n < a ∨ b < n then none else (catO (([] : List (List Val)).map (E []))).map (fun r => leN (n - a) (wid (b - a)) ++ (([] : List UInt8) ++ r)) := rfl
  rw [h, if_neg (by omega)]
  rfl
theorem encOne_byt {E : List Fld → List Val → Option (List UInt8)} {a b : Nat} {bs : List UInt8} (h1 : a ≤ bs.length) (h2 : bs.length ≤ b) : (encOne E (.mk 2 a b []) (.mk 0 bs [])).isSome = true := by
  have h : encOne E (.mk 2 a b []) (.mk 0 bs []) = if bs.length < a ∨ b < bs.length then none else (catO (([] : List (List Val)).map (E []))).map (fun r => leN (bs.length - a) (wid (b - a)) ++ (bs ++ r)) := rfl
  rw [h, if_neg (by omega)]
  rfl
theorem encOne_rec {E : List Fld → List Val → Option (List UInt8)} {a b : Nat} {o : List Fld} {l : List (List Val)} (h1 : a ≤ l.length) (h2 : l.length ≤ b) (h3 : ∀ v ∈ l, (E o v).isSome = true) : (encOne E (.mk 3 a b o) (.mk 0 [] l)).isSome = true := by
  have h : encOne E (.mk 3 a b o) (.mk 0 [] l) = if l.length < a ∨ b < l.length then none else (catO (l.map (E o))).map (fun r => leN (l.length - a) (wid (b - a)) ++ (([] : List UInt8) ++ r)) := rfl
  rw [h, if_neg (by omega), Option.isSome_map]
  exact catO_all _ fun x hx => by obtain ⟨v, hv, rfl⟩ := List.mem_map.1 hx; exact h3 v hv
theorem Own.maxL {w : World} {base : Nat} {v : Value} {bs : List UInt8} (h : Own w base v bs) : bs.length ≤ maxLen := by
  rcases h.2 with ⟨_, h1⟩ | ⟨g', cap, cur, h1, h2, h3, h4, h5, _⟩
  · rw [h1]; exact Nat.zero_le _
  · unfold maxLen at h5 ⊢; omega
end Go.Proofs.Ytgfcindkfnjeoaa
