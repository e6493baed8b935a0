/-
  What is proved here: plain facts on what a link sends moment by moment that brought nothing yet.
  Conditions: those that each fact names.
-/
import Derived.Test.YtlobbdnogamdjaaLinkFirst
namespace Go.Proofs.Ytlobbdnogamdjaa

theorem datasK_of (L : List (List UInt8)) (se ti : Nat) : ∀ (i n : Nat), datasK (kS L se ti) i n = datasK (kS L 0 0) i n
  | _, 0 => rfl
  | i, n + 1 => by
    rw [datasK, datasK, datasK_of L se ti (i + 1) n]
    rfl
/-- What each moment sends: all that may be on the way, or nothing. -/
theorem kS_tick (L : List (List UInt8)) (se ti : Nat) (h : se = 0 ∧ ti = 0 ∨ se = topK (kS L 0 0)) (ht : ti ≤ 2) : ∃ n ti', tickK (kS L se ti) = (datasK (kS L 0 0) 0 n, kS L (topK (kS L 0 0)) ti') ∧ ti' ≤ 2 ∧ n ≤ 4 ∧ n ≤ L.length ∧ (se = 0 ∧ ti = 0 → n = topK (kS L 0 0)) := by
  have htop : topK (kS L 0 0) ≤ 4 ∧ topK (kS L 0 0) ≤ L.length := by unfold topK; exact ⟨by omega, by show min 4 L.length ≤ _; omega⟩
  have h9 : ¬ (9 : Int) = 0 := by decide
  have hk : topK (kS L se ti) = topK (kS L 0 0) := rfl
  have hz : passK (kS L 0 0) = kS L 0 0 := if_pos rfl
  generalize hT : topK (kS L 0 0) = T at *
  by_cases hs : se = 0
  · have hp : passK (kS L se ti) = kS L se ti := if_pos hs
    subst hs
    refine ⟨T, ti, ?_, ht, htop.1, htop.2, fun _ => rfl⟩
    unfold tickK
    rw [if_neg (show ¬ (kS L 0 ti).pe = 0 from h9), hp]
    show (datasK (kS L 0 ti) 0 (topK (kS L 0 ti) - 0), kS L (max 0 (topK (kS L 0 ti))) ti) = _
    rw [hk, Nat.sub_zero, Nat.zero_max, datasK_of]
  · have hs' : se = T := by
      rcases h with h | h
      · exact absurd h.1 hs
      · exact h
    by_cases h2 : ti = 2
    · have hp : passK (kS L se ti) = kS L 0 0 := by
        unfold passK
        rw [if_neg (by exact hs), if_pos (by exact h2)]
        rfl
      refine ⟨T, 0, ?_, Nat.zero_le _, htop.1, htop.2, fun h => absurd h.1 hs⟩
      unfold tickK
      rw [if_neg (show ¬ (kS L se ti).pe = 0 from h9), hp, hk]
      show (datasK (kS L 0 0) 0 (T - 0), kS L (max 0 T) 0) = _
      rw [Nat.sub_zero, Nat.zero_max]
    · have hp : passK (kS L se ti) = kS L se (ti + 1) := by
        unfold passK
        rw [if_neg (by exact hs), if_neg (by exact h2)]
        rfl
      refine ⟨0, ti + 1, ?_, by omega, Nat.zero_le _, Nat.zero_le _, fun h => absurd h.1 hs⟩
      unfold tickK
      rw [if_neg (show ¬ (kS L se ti).pe = 0 from h9), hp, hk]
      show (datasK (kS L se (ti + 1)) se (T - se), kS L (max se T) (ti + 1)) = _
      rw [hs', Nat.sub_self, Nat.max_self]
      rfl
theorem k0_tick (L : List (List UInt8)) : tickK (k0 L) = ([⟨1, 5, 0, 0, 0, []⟩], k0 L) := rfl
theorem dataK_kS (L : List (List UInt8)) (i : Nat) : dataK (kS L 0 0) i = ⟨3, 5, 9, (i : Int) + 1, 0, L.getD i []⟩ := by
  show KP.mk 3 5 9 (((1 : Nat) : Int) + (i : Int)) (((1 : Nat) : Int) - 1) (L.getD i []) = _
  rw [show ((1 : Nat) : Int) + (i : Int) = (i : Int) + 1 by omega]
  rfl
theorem topK_kS (L : List (List UInt8)) : topK (kS L 0 0) = min 4 L.length := rfl
end Go.Proofs.Ytlobbdnogamdjaa
