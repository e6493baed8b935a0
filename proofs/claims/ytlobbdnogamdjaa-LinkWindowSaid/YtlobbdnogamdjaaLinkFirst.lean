/-
  What is proved here: plain facts on what a link does that has sent nothing yet; rows that came in, later.
  Conditions: those that each fact names.
-/
import Derived.Test.YtlobbdnogamdjaaLinkAwake
namespace Go.Proofs.Ytlobbdnogamdjaa
open Go.RowKit

/-- A link with the peer 9, so many of whose bodies were sent. -/
def kS (L : List (List UInt8)) (se ti : Nat) : KS := ⟨5, 9, 1, se, 1, ti, L⟩
def k0 (L : List (List UInt8)) : KS := ⟨5, 0, 1, 0, 1, 0, L⟩
theorem k0_send (L : List (List UInt8)) (r : List UInt8) (h1 : r.length ≤ 1500) (h2 : L.length < 16) : sendK (k0 L) r = (0, k0 (L ++ [r])) := by
  unfold sendK
  rw [if_neg (by omega), if_neg (by show ¬ L.length = 16; omega)]
  rfl
def welP : KP := ⟨2, 9, 5, 0, 0, []⟩
theorem wel_take (L : List (List UInt8)) : takeK (k0 L) welP = ([], [], kS L 0 0) := by
  unfold takeK
  rw [show rightK welP = true from by decide]
  rfl
theorem kS_tick0 (L : List (List UInt8)) : tickK (kS L 0 0) = (datasK (kS L 0 0) 0 (topK (kS L 0 0)), kS L (topK (kS L 0 0)) 0) := by
  unfold tickK
  rw [if_neg (by show ¬ (9 : Int) = 0; decide)]
  have hp : passK (kS L 0 0) = kS L 0 0 := by
    unfold passK
    exact if_pos rfl
  rw [hp]
  show (datasK (kS L 0 0) 0 (topK (kS L 0 0) - 0), kS L (max 0 (topK (kS L 0 0))) 0) = _
  rw [Nat.sub_zero, Nat.zero_max]
/-- What a packet that lets nothing go is answered. -/
theorem still_take (L : List (List UInt8)) (n : Nat) (p : KP) (h : ¬ (rightK p = true ∧ 9 ≤ p.f ∧ (p.k ≠ 3 ∨ p.t = 5 ∧ p.f = 9))) : (takeK (kS L n 0) p).1 = [] ∧ (takeK (kS L n 0) p).2.2 = kS L n 0 ∧ ((takeK (kS L n 0) p).2.1 = [] ∨ (takeK (kS L n 0) p).2.1 = [⟨1, 5, 9, 0, 0, []⟩]) := by
  unfold takeK
  by_cases h1 : rightK p = false ∨ p.f < (kS L n 0).pe
  · rw [if_pos h1]
    exact ⟨rfl, rfl, .inl rfl⟩
  rw [if_neg h1]
  have hr : rightK p = true := by
    cases e : rightK p with
    | true => rfl
    | false => exact absurd (.inl e) h1
  have hf : 9 ≤ p.f := Classical.byContradiction fun e => h1 (.inr (by show p.f < 9; omega))
  have hk : p.k = 3 := Classical.byContradiction fun e => h ⟨hr, hf, .inl e⟩
  have ht : p.t ≠ 5 ∨ p.f ≠ 9 := by
    by_cases e : p.t = 5
    · exact .inr fun e2 => h ⟨hr, hf, .inr ⟨e, e2⟩⟩
    · exact .inl e
  rw [if_neg (by omega), if_neg (by omega)]
  unfold dataTakeK
  rw [if_pos (by exact ht)]
  exact ⟨rfl, rfl, .inr rfl⟩
theorem RowsV.at {w : World} {v : Value} {L : List (List UInt8)} (h : RowsV w v L) {I : Nat} (hI : I < L.length) : ∃ b off c a cc, v = .slice (some ⟨b, off, none⟩) L.length c ∧ b < w.heap.size ∧ ∀ W : World, Below w.heap.size w W → W.cell? ⟨b, off + I, none⟩ = some (.slice a (L.getD I []).length cc) ∧ Seg W (.slice a (L.getD I []).length cc) (L.getD I []) := by
  obtain ⟨ao, c, hv, hm, hat⟩ := h
  have hr : L[I]? = some (L.getD I []) := by rw [List.getD_eq_getElem?_getD, List.getElem?_eq_getElem hI]; rfl
  obtain ⟨b, off, rfl, hb, u, hc, hs⟩ := hat I _ hr
  obtain ⟨a, cc, rfl⟩ := hs.shapeD
  exact ⟨b, off, c, a, cc, hv, hb, fun W hW => ⟨(hW.cell (p := ⟨b, off + I, none⟩) hb).trans hc, hs.below hW (Nat.le_refl _)⟩⟩
theorem take_nextK {L : List (List UInt8)} {k : Nat} (h : k < L.length) : L.take (k + 1) = L.take k ++ [L.getD k []] := by
  rw [List.take_add_one, List.getD_eq_getElem?_getD, List.getElem?_eq_getElem h]
  rfl
end Go.Proofs.Ytlobbdnogamdjaa
