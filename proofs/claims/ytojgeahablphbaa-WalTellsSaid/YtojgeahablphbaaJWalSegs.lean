/-
  What is proved here: rows of bytes that came in, and what the calm log does with them.
  Conditions: those that each fact names.
-/
import Derived.Test.YtojgeahablphbaaJPWalAt
namespace Go.Proofs.Ytojgeahablphbaa
open Go.RowKit

/-- Rows of bytes: a slice of slices that came in. -/
def Segs7 (w : World) (v : Value) (L : List (List UInt8)) : Prop :=
  ∃ ao c, v = .slice ao L.length c ∧ L.length ≤ maxLen ∧ (0 < L.length → ∃ b off, ao = some ⟨b, off, none⟩ ∧ b < w.heap.size ∧ L.length ≤ c ∧ ∀ i r, L[i]? = some r → ∃ a n cc, w.cell? ⟨b, off + i, none⟩ = some (.slice a n cc) ∧ r.length = n ∧ n ≤ maxLen ∧ Seg w (.slice a n cc) r)
theorem Seg.own_lt {w : World} {v : Value} {bs : List UInt8} (h : Seg w v bs) (h0 : 0 < bs.length) (q : Nat) (hq : v.ownBlock = some q) : q < w.heap.size := by
  obtain ⟨ao, c, rfl⟩ := h.shapeD
  obtain ⟨b, off, rfl, _, _, hl⟩ := h.formD h0
  cases hq
  exact hl
/-- A row of them, in every world that keeps what there was. -/
theorem Segs7.at {w : World} {ao : Option Addr} {n c : Nat} {L : List (List UInt8)} (h : Segs7 w (.slice ao n c) L) {I : Nat} (hI : I < L.length) : ∃ b off a cc, ao = some ⟨b, off, none⟩ ∧ L.length ≤ c ∧ (L.getD I []).length ≤ maxLen ∧
    (∀ W : World, Below w.heap.size w W → W.cell? ⟨b, off + I, none⟩ = some (.slice a (L.getD I []).length cc) ∧ Seg W (.slice a (L.getD I []).length cc) (L.getD I [])) ∧ (0 < (L.getD I []).length → ∀ q, (Value.slice a (L.getD I []).length cc).ownBlock = some q → q < w.heap.size) := by
  obtain ⟨ao', c', e, hm, hr⟩ := h
  cases e
  obtain ⟨b, off, rfl, hb, hc, hcell⟩ := hr (by omega)
  have hg : L[I]? = some (L.getD I []) := by simp [hI]
  obtain ⟨a, n', cc, h1, h2, h3, h4⟩ := hcell I _ hg
  subst h2
  exact ⟨b, off, a, cc, rfl, hc, h3, fun W hW => ⟨((bcell hW).1 b (off + I) hb).trans h1, h4.below hW (Nat.le_refl _)⟩, fun h0 q hq => h4.own_lt h0 q hq⟩
theorem index_rows (b off len c : Nat) (z : Int) (I : Nat) (hz : z = (I : Int)) (h : I < len) (w : World) : (Instr.indexAt 39 (.slice (some ⟨b, off, none⟩) len c) (.int .i64 z)).run Try.prog w = .ok (.pointer (some ⟨b, off + I, none⟩)) w := by
  subst hz
  have hi : (0 : Int) ≤ (I : Int) ∧ (I : Int) < (len : Int) := by omega
  simp [Instr.indexAt, asIntOf, run_underlying Try.underlying39, hi, Addr.add_mid]
  intro h'
  omega
theorem room_none (s : DS) : roomW s ⟨0, 0, [], 0, false, false⟩ = 0 := rfl
end Go.Proofs.Ytojgeahablphbaa
