/-
  What is proved here: acts that came in lie apart from what is laid later.
  Conditions: those that each fact names.
-/
import Derived.Test.YtjhiopfhndbfkaaDiskActs
import Derived.Test.YtjhiopfhndbfkaaDiskInts
namespace Go.Proofs.Ytjhiopfhndbfkaa
open Go.RowKit

theorem BoolsIn.apart {w W : World} {v : Value} {l : List Bool} {T : Nat → Prop} (hw : BoolsIn w v l) (hb : Below w.heap.size w W) (hT : ∀ q, T q → w.heap.size ≤ q) : BoolsA W T v l := by
  obtain ⟨ao, c, h1, h2⟩ := hw
  refine ⟨ao, c, h1, fun j b hj => ?_⟩
  obtain ⟨q, off, e, hq, hc⟩ := h2 j b hj
  exact ⟨q, off, e, Nat.lt_of_lt_of_le hq hb.size, fun hTq => by have := hT q hTq; omega, by rw [hb.cell (p := ⟨q, off + j, none⟩) hq]; exact hc⟩
theorem Seg.apart {w : World} {v : Value} {bs : List UInt8} {T : Nat → Prop} (h : Seg w v bs) (hT : ∀ q, T q → w.heap.size ≤ q) : 0 < bs.length → ∀ q, v.ownBlock = some q → ¬ T q := fun h0 q hq e => by
  rcases h with ⟨h, _⟩ | ⟨b, off, c', h, _, _, h4⟩
  · rw [h] at h0; cases h0
  · rw [h] at hq; simp [Value.ownBlock] at hq; have := hT q e; omega
end Go.Proofs.Ytjhiopfhndbfkaa
