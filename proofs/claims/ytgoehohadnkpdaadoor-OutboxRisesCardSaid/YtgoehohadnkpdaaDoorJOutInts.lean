/-
  What is proved here: a slice of ints that came in lies in memory as plain numbers.
  Conditions: those that the fact names.
-/
import Derived.Test.YtgoehohadnkpdaaDoorJOutLaid
import Derived.Test.YtgoehohadnkpdaaDoorJLawOutboxRises
namespace Go.Proofs.YtgoehohadnkpdaaDoor
open Go.ChangeShapes Go.WideShapes Go.ChangeAt Go.RowKit

theorem intsX_of {H : Type} {enc : TypeId × Value → H} {W : World} {base : Nat} {held : Bool} {fuel len cap : Nat} {a : Option Addr} {x : DataW H × List MemPlace} (hf : DataW.trod enc Tryd.prog W base (fun _ => true) held fuel 51 (Value.slice a len cap).cells.toList = some x) : ∃ zs, IntsX W (.slice a len cap) zs := by
  rcases open_ints Tryd.underlying51 Tryd.underlying3 (by kernel_rfl) hf with ⟨hcs, _⟩ | ⟨ad, l, c, zs, hcs, _, hl, hm, hz, _, hcell, hwz⟩
  · simp [Value.cells] at hcs
    obtain ⟨rfl, rfl, rfl⟩ := hcs
    exact ⟨[], none, 0, rfl, Nat.zero_le _, fun h => by cases h⟩
  · simp [Value.cells] at hcs
    obtain ⟨rfl, rfl, rfl⟩ := hcs
    have hbl : zs.length = cap := by simpa using hz
    refine ⟨zs.take len, some ad, cap, by simp; omega, by simp; omega, fun h0 => ?_⟩
    have h0' : 0 < len := by simp at h0; omega
    obtain ⟨b, off, spot⟩ := ad
    have hc := hcell 0 (by omega)
    have hspot : spot = none := by simpa [Addr.add] using World.cell?_spot hc
    subst hspot
    refine ⟨b, off, rfl, ?_, fun j hj => ?_⟩
    · have := block_lt_of_cell hc
      simpa [Addr.add_mid] using this
    · have hj' : j < zs.length := by simp at hj; omega
      have h1 := hcell j (by omega)
      rw [Addr.add_mid] at h1
      have h2 := bounds_i64 (hwz zs[j] (List.getElem_mem hj'))
      simp only [List.getElem_take]
      refine ⟨?_, h2.1, h2.2⟩
      rw [h1]; simp [List.getD, hj']
end Go.Proofs.YtgoehohadnkpdaaDoor
