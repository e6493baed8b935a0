/-
  What is proved here: slices of ints that came in, alone and two in an array, lie in memory as plain numbers.
  Conditions: those that each fact names.
-/
import Derived.Test.YtnagdgkkkkpekabDoorCrcLaid
import Derived.Test.YtnagdgkkkkpekabDoorWaveInts
namespace Go.Proofs.YtnagdgkkkkpekabDoor
open Go.ChangeShapes Go.WideShapes Go.ChangeAt Go.RowKit

theorem intsI_cells {H : Type} {enc : TypeId × Value → H} {W : World} {base : Nat} {held : Bool} {fuel : Nat} {cs : List Value} {x : DataW H × List MemPlace} (hf : DataW.trod enc Tryd.prog W base (fun _ => true) held fuel 22 cs = some x) : ∃ (v : Value) (zs : List Int), cs = [v] ∧ IntsI W v zs := by
  rcases open_ints Tryd.underlying22 Tryd.underlying3 (by kernel_rfl) hf with ⟨hcs, _⟩ | ⟨ad, l, c, zs, hcs, _, hl, hm, hz, _, hcell, hwz⟩
  · exact ⟨_, [], hcs, IntsI.nil W⟩
  · have hbl : zs.length = c := by simpa using hz
    have hln : (zs.take l).length = l := by simp; omega
    refine ⟨_, zs.take l, hcs, some ad, c, by rw [hln], by rw [hln]; exact hl, by rw [hln]; omega, (fun e => by cases e), fun j z hj => ?_⟩
    have hj' : j < l := by have := (List.getElem?_eq_some_iff.1 hj).1; omega
    rw [List.getElem?_take_of_lt hj'] at hj
    obtain ⟨b, off, spot⟩ := ad
    have hc := hcell 0 (by omega)
    have hspot : spot = none := by simpa [Addr.add] using World.cell?_spot hc
    subst hspot
    refine ⟨b, off, rfl, ?_, ?_⟩
    · have := block_lt_of_cell hc
      simpa [Addr.add_mid] using this
    · have h1 := hcell j (by omega)
      rw [Addr.add_mid] at h1
      rw [h1]
      obtain ⟨hjl, rfl⟩ := List.getElem?_eq_some_iff.1 hj
      simp [List.getD, hjl]
theorem intsI_of {H : Type} {enc : TypeId × Value → H} {W : World} {base : Nat} {held : Bool} {fuel len cap : Nat} {a : Option Addr} {x : DataW H × List MemPlace} (hf : DataW.trod enc Tryd.prog W base (fun _ => true) held fuel 22 (Value.slice a len cap).cells.toList = some x) : ∃ zs, IntsI W (.slice a len cap) zs := by
  obtain ⟨v, zs, e, h⟩ := intsI_cells hf
  simp [Value.cells] at e
  subst e
  exact ⟨zs, h⟩
end Go.Proofs.YtnagdgkkkkpekabDoor
