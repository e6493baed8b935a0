/-
  What is proved here: booleans that came in lie in memory as plain data.
  Conditions: those that each fact names.
-/
import Derived.Test.YtbegphfideopoaaGreatJStoreLaid
import Derived.Test.YtbegphfideopoaaGreatJBoolsIn8
namespace Go.Proofs.YtbegphfideopoaaGreat
open Go.ChangeShapes Go.WideShapes Go.ChangeAt Go.RowKit

theorem bools8_of {H : Type} {enc : TypeId × Value → H} {W : World} {base : Nat} {held : Bool} {fuel len cap : Nat} {a : Option Addr} {x : DataW H × List MemPlace} (h : DataW.trod enc Tryz.prog W base (fun _ => true) held fuel 35 (Value.slice a len cap).cells.toList = some x) : ∃ L, BoolsIn8 W (.slice a len cap) L := by
  have c1 : Tryz.prog.cellsOf 4 = 1 := by kernel_rfl
  rcases DataW.trod_slice Tryz.underlying35 h with ⟨hcs, _⟩ | ⟨ad, len', cap', elems, rest, n, _, hcs, _, _, hl, hm, hlen, hel, _, _⟩
  · simp [Value.cells] at hcs
    obtain ⟨rfl, rfl, rfl⟩ := hcs
    exact ⟨[], none, 0, rfl, fun j b hj => by simp at hj⟩
  · simp [Value.cells] at hcs
    obtain ⟨rfl, rfl, rfl⟩ := hcs
    rw [c1] at hel
    have key : ∀ i, i < len → ∃ b : Bool, W.cell? (ad.add i) = some (.bool b) := fun i hi => by
      have e := hel i hi
      rw [List.getElem?_eq_getElem (by omega), Nat.mul_one] at e
      obtain ⟨cs', h1, h2⟩ := Option.bind_eq_some_iff.1 e
      obtain ⟨b, e1, _⟩ := DataW.trod_bool Tryz.underlying4 h2
      subst e1
      have := (World.cells?_some h1).2.2 0 (by omega)
      rw [Deep.add_add, Nat.add_zero] at this
      exact ⟨b, this⟩
    obtain ⟨F, hF⟩ := Deep.choose_lt (α := Bool) key
    refine ⟨(List.range len).map F, some ad, cap, by simp, fun j b hj => ?_⟩
    rw [List.getElem?_map, Option.map_eq_some_iff] at hj
    obtain ⟨i', hi', rfl⟩ := hj
    obtain ⟨hi, hii⟩ := List.getElem?_eq_some_iff.1 hi'
    rw [List.getElem_range] at hii
    subst hii
    have hc := hF j (by simpa using hi)
    obtain ⟨q, off, spot⟩ := ad
    have hc0 := hF 0 (by simp at hi; omega)
    have hspot : spot = none := by simpa [Addr.add] using World.cell?_spot hc0
    subst hspot
    rw [Addr.add_mid] at hc
    exact ⟨q, off, rfl, cell_lt8 hc, hc⟩
end Go.Proofs.YtbegphfideopoaaGreat
