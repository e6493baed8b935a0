/-
  What is proved here: a slice of records that came in lies in memory, five numbers each.
  Conditions: those that each fact names.
-/
import Derived.Test.YtoemdmfpcobadaaDoorJBootLaid
import Derived.Deep.Slices
namespace Go.Proofs.YtoemdmfpcobadaaDoor
open Go.ChangeShapes Go.WideShapes Go.ChangeAt Go.RowKit

/-- A slice of records. -/
def Boots (w : World) (v : Value) (l : List BR) : Prop := ∃ ao c, v = .slice ao l.length c ∧ l.length ≤ maxLen ∧ ∀ i b, l[i]? = some b → ∃ g off, ao = some ⟨g, off, none⟩ ∧ g < w.heap.size ∧ ∀ (j : Nat) x, (brL b)[j]? = some x → w.cell? ⟨g, off + i * 5 + j, none⟩ = some x
instance : Inhabited BR := ⟨BR.zero⟩
theorem cell_at9 {W : World} {base : Nat} {b off i k m : Nat} {cs : List Value} {v : Value} (h : W.cells? base ((⟨b, off, none⟩ : Addr).add (i * m)) m = some cs) (hk : k < m) (hv : cs[k]? = some v) : W.cell? ⟨b, off + i * m + k, none⟩ = some v := by
  have := (World.cells?_some h).2.2 k hk
  rw [Addr.add_mid, Addr.add_mid] at this
  rw [this, hv]
set_option maxRecDepth 100000 in
/-- Records that came in. -/
theorem boots_of {H : Type} {enc : TypeId × Value → H} {W : World} {base : Nat} {held : Bool} {fuel len cap : Nat} {a : Option Addr} {x : DataW H × List MemPlace} (h : DataW.trod enc Tryd.prog W base (fun _ => true) held fuel 55 (Value.slice a len cap).cells.toList = some x) : ∃ L, Boots W (.slice a len cap) L := by
  have c5 : Tryd.prog.cellsOf 40 = 5 := by kernel_rfl
  rcases DataW.trod_slice Tryd.underlying55 h with ⟨hcs, _⟩ | ⟨ad, len', cap', elems, rest, n, _, hcs, _, _, hl, hm, hlen, hel, _, _⟩
  · simp [Value.cells] at hcs
    obtain ⟨rfl, rfl, rfl⟩ := hcs
    exact ⟨[], none, 0, rfl, Nat.zero_le _, fun i b hi => by simp at hi⟩
  · simp [Value.cells] at hcs
    obtain ⟨rfl, rfl, rfl⟩ := hcs
    rw [c5] at hel
    have key : ∀ i, i < len → ∃ b : BR, ∃ cs, W.cells? base (ad.add (i * 5)) 5 = some cs ∧ cs = (brL b).toList := fun i hi => by
      have e := hel i hi
      rw [List.getElem?_eq_getElem (by omega)] at e
      obtain ⟨cs', h1, h2⟩ := Option.bind_eq_some_iff.1 e
      obtain ⟨b, hb, _⟩ := boot_cells h2
      exact ⟨b, cs', h1, hb⟩
    obtain ⟨F, hF⟩ := Deep.choose_lt (α := BR) key
    refine ⟨(List.range len).map F, some ad, cap, by simp, by simp; omega, fun i y hy => ?_⟩
    rw [List.getElem?_map, Option.map_eq_some_iff] at hy
    obtain ⟨i', hi', rfl⟩ := hy
    obtain ⟨hi, hii⟩ := List.getElem?_eq_some_iff.1 hi'
    rw [List.getElem_range] at hii
    subst hii
    obtain ⟨cs, h1, rfl⟩ := hF i (by simpa using hi)
    obtain ⟨q, off, spot⟩ := ad
    obtain ⟨cs0, h10, k00⟩ := hF 0 (by simp at hi; omega)
    have hspot : spot = none := by
      have := (World.cells?_some h10).2.2 0 (by omega)
      rw [k00] at this
      have h2 : (brL (F 0)).toList[0]? = some (.int .i64 (F 0).active) := rfl
      rw [h2] at this
      simpa [Addr.add] using World.cell?_spot this
    subst hspot
    have hall : ∀ (j : Nat) x, (brL (F i))[j]? = some x → W.cell? ⟨q, off + i * 5 + j, none⟩ = some x := fun j x hx => by
      have hj : j < 5 := by have := (Array.getElem?_eq_some_iff.1 hx).1; simpa [brL] using this
      exact cell_at9 h1 hj (by rw [Array.getElem?_toList]; exact hx)
    exact ⟨q, off, rfl, block_lt_of_cell (a := ⟨q, off + i * 5 + 0, none⟩) (hall 0 _ rfl), hall⟩
end Go.Proofs.YtoemdmfpcobadaaDoor
