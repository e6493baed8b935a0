/-
  What is proved here: reports that came in are four numbers each.
  Conditions: those that each fact names.
-/
import Derived.Test.YtgoehohadnkpdaaDoorJCrcLaid
import Derived.Test.YtgoehohadnkpdaaDoorJOutRight
import Derived.Deep.Slices
namespace Go.Proofs.YtgoehohadnkpdaaDoor
open Go.ChangeShapes Go.WideShapes Go.ChangeAt Go.RowKit

theorem take_oneX {cs : List Value} {k : Nat} {v : Value} (h : (cs.drop k).take 1 = [v]) : cs[k]? = some v := by
  have : ((cs.drop k).take 1)[0]? = some v := by rw [h]; rfl
  simpa [List.getElem?_take, List.getElem?_drop] using this
set_option maxRecDepth 100000 in
/-- One report's cells. -/
theorem rep_cells {H : Type} {enc : TypeId × Value → H} {W : World} {base : Nat} {held : Bool} {fuel : Nat} {cs : List Value} {x : DataW H × List MemPlace} (h : DataW.trod enc Tryd.prog W base (fun _ => true) held fuel 23 cs = some x) :
    ∃ b : RP, cs = rpL b := by
  have c1 : Tryd.prog.cellsOf 3 = 1 := by kernel_rfl
  have c4 : Tryd.prog.cellsOf 23 = 4 := by kernel_rfl
  obtain ⟨xs, m, _, _, hcl, hxl, hf⟩ := DataW.trod_struct Tryd.underlying23 h
  have hx4 : xs.length = 4 := hxl
  have hc4 : cs.length = 4 := hcl.trans c4
  have g0 : DataW.trod enc Tryd.prog W base (fun _ => true) held m 3 ((cs.drop 0).take (Tryd.prog.cellsOf 3)) = xs[0]? := hf 0 _ rfl
  have g1 : DataW.trod enc Tryd.prog W base (fun _ => true) held m 3 ((cs.drop 1).take (Tryd.prog.cellsOf 3)) = xs[1]? := hf 1 _ rfl
  have g2 : DataW.trod enc Tryd.prog W base (fun _ => true) held m 3 ((cs.drop 2).take (Tryd.prog.cellsOf 3)) = xs[2]? := hf 2 _ rfl
  have g3 : DataW.trod enc Tryd.prog W base (fun _ => true) held m 3 ((cs.drop 3).take (Tryd.prog.cellsOf 3)) = xs[3]? := hf 3 _ rfl
  rw [c1, List.getElem?_eq_getElem (by omega)] at g0 g1 g2 g3
  obtain ⟨z0, e0, _, _⟩ := DataW.trod_int Tryd.underlying3 g0
  obtain ⟨z1, e1, _, _⟩ := DataW.trod_int Tryd.underlying3 g1
  obtain ⟨z2, e2, _, _⟩ := DataW.trod_int Tryd.underlying3 g2
  obtain ⟨z3, e3, _, _⟩ := DataW.trod_int Tryd.underlying3 g3
  refine ⟨⟨z0, z1, z2, z3⟩, ?_⟩
  have k0 := take_oneX e0
  have k1 := take_oneX e1
  have k2 := take_oneX e2
  have k3 := take_oneX e3
  match cs, hc4 with
  | [x0, x1, x2, x3], _ =>
    simp at k0 k1 k2 k3
    simp [rpL, k0, k1, k2, k3]
set_option maxRecDepth 100000 in
/-- A report that came in as a value. -/
theorem rep_of {H : Type} {enc : TypeId × Value → H} {W : World} {base b0 : Nat} {held : Bool} {r : Reach} {v : Value} {d : DataW H} {ps : List MemPlace} (hv : Value.okWide Tryd.prog W r b0 23 v) (h : DataW.Trod enc Tryd.prog W base (fun _ => true) held 23 v d ps) : ∃ b : RP, v = rpV b := by
  obtain ⟨cs, rfl, hn⟩ := okWide_struct Tryd.underlying23 hv
  obtain ⟨fuel, hf⟩ := h
  obtain ⟨b, hb⟩ := rep_cells hf
  refine ⟨b, ?_⟩
  have e : cs.toList = rpL b := hb
  unfold rpV
  rw [← e]
/-- A slice of reports. -/
def Reps (w : World) (v : Value) (l : List RP) : Prop := ∃ ao c, v = .slice ao l.length c ∧ l.length ≤ maxLen ∧ ∀ i b, l[i]? = some b → ∃ g off, ao = some ⟨g, off, none⟩ ∧ g < w.heap.size ∧ ∀ (j : Nat) x, (rpL b)[j]? = some x → w.cell? ⟨g, off + i * 4 + j, none⟩ = some x
instance : Inhabited RP := ⟨⟨0, 0, 0, 0⟩⟩
theorem cell_atX {W : World} {base : Nat} {b off i k m : Nat} {cs : List Value} {v : Value} (h : W.cells? base ((⟨b, off, none⟩ : Addr).add (i * m)) m = some cs) (hk : k < m) (hv : cs[k]? = some v) : W.cell? ⟨b, off + i * m + k, none⟩ = some v := by
  have := (World.cells?_some h).2.2 k hk
  rw [Addr.add_mid, Addr.add_mid] at this
  rw [this, hv]
set_option maxRecDepth 100000 in
/-- Reports that came in. -/
theorem reps_of {H : Type} {enc : TypeId × Value → H} {W : World} {base : Nat} {held : Bool} {fuel len cap : Nat} {a : Option Addr} {x : DataW H × List MemPlace} (h : DataW.trod enc Tryd.prog W base (fun _ => true) held fuel 50 (Value.slice a len cap).cells.toList = some x) : ∃ L, Reps W (.slice a len cap) L := by
  have c4 : Tryd.prog.cellsOf 23 = 4 := by kernel_rfl
  rcases DataW.trod_slice Tryd.underlying50 h with ⟨hcs, _⟩ | ⟨ad, len', cap', elems, rest, n, _, hcs, _, _, hl, hm, hlen, hel, _, _⟩
  · simp [Value.cells] at hcs
    obtain ⟨rfl, rfl, rfl⟩ := hcs
    exact ⟨[], none, 0, rfl, Nat.zero_le _, fun i b hi => by simp at hi⟩
  · simp [Value.cells] at hcs
    obtain ⟨rfl, rfl, rfl⟩ := hcs
    rw [c4] at hel
    have key : ∀ i, i < len → ∃ b : RP, ∃ cs, W.cells? base (ad.add (i * 4)) 4 = some cs ∧ cs = rpL b := fun i hi => by
      have e := hel i hi
      rw [List.getElem?_eq_getElem (by omega)] at e
      obtain ⟨cs', h1, h2⟩ := Option.bind_eq_some_iff.1 e
      obtain ⟨b, hb⟩ := rep_cells h2
      exact ⟨b, cs', h1, hb⟩
    obtain ⟨F, hF⟩ := Deep.choose_lt (α := RP) key
    refine ⟨(List.range len).map F, some ad, cap, by simp, by simp; omega, fun i y hy => ?_⟩
    rw [List.getElem?_map, Option.map_eq_some_iff] at hy
    obtain ⟨i', hi', rfl⟩ := hy
    obtain ⟨hi, hii⟩ := List.getElem?_eq_some_iff.1 hi'
    rw [List.getElem_range] at hii
    subst hii
    obtain ⟨cs, h1, rfl⟩ := hF i (by simpa using hi)
    obtain ⟨q, off, spot⟩ := ad
    obtain ⟨cs0, h10, k00⟩ := hF 0 (by simp at hi; omega)
    have hspot : spot = none := by
      have := (World.cells?_some h10).2.2 0 (by omega)
      rw [k00] at this
      have h2 : (rpL (F 0))[0]? = some (.int .i64 (F 0).c) := rfl
      rw [h2] at this
      simpa [Addr.add] using World.cell?_spot this
    subst hspot
    have hall : ∀ (j : Nat) x, (rpL (F i))[j]? = some x → W.cell? ⟨q, off + i * 4 + j, none⟩ = some x := fun j x hx => by
      have hj : j < 4 := by have := (List.getElem?_eq_some_iff.1 hx).1; simpa [rpL] using this
      exact cell_atX h1 hj hx
    exact ⟨q, off, rfl, block_lt_of_cell (a := ⟨q, off + i * 4 + 0, none⟩) (hall 0 _ rfl), hall⟩
end Go.Proofs.YtgoehohadnkpdaaDoor
