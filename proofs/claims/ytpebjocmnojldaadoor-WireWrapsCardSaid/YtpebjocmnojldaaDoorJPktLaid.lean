/-
  What is proved here: a packet that came in lies in memory as plain data, where the listed variable is laid.
  Conditions: those that each fact names.
-/
import Derived.Test.YtpebjocmnojldaaDoorJCrcLaid
import Derived.Test.YtpebjocmnojldaaDoorJLinkRight
import Derived.Test.YtpebjocmnojldaaDoorJSegKit
import Derived.Deep.Slices
namespace Go.Proofs.YtpebjocmnojldaaDoor
open Go.ChangeShapes Go.WideShapes Go.ChangeAt Go.RowKit

theorem seg_cellsK {H : Type} {enc : TypeId × Value → H} {W : World} {base : Nat} {held : Bool} {fuel : Nat} {cs : List Value} {x : DataW H × List MemPlace} (hf : DataW.trod enc Tryd.prog W base (fun _ => true) held fuel 23 cs = some x) :
    ∃ a c, ∃ bs : List UInt8, cs = [.slice a bs.length c] ∧ bs.length ≤ maxLen ∧ Seg W (.slice a bs.length c) bs := by
  rcases open_ints Tryd.underlying23 Tryd.underlying5 (by kernel_rfl) hf with ⟨hcs, _⟩ | ⟨ad, l, c, zs, hcs, _⟩
  · subst hcs
    obtain ⟨bs, h1, h2, h3⟩ := seg_of (a := none) (len := 0) (cap := 0) (by simpa [Value.cells] using hf)
    exact ⟨none, 0, bs, by rw [h1], by rw [h1]; exact h2, by rw [h1]; exact h3⟩
  · subst hcs
    obtain ⟨bs, h1, h2, h3⟩ := seg_of (a := some ad) (len := l) (cap := c) (by simpa [Value.cells] using hf)
    exact ⟨some ad, c, bs, by rw [h1], by rw [h1]; exact h2, by rw [h1]; exact h3⟩
theorem take_oneK {cs : List Value} {k : Nat} {v : Value} (h : (cs.drop k).take 1 = [v]) : cs[k]? = some v := by
  have : ((cs.drop k).take 1)[0]? = some v := by rw [h]; rfl
  simpa [List.getElem?_take, List.getElem?_drop] using this
set_option maxRecDepth 100000 in
/-- One packet's cells. -/
theorem pkt_cells {H : Type} {enc : TypeId × Value → H} {W : World} {base : Nat} {held : Bool} {fuel : Nat} {cs : List Value} {x : DataW H × List MemPlace} (h : DataW.trod enc Tryd.prog W base (fun _ => true) held fuel 25 cs = some x) :
    ∃ (p : KP) (a : Option Addr) (c : Nat), cs = kpL p (.slice a p.b.length c) ∧ p.b.length ≤ maxLen ∧ Seg W (.slice a p.b.length c) p.b := by
  have c1 : Tryd.prog.cellsOf 3 = 1 := by kernel_rfl
  have c2 : Tryd.prog.cellsOf 23 = 1 := by kernel_rfl
  have c6 : Tryd.prog.cellsOf 25 = 6 := by kernel_rfl
  obtain ⟨xs, m, _, _, hcl, hxl, hf⟩ := DataW.trod_struct Tryd.underlying25 h
  have hx6 : xs.length = 6 := hxl
  have hc6 : cs.length = 6 := hcl.trans c6
  have g0 : DataW.trod enc Tryd.prog W base (fun _ => true) held m 3 ((cs.drop 0).take (Tryd.prog.cellsOf 3)) = xs[0]? := hf 0 _ rfl
  have g1 : DataW.trod enc Tryd.prog W base (fun _ => true) held m 3 ((cs.drop 1).take (Tryd.prog.cellsOf 3)) = xs[1]? := hf 1 _ rfl
  have g2 : DataW.trod enc Tryd.prog W base (fun _ => true) held m 3 ((cs.drop 2).take (Tryd.prog.cellsOf 3)) = xs[2]? := hf 2 _ rfl
  have g3 : DataW.trod enc Tryd.prog W base (fun _ => true) held m 3 ((cs.drop 3).take (Tryd.prog.cellsOf 3)) = xs[3]? := hf 3 _ rfl
  have g4 : DataW.trod enc Tryd.prog W base (fun _ => true) held m 3 ((cs.drop 4).take (Tryd.prog.cellsOf 3)) = xs[4]? := hf 4 _ rfl
  have g5 : DataW.trod enc Tryd.prog W base (fun _ => true) held m 23 ((cs.drop 5).take (Tryd.prog.cellsOf 23)) = xs[5]? := hf 5 _ rfl
  rw [c1, List.getElem?_eq_getElem (by omega)] at g0 g1 g2 g3 g4
  rw [c2, List.getElem?_eq_getElem (by omega)] at g5
  obtain ⟨z0, e0, _, _⟩ := DataW.trod_int Tryd.underlying3 g0
  obtain ⟨z1, e1, _, _⟩ := DataW.trod_int Tryd.underlying3 g1
  obtain ⟨z2, e2, _, _⟩ := DataW.trod_int Tryd.underlying3 g2
  obtain ⟨z3, e3, _, _⟩ := DataW.trod_int Tryd.underlying3 g3
  obtain ⟨z4, e4, _, _⟩ := DataW.trod_int Tryd.underlying3 g4
  obtain ⟨a, c, bs, e5, hb, hs⟩ := seg_cellsK g5
  refine ⟨⟨z0, z1, z2, z3, z4, bs⟩, a, c, ?_, hb, hs⟩
  have k0 := take_oneK e0
  have k1 := take_oneK e1
  have k2 := take_oneK e2
  have k3 := take_oneK e3
  have k4 := take_oneK e4
  have k5 := take_oneK e5
  match cs, hc6 with
  | [x0, x1, x2, x3, x4, x5], _ =>
    simp at k0 k1 k2 k3 k4 k5
    simp [kpL, k0, k1, k2, k3, k4, k5]
set_option maxRecDepth 100000 in
/-- A packet that came in as a value. -/
theorem pkt_of {H : Type} {enc : TypeId × Value → H} {W : World} {base b0 : Nat} {held : Bool} {r : Reach} {v : Value} {d : DataW H} {ps : List MemPlace} (hv : Value.okWide Tryd.prog W r b0 25 v) (h : DataW.Trod enc Tryd.prog W base (fun _ => true) held 25 v d ps) : ∃ (p : KP) (a : Option Addr) (c : Nat), v = kpV p (.slice a p.b.length c) ∧ p.b.length ≤ maxLen ∧ Seg W (.slice a p.b.length c) p.b := by
  obtain ⟨cs, rfl, hn⟩ := okWide_struct Tryd.underlying25 hv
  obtain ⟨fuel, hf⟩ := h
  obtain ⟨p, a, c, hb, h1, h2⟩ := pkt_cells hf
  refine ⟨p, a, c, ?_, h1, h2⟩
  have e : cs.toList = kpL p (.slice a p.b.length c) := hb
  unfold kpV
  rw [← e]
end Go.Proofs.YtpebjocmnojldaaDoor
