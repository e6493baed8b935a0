/-
  What is proved here: steps of the store's statements that came in lie in memory, six cells each.
  Conditions: those that each fact names.
-/
import Derived.Test.YtbegphfideopoaaGreatJBoolsLaid
import Derived.Test.YtbegphfideopoaaGreatJStoreLast
namespace Go.Proofs.YtbegphfideopoaaGreat
open Go.ChangeShapes Go.WideShapes Go.ChangeAt Go.RowKit

instance : Inhabited St8 := ⟨⟨0, [], 0, 0, [], []⟩⟩
theorem chgs8_cells {H : Type} {enc : TypeId × Value → H} {W : World} {base : Nat} {held : Bool} {fuel : Nat} {cs : List Value} {x : DataW H × List MemPlace} (h : DataW.trod enc Tryz.prog W base (fun _ => true) held fuel 33 cs = some x) : ∃ v L, cs = [v] ∧ ChgsV W v L := by
  have h0 := h
  rcases DataW.trod_slice Tryz.underlying33 h with ⟨rfl, _⟩ | ⟨ad, len, cap, elems, rest, n, rfl, rfl, _⟩
  · obtain ⟨L, hL⟩ := chgs8_of (a := none) (len := 0) (cap := 0) (by simpa [Value.cells] using h0)
    exact ⟨_, L, rfl, hL⟩
  · obtain ⟨L, hL⟩ := chgs8_of (a := some ad) (len := len) (cap := cap) (by simpa [Value.cells] using h0)
    exact ⟨_, L, rfl, hL⟩
theorem bools8_cells {H : Type} {enc : TypeId × Value → H} {W : World} {base : Nat} {held : Bool} {fuel : Nat} {cs : List Value} {x : DataW H × List MemPlace} (h : DataW.trod enc Tryz.prog W base (fun _ => true) held fuel 35 cs = some x) : ∃ v L, cs = [v] ∧ BoolsIn8 W v L := by
  have h0 := h
  rcases DataW.trod_slice Tryz.underlying35 h with ⟨rfl, _⟩ | ⟨ad, len, cap, elems, rest, n, rfl, rfl, _⟩
  · obtain ⟨L, hL⟩ := bools8_of (a := none) (len := 0) (cap := 0) (by simpa [Value.cells] using h0)
    exact ⟨_, L, rfl, hL⟩
  · obtain ⟨L, hL⟩ := bools8_of (a := some ad) (len := len) (cap := cap) (by simpa [Value.cells] using h0)
    exact ⟨_, L, rfl, hL⟩
set_option maxRecDepth 100000 in
/-- One step's cells. -/
theorem step8_cells {H : Type} {enc : TypeId × Value → H} {W : World} {base : Nat} {held : Bool} {fuel : Nat} {cs : List Value} {x : DataW H × List MemPlace} (h : DataW.trod enc Tryz.prog W base (fun _ => true) held fuel 37 cs = some x) :
    ∃ (a : St8) (u bv sv : Value), cs = stL8 a u bv sv ∧ At8 W u bv sv a := by
  have c1 : Tryz.prog.cellsOf 3 = 1 := by kernel_rfl
  have c2 : Tryz.prog.cellsOf 34 = 1 := by kernel_rfl
  have c3 : Tryz.prog.cellsOf 33 = 1 := by kernel_rfl
  have c4 : Tryz.prog.cellsOf 35 = 1 := by kernel_rfl
  have c6 : Tryz.prog.cellsOf 37 = 6 := by kernel_rfl
  obtain ⟨xs, m, _, _, hcl, hxl, hf⟩ := DataW.trod_struct Tryz.underlying37 h
  have hx6 : xs.length = 6 := hxl
  have hc6 : cs.length = 6 := hcl.trans c6
  have g0 : DataW.trod enc Tryz.prog W base (fun _ => true) held m 3 ((cs.drop 0).take (Tryz.prog.cellsOf 3)) = xs[0]? := hf 0 _ rfl
  have g1 : DataW.trod enc Tryz.prog W base (fun _ => true) held m 33 ((cs.drop 1).take (Tryz.prog.cellsOf 33)) = xs[1]? := hf 1 _ rfl
  have g2 : DataW.trod enc Tryz.prog W base (fun _ => true) held m 3 ((cs.drop 2).take (Tryz.prog.cellsOf 3)) = xs[2]? := hf 2 _ rfl
  have g3 : DataW.trod enc Tryz.prog W base (fun _ => true) held m 3 ((cs.drop 3).take (Tryz.prog.cellsOf 3)) = xs[3]? := hf 3 _ rfl
  have g4 : DataW.trod enc Tryz.prog W base (fun _ => true) held m 34 ((cs.drop 4).take (Tryz.prog.cellsOf 34)) = xs[4]? := hf 4 _ rfl
  have g5 : DataW.trod enc Tryz.prog W base (fun _ => true) held m 35 ((cs.drop 5).take (Tryz.prog.cellsOf 35)) = xs[5]? := hf 5 _ rfl
  rw [c1, List.getElem?_eq_getElem (by omega)] at g0 g2 g3
  rw [c3, List.getElem?_eq_getElem (by omega)] at g1
  rw [c2, List.getElem?_eq_getElem (by omega)] at g4
  rw [c4, List.getElem?_eq_getElem (by omega)] at g5
  obtain ⟨z0, e0, _, _⟩ := DataW.trod_int Tryz.underlying3 g0
  obtain ⟨u, L, e1, hL⟩ := chgs8_cells g1
  obtain ⟨z2, e2, _, _⟩ := DataW.trod_int Tryz.underlying3 g2
  obtain ⟨z3, e3, _, _⟩ := DataW.trod_int Tryz.underlying3 g3
  obtain ⟨ba, bc, bs, e4, _, hbs⟩ := seg_cells8 g4
  obtain ⟨sv, sl, e5, hs⟩ := bools8_cells g5
  refine ⟨⟨z0, L, z2, z3, bs, sl⟩, u, .slice ba bs.length bc, sv, ?_, hL, hbs, hs⟩
  unfold stL8
  match cs, hc6 with
  | [x0, x1, x2, x3, x4, x5], _ =>
    simp at e0 e1 e2 e3 e4 e5
    simp [e0, e1, e2, e3, e4, e5]
set_option maxRecDepth 100000 in
/-- Steps that came in. -/
theorem steps8_of {H : Type} {enc : TypeId × Value → H} {W : World} {base : Nat} {held : Bool} {fuel len cap : Nat} {a : Option Addr} {x : DataW H × List MemPlace} (h : DataW.trod enc Tryz.prog W base (fun _ => true) held fuel 22 (Value.slice a len cap).cells.toList = some x) : ∃ L, Steps8 W (.slice a len cap) L := by
  have c6 : Tryz.prog.cellsOf 37 = 6 := by kernel_rfl
  rcases DataW.trod_slice Tryz.underlying22 h with ⟨hcs, _⟩ | ⟨ad, len', cap', elems, rest, n, _, hcs, _, _, hl, hm, hlen, hel, _, _⟩
  · simp [Value.cells] at hcs
    obtain ⟨rfl, rfl, rfl⟩ := hcs
    exact ⟨[], none, 0, rfl, Nat.zero_le _, fun i b hi => by simp at hi⟩
  · simp [Value.cells] at hcs
    obtain ⟨rfl, rfl, rfl⟩ := hcs
    rw [c6] at hel
    have key : ∀ i, i < len → ∃ b : St8, ∃ cs u bv sv, W.cells? base (ad.add (i * 6)) 6 = some cs ∧ cs = stL8 b u bv sv ∧ At8 W u bv sv b := fun i hi => by
      have e := hel i hi
      rw [List.getElem?_eq_getElem (by omega)] at e
      obtain ⟨cs', h1, h2⟩ := Option.bind_eq_some_iff.1 e
      obtain ⟨b, u, bv, sv, hb, hat⟩ := step8_cells h2
      exact ⟨b, cs', u, bv, sv, h1, hb, hat⟩
    obtain ⟨F, hF⟩ := Deep.choose_lt (α := St8) key
    refine ⟨(List.range len).map F, some ad, cap, by simp, by simp; omega, fun i y hy => ?_⟩
    rw [List.getElem?_map, Option.map_eq_some_iff] at hy
    obtain ⟨i', hi', rfl⟩ := hy
    obtain ⟨hi, hii⟩ := List.getElem?_eq_some_iff.1 hi'
    rw [List.getElem_range] at hii
    subst hii
    obtain ⟨cs, u, bv, sv, h1, rfl, hat⟩ := hF i (by simpa using hi)
    obtain ⟨q, off, spot⟩ := ad
    obtain ⟨cs0, u0, bv0, sv0, h10, rfl, -⟩ := hF 0 (by simp at hi; omega)
    have hspot : spot = none := by
      have := (World.cells?_some h10).2.2 0 (by omega)
      have h2 : (stL8 (F 0) u0 bv0 sv0)[0]? = some (.int .i64 (F 0).act) := rfl
      rw [h2] at this
      simpa [Addr.add] using World.cell?_spot this
    subst hspot
    have p0 := cell_at8 h1 (k := 0) (by omega) rfl
    refine ⟨q, off, u, bv, sv, rfl, cell_lt8 p0, fun j x hx => ?_, hat⟩
    have hj : j < 6 := (List.getElem?_eq_some_iff.1 hx).1
    exact cell_at8 h1 (k := j) hj hx
end Go.Proofs.YtbegphfideopoaaGreat
