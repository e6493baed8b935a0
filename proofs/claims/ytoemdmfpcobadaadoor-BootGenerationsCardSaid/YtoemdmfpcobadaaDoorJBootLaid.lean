/-
  What is proved here: records that came in are five numbers each.
  Conditions: those that each fact names.
-/
import Derived.Test.YtoemdmfpcobadaaDoorJCrcLaid
import Derived.Test.YtoemdmfpcobadaaDoorJBootSmall
import Derived.WideKeyArr2
namespace Go.Proofs.YtoemdmfpcobadaaDoor
open Go.ChangeShapes Go.WideShapes Go.ChangeAt Go.RowKit

theorem arrKeyB : WideMaps.ArrKey Tryd.prog 38 3 2 := ⟨Tryd.underlying38, by kernel_rfl, by kernel_rfl, by kernel_rfl⟩
/-- Five numbers of 64 bits. -/
def BR.wf (b : BR) : Prop := (Lit.int .i64 b.active).wf = true ∧ (Lit.int .i64 b.trial).wf = true ∧ (Lit.int .i64 b.tries).wf = true ∧ (Lit.int .i64 b.v0).wf = true ∧ (Lit.int .i64 b.v1).wf = true
set_option maxRecDepth 100000 in
theorem two_cells9 {H : Type} {enc : TypeId × Value → H} {W : World} {base : Nat} {sp : Nat → Bool} {held : Bool} {fuel : Nat} {cs : List Value} {x : DataW H × List MemPlace} (hl : cs.length = 2) (hf : DataW.trod enc Tryd.prog W base sp held fuel 38 cs = some x) :
    ∃ y z : Int, cs = [.int .i64 y, .int .i64 z] ∧ (Lit.int .i64 y).wf = true ∧ (Lit.int .i64 z).wf = true := by
  cases fuel with
  | zero => simp [DataW.trod] at hf
  | succ m =>
    rw [DataW.trod_step] at hf
    unfold DataW.trodStep at hf
    simp only [arrKeyB.hu] at hf
    rw [if_pos (by rw [arrKeyB.size]; simpa using hl)] at hf
    simp only [Option.map_eq_some_iff] at hf
    obtain ⟨ys, hy, _⟩ := hf
    obtain ⟨a, b, rfl⟩ : ∃ a b, cs = [a, b] := by
      match cs, hl with
      | [a, b], _ => exact ⟨a, b, rfl⟩
    have hr : List.range 2 = [0, 1] := rfl
    rw [hr] at hy
    rw [List.mapM_cons] at hy
    simp only [bind, Option.bind_eq_some_iff, pure, Option.some.injEq] at hy
    obtain ⟨y0, hy0, ys', hys, _⟩ := hy
    rw [List.mapM_cons] at hys
    simp only [bind, Option.bind_eq_some_iff, pure, Option.some.injEq] at hys
    obtain ⟨y1, hy1, _⟩ := hys
    obtain ⟨z0, e0, _, w0⟩ := DataW.trod_int Tryd.underlying3 hy0
    obtain ⟨z1, e1, _, w1⟩ := DataW.trod_int Tryd.underlying3 hy1
    have h1 : Tryd.prog.cellsOf 3 = 1 := arrKeyB.one
    rw [h1] at e0 e1
    simp at e0 e1
    exact ⟨z0, z1, by rw [e0, e1], w0, w1⟩
theorem take_one9 {cs : List Value} {k : Nat} {v : Value} (h : (cs.drop k).take 1 = [v]) : cs[k]? = some v := by
  have : ((cs.drop k).take 1)[0]? = some v := by rw [h]; rfl
  simpa [List.getElem?_take, List.getElem?_drop] using this
set_option maxRecDepth 100000 in
/-- One record's cells. -/
theorem boot_cells {H : Type} {enc : TypeId × Value → H} {W : World} {base : Nat} {held : Bool} {fuel : Nat} {cs : List Value} {x : DataW H × List MemPlace} (h : DataW.trod enc Tryd.prog W base (fun _ => true) held fuel 40 cs = some x) :
    ∃ b : BR, cs = (brL b).toList ∧ b.wf := by
  have c1 : Tryd.prog.cellsOf 3 = 1 := by kernel_rfl
  have c2 : Tryd.prog.cellsOf 38 = 2 := by kernel_rfl
  have c5 : Tryd.prog.cellsOf 40 = 5 := by kernel_rfl
  obtain ⟨xs, m, _, _, hcl, hxl, hf⟩ := DataW.trod_struct Tryd.underlying40 h
  have hx4 : xs.length = 4 := hxl
  have hc5 : cs.length = 5 := hcl.trans c5
  have g0 : DataW.trod enc Tryd.prog W base (fun _ => true) held m 3 ((cs.drop 0).take (Tryd.prog.cellsOf 3)) = xs[0]? := hf 0 _ rfl
  have g1 : DataW.trod enc Tryd.prog W base (fun _ => true) held m 3 ((cs.drop 1).take (Tryd.prog.cellsOf 3)) = xs[1]? := hf 1 _ rfl
  have g2 : DataW.trod enc Tryd.prog W base (fun _ => true) held m 3 ((cs.drop 2).take (Tryd.prog.cellsOf 3)) = xs[2]? := hf 2 _ rfl
  have g3 : DataW.trod enc Tryd.prog W base (fun _ => true) held m 38 ((cs.drop 3).take (Tryd.prog.cellsOf 38)) = xs[3]? := hf 3 _ rfl
  rw [c1, List.getElem?_eq_getElem (by omega)] at g0 g1 g2
  rw [c2, List.getElem?_eq_getElem (by omega)] at g3
  obtain ⟨z0, e0, _, w0⟩ := DataW.trod_int Tryd.underlying3 g0
  obtain ⟨z1, e1, _, w1⟩ := DataW.trod_int Tryd.underlying3 g1
  obtain ⟨z2, e2, _, w2⟩ := DataW.trod_int Tryd.underlying3 g2
  obtain ⟨z3, z4, e3, w3, w4⟩ := two_cells9 (by rw [List.length_take, List.length_drop, hc5]; rfl) g3
  refine ⟨⟨z0, z1, z2, z3, z4⟩, ?_, w0, w1, w2, w3, w4⟩
  have k0 := take_one9 e0
  have k1 := take_one9 e1
  have k2 := take_one9 e2
  match cs, hc5 with
  | [x0, x1, x2, x3, x4], _ =>
    simp at k0 k1 k2 e3
    simp [brL, k0, k1, k2, e3]
set_option maxRecDepth 100000 in
/-- A record that came in as a value. -/
theorem boot_of {H : Type} {enc : TypeId × Value → H} {W : World} {base b0 : Nat} {held : Bool} {r : Reach} {v : Value} {d : DataW H} {ps : List MemPlace} (hv : Value.okWide Tryd.prog W r b0 40 v) (h : DataW.Trod enc Tryd.prog W base (fun _ => true) held 40 v d ps) : ∃ b : BR, v = brV b ∧ b.wf := by
  obtain ⟨cs, rfl, hn⟩ := okWide_struct Tryd.underlying40 hv
  obtain ⟨fuel, hf⟩ := h
  obtain ⟨b, hb, hw⟩ := boot_cells hf
  refine ⟨b, ?_, hw⟩
  have e : cs.toList = (brL b).toList := hb
  unfold brV
  rw [show cs = cs.toList.toArray by simp, e]
end Go.Proofs.YtoemdmfpcobadaaDoor
