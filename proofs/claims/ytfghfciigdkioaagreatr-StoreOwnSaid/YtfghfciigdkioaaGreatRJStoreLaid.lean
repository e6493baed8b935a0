/-
  What is proved here: ops that came in lie in memory as plain data.
  Conditions: those that each fact names.
-/
import Derived.Test.YtfghfciigdkioaaGreatRJDiskLaid
import Derived.Test.YtfghfciigdkioaaGreatRJStoreOps
namespace Go.Proofs.YtfghfciigdkioaaGreatR
open Go.ChangeShapes Go.WideShapes Go.ChangeAt Go.RowKit

theorem seg_cells8 {H : Type} {enc : TypeId × Value → H} {W : World} {base : Nat} {held : Bool} {fuel : Nat} {cs : List Value} {x : DataW H × List MemPlace} (hf : DataW.trod enc Tryz.prog W base (fun _ => true) held fuel 34 cs = some x) :
    ∃ (a : Option Addr) (c : Nat) (bs : List UInt8), cs = [.slice a bs.length c] ∧ bs.length ≤ maxLen ∧ Seg W (.slice a bs.length c) bs := by
  rcases open_ints Tryz.underlying34 Tryz.underlying5 (by kernel_rfl) hf with ⟨hcs, _⟩ | ⟨ad, l, c, zs, hcs, _⟩
  · subst hcs
    obtain ⟨bs, h1, h2, h3⟩ := seg_of (a := none) (len := 0) (cap := 0) (by simpa [Value.cells] using hf)
    rw [← h1] at h2 h3 ⊢
    exact ⟨_, _, bs, rfl, h2, h3⟩
  · subst hcs
    obtain ⟨bs, h1, h2, h3⟩ := seg_of (a := some ad) (len := l) (cap := c) (by simpa [Value.cells] using hf)
    rw [← h1] at h2 h3 ⊢
    exact ⟨_, _, bs, rfl, h2, h3⟩
theorem take_one8 {cs : List Value} {k : Nat} {v : Value} (h : (cs.drop k).take 1 = [v]) : cs[k]? = some v := by
  have : ((cs.drop k).take 1)[0]? = some v := by rw [h]; rfl
  simpa [List.getElem?_take, List.getElem?_drop] using this
/-- One op's cells. -/
theorem op8_cells {H : Type} {enc : TypeId × Value → H} {W : World} {base : Nat} {held : Bool} {fuel : Nat} {cs : List Value} {x : DataW H × List MemPlace} (h : DataW.trod enc Tryz.prog W base (fun _ => true) held fuel 59 cs = some x) :
    ∃ (o : OpB) (ka va : Option Addr) (kc vc : Nat), cs.length = 3 ∧ cs[0]? = some (.slice ka o.key.length kc) ∧ cs[1]? = some (.bool o.del) ∧ cs[2]? = some (.slice va o.val.length vc) ∧ Seg W (.slice ka o.key.length kc) o.key ∧ Seg W (.slice va o.val.length vc) o.val ∧ o.key.length ≤ maxLen ∧ o.val.length ≤ maxLen := by
  have c1 : Tryz.prog.cellsOf 34 = 1 := by kernel_rfl
  have c2 : Tryz.prog.cellsOf 4 = 1 := by kernel_rfl
  have c3 : Tryz.prog.cellsOf 59 = 3 := by kernel_rfl
  obtain ⟨xs, m, _, _, hcl, hxl, hf⟩ := DataW.trod_struct Tryz.underlying59 h
  have hx3 : xs.length = 3 := hxl
  have g0 : DataW.trod enc Tryz.prog W base (fun _ => true) held m 34 ((cs.drop 0).take (Tryz.prog.cellsOf 34)) = xs[0]? := hf 0 _ rfl
  have g1 : DataW.trod enc Tryz.prog W base (fun _ => true) held m 4 ((cs.drop 1).take (Tryz.prog.cellsOf 4)) = xs[1]? := hf 1 _ rfl
  have g2 : DataW.trod enc Tryz.prog W base (fun _ => true) held m 34 ((cs.drop 2).take (Tryz.prog.cellsOf 34)) = xs[2]? := hf 2 _ rfl
  rw [c1, List.getElem?_eq_getElem (by omega)] at g0 g2
  rw [c2, List.getElem?_eq_getElem (by omega)] at g1
  obtain ⟨ka, kc, k, e0, hk, hks⟩ := seg_cells8 g0
  obtain ⟨d, e1, _⟩ := DataW.trod_bool Tryz.underlying4 g1
  obtain ⟨va, vc, v, e2, hv, hvs⟩ := seg_cells8 g2
  exact ⟨⟨k, d, v⟩, ka, va, kc, vc, hcl.trans c3, take_one8 e0, take_one8 e1, take_one8 e2, hks, hvs, hk, hv⟩
set_option maxRecDepth 100000 in
/-- An op that came in as a value. -/
theorem op8_of {H : Type} {enc : TypeId × Value → H} {W : World} {base b0 : Nat} {held : Bool} {r : Reach} {v : Value} {d : DataW H} {ps : List MemPlace} (hv : Value.okWide Tryz.prog W r b0 59 v) (h : DataW.Trod enc Tryz.prog W base (fun _ => true) held 59 v d ps) :
    ∃ (o : OpB) (ka va : Option Addr) (kc vc : Nat), v = .agg #[.slice ka o.key.length kc, .bool o.del, .slice va o.val.length vc] ∧ Seg W (.slice ka o.key.length kc) o.key ∧ Seg W (.slice va o.val.length vc) o.val ∧ o.key.length ≤ maxLen ∧ o.val.length ≤ maxLen := by
  obtain ⟨cs, rfl, hn⟩ := okWide_struct Tryz.underlying59 hv
  obtain ⟨fuel, hf⟩ := h
  obtain ⟨o, ka, va, kc, vc, hl, k0, k1, k2, k5⟩ := op8_cells hf
  refine ⟨o, ka, va, kc, vc, ?_, k5⟩
  have e : cs.toList = [.slice ka o.key.length kc, .bool o.del, .slice va o.val.length vc] := by
    have hl' : cs.toList.length = 3 := hl
    have k0' : cs.toList[0]? = _ := k0
    have k1' : cs.toList[1]? = _ := k1
    have k2' : cs.toList[2]? = _ := k2
    generalize cs.toList = l at *
    match l, hl' with
    | [x0, x1, x2], _ =>
      simp at k0' k1' k2'
      rw [k0', k1', k2']
  rw [show cs = cs.toList.toArray by simp, e]
end Go.Proofs.YtfghfciigdkioaaGreatR
