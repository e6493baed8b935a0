/-
  What is proved here: steps of the statements on links that came in lie in memory, eight cells each.
  Conditions: those that each fact names.
-/
import Derived.Test.YtichmnbhephkkaaLinkLaid
import Derived.Test.YtichmnbhephkkaaLinkSteps
namespace Go.Proofs.Ytichmnbhephkkaa
open Go.ChangeShapes Go.WideShapes Go.ChangeAt Go.RowKit

instance : Inhabited St13 := ⟨⟨0, [], ⟨0, 0, 0, 0, 0, []⟩⟩⟩
theorem cell_atK {W : World} {base : Nat} {b off i k m : Nat} {cs : List Value} {v : Value} (h : W.cells? base ((⟨b, off, none⟩ : Addr).add (i * m)) m = some cs) (hk : k < m) (hv : cs[k]? = some v) : W.cell? ⟨b, off + (i * m + k), none⟩ = some v := by
  have := (World.cells?_some h).2.2 k hk
  rw [hv] at this
  rw [← this, Addr.add_mid, Addr.add_mid, Nat.add_assoc]
set_option maxRecDepth 100000 in
/-- One step's cells. -/
theorem step13_cells {H : Type} {enc : TypeId × Value → H} {W : World} {base : Nat} {held : Bool} {fuel : Nat} {cs : List Value} {x : DataW H × List MemPlace} (h : DataW.trod enc Try.prog W base (fun _ => true) held fuel 36 cs = some x) :
    ∃ (y : St13) (ba : Option Addr) (bc : Nat) (pa : Option Addr) (pc : Nat), cs = stL13 y (.slice ba y.b.length bc) (.slice pa y.p.b.length pc) ∧ Seg W (.slice ba y.b.length bc) y.b ∧ Seg W (.slice pa y.p.b.length pc) y.p.b := by
  have c1 : Try.prog.cellsOf 3 = 1 := by kernel_rfl
  have c2 : Try.prog.cellsOf 32 = 1 := by kernel_rfl
  have c6 : Try.prog.cellsOf 34 = 6 := by kernel_rfl
  have c8 : Try.prog.cellsOf 36 = 8 := by kernel_rfl
  obtain ⟨xs, m, _, _, hcl, hxl, hf⟩ := DataW.trod_struct Try.underlying36 h
  have hx3 : xs.length = 3 := hxl
  have hc8 : cs.length = 8 := hcl.trans c8
  have g0 : DataW.trod enc Try.prog W base (fun _ => true) held m 3 ((cs.drop 0).take (Try.prog.cellsOf 3)) = xs[0]? := hf 0 _ rfl
  have g1 : DataW.trod enc Try.prog W base (fun _ => true) held m 32 ((cs.drop 1).take (Try.prog.cellsOf 32)) = xs[1]? := hf 1 _ rfl
  have g2 : DataW.trod enc Try.prog W base (fun _ => true) held m 34 ((cs.drop 2).take (Try.prog.cellsOf 34)) = xs[2]? := hf 2 _ rfl
  rw [c1, List.getElem?_eq_getElem (by omega)] at g0
  rw [c2, List.getElem?_eq_getElem (by omega)] at g1
  rw [c6, List.getElem?_eq_getElem (by omega)] at g2
  obtain ⟨z0, e0, _, _⟩ := DataW.trod_int Try.underlying3 g0
  obtain ⟨ba, bc, bs, e1, _, hbs⟩ := seg_cellsK g1
  obtain ⟨p, pa, pc, e2, _, hps⟩ := pkt_cells g2
  refine ⟨⟨z0, bs, p⟩, ba, bc, pa, pc, ?_, hbs, hps⟩
  have k0 := take_oneK e0
  have k1 := take_oneK e1
  unfold stL13
  match cs, hc8 with
  | [x0, x1, x2, x3, x4, x5, x6, x7], _ =>
    simp at k0 k1 e2
    simp [k0, k1, ← e2]
set_option maxRecDepth 100000 in
/-- Steps that came in. -/
theorem steps13_of {H : Type} {enc : TypeId × Value → H} {W : World} {base : Nat} {held : Bool} {fuel len cap : Nat} {a : Option Addr} {x : DataW H × List MemPlace} (h : DataW.trod enc Try.prog W base (fun _ => true) held fuel 22 (Value.slice a len cap).cells.toList = some x) : ∃ L, Steps13 W (.slice a len cap) L := by
  have c8 : Try.prog.cellsOf 36 = 8 := by kernel_rfl
  rcases DataW.trod_slice Try.underlying22 h with ⟨hcs, _⟩ | ⟨ad, len', cap', elems, rest, n, _, hcs, _, _, hl, hm, hlen, hel, _, _⟩
  · simp [Value.cells] at hcs
    obtain ⟨rfl, rfl, rfl⟩ := hcs
    exact ⟨[], none, 0, rfl, Nat.zero_le _, fun i b hi => by simp at hi⟩
  · simp [Value.cells] at hcs
    obtain ⟨rfl, rfl, rfl⟩ := hcs
    rw [c8] at hel
    have key : ∀ i, i < len → ∃ y : St13, ∃ cs ba bc pa pc, W.cells? base (ad.add (i * 8)) 8 = some cs ∧ cs = stL13 y (.slice ba y.b.length bc) (.slice pa y.p.b.length pc) ∧ Seg W (.slice ba y.b.length bc) y.b ∧ Seg W (.slice pa y.p.b.length pc) y.p.b := fun i hi => by
      have e := hel i hi
      rw [List.getElem?_eq_getElem (by omega)] at e
      obtain ⟨cs', h1, h2⟩ := Option.bind_eq_some_iff.1 e
      obtain ⟨y, ba, bc, pa, pc, hb, hs1, hs2⟩ := step13_cells h2
      exact ⟨y, cs', ba, bc, pa, pc, h1, hb, hs1, hs2⟩
    obtain ⟨F, hF⟩ := Deep.choose_lt (α := St13) key
    refine ⟨(List.range len).map F, some ad, cap, by simp, by simp; omega, fun i y hy => ?_⟩
    rw [List.getElem?_map, Option.map_eq_some_iff] at hy
    obtain ⟨i', hi', rfl⟩ := hy
    obtain ⟨hi, hii⟩ := List.getElem?_eq_some_iff.1 hi'
    rw [List.getElem_range] at hii
    subst hii
    obtain ⟨cs, ba, bc, pa, pc, h1, rfl, hs1, hs2⟩ := hF i (by simpa using hi)
    obtain ⟨q, off, spot⟩ := ad
    obtain ⟨cs0, ba0, bc0, pa0, pc0, h10, rfl, -⟩ := hF 0 (by simp at hi; omega)
    have hspot : spot = none := by
      have := (World.cells?_some h10).2.2 0 (by omega)
      have h2 : (stL13 (F 0) (.slice ba0 (F 0).b.length bc0) (.slice pa0 (F 0).p.b.length pc0))[0]? = some (.int .i64 (F 0).act) := rfl
      rw [h2] at this
      simpa [Addr.add] using World.cell?_spot this
    subst hspot
    have p0 := cell_atK h1 (k := 0) (by omega) rfl
    refine ⟨q, off, ba, bc, pa, pc, rfl, block_lt_of_cell (a := ⟨q, off + (i * 8 + 0), none⟩) p0, fun j x hx => ?_, hs1, hs2⟩
    have hj : j < 8 := (List.getElem?_eq_some_iff.1 hx).1
    exact cell_atK h1 (k := j) hj hx
end Go.Proofs.Ytichmnbhephkkaa
