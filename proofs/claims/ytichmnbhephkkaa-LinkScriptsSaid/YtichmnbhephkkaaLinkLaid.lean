/-
  What is proved here: packets that came in lie in memory as plain data.
  Conditions: those that each fact names.
-/
import Derived.Test.YtichmnbhephkkaaDiskLaid
import Derived.Test.YtichmnbhephkkaaLinkRight
import Derived.Test.YtichmnbhephkkaaWalSame
import Derived.Deep.Slices
namespace Go.Proofs.Ytichmnbhephkkaa
open Go.ChangeShapes Go.WideShapes Go.ChangeAt Go.RowKit

theorem seg_cellsK {H : Type} {enc : TypeId × Value → H} {W : World} {base : Nat} {held : Bool} {fuel : Nat} {cs : List Value} {x : DataW H × List MemPlace} (hf : DataW.trod enc Try.prog W base (fun _ => true) held fuel 32 cs = some x) :
    ∃ a c, ∃ bs : List UInt8, cs = [.slice a bs.length c] ∧ bs.length ≤ maxLen ∧ Seg W (.slice a bs.length c) bs := by
  rcases open_ints Try.underlying32 Try.underlying5 (by kernel_rfl) hf with ⟨hcs, _⟩ | ⟨ad, l, c, zs, hcs, _⟩
  · subst hcs
    obtain ⟨bs, h1, h2, h3⟩ := seg_of (a := none) (len := 0) (cap := 0) (by simpa [Value.cells] using hf)
    exact ⟨none, 0, bs, by rw [h1], by rw [h1]; exact h2, by rw [h1]; exact h3⟩
  · subst hcs
    obtain ⟨bs, h1, h2, h3⟩ := seg_of (a := some ad) (len := l) (cap := c) (by simpa [Value.cells] using hf)
    exact ⟨some ad, c, bs, by rw [h1], by rw [h1]; exact h2, by rw [h1]; exact h3⟩
theorem take_oneK {cs : List Value} {k : Nat} {v : Value} (h : (cs.drop k).take 1 = [v]) : cs[k]? = some v := by
  have : ((cs.drop k).take 1)[0]? = some v := by rw [h]; rfl
  simpa [List.getElem?_take, List.getElem?_drop] using this
set_option maxRecDepth 100000 in
/-- One packet's cells. -/
theorem pkt_cells {H : Type} {enc : TypeId × Value → H} {W : World} {base : Nat} {held : Bool} {fuel : Nat} {cs : List Value} {x : DataW H × List MemPlace} (h : DataW.trod enc Try.prog W base (fun _ => true) held fuel 34 cs = some x) :
    ∃ (p : KP) (a : Option Addr) (c : Nat), cs = kpL p (.slice a p.b.length c) ∧ p.b.length ≤ maxLen ∧ Seg W (.slice a p.b.length c) p.b := by
  have c1 : Try.prog.cellsOf 3 = 1 := by kernel_rfl
  have c2 : Try.prog.cellsOf 32 = 1 := by kernel_rfl
  have c6 : Try.prog.cellsOf 34 = 6 := by kernel_rfl
  obtain ⟨xs, m, _, _, hcl, hxl, hf⟩ := DataW.trod_struct Try.underlying34 h
  have hx6 : xs.length = 6 := hxl
  have hc6 : cs.length = 6 := hcl.trans c6
  have g0 : DataW.trod enc Try.prog W base (fun _ => true) held m 3 ((cs.drop 0).take (Try.prog.cellsOf 3)) = xs[0]? := hf 0 _ rfl
  have g1 : DataW.trod enc Try.prog W base (fun _ => true) held m 3 ((cs.drop 1).take (Try.prog.cellsOf 3)) = xs[1]? := hf 1 _ rfl
  have g2 : DataW.trod enc Try.prog W base (fun _ => true) held m 3 ((cs.drop 2).take (Try.prog.cellsOf 3)) = xs[2]? := hf 2 _ rfl
  have g3 : DataW.trod enc Try.prog W base (fun _ => true) held m 3 ((cs.drop 3).take (Try.prog.cellsOf 3)) = xs[3]? := hf 3 _ rfl
  have g4 : DataW.trod enc Try.prog W base (fun _ => true) held m 3 ((cs.drop 4).take (Try.prog.cellsOf 3)) = xs[4]? := hf 4 _ rfl
  have g5 : DataW.trod enc Try.prog W base (fun _ => true) held m 32 ((cs.drop 5).take (Try.prog.cellsOf 32)) = xs[5]? := hf 5 _ rfl
  rw [c1, List.getElem?_eq_getElem (by omega)] at g0 g1 g2 g3 g4
  rw [c2, List.getElem?_eq_getElem (by omega)] at g5
  obtain ⟨z0, e0, _, _⟩ := DataW.trod_int Try.underlying3 g0
  obtain ⟨z1, e1, _, _⟩ := DataW.trod_int Try.underlying3 g1
  obtain ⟨z2, e2, _, _⟩ := DataW.trod_int Try.underlying3 g2
  obtain ⟨z3, e3, _, _⟩ := DataW.trod_int Try.underlying3 g3
  obtain ⟨z4, e4, _, _⟩ := DataW.trod_int Try.underlying3 g4
  obtain ⟨a, c, bs, e5, hb, hs⟩ := seg_cellsK g5
  refine ⟨⟨z0, z1, z2, z3, z4, bs⟩, a, c, ?_, hb, hs⟩
  have k0 := take_oneK e0
  have k1 := take_oneK e1
  have k2 := take_oneK e2
  have k3 := take_oneK e3
  have k4 := take_oneK e4
  have k5 := take_oneK e5
  match cs, hc6 with
  | [x0, x1, x2, x3, x4, x5], _ =>
    simp at k0 k1 k2 k3 k4 k5
    simp [kpL, k0, k1, k2, k3, k4, k5]
set_option maxRecDepth 100000 in
/-- A packet that came in as a value. -/
theorem pkt_of {H : Type} {enc : TypeId × Value → H} {W : World} {base b0 : Nat} {held : Bool} {r : Reach} {v : Value} {d : DataW H} {ps : List MemPlace} (hv : Value.okWide Try.prog W r b0 34 v) (h : DataW.Trod enc Try.prog W base (fun _ => true) held 34 v d ps) : ∃ (p : KP) (a : Option Addr) (c : Nat), v = kpV p (.slice a p.b.length c) ∧ p.b.length ≤ maxLen ∧ Seg W (.slice a p.b.length c) p.b := by
  obtain ⟨cs, rfl, hn⟩ := okWide_struct Try.underlying34 hv
  obtain ⟨fuel, hf⟩ := h
  obtain ⟨p, a, c, hb, h1, h2⟩ := pkt_cells hf
  refine ⟨p, a, c, ?_, h1, h2⟩
  have e : cs.toList = kpL p (.slice a p.b.length c) := hb
  unfold kpV
  rw [← e]
/-- Rows of bytes that came in. -/
theorem rowsV_of {H : Type} {enc : TypeId × Value → H} {W : World} {base : Nat} {held : Bool} {fuel len cap : Nat} {a : Option Addr} {x : DataW H × List MemPlace} (hf : DataW.trod enc Try.prog W base (fun _ => true) held fuel 41 (Value.slice a len cap).cells.toList = some x) : ∃ L, RowsV W (.slice a len cap) L := by
  rcases Deep.open_slice1 Try.underlying41 (by kernel_rfl) hf with ⟨hcs, _⟩ | ⟨ad, l, c, m, n, V, D, Pl, hcs, _, hl, hm, hmm, _, hV⟩
  · simp [Value.cells] at hcs
    obtain ⟨rfl, rfl, rfl⟩ := hcs
    exact ⟨[], none, 0, rfl, Nat.zero_le _, fun i r h => by simp at h⟩
  · simp [Value.cells] at hcs
    obtain ⟨rfl, rfl, rfl⟩ := hcs
    simp at hmm
    subst hmm
    obtain ⟨B, hB⟩ := Deep.choose_lt (α := List UInt8) (n := len) (p := fun i bs => ∃ u, W.cell? (ad.add i) = some u ∧ Seg W u bs) (fun i hi => by
      obtain ⟨h1, h2⟩ := hV i (by omega)
      obtain ⟨a, c, bs, h3, _, h4⟩ := seg_cellsK h2
      exact ⟨bs, _, h1.trans (congrArg some (List.cons.inj h3).1), h4⟩)
    refine ⟨(List.range len).map B, some ad, m, by simp, by simp; omega, fun i r hr => ?_⟩
    rw [List.getElem?_map, Option.map_eq_some_iff] at hr
    obtain ⟨i', hi', rfl⟩ := hr
    obtain ⟨hi, hii⟩ := List.getElem?_eq_some_iff.1 hi'
    rw [List.getElem_range] at hii
    subst hii
    obtain ⟨u, hc, hs⟩ := hB i (by simpa using hi)
    obtain ⟨b, off, spot⟩ := ad
    obtain ⟨u0, hc0, _⟩ := hB 0 (by have := hi; simp at this; omega)
    have hspot : spot = none := by simpa [Addr.add] using World.cell?_spot hc0
    subst hspot
    rw [Addr.add_mid] at hc
    exact ⟨b, off, rfl, block_lt_of_cell (a := ⟨b, off + i, none⟩) hc, u, hc, hs⟩
end Go.Proofs.Ytichmnbhephkkaa
