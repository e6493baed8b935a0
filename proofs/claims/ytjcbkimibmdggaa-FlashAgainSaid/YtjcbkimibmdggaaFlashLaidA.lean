/-
  What is proved here: acts that came in lie in memory as plain data.
  Conditions: those that each fact names.
-/
import Derived.Test.YtjcbkimibmdggaaDiskLaid
import Derived.Test.YtjcbkimibmdggaaFlashActs
namespace Go.Proofs.Ytjcbkimibmdggaa
open Go.ChangeShapes Go.WideShapes Go.ChangeAt Go.RowKit

theorem cell_lt6 {W : World} {b o : Nat} {v : Value} (h : W.cell? ⟨b, o, none⟩ = some v) : b < W.heap.size := block_lt_of_cell (a := ⟨b, o, none⟩) h
theorem seg_cells6 {H : Type} {enc : TypeId × Value → H} {W : World} {base : Nat} {held : Bool} {fuel : Nat} {cs : List Value} {x : DataW H × List MemPlace} (hf : DataW.trod enc Try.prog W base (fun _ => true) held fuel 35 cs = some x) :
    ∃ v, ∃ bs : List UInt8, cs = [v] ∧ bs.length ≤ maxLen ∧ Seg W v bs := by
  rcases open_ints Try.underlying35 Try.underlying5 (by kernel_rfl) hf with ⟨hcs, _⟩ | ⟨ad, l, c, zs, hcs, _⟩
  · subst hcs
    obtain ⟨bs, h1, h2, h3⟩ := seg_of (a := none) (len := 0) (cap := 0) (by simpa [Value.cells] using hf)
    exact ⟨_, bs, rfl, by rw [h1]; exact h2, h3⟩
  · subst hcs
    obtain ⟨bs, h1, h2, h3⟩ := seg_of (a := some ad) (len := l) (cap := c) (by simpa [Value.cells] using hf)
    exact ⟨_, bs, rfl, by rw [h1]; exact h2, h3⟩
theorem take_one6 {cs : List Value} {k : Nat} {v : Value} (h : (cs.drop k).take 1 = [v]) : cs[k]? = some v := by
  have : ((cs.drop k).take 1)[0]? = some v := by rw [h]; rfl
  simpa [List.getElem?_take, List.getElem?_drop] using this
/-- One act's cells. -/
theorem act6_cells {H : Type} {enc : TypeId × Value → H} {W : World} {base : Nat} {held : Bool} {fuel : Nat} {cs : List Value} {x : DataW H × List MemPlace} (h : DataW.trod enc Try.prog W base (fun _ => true) held fuel 37 cs = some x) :
    ∃ (a : Act6) (bv : Value), cs.length = 4 ∧ cs[0]? = some (.int .i64 a.act) ∧ cs[1]? = some (.int .i64 a.k) ∧ cs[2]? = some (.int .i64 a.n) ∧ cs[3]? = some bv ∧ At6 W bv a := by
  have c1 : Try.prog.cellsOf 3 = 1 := by kernel_rfl
  have c2 : Try.prog.cellsOf 35 = 1 := by kernel_rfl
  have c4 : Try.prog.cellsOf 37 = 4 := by kernel_rfl
  obtain ⟨xs, m, _, _, hcl, hxl, hf⟩ := DataW.trod_struct Try.underlying37 h
  have hx4 : xs.length = 4 := hxl
  have g0 : DataW.trod enc Try.prog W base (fun _ => true) held m 3 ((cs.drop 0).take (Try.prog.cellsOf 3)) = xs[0]? := hf 0 _ rfl
  have g1 : DataW.trod enc Try.prog W base (fun _ => true) held m 3 ((cs.drop 1).take (Try.prog.cellsOf 3)) = xs[1]? := hf 1 _ rfl
  have g2 : DataW.trod enc Try.prog W base (fun _ => true) held m 3 ((cs.drop 2).take (Try.prog.cellsOf 3)) = xs[2]? := hf 2 _ rfl
  have g3 : DataW.trod enc Try.prog W base (fun _ => true) held m 35 ((cs.drop 3).take (Try.prog.cellsOf 35)) = xs[3]? := hf 3 _ rfl
  rw [c1, List.getElem?_eq_getElem (by omega)] at g0 g1 g2
  rw [c2, List.getElem?_eq_getElem (by omega)] at g3
  obtain ⟨z0, e0, _, w0⟩ := DataW.trod_int Try.underlying3 g0
  obtain ⟨z1, e1, _, w1⟩ := DataW.trod_int Try.underlying3 g1
  obtain ⟨z2, e2, _, w2⟩ := DataW.trod_int Try.underlying3 g2
  obtain ⟨bv, bs, e3, hb, hbs⟩ := seg_cells6 g3
  exact ⟨⟨z0, z1, z2, bs⟩, bv, hcl.trans c4, take_one6 e0, take_one6 e1, take_one6 e2, take_one6 e3, ⟨hbs, hb, bounds_i64 w0, bounds_i64 w1, bounds_i64 w2⟩⟩
theorem cell_at6 {W : World} {base : Nat} {b off i k m : Nat} {cs : List Value} {v : Value} (h : W.cells? base ((⟨b, off, none⟩ : Addr).add (i * m)) m = some cs) (hk : k < m) (hv : cs[k]? = some v) : W.cell? ⟨b, off + i * m + k, none⟩ = some v := by
  have := (World.cells?_some h).2.2 k hk
  rw [Addr.add_mid, Addr.add_mid] at this
  rw [this, hv]
theorem acts6_of {H : Type} {enc : TypeId × Value → H} {W : World} {base : Nat} {held : Bool} {fuel len cap : Nat} {a : Option Addr} {x : DataW H × List MemPlace} (h : DataW.trod enc Try.prog W base (fun _ => true) held fuel 32 (Value.slice a len cap).cells.toList = some x) : ∃ L, Acts6 W (.slice a len cap) L := by
  have c4 : Try.prog.cellsOf 37 = 4 := by kernel_rfl
  rcases DataW.trod_slice Try.underlying32 h with ⟨hcs, _⟩ | ⟨ad, len', cap', elems, rest, n, _, hcs, _, _, hl, hm, hlen, hel, _, _⟩
  · simp [Value.cells] at hcs
    obtain ⟨rfl, rfl, rfl⟩ := hcs
    exact ⟨[], none, 0, rfl, Nat.zero_le _, fun i b hi => by simp at hi⟩
  · simp [Value.cells] at hcs
    obtain ⟨rfl, rfl, rfl⟩ := hcs
    rw [c4] at hel
    have key : ∀ i, i < len → ∃ y : Act6, ∃ cs bv, W.cells? base (ad.add (i * 4)) 4 = some cs ∧ cs[0]? = some (.int .i64 y.act) ∧ cs[1]? = some (.int .i64 y.k) ∧ cs[2]? = some (.int .i64 y.n) ∧ cs[3]? = some bv ∧ At6 W bv y := fun i hi => by
      have e := hel i hi
      rw [List.getElem?_eq_getElem (by omega)] at e
      obtain ⟨cs', h1, h2⟩ := Option.bind_eq_some_iff.1 e
      obtain ⟨y, bv, _, k0, k1, k2, k3, k5⟩ := act6_cells h2
      exact ⟨y, cs', bv, h1, k0, k1, k2, k3, k5⟩
    have inh : Inhabited Act6 := ⟨⟨0, 0, 0, []⟩⟩
    obtain ⟨F, hF⟩ := Deep.choose_lt (α := Act6) key
    refine ⟨(List.range len).map F, some ad, cap, by simp, by simp; omega, fun i y hy => ?_⟩
    rw [List.getElem?_map, Option.map_eq_some_iff] at hy
    obtain ⟨i', hi', rfl⟩ := hy
    obtain ⟨hi, hii⟩ := List.getElem?_eq_some_iff.1 hi'
    rw [List.getElem_range] at hii
    subst hii
    obtain ⟨cs, bv, h1, k0, k1, k2, k3, k5⟩ := hF i (by simpa using hi)
    obtain ⟨q, off, spot⟩ := ad
    obtain ⟨cs0, bv0, h10, k00, -⟩ := hF 0 (by simp at hi; omega)
    have hspot : spot = none := by
      have := (World.cells?_some h10).2.2 0 (by omega)
      rw [k00] at this
      simpa [Addr.add] using World.cell?_spot this
    subst hspot
    have p0 := cell_at6 h1 (by omega) k0
    have p1 := cell_at6 h1 (by omega) k1
    have p2 := cell_at6 h1 (by omega) k2
    have p3 := cell_at6 h1 (by omega) k3
    rw [Nat.mul_comm i 4] at p0 p1 p2 p3
    exact ⟨q, off, rfl, cell_lt6 p0, p0, p1, p2, bv, p3, k5⟩
/-- An act that came in as a value. -/
theorem act6_of {H : Type} {enc : TypeId × Value → H} {W : World} {base b0 : Nat} {held : Bool} {r : Reach} {v : Value} {d : DataW H} {ps : List MemPlace} (hv : Value.okWide Try.prog W r b0 37 v) (h : DataW.Trod enc Try.prog W base (fun _ => true) held 37 v d ps) :
    ∃ (a : Act6) (bv : Value), v = .agg #[.int .i64 a.act, .int .i64 a.k, .int .i64 a.n, bv] ∧ At6 W bv a := by
  obtain ⟨cs, rfl, hn⟩ := okWide_struct Try.underlying37 hv
  obtain ⟨fuel, hf⟩ := h
  obtain ⟨a, bv, hl, k0, k1, k2, k3, k5⟩ := act6_cells hf
  refine ⟨a, bv, ?_, k5⟩
  have e : cs.toList = [.int .i64 a.act, .int .i64 a.k, .int .i64 a.n, bv] := by
    have hl' : cs.toList.length = 4 := hl
    have k0' : cs.toList[0]? = _ := k0
    have k1' : cs.toList[1]? = _ := k1
    have k2' : cs.toList[2]? = _ := k2
    have k3' : cs.toList[3]? = _ := k3
    generalize cs.toList = l at *
    match l, hl' with
    | [x0, x1, x2, x3], _ =>
      simp at k0' k1' k2' k3'
      rw [k0', k1', k2', k3']
  rw [show cs = cs.toList.toArray by simp, e]
end Go.Proofs.Ytjcbkimibmdggaa
