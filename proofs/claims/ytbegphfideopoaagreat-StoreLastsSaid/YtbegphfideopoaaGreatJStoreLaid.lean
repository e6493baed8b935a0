/-
  What is proved here: ops that came in lie in memory as plain data.
  Conditions: those that each fact names.
-/
import Derived.Test.YtbegphfideopoaaGreatJDiskLaid
import Derived.Test.YtbegphfideopoaaGreatJStoreOps
namespace Go.Proofs.YtbegphfideopoaaGreat
open Go.ChangeShapes Go.WideShapes Go.ChangeAt Go.RowKit

theorem seg_cells8 {H : Type} {enc : TypeId × Value → H} {W : World} {base : Nat} {held : Bool} {fuel : Nat} {cs : List Value} {x : DataW H × List MemPlace} (hf : DataW.trod enc Tryz.prog W base (fun _ => true) held fuel 34 cs = some x) :
    ∃ (a : Option Addr) (c : Nat) (bs : List UInt8), cs = [.slice a bs.length c] ∧ bs.length ≤ maxLen ∧ Seg W (.slice a bs.length c) bs := by
  rcases open_ints Tryz.underlying34 Tryz.underlying5 (by kernel_rfl) hf with ⟨hcs, _⟩ | ⟨ad, l, c, zs, hcs, _⟩
  · subst hcs
    obtain ⟨bs, h1, h2, h3⟩ := seg_of (a := none) (len := 0) (cap := 0) (by simpa [Value.cells] using hf)
    rw [← h1] at h2 h3 ⊢
    exact ⟨_, _, bs, rfl, h2, h3⟩
  · subst hcs
    obtain ⟨bs, h1, h2, h3⟩ := seg_of (a := some ad) (len := l) (cap := c) (by simpa [Value.cells] using hf)
    rw [← h1] at h2 h3 ⊢
    exact ⟨_, _, bs, rfl, h2, h3⟩
theorem take_one8 {cs : List Value} {k : Nat} {v : Value} (h : (cs.drop k).take 1 = [v]) : cs[k]? = some v := by
  have : ((cs.drop k).take 1)[0]? = some v := by rw [h]; rfl
  simpa [List.getElem?_take, List.getElem?_drop] using this
/-- One op's cells. -/
theorem op8_cells {H : Type} {enc : TypeId × Value → H} {W : World} {base : Nat} {held : Bool} {fuel : Nat} {cs : List Value} {x : DataW H × List MemPlace} (h : DataW.trod enc Tryz.prog W base (fun _ => true) held fuel 59 cs = some x) :
    ∃ (o : OpB) (ka va : Option Addr) (kc vc : Nat), cs.length = 3 ∧ cs[0]? = some (.slice ka o.key.length kc) ∧ cs[1]? = some (.bool o.del) ∧ cs[2]? = some (.slice va o.val.length vc) ∧ Seg W (.slice ka o.key.length kc) o.key ∧ Seg W (.slice va o.val.length vc) o.val ∧ o.key.length ≤ maxLen ∧ o.val.length ≤ maxLen := by
  have c1 : Tryz.prog.cellsOf 34 = 1 := by kernel_rfl
  have c2 : Tryz.prog.cellsOf 4 = 1 := by kernel_rfl
  have c3 : Tryz.prog.cellsOf 59 = 3 := by kernel_rfl
  obtain ⟨xs, m, _, _, hcl, hxl, hf⟩ := DataW.trod_struct Tryz.underlying59 h
  have hx3 : xs.length = 3 := hxl
  have g0 : DataW.trod enc Tryz.prog W base (fun _ => true) held m 34 ((cs.drop 0).take (Tryz.prog.cellsOf 34)) = xs[0]? := hf 0 _ rfl
  have g1 : DataW.trod enc Tryz.prog W base (fun _ => true) held m 4 ((cs.drop 1).take (Tryz.prog.cellsOf 4)) = xs[1]? := hf 1 _ rfl
  have g2 : DataW.trod enc Tryz.prog W base (fun _ => true) held m 34 ((cs.drop 2).take (Tryz.prog.cellsOf 34)) = xs[2]? := hf 2 _ rfl
  rw [c1, List.getElem?_eq_getElem (by omega)] at g0 g2
  rw [c2, List.getElem?_eq_getElem (by omega)] at g1
  obtain ⟨ka, kc, k, e0, hk, hks⟩ := seg_cells8 g0
  obtain ⟨d, e1, _⟩ := DataW.trod_bool Tryz.underlying4 g1
  obtain ⟨va, vc, v, e2, hv, hvs⟩ := seg_cells8 g2
  exact ⟨⟨k, d, v⟩, ka, va, kc, vc, hcl.trans c3, take_one8 e0, take_one8 e1, take_one8 e2, hks, hvs, hk, hv⟩
set_option maxRecDepth 100000 in
/-- An op that came in as a value. -/
theorem op8_of {H : Type} {enc : TypeId × Value → H} {W : World} {base b0 : Nat} {held : Bool} {r : Reach} {v : Value} {d : DataW H} {ps : List MemPlace} (hv : Value.okWide Tryz.prog W r b0 59 v) (h : DataW.Trod enc Tryz.prog W base (fun _ => true) held 59 v d ps) :
    ∃ (o : OpB) (ka va : Option Addr) (kc vc : Nat), v = .agg #[.slice ka o.key.length kc, .bool o.del, .slice va o.val.length vc] ∧ Seg W (.slice ka o.key.length kc) o.key ∧ Seg W (.slice va o.val.length vc) o.val ∧ o.key.length ≤ maxLen ∧ o.val.length ≤ maxLen := by
  obtain ⟨cs, rfl, hn⟩ := okWide_struct Tryz.underlying59 hv
  obtain ⟨fuel, hf⟩ := h
  obtain ⟨o, ka, va, kc, vc, hl, k0, k1, k2, k5⟩ := op8_cells hf
  refine ⟨o, ka, va, kc, vc, ?_, k5⟩
  have e : cs.toList = [.slice ka o.key.length kc, .bool o.del, .slice va o.val.length vc] := by
    have hl' : cs.toList.length = 3 := hl
    have k0' : cs.toList[0]? = _ := k0
    have k1' : cs.toList[1]? = _ := k1
    have k2' : cs.toList[2]? = _ := k2
    generalize cs.toList = l at *
    match l, hl' with
    | [x0, x1, x2], _ =>
      simp at k0' k1' k2'
      rw [k0', k1', k2']
  rw [show cs = cs.toList.toArray by simp, e]
theorem cell_lt8 {W : World} {b o : Nat} {v : Value} (h : W.cell? ⟨b, o, none⟩ = some v) : b < W.heap.size := block_lt_of_cell (a := ⟨b, o, none⟩) h
theorem cell_at8 {W : World} {base : Nat} {b off i k m : Nat} {cs : List Value} {v : Value} (h : W.cells? base ((⟨b, off, none⟩ : Addr).add (i * m)) m = some cs) (hk : k < m) (hv : cs[k]? = some v) : W.cell? ⟨b, off + i * m + k, none⟩ = some v := by
  have := (World.cells?_some h).2.2 k hk
  rw [Addr.add_mid, Addr.add_mid] at this
  rw [this, hv]
instance : Inhabited OpB := ⟨⟨[], false, []⟩⟩
/-- A slice of ops in a cell. -/
theorem ops8_cells {H : Type} {enc : TypeId × Value → H} {W : World} {base : Nat} {held : Bool} {fuel : Nat} {cs : List Value} {x : DataW H × List MemPlace} (h : DataW.trod enc Tryz.prog W base (fun _ => true) held fuel 40 cs = some x) :
    ∃ v, ∃ l : List OpB, cs = [v] ∧ OpsV W v l := by
  have c3 : Tryz.prog.cellsOf 59 = 3 := by kernel_rfl
  rcases DataW.trod_slice Tryz.underlying40 h with ⟨rfl, _⟩ | ⟨ad, len, cap, elems, rest, n, rfl, rfl, _, _, hl, hm, hlen, hel, _, _⟩
  · exact ⟨_, [], rfl, none, 0, rfl, Nat.zero_le _, fun i o hi => by simp at hi⟩
  · rw [c3] at hel
    have key : ∀ i, i < len → ∃ y : OpB, ∃ cs ka va kc vc, W.cells? base (ad.add (i * 3)) 3 = some cs ∧ cs[0]? = some (.slice ka y.key.length kc) ∧ cs[1]? = some (.bool y.del) ∧ cs[2]? = some (.slice va y.val.length vc) ∧ Seg W (.slice ka y.key.length kc) y.key ∧ Seg W (.slice va y.val.length vc) y.val ∧ y.key.length ≤ maxLen ∧ y.val.length ≤ maxLen := fun i hi => by
      have e := hel i hi
      rw [List.getElem?_eq_getElem (by omega)] at e
      obtain ⟨cs', h1, h2⟩ := Option.bind_eq_some_iff.1 e
      obtain ⟨o, ka, va, kc, vc, _, k0, k1, k2, k3⟩ := op8_cells h2
      exact ⟨o, cs', ka, va, kc, vc, h1, k0, k1, k2, k3⟩
    obtain ⟨F, hF⟩ := Deep.choose_lt (α := OpB) key
    refine ⟨_, (List.range len).map F, rfl, some ad, cap, by simp, by simp; omega, fun i y hy => ?_⟩
    rw [List.getElem?_map, Option.map_eq_some_iff] at hy
    obtain ⟨i', hi', rfl⟩ := hy
    obtain ⟨hi, hii⟩ := List.getElem?_eq_some_iff.1 hi'
    rw [List.getElem_range] at hii
    subst hii
    obtain ⟨cs, ka, va, kc, vc, h1, k0, k1, k2, k3⟩ := hF i (by simpa using hi)
    obtain ⟨q, off, spot⟩ := ad
    obtain ⟨cs0, ka0, va0, kc0, vc0, h10, k00, -⟩ := hF 0 (by simp at hi; omega)
    have hspot : spot = none := by
      have := (World.cells?_some h10).2.2 0 (by omega)
      rw [k00] at this
      simpa [Addr.add] using World.cell?_spot this
    subst hspot
    have p0 := cell_at8 h1 (by omega) k0
    exact ⟨q, off, rfl, cell_lt8 p0, ka, kc, va, vc, p0, cell_at8 h1 (by omega) k1, cell_at8 h1 (by omega) k2, k3⟩
/-- Ops that came in. -/
theorem ops8_of {H : Type} {enc : TypeId × Value → H} {W : World} {base : Nat} {held : Bool} {fuel len cap : Nat} {a : Option Addr} {x : DataW H × List MemPlace} (h : DataW.trod enc Tryz.prog W base (fun _ => true) held fuel 40 (Value.slice a len cap).cells.toList = some x) : ∃ L, OpsV W (.slice a len cap) L := by
  obtain ⟨v, l, h1, h2⟩ := ops8_cells h
  have e : v = .slice a len cap := by simpa [Value.cells] using h1.symm
  rw [e] at h2
  exact ⟨l, h2⟩
/-- Changes that came in. -/
theorem chgs8_of {H : Type} {enc : TypeId × Value → H} {W : World} {base : Nat} {held : Bool} {fuel len cap : Nat} {a : Option Addr} {x : DataW H × List MemPlace} (h : DataW.trod enc Tryz.prog W base (fun _ => true) held fuel 33 (Value.slice a len cap).cells.toList = some x) : ∃ L, ChgsV W (.slice a len cap) L := by
  have c1 : Tryz.prog.cellsOf 40 = 1 := by kernel_rfl
  rcases DataW.trod_slice Tryz.underlying33 h with ⟨hcs, _⟩ | ⟨ad, len', cap', elems, rest, n, _, hcs, _, _, hl, hm, hlen, hel, _, _⟩
  · simp [Value.cells] at hcs
    obtain ⟨rfl, rfl, rfl⟩ := hcs
    exact ⟨[], none, 0, rfl, Nat.zero_le _, fun i b hi => by simp at hi⟩
  · simp [Value.cells] at hcs
    obtain ⟨rfl, rfl, rfl⟩ := hcs
    rw [c1] at hel
    have key : ∀ i, i < len → ∃ y : List OpB, ∃ v, W.cells? base (ad.add (i * 1)) 1 = some [v] ∧ OpsV W v y := fun i hi => by
      have e := hel i hi
      rw [List.getElem?_eq_getElem (by omega)] at e
      obtain ⟨cs', h1, h2⟩ := Option.bind_eq_some_iff.1 e
      obtain ⟨v, l, rfl, h3⟩ := ops8_cells h2
      exact ⟨l, v, h1, h3⟩
    obtain ⟨F, hF⟩ := Deep.choose_lt (α := List OpB) key
    refine ⟨(List.range len).map F, some ad, cap, by simp, by simp; omega, fun i y hy => ?_⟩
    rw [List.getElem?_map, Option.map_eq_some_iff] at hy
    obtain ⟨i', hi', rfl⟩ := hy
    obtain ⟨hi, hii⟩ := List.getElem?_eq_some_iff.1 hi'
    rw [List.getElem_range] at hii
    subst hii
    obtain ⟨v, h1, k3⟩ := hF i (by simpa using hi)
    obtain ⟨q, off, spot⟩ := ad
    obtain ⟨v0, h10, -⟩ := hF 0 (by simp at hi; omega)
    have hspot : spot = none := by
      have := (World.cells?_some h10).2.2 0 (by omega)
      simpa [Addr.add] using World.cell?_spot this
    subst hspot
    have p0 := cell_at8 h1 (k := 0) (by omega) rfl
    rw [Nat.mul_one, Nat.add_zero] at p0
    exact ⟨q, off, rfl, cell_lt8 p0, v, p0, k3⟩
end Go.Proofs.YtbegphfideopoaaGreat
