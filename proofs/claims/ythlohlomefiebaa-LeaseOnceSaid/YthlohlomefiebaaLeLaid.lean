/-
  What is proved here: leases, steps and numbers that came in lie in memory as plain ones.
  Conditions: those that each fact names.
-/
import Derived.Test.YthlohlomefiebaaRows
import Derived.Test.YthlohlomefiebaaLeSteps
import Derived.ProofKit
import Derived.OpenShut
import Derived.Stop.Joined
import Derived.ChangeOld
import Derived.Deep.Slices
namespace Go.Proofs.Ythlohlomefiebaa
open Go.ChangeShapes Go.WideShapes Go.ChangeAt Go.RowKit

theorem own : ownKnob Try.prog.godebug = none := by kernel_rfl
theorem laidOut : laidOutB Try.prog = true := by kernel_rfl
theorem take_oneE {cs : List Value} {k : Nat} {v : Value} (h : (cs.drop k).take 1 = [v]) : cs[k]? = some v := by
  have : ((cs.drop k).take 1)[0]? = some v := by rw [h]; rfl
  simpa [List.getElem?_take, List.getElem?_drop] using this
theorem cell_atE {W : World} {base : Nat} {b off i k m : Nat} {cs : List Value} {v : Value} (h : W.cells? base ((⟨b, off, none⟩ : Addr).add (i * m)) m = some cs) (hk : k < m) (hv : cs[k]? = some v) : W.cell? ⟨b, off + i * m + k, none⟩ = some v := by
  have := (World.cells?_some h).2.2 k hk
  rw [Addr.add_mid, Addr.add_mid] at this
  rw [this, hv]
theorem boundsE {z : Int} (h : (Lit.int .i64 z).wf = true) : -9223372036854775808 ≤ z ∧ z ≤ 9223372036854775807 := by
  simp [Lit.wf, IntKind.min, IntKind.max, IntKind.bits, IntKind.signed] at h
  omega
/-- Rows of some cells each that came in. -/
theorem rowIn_of {α : Type} [Inhabited α] (enc0 : α → List Value) (good : α → Prop) (k : Nat) (hk : 0 < k) (hlen : ∀ a, (enc0 a).length = k) {H : Type} {enc : TypeId × Value → H} {W : World} {base : Nat} {held : Bool} {fuel len cap : Nat} {a : Option Addr} {x : DataW H × List MemPlace} (t e : TypeId) (ht : Try.prog.underlying t = some (.slice e)) (hc : Try.prog.cellsOf e = k)
    (hone : ∀ fuel cs x, DataW.trod enc Try.prog W base (fun _ => true) held fuel e cs = some x → ∃ y : α, cs = enc0 y ∧ good y)
    (h : DataW.trod enc Try.prog W base (fun _ => true) held fuel t (Value.slice a len cap).cells.toList = some x) : ∃ L, RowIn enc0 k W (.slice a len cap) L ∧ ∀ y ∈ L, good y := by
  rcases DataW.trod_slice ht h with ⟨hcs, _⟩ | ⟨ad, len', cap', elems, rest, n, _, hcs, _, _, hl, hm, hln, hel, _, _⟩
  · simp [Value.cells] at hcs
    obtain ⟨rfl, rfl, rfl⟩ := hcs
    exact ⟨[], ⟨none, 0, rfl, Nat.le_refl _, Nat.zero_le _, fun _ => rfl, fun i b hi => by simp at hi⟩, fun y hy => by cases hy⟩
  · simp [Value.cells] at hcs
    obtain ⟨rfl, rfl, rfl⟩ := hcs
    rw [hc] at hel
    have key : ∀ i, i < len → ∃ y : α, ∃ cs, W.cells? base (ad.add (i * k)) k = some cs ∧ cs = enc0 y ∧ good y := fun i hi => by
      have e := hel i hi
      rw [List.getElem?_eq_getElem (by omega)] at e
      obtain ⟨cs', h1, h2⟩ := Option.bind_eq_some_iff.1 e
      obtain ⟨y, hy, hg⟩ := hone _ _ _ h2
      exact ⟨y, cs', h1, hy, hg⟩
    obtain ⟨F, hF⟩ := Deep.choose_lt (α := α) key
    refine ⟨(List.range len).map F, ⟨some ad, cap, by simp, by simpa using hl, by simp; omega, (fun e => by cases e), fun i y hy => ?_⟩, fun y hy => ?_⟩
    · rw [List.getElem?_map, Option.map_eq_some_iff] at hy
      obtain ⟨i', hi', rfl⟩ := hy
      obtain ⟨hi, hii⟩ := List.getElem?_eq_some_iff.1 hi'
      rw [List.getElem_range] at hii
      subst hii
      obtain ⟨cs, h1, rfl, _⟩ := hF i (by simpa using hi)
      obtain ⟨q, off, spot⟩ := ad
      obtain ⟨cs0, h10, k00, _⟩ := hF 0 (by simp at hi; omega)
      have hspot : spot = none := by
        have := (World.cells?_some h10).2.2 0 (by omega)
        rw [k00, List.getElem?_eq_getElem (by rw [hlen]; omega)] at this
        simpa [Addr.add] using World.cell?_spot this
      subst hspot
      have hall : ∀ (j : Nat) x, (enc0 (F i))[j]? = some x → W.cell? ⟨q, off + i * k + j, none⟩ = some x := fun j x hx => by
        have hj : j < k := by have := (List.getElem?_eq_some_iff.1 hx).1; rwa [hlen] at this
        exact cell_atE h1 hj hx
      exact ⟨q, off, rfl, block_lt_of_cell (a := ⟨q, off + i * k + 0, none⟩) (hall 0 _ (List.getElem?_eq_getElem (by rw [hlen]; omega))), hall⟩
    · obtain ⟨i, hi, rfl⟩ := List.mem_map.1 hy
      obtain ⟨_, _, _, hg⟩ := hF i (by simpa using hi)
      exact hg
set_option maxRecDepth 100000 in
theorem le_cells {H : Type} {enc : TypeId × Value → H} {W : World} {base : Nat} {held : Bool} (fuel : Nat) (cs : List Value) (x : DataW H × List MemPlace) (h : DataW.trod enc Try.prog W base (fun _ => true) held fuel 43 cs = some x) :
    ∃ b : LE, cs = leL b ∧ True := by
  have c1 : Try.prog.cellsOf 3 = 1 := by kernel_rfl
  have c3 : Try.prog.cellsOf 43 = 3 := by kernel_rfl
  obtain ⟨xs, m, _, _, hcl, hxl, hf⟩ := DataW.trod_struct Try.underlying43 h
  have hx3 : xs.length = 3 := hxl
  have hc3 : cs.length = 3 := hcl.trans c3
  have g0 : DataW.trod enc Try.prog W base (fun _ => true) held m 3 ((cs.drop 0).take (Try.prog.cellsOf 3)) = xs[0]? := hf 0 _ rfl
  have g1 : DataW.trod enc Try.prog W base (fun _ => true) held m 3 ((cs.drop 1).take (Try.prog.cellsOf 3)) = xs[1]? := hf 1 _ rfl
  have g2 : DataW.trod enc Try.prog W base (fun _ => true) held m 3 ((cs.drop 2).take (Try.prog.cellsOf 3)) = xs[2]? := hf 2 _ rfl
  rw [c1, List.getElem?_eq_getElem (by omega)] at g0 g1 g2
  obtain ⟨z0, e0, _, _⟩ := DataW.trod_int Try.underlying3 g0
  obtain ⟨z1, e1, _, _⟩ := DataW.trod_int Try.underlying3 g1
  obtain ⟨z2, e2, _, _⟩ := DataW.trod_int Try.underlying3 g2
  refine ⟨⟨z0, z1, z2⟩, ?_, trivial⟩
  have k0 := take_oneE e0
  have k1 := take_oneE e1
  have k2 := take_oneE e2
  match cs, hc3 with
  | [x0, x1, x2], _ =>
    simp at k0 k1 k2
    simp [leL, k0, k1, k2]
set_option maxRecDepth 100000 in
theorem step16_cells {H : Type} {enc : TypeId × Value → H} {W : World} {base : Nat} {held : Bool} (fuel : Nat) (cs : List Value) (x : DataW H × List MemPlace) (h : DataW.trod enc Try.prog W base (fun _ => true) held fuel 32 cs = some x) :
    ∃ b : SP, cs = spL b ∧ b.good := by
  have c1 : Try.prog.cellsOf 3 = 1 := by kernel_rfl
  have c4 : Try.prog.cellsOf 32 = 4 := by kernel_rfl
  obtain ⟨xs, m, _, _, hcl, hxl, hf⟩ := DataW.trod_struct Try.underlying32 h
  have hx4 : xs.length = 4 := hxl
  have hc4 : cs.length = 4 := hcl.trans c4
  have g0 : DataW.trod enc Try.prog W base (fun _ => true) held m 3 ((cs.drop 0).take (Try.prog.cellsOf 3)) = xs[0]? := hf 0 _ rfl
  have g1 : DataW.trod enc Try.prog W base (fun _ => true) held m 3 ((cs.drop 1).take (Try.prog.cellsOf 3)) = xs[1]? := hf 1 _ rfl
  have g2 : DataW.trod enc Try.prog W base (fun _ => true) held m 3 ((cs.drop 2).take (Try.prog.cellsOf 3)) = xs[2]? := hf 2 _ rfl
  have g3 : DataW.trod enc Try.prog W base (fun _ => true) held m 3 ((cs.drop 3).take (Try.prog.cellsOf 3)) = xs[3]? := hf 3 _ rfl
  rw [c1, List.getElem?_eq_getElem (by omega)] at g0 g1 g2 g3
  obtain ⟨z0, e0, _, _⟩ := DataW.trod_int Try.underlying3 g0
  obtain ⟨z1, e1, _, w1⟩ := DataW.trod_int Try.underlying3 g1
  obtain ⟨z2, e2, _, _⟩ := DataW.trod_int Try.underlying3 g2
  obtain ⟨z3, e3, _, _⟩ := DataW.trod_int Try.underlying3 g3
  refine ⟨⟨z0, z1, z2, z3⟩, ?_, boundsE w1⟩
  have k0 := take_oneE e0
  have k1 := take_oneE e1
  have k2 := take_oneE e2
  have k3 := take_oneE e3
  match cs, hc4 with
  | [x0, x1, x2, x3], _ =>
    simp at k0 k1 k2 k3
    simp [spL, k0, k1, k2, k3]
/-- Leases that came in. -/
theorem leases_of {H : Type} {enc : TypeId × Value → H} {W : World} {base : Nat} {held : Bool} {fuel len cap : Nat} {a : Option Addr} {x : DataW H × List MemPlace} (h : DataW.trod enc Try.prog W base (fun _ => true) held fuel 27 (Value.slice a len cap).cells.toList = some x) : ∃ L, LeIn W (.slice a len cap) L := by
  obtain ⟨L, h1, _⟩ := rowIn_of leL (fun _ => True) 3 (by omega) (fun _ => rfl) 27 43 Try.underlying27 (by kernel_rfl) le_cells h
  exact ⟨L, h1⟩
/-- Steps that came in. -/
theorem steps16_of {H : Type} {enc : TypeId × Value → H} {W : World} {base : Nat} {held : Bool} {fuel len cap : Nat} {a : Option Addr} {x : DataW H × List MemPlace} (h : DataW.trod enc Try.prog W base (fun _ => true) held fuel 22 (Value.slice a len cap).cells.toList = some x) : ∃ L, Steps16 W (.slice a len cap) L := rowIn_of spL SP.good 4 (by omega) (fun _ => rfl) 22 32 Try.underlying22 (by kernel_rfl) step16_cells h
theorem int16_cells {H : Type} {enc : TypeId × Value → H} {W : World} {base : Nat} {held : Bool} (fuel : Nat) (cs : List Value) (x : DataW H × List MemPlace) (h : DataW.trod enc Try.prog W base (fun _ => true) held fuel 3 cs = some x) :
    ∃ z : Int, cs = [.int .i64 z] ∧ (-9223372036854775808 ≤ z ∧ z ≤ 9223372036854775807) := by
  obtain ⟨z, e, _, w⟩ := DataW.trod_int Try.underlying3 h
  exact ⟨z, e, boundsE w⟩
/-- Numbers that came in. -/
theorem ints16_of {H : Type} {enc : TypeId × Value → H} {W : World} {base : Nat} {held : Bool} {fuel len cap : Nat} {a : Option Addr} {x : DataW H × List MemPlace} (h : DataW.trod enc Try.prog W base (fun _ => true) held fuel 56 (Value.slice a len cap).cells.toList = some x) : ∃ L, Ints16 W (.slice a len cap) L := rowIn_of (fun z => [.int .i64 z]) (fun z => -9223372036854775808 ≤ z ∧ z ≤ 9223372036854775807) 1 (by omega) (fun _ => rfl) 56 3 Try.underlying56 (by kernel_rfl) int16_cells h
end Go.Proofs.Ythlohlomefiebaa
