/-
  What is proved here: slices of values that came in lie in memory as plain data.
  Conditions: those that each fact names.
-/
import Derived.Test.YtjepeonekhhgfaaPackLaid
namespace Go.Proofs.Ytjepeonekhhgfaa
open Go.ChangeShapes Go.WideShapes Go.ChangeAt Go.RowKit

theorem recs_cells {H : Type} {enc : TypeId × Value → H} {W : World} {base : Nat} {held : Bool} (m : Nat) (ih : ∀ k, k ≤ m → ∀ (cs : List Value) (x : DataW H × List MemPlace), DataW.trod enc Try.prog W base (fun _ => true) held k 27 cs = some x → ∃ v l, cs = [v] ∧ Vals W k v l) (cs : List Value) (x : DataW H × List MemPlace)
    (h : DataW.trod enc Try.prog W base (fun _ => true) held m 40 cs = some x) : ∃ ao c, ∃ L : List (List Val), cs = [.slice ao L.length c] ∧ L.length ≤ maxLen ∧ (0 < L.length → ∃ b off, ao = some ⟨b, off, none⟩ ∧ b < W.heap.size ∧ L.length ≤ c ∧ ∀ k r, L[k]? = some r → ∃ rv, W.cell? ⟨b, off + k, none⟩ = some rv ∧ Vals W m rv r) := by
  have c1 : Try.prog.cellsOf 27 = 1 := by kernel_rfl
  rcases DataW.trod_slice Try.underlying40 h with ⟨rfl, _⟩ | ⟨a, len, cap, elems, rest, n, rfl, rfl, _, _, hl, hm, hlen, hel, _, _⟩
  · exact ⟨none, 0, [], rfl, Nat.zero_le _, fun h => by cases h⟩
  · rw [c1] at hel
    have key : ∀ i, i < len → ∃ r : List Val, ∃ rv, W.cell? (a.add i) = some rv ∧ Vals W (n + 1) rv r := fun i hi => by
      have e := hel i hi
      rw [List.getElem?_eq_getElem (by omega), Nat.mul_one] at e
      obtain ⟨cs', h1, h2⟩ := Option.bind_eq_some_iff.1 e
      obtain ⟨rv, r, e1, hr⟩ := ih n (by omega) _ _ h2
      subst e1
      have := (World.cells?_some h1).2.2 0 (by omega)
      rw [Deep.add_add, Nat.add_zero] at this
      exact ⟨r, rv, this, hr.succ⟩
    obtain ⟨F, hF⟩ := Deep.choose_lt (α := List Val) key
    refine ⟨some a, cap, (List.range len).map F, by simp, by simp; omega, fun h0 => ?_⟩
    have h0' : 0 < len := by simpa using h0
    obtain ⟨b, off, spot⟩ := a
    obtain ⟨rv0, hc0, _⟩ := hF 0 h0'
    have hspot : spot = none := by simpa [Addr.add] using World.cell?_spot hc0
    subst hspot
    rw [Addr.add_mid] at hc0
    refine ⟨b, off, rfl, cell_lt hc0, by simp; omega, fun i r hr => ?_⟩
    rw [List.getElem?_map, Option.map_eq_some_iff] at hr
    obtain ⟨i', hi', rfl⟩ := hr
    obtain ⟨hi, hii⟩ := List.getElem?_eq_some_iff.1 hi'
    rw [List.getElem_range] at hii
    subst hii
    obtain ⟨rv, h1, h2⟩ := hF i (by simpa using hi)
    rw [Addr.add_mid] at h1
    exact ⟨rv, h1, h2⟩
theorem vals_cells {H : Type} {enc : TypeId × Value → H} {W : World} {base : Nat} {held : Bool} : ∀ (fuel : Nat) (cs : List Value) (x : DataW H × List MemPlace), DataW.trod enc Try.prog W base (fun _ => true) held fuel 27 cs = some x → ∃ v l, cs = [v] ∧ Vals W fuel v l := by
  intro fuel
  induction fuel using Nat.strongRecOn with
  | ind fuel ih =>
  intro cs x h
  have c1 : Try.prog.cellsOf 39 = 1 := by kernel_rfl
  have c2 : Try.prog.cellsOf 29 = 1 := by kernel_rfl
  have c3 : Try.prog.cellsOf 40 = 1 := by kernel_rfl
  have c4 : Try.prog.cellsOf 42 = 3 := by kernel_rfl
  rcases DataW.trod_slice Try.underlying27 h with ⟨rfl, _⟩ | ⟨a, len, cap, elems, rest, n, rfl, rfl, _, _, hl, hm, hlen, hel, _, _⟩
  · refine ⟨_, [], rfl, ?_⟩
    cases fuel with
    | zero => exact ⟨rfl, rfl⟩
    | succ n => exact ⟨none, 0, rfl, Nat.zero_le _, fun h => by cases h⟩
  · rw [c4] at hel
    have key : ∀ i, i < len → ∃ y : Val, ∃ cs', W.cells? base (a.add (i * 3)) 3 = some cs' ∧ cs'[0]? = some (.int .u64 (y.n : Int)) ∧ (∃ bv, cs'[1]? = some bv ∧ Seg W bv y.b ∧ y.b.length ≤ maxLen) ∧ (∃ ao c, cs'[2]? = some (.slice ao y.l.length c) ∧ y.l.length ≤ maxLen ∧ (0 < y.l.length → ∃ b off, ao = some ⟨b, off, none⟩ ∧ b < W.heap.size ∧ y.l.length ≤ c ∧ ∀ k r, y.l[k]? = some r → ∃ rv, W.cell? ⟨b, off + k, none⟩ = some rv ∧ Vals W n rv r)) ∧ y.n < 18446744073709551616 := fun i hi => by
      have e := hel i hi
      rw [List.getElem?_eq_getElem (by omega)] at e
      obtain ⟨cs', h1, h2⟩ := Option.bind_eq_some_iff.1 e
      obtain ⟨xs, m, hmn, _, hcl, hxl, hf⟩ := DataW.trod_struct Try.underlying42 h2
      have hx3 : xs.length = 3 := hxl
      have h0 : DataW.trod enc Try.prog W base (fun _ => true) held m 39 ((cs'.drop 0).take (Try.prog.cellsOf 39)) = xs[0]? := hf 0 _ rfl
      have g1 : DataW.trod enc Try.prog W base (fun _ => true) held m 29 ((cs'.drop 1).take (Try.prog.cellsOf 29)) = xs[1]? := hf 1 _ rfl
      have g2 : DataW.trod enc Try.prog W base (fun _ => true) held m 40 ((cs'.drop 2).take (Try.prog.cellsOf 40)) = xs[2]? := hf 2 _ rfl
      rw [c1, List.getElem?_eq_getElem (by omega)] at h0
      rw [c2, List.getElem?_eq_getElem (by omega)] at g1
      rw [c3, List.getElem?_eq_getElem (by omega)] at g2
      obtain ⟨z, e0, _, w0⟩ := DataW.trod_int Try.underlying39 h0
      obtain ⟨ab, bn, bc, bs, e1, hbn, hbm, hbs⟩ := seg_cells g1
      obtain ⟨al, cl, L, e2, hLm, hL⟩ := recs_cells m (fun k hk => ih k (by omega)) _ _ g2
      have b1 := bounds_u64 w0
      refine ⟨.mk z.toNat bs L, cs', h1, ?_, ⟨_, take_one e1, hbs, by show bs.length ≤ _; rw [hbn]; exact hbm⟩, ⟨al, cl, take_one e2, hLm, fun h => ?_⟩, ?_⟩
      · rw [take_one e0]; show some (Value.int .u64 z) = some (.int .u64 (z.toNat : Int)); rw [Int.toNat_of_nonneg b1.1]
      · obtain ⟨b, off, q1, q2, q3, q4⟩ := hL h
        exact ⟨b, off, q1, q2, q3, fun k r hr => by
          obtain ⟨rv, p1, p2⟩ := q4 k r hr
          exact ⟨rv, p1, by rw [hmn]; exact p2.succ⟩⟩
      · show z.toNat < _; omega
    obtain ⟨F, hF⟩ := Deep.choose_lt (α := Val) key
    refine ⟨_, (List.range len).map F, rfl, some a, cap, by simp, by simp; omega, fun h0 => ?_⟩
    have h0' : 0 < len := by simpa using h0
    obtain ⟨b, off, spot⟩ := a
    have hspot : spot = none := by
      obtain ⟨cs', h1, h2, _⟩ := hF 0 h0'
      have := (World.cells?_some h1).2.2 0 (by omega)
      rw [h2] at this
      simpa [Addr.add] using World.cell?_spot this
    subst hspot
    refine ⟨b, off, rfl, ?_, by simp; omega, fun i f hf => ?_⟩
    · obtain ⟨cs', h1, h2, _⟩ := hF 0 h0'
      exact cell_lt (cell_at h1 (by omega) h2)
    · rw [List.getElem?_map, Option.map_eq_some_iff] at hf
      obtain ⟨i', hi', rfl⟩ := hf
      obtain ⟨hi, hii⟩ := List.getElem?_eq_some_iff.1 hi'
      rw [List.getElem_range] at hii
      subst hii
      obtain ⟨cs', h1, h2, ⟨bv, h3, h4, h5⟩, ⟨ao, c, h6, h7, h8⟩, h9⟩ := hF i (by simpa using hi)
      exact ⟨cell_at h1 (by omega) h2, ⟨bv, cell_at h1 (by omega) h3, h4, h5⟩, ⟨ao, c, cell_at h1 (by omega) h6, h7, h8⟩, h9⟩
theorem vals_of {H : Type} {enc : TypeId × Value → H} {W : World} {base : Nat} {held : Bool} {fuel len cap : Nat} {a : Option Addr} {x : DataW H × List MemPlace} (hf : DataW.trod enc Try.prog W base (fun _ => true) held fuel 27 (Value.slice a len cap).cells.toList = some x) : ∃ L, ValsIn W (.slice a len cap) L := by
  obtain ⟨v, l, hv, hl⟩ := vals_cells fuel _ _ hf
  simp [Value.cells] at hv
  subst hv
  exact ⟨l, fuel, hl⟩
end Go.Proofs.Ytjepeonekhhgfaa
