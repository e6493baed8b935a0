/-
  What is proved here: a slice of slices of bytes that came in holds rows of bytes.
  Conditions: those that the fact names.
-/
import Derived.Test.YtcfnbmphonkbpaaDiskLaid
import Derived.Test.YtcfnbmphonkbpaaWalSegs
import Derived.Deep.Slices
namespace Go.Proofs.Ytcfnbmphonkbpaa
open Go.ChangeShapes Go.WideShapes Go.ChangeAt Go.RowKit

theorem seg_cellsW {H : Type} {enc : TypeId × Value → H} {W : World} {base : Nat} {held : Bool} {fuel : Nat} {cs : List Value} {x : DataW H × List MemPlace} (hf : DataW.trod enc Try.prog W base (fun _ => true) held fuel 30 cs = some x) :
    ∃ a n cc, ∃ bs : List UInt8, cs = [.slice a n cc] ∧ bs.length = n ∧ n ≤ maxLen ∧ Seg W (.slice a n cc) bs := by
  rcases open_ints Try.underlying30 Try.underlying5 (by kernel_rfl) hf with ⟨hcs, _⟩ | ⟨ad, l, c, zs, hcs, _⟩
  · subst hcs
    obtain ⟨bs, h⟩ := seg_of (a := none) (len := 0) (cap := 0) (by simpa [Value.cells] using hf)
    exact ⟨none, 0, 0, bs, rfl, h⟩
  · subst hcs
    obtain ⟨bs, h⟩ := seg_of (a := some ad) (len := l) (cap := c) (by simpa [Value.cells] using hf)
    exact ⟨some ad, l, c, bs, rfl, h⟩
theorem segs7_of {H : Type} {enc : TypeId × Value → H} {W : World} {base : Nat} {held : Bool} {fuel len cap : Nat} {a : Option Addr} {x : DataW H × List MemPlace} (hf : DataW.trod enc Try.prog W base (fun _ => true) held fuel 31 (Value.slice a len cap).cells.toList = some x) : ∃ L, Segs7 W (.slice a len cap) L := by
  rcases Deep.open_slice1 Try.underlying31 (by kernel_rfl) hf with ⟨hcs, _⟩ | ⟨ad, l, c, m, n, V, D, Pl, hcs, _, hl, hm, hmm, _, hV⟩
  · simp [Value.cells] at hcs
    obtain ⟨rfl, rfl, rfl⟩ := hcs
    exact ⟨[], none, 0, rfl, Nat.zero_le _, fun h => by cases h⟩
  · simp [Value.cells] at hcs
    obtain ⟨rfl, rfl, rfl⟩ := hcs
    simp at hmm
    subst hmm
    obtain ⟨B, hB⟩ := Deep.choose_lt (α := List UInt8) (n := len) (p := fun i bs => ∃ a n cc, W.cell? (ad.add i) = some (.slice a n cc) ∧ bs.length = n ∧ n ≤ maxLen ∧ Seg W (.slice a n cc) bs) (fun i hi => by
      obtain ⟨h1, h2⟩ := hV i (by omega)
      obtain ⟨a, n, cc, bs, h3, h4⟩ := seg_cellsW h2
      exact ⟨bs, a, n, cc, h1.trans (congrArg some (List.cons.inj h3).1), h4⟩)
    refine ⟨(List.range len).map B, some ad, m, by simp, by simp; omega, fun h0 => ?_⟩
    obtain ⟨b, off, spot⟩ := ad
    have h0' : 0 < len := by simpa using h0
    obtain ⟨a0, n0, cc0, hc0, _⟩ := hB 0 h0'
    have hspot : spot = none := by simpa [Addr.add] using World.cell?_spot hc0
    subst hspot
    refine ⟨b, off, rfl, ?_, by simp; omega, fun i r hr => ?_⟩
    · have := block_lt_of_cell hc0
      simpa [Addr.add_mid] using this
    · rw [List.getElem?_map, Option.map_eq_some_iff] at hr
      obtain ⟨i', hi', rfl⟩ := hr
      obtain ⟨hi, hii⟩ := List.getElem?_eq_some_iff.1 hi'
      rw [List.getElem_range] at hii
      subst hii
      obtain ⟨a, n, cc, hc, h4⟩ := hB i (by simpa using hi)
      rw [Addr.add_mid] at hc
      exact ⟨a, n, cc, hc, h4⟩
end Go.Proofs.Ytcfnbmphonkbpaa
