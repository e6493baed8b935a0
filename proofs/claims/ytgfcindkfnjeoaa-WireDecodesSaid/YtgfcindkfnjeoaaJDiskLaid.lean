/-
  What is proved here: slices of bytes that came in lie in memory as plain data.
  Conditions: those that each fact names.
-/
import Derived.Test.YtgfcindkfnjeoaaRows
import Derived.Test.YtgfcindkfnjeoaaJShaPure
import Derived.ProofKit
import Derived.OpenShut
import Derived.Stop.Joined
import Derived.ChangeOld
import Derived.Deep.Slices
namespace Go.Proofs.Ytgfcindkfnjeoaa
open Go.ChangeShapes Go.WideShapes Go.ChangeAt Go.RowKit

theorem own : ownKnob Try.prog.godebug = none := by kernel_rfl
theorem laidOut : laidOutB Try.prog = true := by kernel_rfl
theorem bytes_of (zs : List Int) (h : ∀ n ∈ zs, (Lit.int .u8 n).wf = true) : ∃ l : List UInt8, zs = l.map n8 := by
  induction zs with
  | nil => exact ⟨[], rfl⟩
  | cons z zs ih =>
    obtain ⟨l, rfl⟩ := ih fun n hn => h n (by simp [hn])
    have hz := bounds_u8 (h z (by simp))
    refine ⟨UInt8.ofNat z.toNat :: l, ?_⟩
    simp only [List.map_cons, n8]
    congr 1
    have e : (UInt8.ofNat z.toNat).toNat = z.toNat % 256 := by simp
    rw [e, Nat.mod_eq_of_lt (by omega)]; omega
/-- A slice of bytes that came in. -/
theorem seg_of {H : Type} {enc : TypeId × Value → H} {W : World} {base : Nat} {held : Bool} {fuel len cap : Nat} {a : Option Addr} {x : DataW H × List MemPlace} (hf : DataW.trod enc Try.prog W base (fun _ => true) held fuel 26 (Value.slice a len cap).cells.toList = some x) : ∃ bs : List UInt8, bs.length = len ∧ len ≤ maxLen ∧ Seg W (.slice a len cap) bs := by
  rcases open_ints Try.underlying26 Try.underlying5 (by kernel_rfl) hf with ⟨hcs, _⟩ | ⟨ad, l, c, zs, hcs, _, hl, hm, hz, _, hcell, hwz⟩
  · simp [Value.cells] at hcs
    obtain ⟨rfl, rfl, rfl⟩ := hcs
    exact ⟨[], rfl, Nat.zero_le _, .inl ⟨rfl, none, 0, rfl, fun _ => rfl⟩⟩
  · simp [Value.cells] at hcs
    obtain ⟨rfl, rfl, rfl⟩ := hcs
    obtain ⟨bl, rfl⟩ := bytes_of zs hwz
    have hbl : bl.length = cap := by simpa using hz
    refine ⟨bl.take len, by simp; omega, Nat.le_trans hl hm, ?_⟩
    rcases Nat.eq_zero_or_pos len with h0 | h0
    · subst h0
      exact .inl ⟨by simp, _, cap, rfl, fun h => by cases h⟩
    · obtain ⟨b, off, spot⟩ := ad
      have hc := hcell 0 (by simp; omega)
      have hspot : spot = none := by simpa [Addr.add] using World.cell?_spot hc
      subst hspot
      refine .inr ⟨b, off, cap, by simp; omega, by simp; omega, fun j hj => ?_, ?_⟩
      · have hj' : j < bl.length := by simp at hj; omega
        have := hcell j (by simpa using hj')
        rw [Addr.add_mid] at this
        rw [this]; simp [hj']
      · have := block_lt_of_cell hc
        simpa [Addr.add_mid] using this
end Go.Proofs.Ytgfcindkfnjeoaa
