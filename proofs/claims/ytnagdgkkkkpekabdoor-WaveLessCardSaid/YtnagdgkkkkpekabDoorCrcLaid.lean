/-
  What is proved here: where the listed variable reads as the program's text lays it, its cells hold the sixteen words for four bits; and a slice of bytes, a byte, a word of 32 bits that came in are such.
  Conditions: those that each fact names.
-/
import Derived.Test.YtnagdgkkkkpekabDoorRows
import Derived.Test.YtnagdgkkkkpekabDoorCrcAdd
import Derived.ProofKit
import Derived.LaidMore
import Derived.OpenShut
import Derived.Stop.Joined
import Derived.Lib.LaidTab
import Derived.ChangeOld
namespace Go.Proofs.YtnagdgkkkkpekabDoor
open Go.ChangeShapes Go.WideShapes Go.ChangeAt Go.RowKit

theorem own : ownKnob Tryd.prog.godebug = none := by kernel_rfl
theorem laidOut : laidOutB Tryd.prog = true := by kernel_rfl
abbrev laid2 : List (String × DataW Unit) := Rows.waveLessRow.laid
def nameAt (i : Nat) : String := ((laid2.map (·.1))[i]?).getD default
theorem gFour : Tryd.prog.globalNamed (nameAt 0) = some 0 := by kernel_rfl
theorem tFour : (Tryd.prog.globals[0]?).map (·.type) = some 77 := by kernel_rfl
theorem dFour : (Rows.laid_pennant_crc_fourBits : DataW Unit) = Lib.tabData .u32 (fours.map n32) := by kernel_rfl

/-- The door's own heap meets the condition. -/
theorem door_met (os : Os) (args : Array Value) : laidMetH Tryd.prog laid2 ((World.doorLaid Tryd.prog 400 os).forCall (fun _ _ => 0) ⟨#[], args, []⟩).memory :=
  laidMetH_of_parts3 (fuel := 8) (laidMet_of_run' 8 (by kernel_rfl) (by kernel_rfl)) (by kernel_rfl) (by kernel_rfl)

theorem tab_of {W : World} {g : Nat} {name : String} {cs : Array Value} {l : List (BitVec 32)} (hg : Tryd.prog.globalNamed name = some g) (hv : W.var? Tryd.prog name = some cs) (hc : cs.toList = (l.map n32).map fun z => Value.int .u32 z) : Tab W g (l.map v32) := fun j v h => by
  rw [World.var?_cell hg hv j, ← Array.getElem?_toList, hc, List.map_map]
  exact h

theorem of_laid {W : World} (h : laidMetH Tryd.prog laid2 W) : Tab W 0 (fours.map v32) ∧ 0 < W.heap.size := by
  rw [MakeChecks.laidMetH_plain _ _ _ (by kernel_rfl)] at h
  obtain ⟨ps, ⟨g0, t0, cs0, f0, p0, q0, hg0, ht0, hv0, hd0, _, _⟩, _, _⟩ := h
  obtain rfl := Option.some.inj (gFour.symm.trans hg0)
  obtain rfl := Option.some.inj (tFour.symm.trans ht0)
  rw [dFour] at hd0
  have e0 := Lib.cells_of_tab Tryd.underlying77 Tryd.underlying43 (by kernel_rfl) (by kernel_rfl) hd0
  have T0 := tab_of hg0 hv0 e0
  exact ⟨T0, block_lt_of_cell (T0 0 _ rfl)⟩

theorem bytes_of (zs : List Int) (h : ∀ n ∈ zs, (Lit.int .u8 n).wf = true) : ∃ l : List UInt8, zs = l.map n8 := by
  induction zs with
  | nil => exact ⟨[], rfl⟩
  | cons z zs ih =>
    obtain ⟨l, rfl⟩ := ih fun n hn => h n (by simp [hn])
    have hz := bounds_u8 (h z (by simp))
    refine ⟨UInt8.ofNat z.toNat :: l, ?_⟩
    simp only [List.map_cons, n8]
    congr 1
    have e : (UInt8.ofNat z.toNat).toNat = z.toNat % 256 := by simp
    rw [e, Nat.mod_eq_of_lt (by omega)]; omega
theorem word_of (z : Int) (h : (Lit.int .u32 z).wf = true) : ∃ s : BitVec 32, z = n32 s := by
  have hz := bounds_u32 h
  refine ⟨BitVec.ofNat 32 z.toNat, ?_⟩
  unfold n32; rw [BitVec.toNat_ofNat, Nat.mod_eq_of_lt (by omega)]; omega

/-- A slice of bytes that came in. -/
theorem seg_of {H : Type} {enc : TypeId × Value → H} {W : World} {base : Nat} {held : Bool} {fuel len cap : Nat} {a : Option Addr} {x : DataW H × List MemPlace} (hf : DataW.trod enc Tryd.prog W base (fun _ => true) held fuel 56 (Value.slice a len cap).cells.toList = some x) : ∃ bs : List UInt8, bs.length = len ∧ len ≤ maxLen ∧ Seg W (.slice a len cap) bs := by
  rcases open_ints Tryd.underlying56 Tryd.underlying5 (by kernel_rfl) hf with ⟨hcs, _⟩ | ⟨ad, l, c, zs, hcs, _, hl, hm, hz, _, hcell, hwz⟩
  · simp [Value.cells] at hcs
    obtain ⟨rfl, rfl, rfl⟩ := hcs
    exact ⟨[], rfl, Nat.zero_le _, .inl ⟨rfl, none, 0, rfl, fun _ => rfl⟩⟩
  · simp [Value.cells] at hcs
    obtain ⟨rfl, rfl, rfl⟩ := hcs
    obtain ⟨bl, rfl⟩ := bytes_of zs hwz
    have hbl : bl.length = cap := by simpa using hz
    refine ⟨bl.take len, by simp; omega, Nat.le_trans hl hm, ?_⟩
    rcases Nat.eq_zero_or_pos len with h0 | h0
    · subst h0
      exact .inl ⟨by simp, _, cap, rfl, fun h => by cases h⟩
    · obtain ⟨b, off, spot⟩ := ad
      have hc := hcell 0 (by simp; omega)
      have hspot : spot = none := by simpa [Addr.add] using World.cell?_spot hc
      subst hspot
      refine .inr ⟨b, off, cap, by simp; omega, by simp; omega, fun j hj => ?_, ?_⟩
      · have hj' : j < bl.length := by simp at hj; omega
        have := hcell j (by simpa using hj')
        rw [Addr.add_mid] at this
        rw [this]; simp [hj']
      · have := block_lt_of_cell hc
        simpa [Addr.add_mid] using this

end Go.Proofs.YtnagdgkkkkpekabDoor
