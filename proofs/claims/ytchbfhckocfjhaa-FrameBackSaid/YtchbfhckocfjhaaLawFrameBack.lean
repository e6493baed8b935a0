/-
  What is proved here: of all bytes, the statement FrameBack answers true: Stuff has no nought in it, is undone by Plain, and is longer by 1, and 1 more for each 254 bytes at most.
  Conditions: none.
-/
import Derived.Test.YtchbfhckocfjhaaFramePlain
import Derived.Test.YtchbfhckocfjhaaFrameAwake
import Derived.BigQuiet
import Derived.Deep.QuietTactic
namespace Go.Proofs.Ytchbfhckocfjhaa
open Go.RowKit

set_option maxRecDepth 100000 in
set_option maxHeartbeats 4000000 in
theorem frameBack_any (x : Value) (bs : List UInt8) (ao : Option Addr) (len c : Nat) (w : World) (hx : x = .slice ao len c) (hl : bs.length = len) (hm : len ≤ maxLen) (hseg : Seg w x bs) :
    Calls Try.prog 4 #[x] w fun e w' => e = .returned (.bool true) ∧ Below w.heap.size w w' := by
  subst hx
  unfold maxLen at hm
  go_enter Try.func4, Try.ntmps4
  go_wp2_with fail
  refine (fawake_any _).mono ?_
  rintro e w1 ⟨rfl, hb1⟩
  have s1 := hb1.size
  by_cases hbig : 20000 < len
  · go_wp2
    go_ret
    exact ⟨rfl, hb1⟩
  go_wp2_with fail
  refine (stuff_any _ bs _ (by omega) (hseg.below hb1 (Nat.le_refl _))).mono ?_
  rintro e w2 ⟨v2, rfl, ho2, hb2⟩
  have hB2 : Below w.heap.size w w2 := hb1.trans (hb2.mono s1)
  have s2 := hB2.size
  have hp := plainOf_stuff bs
  obtain ⟨hlo, hhi⟩ := stuff_len bs.length bs (Nat.le_refl _)
  have hnz := stuff_nz bs.length bs (Nat.le_refl _)
  generalize stuff bs = S at *
  obtain ⟨g, cap, rfl, _, hgl, _, hrow⟩ := ho2.form (by omega)
  have HN : Hid (∀ k, k < S.length → ∃ X, w2.cell? ⟨g, k, none⟩ = some (.int .u8 X) ∧ (X == 0) = false) := fun k hk => by
    have := hrow k hk
    rw [Nat.zero_add] at this
    refine ⟨_, this, ?_⟩
    simp only [beq_eq_false_iff_ne, ne_eq, n8]
    intro h
    exact hnz (by rw [← UInt8.toNat_inj.1 (show S[k].toNat = (0 : UInt8).toNat by simpa using h)]; exact List.getElem_mem hk)
  have HP : Hid (plainOf S = some bs) := hp
  clear hnz hp hrow
  go_wp2_with fail
  go_loop [5] (fun i => ∃ k : Nat, i = .int .i64 (k : Int) ∧ k ≤ S.length) (fun i => S.length - (intOf i).toNat)
  case atStart => exact ⟨0, rfl, Nat.zero_le _⟩
  case round =>
    obtain ⟨k, rfl, hk⟩ := hrel
    by_cases hkl : k < S.length
    · obtain ⟨X, hX, hX0⟩ := HN.out k hkl
      clear HN
      go_wp2
      go_round
      case rel => exact ⟨k + 1, by simp, by omega⟩
      case measure => simp only [intOf]; omega
    · obtain rfl : k = S.length := by omega
      clear HN
      go_wp2_with fail
      refine (plain_any _ S _ (by omega) ho2.seg).mono ?_
      rintro e w3 hp3
      rw [HP.out] at hp3
      obtain ⟨⟨v3, rfl, ho3⟩, hb3⟩ := hp3
      have hB3 := hB2.trans (hb3.mono s2)
      have hsb := hseg.below hB3 (Nat.le_refl _)
      obtain ⟨a3, c3, rfl⟩ := ho3.seg.shapeF
      rw [hl] at *
      have ho3s := ho3.seg
      have e1 := seg_stringF ho3s 9 Try.underlying9
      have e2 := seg_stringF hsb 9 Try.underlying9
      have hq1 : decide ((len : Int) < (S.length : Int)) = true := by simp; omega
      have hq2 : decide ((S.length : Int) ≤ (len : Int) + 1 + (len : Int) / 254) = true := by simp; omega
      go_wp2
      go_ret
      exact ⟨rfl, hB3⟩
end Go.Proofs.Ytchbfhckocfjhaa
