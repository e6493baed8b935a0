/-
  What is proved here: sha.Load answers none and the error of form where the bytes are too few, tell too great a length, or have another number of bytes behind than the length asks; else a hash that goes on with what they tell.
  Conditions: at most a million bytes.
-/
import Derived.Test.YtenolcfmbdndgabDoorShaSave
namespace Go.Proofs.YtenolcfmbdndgabDoor
open Go.RowKit

/-- The length that bytes of a Save tell. -/
def lenIn (bs : List UInt8) : Nat := beNat ((bs.drop 32).take 8)
/-- May these bytes be a Save? -/
def saveOk (bs : List UInt8) : Prop := 40 ≤ bs.length ∧ lenIn bs ≤ 1099511627776 ∧ bs.length - 40 = lenIn bs % 64

theorem slice_fix (b off r c lo hi : Nat) (h0 : lo ≤ hi) (h1 : hi ≤ c) (h2 : lo < c) (w : World) :
    (Instr.slice 22 (.slice (some ⟨b, off, none⟩) r c) (some (.int .i64 (lo : Int))) (some (.int .i64 (hi : Int))) none).run Tryd.prog w = .ok (.slice (some ⟨b, off + lo, none⟩) (hi - lo) (c - lo)) w := by
  have he : Tryd.prog.elem 22 = 5 := by kernel_rfl
  have hs : (sizeOf 5).run Tryd.prog w = .ok 1 w := by kernel_rfl
  rw [run_slice_lh w 22 (some ⟨b, off, none⟩) r c (by rw [he]; exact Tryd.underlying22) .i64 .i64 lo hi (by omega) (by omega) (by omega), he, hs]
  simp only [Result.andThen_ok, sliced, Int.toNat_natCast, Nat.mul_one]
  rw [if_neg (by omega), Option.map_some, Addr.add_mid]
theorem slice_tail (b off r c lo : Nat) (h0 : lo ≤ r) (w : World) :
    (Instr.slice 22 (.slice (some ⟨b, off, none⟩) r c) (some (.int .i64 (lo : Int))) none none).run Tryd.prog w = .ok (.slice (some ⟨b, if c = lo then off else off + lo, none⟩) (r - lo) (c - lo)) w := by
  have he : Tryd.prog.elem 22 = 5 := by kernel_rfl
  have hs : (sizeOf 5).run Tryd.prog w = .ok 1 w := by kernel_rfl
  rw [run_slice_l w 22 (some ⟨b, off, none⟩) r c (by rw [he]; exact Tryd.underlying22) .i64 lo (by omega) (by omega), he, hs]
  simp only [Result.andThen_ok, sliced, Int.toNat_natCast, Nat.mul_one]
  by_cases h : c = lo
  · rw [if_pos h, if_pos h]
  · rw [if_neg h, if_neg h, Option.map_some, Addr.add_mid]

set_option maxRecDepth 100000 in
set_option maxHeartbeats 1000000 in
theorem load_bad (x : Value) (bs : List UInt8) (w : World) (hm : bs.length ≤ 1000000) (hseg : Seg w x bs) (hbad : ¬ saveOk bs) :
    Calls Tryd.prog 14 #[x] w fun e w' => e = .returned (.tuple #[.pointer none, .int .i64 2]) ∧ Below w.heap.size w w' := by
  have hlx : ∃ ao c, x = .slice ao bs.length c := by
    rcases hseg with ⟨rfl, ao, c, rfl, _⟩ | ⟨b, off, c, rfl, _, _, _⟩
    · exact ⟨ao, c, rfl⟩
    · exact ⟨_, c, rfl⟩
  obtain ⟨ao, c, rfl⟩ := hlx
  by_cases h40 : bs.length < 40
  · go_enter Tryd.func14, Tryd.ntmps14
    go_wp2
    go_ret2
    exact ⟨rfl, Below.refl _ _⟩
  obtain ⟨b, off, rfl, hc, hr, hb⟩ : ∃ b off, ao = some ⟨b, off, none⟩ ∧ bs.length ≤ c ∧ Row w b off bs ∧ b < w.heap.size := by
    rcases hseg with ⟨h, _⟩ | ⟨b, off, c', h, h2, h3, h4⟩
    · rw [h] at h40; simp at h40
    · cases h; exact ⟨b, off, rfl, h2, h3, h4⟩
  have l1 := slice_fix b off bs.length c 32 40 (by omega) (by omega) (by omega)
  have l2 := slice_tail b off bs.length c 40 (by omega)
  generalize (if c = 40 then off else off + 40) = o40 at l2
  have hN : Hid (∀ w' : World, Below w.heap.size w w' → Calls Tryd.prog 27 #[.slice (some ⟨b, off + 32, none⟩) 8 (c - 32)] w' fun e w'' => e = .returned (.int .u64 (lenIn bs : Int)) ∧ w'' = w') := fun w' hw => number_any b (off + 32) 8 (c - 32) _ w' (((hr.below hw hb).drop 32).take 8) (by simp; omega) (by omega)
  have hlt : lenIn bs < 18446744073709551616 := Nat.lt_of_lt_of_le (beNat_lt _) (Nat.pow_le_pow_right (n := 256) (by omega) (show _ ≤ 8 by simp; omega))
  have hbad' : ¬ (lenIn bs ≤ 1099511627776 ∧ bs.length - 40 = lenIn bs % 64) := fun h => hbad ⟨by omega, h⟩
  clear hbad
  generalize lenIn bs = N at *
  go_enter Tryd.func14, Tryd.ntmps14
  go_wp2_with fail
  refine (hN.out w (Below.refl _ _)).mono ?_
  rintro e w1 ⟨rfl, rfl⟩
  by_cases hbig : 1099511627776 < N
  · go_wp2
    all_goals (go_ret2; exact ⟨rfl, Below.refl _ _⟩)
  · have hne : (((bs.length - 40 : Nat) : Int) != (N : Int) % 64) = true := by
      have : ¬ ((bs.length - 40 : Nat) : Int) = (N : Int) % 64 := by omega
      simpa using this
    go_wp2
    all_goals (go_ret2; exact ⟨rfl, Below.refl _ _⟩)
end Go.Proofs.YtenolcfmbdndgabDoor
