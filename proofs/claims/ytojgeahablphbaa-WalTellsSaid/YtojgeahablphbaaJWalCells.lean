/-
  What is proved here: bytes of numbers and of single values as cells of memory; an index into bytes.
  Conditions: those that each fact names.
-/
import Derived.Test.YtojgeahablphbaaJWalTell
import Derived.Test.YtojgeahablphbaaJChgWorld
namespace Go.Proofs.Ytojgeahablphbaa
open Go.RowKit

theorem own_new7 (w : World) (bs : List UInt8) (hm : bs.length ≤ maxLen) : Own (w.alloc (.cells (bs.map v8).toArray 5)) w.heap.size (.slice (some ⟨w.heap.size, 0, none⟩) bs.length bs.length) bs :=
  ⟨by simp, .inr ⟨w.heap.size, bs.length, (bs.map v8).toArray, rfl, Nat.le_refl _, heap_alloc_new w _, Nat.le_refl _, hm, by simp, by rw [Nat.mul_one]; exact List.take_of_length_le (by simp)⟩⟩
theorem v8_ofNat (k : Nat) (h : k < 256) : v8 (UInt8.ofNat k) = .int .u8 (k : Int) := by
  unfold v8 n8
  rw [UInt8.toNat_ofNat', Nat.mod_eq_of_lt h]
theorem num4_cells (n : Nat) (hn : n < 4294967296) : ((num4 n).map v8).toArray = #[.int .u8 ((n : Int) % 256), .int .u8 ((n : Int) / 256 % 256), .int .u8 ((n : Int) / 65536 % 256), .int .u8 ((n : Int) / 16777216)] := by
  show #[v8 (UInt8.ofNat (n % 256)), v8 (UInt8.ofNat (n / 256 % 256)), v8 (UInt8.ofNat (n / 65536 % 256)), v8 (UInt8.ofNat (n / 16777216 % 256))] = _
  rw [v8_ofNat _ (by omega), v8_ofNat _ (by omega), v8_ofNat _ (by omega), v8_ofNat _ (by omega)]
  have e : n / 16777216 % 256 = n / 16777216 := by omega
  rw [e]
  rfl
theorem index7 (b off len c : Nat) (z : Int) (I : Nat) (hz : z = (I : Int)) (h : I < len) (w : World) : (Instr.indexAt 22 (.slice (some ⟨b, off, none⟩) len c) (.int .i64 z)).run Try.prog w = .ok (.pointer (some ⟨b, off + I, none⟩)) w := by
  subst hz
  have hi : (0 : Int) ≤ (I : Int) ∧ (I : Int) < (len : Int) := by omega
  simp [Instr.indexAt, asIntOf, run_underlying Try.underlying22, hi, Addr.add_mid]
  intro h2
  omega
end Go.Proofs.Ytojgeahablphbaa
