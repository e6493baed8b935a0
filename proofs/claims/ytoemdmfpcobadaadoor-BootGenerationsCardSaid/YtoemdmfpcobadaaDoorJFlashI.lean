/-
  What is proved here: FlashI
  Conditions: none.
-/
import Derived.Test.YtoemdmfpcobadaaDoorJChgWorld
import Derived.Test.YtoemdmfpcobadaaDoorJShaPure
import Derived.Test.YtoemdmfpcobadaaDoorJSegKit
namespace Go.Proofs.YtoemdmfpcobadaaDoor
open Go.RowKit

/-- A number of 64 bits. -/
def R64 (x : Int) : Prop := -9223372036854775808 ≤ x ∧ x ≤ 9223372036854775807
/-- How the program's flash lies in memory, and what its calls do. -/
structure PF where
  Lay : Type
  g : Lay → Nat
  T : Lay → Nat → Prop
  Rel : World → Lay → FS → Prop
  n : Lay → Nat
  ok : ∀ {w : World} {L : Lay} {s : FS}, Rel w L s → s.ok (n L)
  lt : ∀ {w : World} {L : Lay} {s : FS}, Rel w L s → ∀ q, T L q → q < w.heap.size
  chg : ∀ {w w' : World} {L : Lay} {s : FS} {S : Nat → Prop}, Rel w L s → Chg S w w' → (∀ q, T L q → ¬ S q) → Rel w' L s
  new_bad : ∀ (n k : Int) (w : World), R64 n → R64 k → (n < 1 ∨ 256 < n ∨ k < 1 ∨ 10000 < k) →
    Calls Tryd.prog 7 #[.int .i64 n, .int .i64 k] w fun e w' => e = .returned (.tuple #[.pointer none, .int .i64 1]) ∧ Below w.heap.size w w'
  new_any : ∀ (m k : Nat) (w : World), 1 ≤ m → m ≤ 256 → 1 ≤ k → k ≤ 10000 →
    Calls Tryd.prog 7 #[.int .i64 (m : Int), .int .i64 (k : Int)] w fun e w' => ∃ L : Lay, e = .returned (.tuple #[.pointer (some ⟨g L, 0, none⟩), .int .i64 0]) ∧ n L = m ∧ Rel w' L (newF m k) ∧ Below w.heap.size w w' ∧ (∀ q, T L q → w.heap.size ≤ q)
  read : ∀ (L : Lay) (s : FS) (a m : Int) (w : World), Rel w L s → R64 a → R64 m →
    Calls Tryd.prog 23 #[.pointer (some ⟨g L, 0, none⟩), .int .i64 a, .int .i64 m] w fun e w' => ∃ v, e = .returned (.tuple #[v, .int .i64 (readF s a m).2]) ∧ Own w' w.heap.size v (readF s a m).1 ∧ Below w.heap.size w w'
  program : ∀ (L : Lay) (s : FS) (a : Int) (x : Value) (bs : List UInt8) (w : World), Rel w L s → R64 a → Seg w x bs → bs.length ≤ maxLen → (0 < bs.length → ∀ q, x.ownBlock = some q → ¬ T L q) →
    Calls Tryd.prog 15 #[.pointer (some ⟨g L, 0, none⟩), .int .i64 a, x] w fun e w' => e = .returned (.int .i64 (programF s a bs).1) ∧ Rel w' L (programF s a bs).2 ∧ Chg (T L) w w'
  erase : ∀ (L : Lay) (s : FS) (b : Int) (w : World), Rel w L s → R64 b →
    Calls Tryd.prog 17 #[.pointer (some ⟨g L, 0, none⟩), .int .i64 b] w fun e w' => e = .returned (.int .i64 (eraseF s b).1) ∧ Rel w' L (eraseF s b).2 ∧ Chg (T L) w w'
  arm : ∀ (L : Lay) (s : FS) (c d : Int) (w : World), Rel w L s → R64 c → R64 d →
    Calls Tryd.prog 11 #[.pointer (some ⟨g L, 0, none⟩), .int .i64 c, .int .i64 d] w fun e w' => e = .returned (.tuple #[]) ∧ Rel w' L (armF s c d) ∧ Chg (T L) w w'
  power : ∀ (L : Lay) (s : FS) (w : World), Rel w L s →
    Calls Tryd.prog 13 #[.pointer (some ⟨g L, 0, none⟩)] w fun e w' => e = .returned (.tuple #[]) ∧ Rel w' L (powerF s) ∧ Chg (T L) w w'
theorem PF.after (P : PF) {w w' : World} {L : P.Lay} {s : FS} (h : P.Rel w L s) (hb : Below w.heap.size w w') : P.Rel w' L s :=
  P.chg h (Chg.of_below (S := fun _ => False) hb (Nat.le_refl _)) (fun _ _ => id)
end Go.Proofs.YtoemdmfpcobadaaDoor
