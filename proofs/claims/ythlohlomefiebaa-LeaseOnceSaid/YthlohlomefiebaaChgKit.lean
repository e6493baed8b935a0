/-
  What is proved here: plain facts on worlds in which, of the blocks that were there, only such of a kind have changed.
  Conditions: those that each fact names.
-/
import Derived.Test.YthlohlomefiebaaShaWorld
namespace Go.Proofs.Ythlohlomefiebaa
open Go.RowKit

/-- Of the blocks that were there, none but such have changed. -/
def Chg (S : Nat → Prop) (w w' : World) : Prop := Below 0 w w' ∧ ∀ k, k < w.heap.size → ¬ S k → w'.heap[k]? = w.heap[k]?
theorem Chg.size {S : Nat → Prop} {w w' : World} (h : Chg S w w') : w.heap.size ≤ w'.heap.size := h.1.size
theorem Chg.refl (S : Nat → Prop) (w : World) : Chg S w w := ⟨Below.refl _ _, fun _ _ _ => rfl⟩
theorem Chg.trans {S S' : Nat → Prop} {w w' w'' : World} (h : Chg S w w') (h' : Chg S' w' w'') (hS : ∀ k, k < w.heap.size → S' k → S k) : Chg S w w'' :=
  ⟨h.1.trans h'.1, fun k hk hn => (h'.2 k (Nat.lt_of_lt_of_le hk h.size) (fun e => hn (hS k hk e))).trans (h.2 k hk hn)⟩
theorem Chg.of_below {S : Nat → Prop} {B : Nat} {w w' : World} (h : Below B w w') (hB : w.heap.size ≤ B) : Chg S w w' :=
  ⟨h.mono (Nat.zero_le _), fun k hk _ => h.block k (Nat.lt_of_lt_of_le hk hB)⟩
theorem Chg.of_grown {S : Nat → Prop} {w w' : World} {row : Option Nat} (h : w.grownBy w' row) (hS : ∀ k, row = some k → S k) : Chg S w w' :=
  ⟨below_grown (Below.refl 0 w) h (Nat.zero_le _) (fun _ _ => Nat.zero_le _), fun k hk hn => h.block k hk (fun e => hn (hS k e.symm))⟩
theorem Chg.alloc {S : Nat → Prop} {w w' : World} (h : Chg S w w') (o : Obj) : Chg S w (w'.alloc o) :=
  h.trans (S' := S) (Chg.of_below ((Below.refl w'.heap.size w').alloc (Nat.le_refl _) o) (Nat.le_refl _)) (fun _ _ h => h)
theorem Chg.setCell {S : Nat → Prop} {w w' : World} (h : Chg S w w') (g i : Nat) (v : Value) (hS : g < w.heap.size → S g) : Chg S w (w'.setCell ⟨g, i, none⟩ v) :=
  h.trans (S' := fun k => k = g) ⟨(Below.refl 0 w').setCell (p := ⟨g, i, none⟩) (Nat.zero_le _) v, fun k _ hn => Below.heap_setCell w' ⟨g, i, none⟩ v k hn⟩ (fun k hk e => by subst e; exact hS hk)
theorem Chg.below {S : Nat → Prop} {B : Nat} {w w' : World} (h : Chg S w w') (hS : ∀ k, S k → B ≤ k) (hB : B ≤ w.heap.size) : Below B w w' :=
  ⟨h.1.os, h.1.tape, h.1.output, h.1.size, fun k hk => h.2 k (Nat.lt_of_lt_of_le hk hB) (fun e => by have := hS k e; omega)⟩
theorem Blk.chg {S : Nat → Prop} {w w' : World} {g : Nat} {t : TypeId} {arr : Array Value} (h : Blk w g t arr) (hc : Chg S w w') (hg : ¬ S g) : Blk w' g t arr := by
  unfold Blk; rw [hc.2 g h.lt hg]; exact h
theorem Chg.weaken {S S' : Nat → Prop} {w w' : World} (h : Chg S w w') (hS : ∀ k, S k → S' k) : Chg S' w w' := ⟨h.1, fun k hk hn => h.2 k hk (fun e => hn (hS k e))⟩
theorem Chg.drew {S : Nat → Prop} {w w' : World} (h : Chg S w w') : Chg S w w'.drew := ⟨h.1.drew, h.2⟩
end Go.Proofs.Ythlohlomefiebaa
