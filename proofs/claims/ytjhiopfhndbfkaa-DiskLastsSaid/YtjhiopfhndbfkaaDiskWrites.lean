/-
  What is proved here: plain facts on writes that follow one another, and on a crash behind a sync.
  Conditions: those that each fact names.
-/
import Derived.Test.YtjhiopfhndbfkaaPDiskAwake
import Derived.Test.YtjhiopfhndbfkaaDiskActsB
namespace Go.Proofs.Ytjhiopfhndbfkaa
open Go.RowKit Go.Maps

/-- Writes alone, one behind the other. -/
def writesS : List ActP → DS → DS
  | [], s => s
  | a :: l, s => writesS l (if a.act = 0 then (writeS s a.k a.b).2 else s)
theorem writesS_snoc (l : List ActP) (a : ActP) (s : DS) : writesS (l ++ [a]) s = if a.act = 0 then (writeS (writesS l s) a.k a.b).2 else writesS l s := by
  induction l generalizing s with
  | nil => rfl
  | cons b l ih => exact ih _
theorem writesS_step {l : List ActP} {I : Nat} {a : ActP} (h : l[I]? = some a) (s : DS) : writesS (l.take (I + 1)) s = if a.act = 0 then (writeS (writesS (l.take I) s) a.k a.b).2 else writesS (l.take I) s := by
  rw [List.take_add_one, h]
  exact writesS_snoc _ _ _
theorem calm_writes : ∀ (l : List ActP) (s : DS), calm s → calm (writesS l s)
  | [], _, h => h
  | a :: l, s, h => calm_writes l _ (by split; exact calm_write h _ _; exact h)
theorem synced_dirty (s : DS) : dirtyS (syncedS s) = [] := by
  have h : ∀ (n i : Nat), dirtyAt i (List.replicate n false) = [] := by
    intro n
    induction n with
    | zero => intro i; rfl
    | succ n ih => intro i; rw [List.replicate_succ]; exact ih (i + 1)
  exact h _ 0
theorem crash_synced {s : DS} (stay : List Bool) (torn cut : Int) : crashS (syncedS s) stay torn cut = { syncedS s with next := [], down := false } := by
  unfold crashS
  rw [synced_dirty]
  rfl
end Go.Proofs.Ytjhiopfhndbfkaa
