/-
  What is proved here: a part of a slice of bytes; a row that is read under a guard.
  Conditions: those that each fact names.
-/
import Derived.Test.YtgfcindkfnjeoaaJShaPure
namespace Go.Proofs.Ytgfcindkfnjeoaa
open Go.RowKit

theorem slice_midM (ao : Option Addr) (len c lo hi : Nat) (h : lo ≤ hi) (hc : hi ≤ c) (w : World) : (Instr.slice 26 (.slice ao len c) (some (.int .i64 (lo : Int))) (some (.int .i64 (hi : Int))) none).run Try.prog w = .ok (.slice (restD ao c lo) (hi - lo) (c - lo)) w := by
  rw [run_slice_lh w 26 ao len c (by rw [elem_bytesD]; exact Try.underlying26) .i64 .i64 lo hi (by omega) (by omega) (by omega), elem_bytesD, size_byteD]
  simp only [Result.andThen_ok, sliced, Int.toNat_natCast, restD]
/-- A part of a slice. -/
theorem seg_mid {w : World} {ao : Option Addr} {len c : Nat} {bs : List UInt8} (h : Seg w (.slice ao len c) bs) (lo n : Nat) (hn : lo + n ≤ len) : Seg w (.slice (restD ao c lo) n (c - lo)) ((bs.drop lo).take n) := by
  have h1 := h.dropsD lo (by omega)
  exact (h1.takesD n (by omega)).1
theorem seg_cap {w : World} {ao : Option Addr} {len c : Nat} {bs : List UInt8} (h : Seg w (.slice ao len c) bs) : len ≤ c := (h.takesD len (Nat.le_refl _)).2
/-- A row that is read under a guard. -/
theorem load_guarded {P : Program} {ops : Array Oper} {rest : List Oper} {o : Oper} {a : Act} {w : World} {Q : Exit → Act → World → Prop} (hw : Region.wanted o (yielded ops a.tmps) = true) (ty : TypeId) (x : Operand) (ho : o.op = .load ty x)
    (g : Nat) (hx : a.eval x = .pointer (some ⟨g, 0, none⟩)) (t : TypeId) (cs : Array Value) (fr : Nat × Nat) (d : TypeDesc) (hg : w.heap[g]? = some (.cells cs t fr))
    (hu : P.underlying ty = some d) (hd : (match d with | .struct _ | .array _ _ => true | _ => false) = true) (hi : (P.info? ty).map (·.size) = some cs.size)
    (h : wpList P ops Q rest (a.put o.dst (.agg cs)) w) : wpList P ops Q (o :: rest) a w :=
  wpList_step fun _ hK => by rw [if_pos hw]; exact wp_load_row ty x ho g hx t cs fr d hg hu hd hi (hK _ _ h)
end Go.Proofs.Ytgfcindkfnjeoaa
