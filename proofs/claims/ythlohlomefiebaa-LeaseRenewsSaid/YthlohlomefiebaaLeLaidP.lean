/-
  What is proved here: pairs of numbers that came in lie in memory as plain ones.
  Conditions: those that each fact names.
-/
import Derived.Test.YthlohlomefiebaaLeLaid
import Derived.WideKeyArr2
namespace Go.Proofs.Ythlohlomefiebaa
open Go.ChangeShapes Go.WideShapes Go.ChangeAt Go.RowKit

theorem arrKeyE : WideMaps.ArrKey Try.prog 54 3 2 := ⟨Try.underlying54, by kernel_rfl, by kernel_rfl, by kernel_rfl⟩
set_option maxRecDepth 100000 in
theorem pr16_cells {H : Type} {enc : TypeId × Value → H} {W : World} {base : Nat} {held : Bool} (fuel : Nat) (cs : List Value) (x : DataW H × List MemPlace) (h : DataW.trod enc Try.prog W base (fun _ => true) held fuel 54 cs = some x) : ∃ p : Int × Int, cs = prL p ∧ True := by
  cases fuel with
  | zero => simp [DataW.trod] at h
  | succ m =>
    rw [DataW.trod_step] at h
    unfold DataW.trodStep at h
    simp only [arrKeyE.hu] at h
    split at h
    · rename_i hl
      have hl2 : cs.length = 2 := by rw [arrKeyE.size] at hl; exact hl
      simp only [Option.map_eq_some_iff] at h
      obtain ⟨ys, hy, _⟩ := h
      match cs, hl2 with
      | [a, b], _ =>
        have hr : List.range 2 = [0, 1] := rfl
        rw [hr] at hy
        rw [List.mapM_cons] at hy
        simp only [bind, Option.bind_eq_some_iff, pure, Option.some.injEq] at hy
        obtain ⟨y0, hy0, ys', hys, _⟩ := hy
        rw [List.mapM_cons] at hys
        simp only [bind, Option.bind_eq_some_iff, pure, Option.some.injEq] at hys
        obtain ⟨y1, hy1, _⟩ := hys
        obtain ⟨z0, e0, _, w0⟩ := DataW.trod_int Try.underlying3 hy0
        obtain ⟨z1, e1, _, w1⟩ := DataW.trod_int Try.underlying3 hy1
        have h1 : Try.prog.cellsOf 3 = 1 := arrKeyE.one
        rw [h1] at e0 e1
        simp at e0 e1
        exact ⟨(z0, z1), by rw [e0, e1]; rfl, trivial⟩
    · cases h
instance : Inhabited (Int × Int) := ⟨(0, 0)⟩
/-- Pairs that came in. -/
theorem prs16_of {H : Type} {enc : TypeId × Value → H} {W : World} {base : Nat} {held : Bool} {fuel len cap : Nat} {a : Option Addr} {x : DataW H × List MemPlace} (h : DataW.trod enc Try.prog W base (fun _ => true) held fuel 53 (Value.slice a len cap).cells.toList = some x) : ∃ L, Prs16 W (.slice a len cap) L := by
  obtain ⟨L, h1, _⟩ := rowIn_of prL (fun _ => True) 2 (by omega) (fun _ => rfl) 53 54 Try.underlying53 (by kernel_rfl) pr16_cells h
  exact ⟨L, h1⟩
end Go.Proofs.Ythlohlomefiebaa
