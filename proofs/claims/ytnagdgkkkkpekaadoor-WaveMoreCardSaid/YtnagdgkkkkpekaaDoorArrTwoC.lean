/-
  What is proved here: two ints that came in as an array are two numbers.
  Conditions: those that the fact names.
-/
import Derived.Test.YtnagdgkkkkpekaaDoorCrcLaid
import Derived.WideKeyArr2
namespace Go.Proofs.YtnagdgkkkkpekaaDoor
open Go.ChangeShapes Go.WideShapes Go.ChangeAt Go.RowKit

theorem arrKey2 : WideMaps.ArrKey Tryd.prog 36 3 2 := ⟨Tryd.underlying36, by kernel_rfl, by kernel_rfl, by kernel_rfl⟩
set_option maxRecDepth 100000 in
theorem arr2_of {H : Type} {enc : TypeId × Value → H} {W : World} {base b0 : Nat} {sp : Nat → Bool} {held : Bool} {r : Reach} {v : Value} {d : DataW H} {ps : List MemPlace} (hv : Value.okWide Tryd.prog W r b0 36 v) (h : DataW.Trod enc Tryd.prog W base sp held 36 v d ps) :
    ∃ y z : Int, v = .agg #[.int .i64 y, .int .i64 z] ∧ (Lit.int .i64 y).wf = true ∧ (Lit.int .i64 z).wf = true := by
  obtain ⟨xs, rfl, hn⟩ := WideMaps.okWide_arr arrKey2 hv
  obtain ⟨fuel, hf⟩ := h
  cases fuel with
  | zero => simp [DataW.trod] at hf
  | succ m =>
    rw [DataW.trod_step] at hf
    unfold DataW.trodStep at hf
    simp only [arrKey2.hu, Value.cells] at hf
    rw [if_pos (by rw [arrKey2.size]; simpa using hn)] at hf
    simp only [Option.map_eq_some_iff] at hf
    obtain ⟨ys, hy, _⟩ := hf
    obtain ⟨a, b, rfl⟩ : ∃ a b, xs = #[a, b] := by
      match xs, hn with
      | ⟨[a, b]⟩, _ => exact ⟨a, b, rfl⟩
    have hr : List.range 2 = [0, 1] := rfl
    rw [hr] at hy
    rw [List.mapM_cons] at hy
    simp only [bind, Option.bind_eq_some_iff, pure, Option.some.injEq] at hy
    obtain ⟨y0, hy0, ys', hys, _⟩ := hy
    rw [List.mapM_cons] at hys
    simp only [bind, Option.bind_eq_some_iff, pure, Option.some.injEq] at hys
    obtain ⟨y1, hy1, _⟩ := hys
    obtain ⟨z0, e0, _, w0⟩ := DataW.trod_int Tryd.underlying3 hy0
    obtain ⟨z1, e1, _, w1⟩ := DataW.trod_int Tryd.underlying3 hy1
    have h1 : Tryd.prog.cellsOf 3 = 1 := arrKey2.one
    rw [h1] at e0 e1
    simp at e0 e1
    exact ⟨z0, z1, by rw [e0, e1], w0, w1⟩
end Go.Proofs.YtnagdgkkkkpekaaDoor
