/-
  What is proved here: three ints that came in as an array are three numbers.
  Conditions: those that the fact names.
-/
import Derived.Test.YtnagdgkkkkpekaaDoorCrcLaid
import Derived.WideKeyArr2
namespace Go.Proofs.YtnagdgkkkkpekaaDoor
open Go.ChangeShapes Go.WideShapes Go.ChangeAt Go.RowKit

theorem arrKey3 : WideMaps.ArrKey Tryd.prog 31 3 3 := ⟨Tryd.underlying31, by kernel_rfl, by kernel_rfl, by kernel_rfl⟩
set_option maxRecDepth 100000 in
theorem arr3_of {H : Type} {enc : TypeId × Value → H} {W : World} {base b0 : Nat} {sp : Nat → Bool} {held : Bool} {r : Reach} {v : Value} {d : DataW H} {ps : List MemPlace} (hv : Value.okWide Tryd.prog W r b0 31 v) (h : DataW.Trod enc Tryd.prog W base sp held 31 v d ps) :
    ∃ y z x : Int, v = .agg #[.int .i64 y, .int .i64 z, .int .i64 x] ∧ (Lit.int .i64 y).wf = true ∧ (Lit.int .i64 z).wf = true ∧ (Lit.int .i64 x).wf = true := by
  obtain ⟨xs, rfl, hn⟩ := WideMaps.okWide_arr arrKey3 hv
  obtain ⟨fuel, hf⟩ := h
  cases fuel with
  | zero => simp [DataW.trod] at hf
  | succ m =>
    rw [DataW.trod_step] at hf
    unfold DataW.trodStep at hf
    simp only [arrKey3.hu, Value.cells] at hf
    rw [if_pos (by rw [arrKey3.size]; simpa using hn)] at hf
    simp only [Option.map_eq_some_iff] at hf
    obtain ⟨ys, hy, _⟩ := hf
    obtain ⟨a, b, c, rfl⟩ : ∃ a b c, xs = #[a, b, c] := by
      match xs, hn with
      | ⟨[a, b, c]⟩, _ => exact ⟨a, b, c, rfl⟩
    have hr : List.range 3 = [0, 1, 2] := rfl
    rw [hr] at hy
    rw [List.mapM_cons] at hy
    simp only [bind, Option.bind_eq_some_iff, pure, Option.some.injEq] at hy
    obtain ⟨y0, hy0, ys', hys, _⟩ := hy
    rw [List.mapM_cons] at hys
    simp only [bind, Option.bind_eq_some_iff, pure, Option.some.injEq] at hys
    obtain ⟨y1, hy1, ys2, hys2, _⟩ := hys
    rw [List.mapM_cons] at hys2
    simp only [bind, Option.bind_eq_some_iff, pure, Option.some.injEq] at hys2
    obtain ⟨y2, hy2, _⟩ := hys2
    obtain ⟨z0, e0, _, w0⟩ := DataW.trod_int Tryd.underlying3 hy0
    obtain ⟨z1, e1, _, w1⟩ := DataW.trod_int Tryd.underlying3 hy1
    obtain ⟨z2, e2, _, w2⟩ := DataW.trod_int Tryd.underlying3 hy2
    have h1 : Tryd.prog.cellsOf 3 = 1 := arrKey3.one
    rw [h1] at e0 e1 e2
    simp at e0 e1 e2
    exact ⟨z0, z1, z2, by rw [e0, e1, e2], w0, w1, w2⟩
end Go.Proofs.YtnagdgkkkkpekaaDoor
