/-
  What is proved here: two slices of ints that came in as an array lie in memory as plain numbers.
  Conditions: those that the fact names.
-/
import Derived.Test.YtnagdgkkkkpekaaDoorWaveLaid
namespace Go.Proofs.YtnagdgkkkkpekaaDoor
open Go.ChangeShapes Go.WideShapes Go.ChangeAt Go.RowKit

set_option maxRecDepth 100000 in
theorem ints2_of {H : Type} {enc : TypeId × Value → H} {W : World} {base b0 : Nat} {held : Bool} {r : Reach} {v : Value} {d : DataW H} {ps : List MemPlace} (hv : Value.okWide Tryd.prog W r b0 38 v) (h : DataW.Trod enc Tryd.prog W base (fun _ => true) held 38 v d ps) :
    ∃ (x y : Value) (X Y : List Int), v = .agg #[x, y] ∧ IntsI W x X ∧ IntsI W y Y := by
  have hsz : Tryd.prog.cellsOf 38 = 2 := by kernel_rfl
  obtain ⟨xs, rfl, hn⟩ : ∃ xs : Array Value, v = .agg xs ∧ xs.size = 2 := by
    simp only [Value.okWide, Tryd.underlying38] at hv
    obtain ⟨cs, h1, h2, _⟩ := hv
    exact ⟨cs, h1, by rw [h2, hsz]⟩
  obtain ⟨fuel, hf⟩ := h
  cases fuel with
  | zero => simp [DataW.trod] at hf
  | succ m =>
    rw [DataW.trod_step] at hf
    unfold DataW.trodStep at hf
    simp only [Tryd.underlying38, Value.cells] at hf
    rw [if_pos (by rw [hsz]; simpa using hn)] at hf
    simp only [Option.map_eq_some_iff] at hf
    obtain ⟨ys, hy, _⟩ := hf
    obtain ⟨a, b, rfl⟩ : ∃ a b, xs = #[a, b] := by
      match xs, hn with
      | ⟨[a, b]⟩, _ => exact ⟨a, b, rfl⟩
    have hr : List.range 2 = [0, 1] := rfl
    rw [hr] at hy
    rw [List.mapM_cons] at hy
    simp only [bind, Option.bind_eq_some_iff, pure, Option.some.injEq] at hy
    obtain ⟨y0, hy0, ys', hys, _⟩ := hy
    rw [List.mapM_cons] at hys
    simp only [bind, Option.bind_eq_some_iff, pure, Option.some.injEq] at hys
    obtain ⟨y1, hy1, _⟩ := hys
    obtain ⟨v0, B0, e0, s0⟩ := intsI_cells hy0
    obtain ⟨v1, B1, e1, s1⟩ := intsI_cells hy1
    have h1 : Tryd.prog.cellsOf 22 = 1 := by kernel_rfl
    rw [h1] at e0 e1
    simp at e0 e1
    exact ⟨v0, v1, B0, B1, by rw [e0, e1], s0, s1⟩
end Go.Proofs.YtnagdgkkkkpekaaDoor
