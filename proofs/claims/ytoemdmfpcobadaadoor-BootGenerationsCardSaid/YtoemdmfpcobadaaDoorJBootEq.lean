/-
  What is proved here: what '==' tells of two records, and of the two versions of records.
  Conditions: none.
-/
import Derived.Test.YtoemdmfpcobadaaDoorJBootAwake
import Derived.Laws.StructEq
import Derived.ChangeKeysEq
namespace Go.Proofs.YtoemdmfpcobadaaDoor
open Go.RowKit

theorem st24 : Tryd.prog.stoodInHeld 40 = false := by kernel_rfl
theorem un22 : Tryd.prog.underlying 38 = some (.array 2 3) := by kernel_rfl
theorem eq_twoIn (d e d' e' : Int) (n : Nat) (w : World) : (Op.equalIn (n + 1 + 1) 38 (.agg #[.int .i64 d, .int .i64 e]) (.agg #[.int .i64 d', .int .i64 e'])).run Tryd.prog w = .ok (d == d' && e == e') w := by
  have hs : (Tryd.prog.info? 3).isSome = true := by kernel_rfl
  obtain ⟨i, hi⟩ := Option.isSome_iff_exists.1 hs
  have hc : Tryd.prog.cellsOf 3 = 1 := by kernel_rfl
  have hu : Tryd.prog.underlying 3 = some (.int .i64) := by kernel_rfl
  have p0 : ∀ (z y : Int) (w : World), (part 3 #[.int .i64 z, .int .i64 y] 0).run Tryd.prog w = .ok (.int .i64 z) w := fun z y w => by kernel_rfl
  have p1 : ∀ (z y : Int) (w : World), (part 3 #[.int .i64 z, .int .i64 y] 1).run Tryd.prog w = .ok (.int .i64 y) w := fun z y w => by kernel_rfl
  have q : ∀ (z y : Int) (w : World), (Op.equalIn (n + 1) 3 (.int .i64 z) (.int .i64 y)).run Tryd.prog w = .ok (z == y) w := fun z y w => run_equalIn_int w n 3 .i64 .i64 z y hu
  rw [run_equalIn_array w (n + 1) _ _ un22 hi, hc]
  show (Op.eqItems (n + 1) 3 1 _ _ [0, 1]).run Tryd.prog w = _
  simp only [Op.eqItems, Sem.run_bind, Nat.zero_mul, Nat.one_mul, p0, Result.andThen_ok, q]
  cases d == d' with
  | false => simp
  | true =>
    simp [p1, q]
    by_cases h : e = e' <;> simp [h]
theorem eq_two (d e d' e' : Int) (w : World) : (binOp .eql 38 (.agg #[.int .i64 d, .int .i64 e]) (.agg #[.int .i64 d', .int .i64 e'])).run Tryd.prog w = .ok (.bool (d == d' && e == e')) w := by
  rw [run_eql_struct, eq_twoIn d e d' e' 9998 w]
  rfl
theorem ne_two (d e d' e' : Int) (w : World) : (binOp .neq 38 (.agg #[.int .i64 d, .int .i64 e]) (.agg #[.int .i64 d', .int .i64 e'])).run Tryd.prog w = .ok (.bool (!(d == d' && e == e'))) w := by
  rw [run_neq_struct, eq_twoIn d e d' e' 9998 w]
  rfl
theorem eq_brIn (a b c d e a' b' c' d' e' : Int) (w : World) : (Op.equalIn 10000 40 (.agg #[.int .i64 a, .int .i64 b, .int .i64 c, .int .i64 d, .int .i64 e]) (.agg #[.int .i64 a', .int .i64 b', .int .i64 c', .int .i64 d', .int .i64 e'])).run Tryd.prog w = .ok (a == a' && (b == b' && (c == c' && (d == d' && e == e')))) w := by
  have ht : Tryd.prog.underlying 40 = some (.struct (Tryd.prog.fieldsOf 40)) := by kernel_rfl
  rw [run_equalIn_agg w _ _ _ _ ht st24]
  simp [go_sem, eq_twoIn d e d' e' 9997]
  by_cases h1 : a = a' <;> by_cases h2 : b = b' <;> by_cases h3 : c = c' <;> by_cases h4 : d = d' <;> by_cases h5 : e = e' <;> simp [h1, h2, h3, h4, h5]
theorem eq_br (a b c d e a' b' c' d' e' : Int) (w : World) : (binOp .eql 40 (.agg #[.int .i64 a, .int .i64 b, .int .i64 c, .int .i64 d, .int .i64 e]) (.agg #[.int .i64 a', .int .i64 b', .int .i64 c', .int .i64 d', .int .i64 e'])).run Tryd.prog w = .ok (.bool (a == a' && (b == b' && (c == c' && (d == d' && e == e'))))) w := by
  rw [run_eql_struct, eq_brIn]
  rfl
theorem ne_br (a b c d e a' b' c' d' e' : Int) (w : World) : (binOp .neq 40 (.agg #[.int .i64 a, .int .i64 b, .int .i64 c, .int .i64 d, .int .i64 e]) (.agg #[.int .i64 a', .int .i64 b', .int .i64 c', .int .i64 d', .int .i64 e'])).run Tryd.prog w = .ok (.bool (!(a == a' && (b == b' && (c == c' && (d == d' && e == e')))))) w := by
  rw [run_neq_struct, eq_brIn]
  rfl
theorem same_br (x : BR) (w : World) : (binOp .eql 40 (.agg #[.int .i64 x.active, .int .i64 x.trial, .int .i64 x.tries, .int .i64 x.v0, .int .i64 x.v1]) (.agg #[.int .i64 x.active, .int .i64 x.trial, .int .i64 x.tries, .int .i64 x.v0, .int .i64 x.v1])).run Tryd.prog w = .ok (.bool true) w := by
  rw [eq_br]
  simp
end Go.Proofs.YtoemdmfpcobadaaDoor
