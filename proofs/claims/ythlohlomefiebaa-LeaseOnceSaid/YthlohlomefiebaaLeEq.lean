/-
  What is proved here: what '==' tells of two leases.
  Conditions: none.
-/
import Derived.Test.YthlohlomefiebaaLeRow
import Derived.Laws.StructEq
import Derived.ChangeKeysEq
namespace Go.Proofs.Ythlohlomefiebaa
open Go.RowKit

theorem stE : Try.prog.stoodInHeld 43 = false := by kernel_rfl
theorem eq_leIn (a b c a' b' c' : Int) (w : World) : (Op.equalIn 10000 43 (.agg #[.int .i64 a, .int .i64 b, .int .i64 c]) (.agg #[.int .i64 a', .int .i64 b', .int .i64 c'])).run Try.prog w = .ok (a == a' && (b == b' && c == c')) w := by
  have ht : Try.prog.underlying 43 = some (.struct (Try.prog.fieldsOf 43)) := by kernel_rfl
  rw [run_equalIn_agg w _ _ _ _ ht stE]
  simp [go_sem]
  by_cases h1 : a = a' <;> by_cases h2 : b = b' <;> by_cases h3 : c = c' <;> simp [h1, h2, h3]
theorem dec_le (a b : LE) : decide (a = b) = (a.n == b.n && (a.d == b.d && a.u == b.u)) := by
  by_cases h : a = b
  · subst h; simp
  · rw [decide_eq_false h]
    symm
    rw [Bool.and_eq_false_iff, Bool.and_eq_false_iff]
    by_cases h1 : a.n = b.n
    · by_cases h2 : a.d = b.d
      · exact .inr (.inr (beq_eq_false_iff_ne.2 (fun h3 => h (LE.ext' h1 h2 h3))))
      · exact .inr (.inl (beq_eq_false_iff_ne.2 h2))
    · exact .inl (beq_eq_false_iff_ne.2 h1)
theorem eql_le (a b : LE) (w : World) : (binOp .eql 43 (.agg #[.int .i64 a.n, .int .i64 a.d, .int .i64 a.u]) (.agg #[.int .i64 b.n, .int .i64 b.d, .int .i64 b.u])).run Try.prog w = .ok (.bool (decide (a = b))) w := by
  rw [run_eql_struct, eq_leIn, dec_le]
  rfl
theorem neq_le (a b : LE) (w : World) : (binOp .neq 43 (.agg #[.int .i64 a.n, .int .i64 a.d, .int .i64 a.u]) (.agg #[.int .i64 b.n, .int .i64 b.d, .int .i64 b.u])).run Try.prog w = .ok (.bool (!decide (a = b))) w := by
  rw [run_neq_struct, eq_leIn, dec_le]
  rfl
end Go.Proofs.Ythlohlomefiebaa
