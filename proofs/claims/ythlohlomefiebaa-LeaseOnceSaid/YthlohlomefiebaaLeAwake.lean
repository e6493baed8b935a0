/-
  What is proved here: the small thing that the statements on lease ask first is so.
  Conditions: none.
-/
import Derived.Test.YthlohlomefiebaaLeAll
namespace Go.Proofs.Ythlohlomefiebaa
open Go.RowKit Go.Maps

def awkL : LE := ⟨1, 7, 110⟩
theorem awk_grant : grantT [] 7 100 10 = ((awkL, 0), [awkL]) := by
  unfold grantT
  rw [if_neg (by decide), if_neg (by decide), if_neg (by decide)]
  rfl
set_option maxRecDepth 100000 in
theorem awake16_any (w : World) : Calls Try.prog 9 #[] w fun e w' => e = .returned (.bool true) ∧ Below w.heap.size w w' := by
  go_enter Try.func9, Try.ntmps9
  go_wp2_with fail
  refine (new16_any w).mono ?_
  rintro e w1 ⟨G, b, rfl, hT, hb1⟩
  have HG : Hid (Calls Try.prog 16 #[.pointer (some ⟨G, 0, none⟩), .int .i64 7, .int .i64 100, .int .i64 10] w1 fun e w' => e = .returned (.tuple #[.agg #[.int .i64 1, .int .i64 7, .int .i64 110], .int .i64 0]) ∧ Below w.heap.size w w') := by
    have := grant16_any hT hb1.size 7 100 10 (by omega) (by omega)
    rw [awk_grant] at this
    refine this.mono ?_
    rintro e w2 ⟨rfl, v', q1, q2, q3⟩
    exact ⟨rfl, hb1.trans (q3.below (fun k hk => hT.ge k hk) hb1.size)⟩
  clear hT hb1
  go_wp2_with fail
  refine HG.out.mono ?_
  rintro e w2 ⟨rfl, hb2⟩
  have hb3 := low_new hb2 (.cells #[.int .i64 1, .int .i64 7, .int .i64 110] 43)
  clear HG hb2
  go_wp2
  go_ret
  exact ⟨by rfl, hb3⟩
end Go.Proofs.Ythlohlomefiebaa
