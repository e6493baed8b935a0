/-
  What is proved here: the document's own Right tells whether a packet may be, and leaves what there was.
  Conditions: the packet's numbers are of 64 bits.
-/
import Derived.Test.YtichmnbhephkkaaLinkRight
namespace Go.Proofs.Ytichmnbhephkkaa
open Go.RowKit

set_option maxRecDepth 100000 in
set_option maxHeartbeats 4000000 in
theorem rightR_any (p : KP) (ao : Option Addr) (c : Nat) (w : World) : Calls Try.prog 35 #[kpV p (.slice ao p.b.length c)] w fun e w' => e = .returned (.bool (rightK p)) ∧ Below w.heap.size w w' := by
  have hb := fun x => (Below.refl w.heap.size w).alloc (Nat.le_refl _) (.cells x 34)
  have HR : Hid ((p.ok → rightK p = true) ∧ (¬ p.ok → rightK p = false)) := ⟨fun h => decide_eq_true h, fun h => decide_eq_false h⟩
  generalize rightK p = RB at *
  unfold KP.ok at HR
  obtain ⟨k, f, t, s, a, b⟩ := p
  simp only at HR
  unfold kpV kpL at *
  simp only at *
  generalize b.length = n at *
  go_enter Try.func35, Try.ntmps35
  go_wp2
  all_goals go_ret
  all_goals refine ⟨?_, hb _⟩
  all_goals refine Eq.trans (b := Ending.returned (.bool _)) rfl ?_
  all_goals refine congrArg (fun b => Ending.returned (Value.bool b)) ?_
  all_goals symm
  all_goals first
    | (apply HR.out.2
       omega)
    | (apply HR.out.1
       omega)
    | (obtain hk3 : k ≠ 3
       · apply bne_iff_ne.1
         assumption
       · apply HR.out.2
         omega)
    | (obtain hk3 : k = 3
       · apply bne_eq_false_iff_eq.1
         assumption
       · apply HR.out.1
         omega)
    | skip
  all_goals by_cases hn0 : n = 0
  · have hr : RB = true := HR.out.1 (by omega)
    rw [hr, hn0]
    rfl
  · have hr : RB = false := HR.out.2 (by omega)
    rw [hr]
    exact (beq_eq_false_iff_ne.2 (by omega)).symm
  · have hk3 : k = 3 := bne_eq_false_iff_eq.1 (by assumption)
    have hr : RB = true := HR.out.1 (by omega)
    rw [hr, hn0]
    simp
  · have hr : RB = false := HR.out.2 (by omega)
    rw [hr]
    have h1 : ((n : Int) == 0) = false := beq_eq_false_iff_ne.2 (by omega)
    have h2 : decide (0 < s) = false := decide_eq_false (by omega)
    rw [h1, h2]
    rfl
end Go.Proofs.Ytichmnbhephkkaa
