/-
  What is proved here: of all numbers, the statement FlashNews answers true: there is a flash just of so many blocks, and so much wear, as the document says.
  Conditions: the program's flash keeps to what is asked of it.
-/
import Derived.Test.YtjcbkimibmdggaaFlashAwake
namespace Go.Proofs.Ytjcbkimibmdggaa
open Go.RowKit

/-- It tells how many blocks it has. -/
def HasLen (P : PF) : Prop := ∀ (L : P.Lay) (s : FS) (w : World), P.Rel w L s → Calls Try.prog 12 #[.pointer (some ⟨P.g L, 0, none⟩)] w fun e w' => e = .returned (.int .i64 (P.n L : Int)) ∧ w = w'

set_option maxRecDepth 100000 in
set_option maxHeartbeats 4000000 in
theorem flashNews_any (P : PF) (hL : HasLen P) (z k : Int) (w : World) (hz : R64 z) (hk : R64 k) :
    Calls Try.prog 3 #[.int .i64 z, .int .i64 k] w fun e w' => e = .returned (.bool true) ∧ Below w.heap.size w w' := by
  go_enter Try.func3, Try.ntmps3
  go_wp2_with fail
  refine (awake6_any P w).mono ?_
  rintro e w1 ⟨rfl, hB1⟩
  go_wp2_with fail
  by_cases hbad : z < 1 ∨ 256 < z ∨ k < 1 ∨ 10000 < k
  · refine (P.new_bad z k w1 hz hk hbad).mono ?_
    rintro e w2 ⟨rfl, hb2⟩
    have hB2 : Below w.heap.size w w2 := hB1.trans (hb2.mono hB1.size)
    go_wp2_with fail
    refine (ref6New_bad z k w2 hbad).mono ?_
    rintro e w3 ⟨rfl, rfl⟩
    clear hbad
    go_wp2
    go_ret
    exact ⟨rfl, hB2⟩
  · obtain ⟨m, rfl⟩ : ∃ m : Nat, z = (m : Int) := ⟨z.toNat, by omega⟩
    obtain ⟨j, rfl⟩ : ∃ j : Nat, k = (j : Int) := ⟨k.toNat, by omega⟩
    refine (P.new_any m j w1 (by omega) (by omega) (by omega) (by omega)).mono ?_
    rintro e w2 ⟨L, rfl, hLn, hD2, hb2, hT2⟩
    have hB2 : Below w.heap.size w w2 := hB1.trans (hb2.mono hB1.size)
    go_wp2_with fail
    refine (ref6New_any m j w2 (by omega) (by omega) (by omega) (by omega)).mono ?_
    rintro e w3 ⟨M, rfl, -, -, hb3, -⟩
    have hB3 : Below w.heap.size w w3 := hB2.trans (hb3.mono hB2.size)
    have hD3 := P.after hD2 hb3
    have KH : Hid (Calls Try.prog 12 #[.pointer (some ⟨P.g L, 0, none⟩)] w3 fun e w' => e = .returned (.int .i64 (m : Int)) ∧ w3 = w') := by show Calls _ _ _ _ _; rw [← hLn]; exact hL L _ _ hD3
    clear hbad
    go_wp2_with (go_at_call 12; refine KH.out.mono ?_; rintro e w4 ⟨rfl, rfl⟩)
    go_ret
    exact ⟨rfl, hB3⟩
end Go.Proofs.Ytjcbkimibmdggaa
