/-
  What is proved here: of all fields, the statement PackFields answers true: pack.Right and Most are the document's.
  Conditions: none.
-/
import Derived.Test.YtjepeonekhhgfaaPackAwake
import Derived.Test.YtjepeonekhhgfaaPackFew
import Derived.Test.YtjepeonekhhgfaaRefPackTop
namespace Go.Proofs.Ytjepeonekhhgfaa
open Go.RowKit

def FldsIn (w : World) (v : Value) (l : List Fld) : Prop := ∃ n, Flds w n v l
def ValsIn (w : World) (v : Value) (l : List Val) : Prop := ∃ n, Vals w n v l

set_option maxRecDepth 100000 in
set_option maxHeartbeats 1000000 in
theorem packFields_any (v : Value) (l : List Fld) (w : World) (hF : FldsIn w v l) :
    Calls Try.prog 3 #[v] w fun e w' => e = .returned (.bool true) ∧ Below w.heap.size w w' := by
  obtain ⟨n, hF⟩ := hF
  have HF : Hid (∀ W, Below w.heap.size w W → Flds W n v l) := fun W hW => Flds.keeps (Keeps.of_below hW (Nat.le_refl _)) _ _ _ hF
  obtain ⟨ao, c, rfl, _, _⟩ := hF.form
  generalize hM : mostL 4 l = ML
  have HM : Hid (mostL 4 l = ML) := hM
  clear hM
  go_enter Try.func3, Try.ntmps3
  go_wp2_with (go_at_call 9; refine (pawake_any _).mono ?_; rintro e w1 ⟨rfl, hb1⟩)
  refine (fields_any n _ l 1 w1 (by decide) (by decide) (HF.out _ hb1)).mono ?_
  rintro e w2 ⟨⟨B, rfl⟩, hb2⟩
  have hB2 : Below w.heap.size w w2 := hb1.trans (hb2.mono hb1.size)
  cases B with
  | false =>
    go_wp2
    go_ret
    exact ⟨rfl, hB2⟩
  | true =>
    have HRT : Hid (∀ W, Below w.heap.size w W → Calls Try.prog 11 #[.slice ao l.length c] W fun e w' => e = .returned (.bool ML.isSome) ∧ Below W.heap.size W w') := fun W hW => by rw [← HM.out]; exact right_any n _ l W (HF.out W hW)
    have HRR : Hid (∀ W, Below w.heap.size w W → Calls Try.prog 12 #[.slice ao l.length c] W fun e w' => e = .returned (.bool ML.isSome) ∧ Below W.heap.size W w') := fun W hW => by rw [← HM.out]; exact refRight_any n _ l W (HF.out W hW)
    have HMT : Hid (∀ W, Below w.heap.size w W → Calls Try.prog 13 #[.slice ao l.length c] W fun e w' => e = .returned (.int .i64 ((ML.getD 0 : Nat) : Int)) ∧ Below W.heap.size W w') := fun W hW => by rw [← HM.out]; exact most_any n _ l W (HF.out W hW)
    have HMR : Hid (∀ W, Below w.heap.size w W → Calls Try.prog 14 #[.slice ao l.length c] W fun e w' => e = .returned (.int .i64 ((ML.getD 0 : Nat) : Int)) ∧ Below W.heap.size W w') := fun W hW => by rw [← HM.out]; exact refMostX_any n _ l W (HF.out W hW)
    generalize ML.isSome = RB at HRT HRR
    generalize ML.getD 0 = MN at HMT HMR
    clear HF HM hF
    go_wp2_with fail
    refine (HRT.out _ hB2).mono ?_
    rintro e w3 ⟨rfl, hb3⟩
    have hB3 : Below w.heap.size w w3 := hB2.trans (hb3.mono hB2.size)
    go_wp2_with fail
    refine (HRR.out _ hB3).mono ?_
    rintro e w4 ⟨rfl, hb4⟩
    have hB4 : Below w.heap.size w w4 := hB3.trans (hb4.mono hB3.size)
    have hbb : (RB == RB) = true := by simp
    go_wp2_with fail
    refine (HMT.out _ hB4).mono ?_
    rintro e w5 ⟨rfl, hb5⟩
    have hB5 : Below w.heap.size w w5 := hB4.trans (hb5.mono hB4.size)
    go_wp2_with fail
    refine (HMR.out _ hB5).mono ?_
    rintro e w6 ⟨rfl, hb6⟩
    have hB6 : Below w.heap.size w w6 := hB5.trans (hb6.mono hB5.size)
    go_wp2
    go_ret
    exact ⟨rfl, hB6⟩
end Go.Proofs.Ytjepeonekhhgfaa
