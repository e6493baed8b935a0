/-
  What is proved here: of all fields and bytes, the statement PackDecodes answers true: pack.Decode is the document's.
  Conditions: none.
-/
import Derived.Test.YtjepeonekhhgfaaLawPackApart
import Derived.Test.YtjepeonekhhgfaaRefDecode
namespace Go.Proofs.Ytjepeonekhhgfaa
open Go.RowKit

def codeOf : Except Int (List Val) → Int
  | .ok _ => 0
  | .error c => c
def valsOf : Except Int (List Val) → List Val
  | .ok v => v
  | .error _ => []
theorem decodePost_out {w w' : World} {r : Except Int (List Val)} {e : Ending} (h : decodePost w r e w') : ∃ ao n c, e = .returned (.tuple #[.slice ao n c, .int .i64 (codeOf r)]) ∧ ValsK w' (fun b => w.heap.size ≤ b) 4 (.slice ao n c) (valsOf r) ∧ Below w.heap.size w w' := by
  obtain ⟨h1, h2⟩ := h
  cases r with
  | ok v =>
    obtain ⟨val, he, hv⟩ := h1
    obtain ⟨ao, n, c, rfl⟩ := vals_form (hv _ (Agree.refl _ _))
    exact ⟨ao, n, c, he, hv, h2⟩
  | error c => exact ⟨none, 0, 0, h1, fun W _ => ⟨none, 0, rfl, Nat.zero_le _, fun h => by cases h⟩, h2⟩

set_option maxRecDepth 100000 in
set_option maxHeartbeats 2000000 in
theorem packDecodes_any (lv : Value) (l : List Fld) (bv : Value) (s : List UInt8) (w : World) (hF : FldsIn w lv l) (hS : Seg w bv s) :
    Calls Try.prog 5 #[lv, bv] w fun e w' => e = .returned (.bool true) ∧ Below w.heap.size w w' := by
  obtain ⟨n, hF⟩ := hF
  have KF := fun W (hW : Below w.heap.size w W) => Flds.keeps (Keeps.of_below hW (Nat.le_refl _)) _ _ _ hF
  have HFi : Hid (∀ W, Below w.heap.size w W → Calls Try.prog 10 #[lv, .int .i64 1] W fun e w' => someBool e ∧ Below W.heap.size W w') := fun W hW => fields_any n _ l 1 W (by decide) (by decide) (KF W hW)
  have HD1 : Hid (∀ W, Below w.heap.size w W → s.length ≤ maxLen → Calls Try.prog 18 #[lv, bv] W fun e w' => decodePost W (decTop l s) e w') := fun W hW hm => decode_any n lv l bv s W (KF W hW) (hS.below hW (Nat.le_refl _)) hm
  have HD2 : Hid (∀ W, Below w.heap.size w W → s.length ≤ maxLen → Calls Try.prog 19 #[lv, bv] W fun e w' => decodePost W (decTop l s) e w') := fun W hW hm => refDecode_any n lv l bv s W (KF W hW) (hS.below hW (Nat.le_refl _)) hm
  obtain ⟨ao, c, hlv, _, _⟩ := hF.form
  obtain ⟨ab, cb, hbv⟩ := hS.shape
  subst hlv
  subst hbv
  clear KF hF hS
  go_enter Try.func5, Try.ntmps5
  go_wp2_with (go_at_call 9; refine (pawake_any _).mono ?_; rintro e w1 ⟨rfl, hb1⟩)
  refine (HFi.out _ hb1).mono ?_
  rintro e w2 ⟨⟨B1, rfl⟩, hb2⟩
  have hB2 : Below w.heap.size w w2 := hb1.trans (hb2.mono hb1.size)
  clear hb1 hb2
  cases B1 with
  | false =>
    go_wp2
    go_ret
    exact ⟨rfl, hB2⟩
  | true =>
    by_cases hl : 5000 < s.length
    · have i1 : (5000 : Int) < (s.length : Int) := by omega
      go_wp2
      go_ret
      exact ⟨rfl, hB2⟩
    · have i1 : ¬ (5000 : Int) < (s.length : Int) := by omega
      go_wp2_with fail
      refine (HD1.out _ hB2 (by unfold maxLen; omega)).mono ?_
      intro e w3 hp3
      obtain ⟨a3, n3, c3, rfl, hv3, hb3⟩ := decodePost_out hp3
      have hB3 : Below w.heap.size w w3 := hB2.trans (hb3.mono hB2.size)
      go_wp2_with fail
      refine (HD2.out _ hB3 (by unfold maxLen; omega)).mono ?_
      intro e w4 hp4
      obtain ⟨a4, n4, c4, rfl, hv4, hb4⟩ := decodePost_out hp4
      have hB4 : Below w.heap.size w w4 := hB3.trans (hb4.mono hB3.size)
      have HS0 := same_any 4 (.slice a3 n3 c3) (valsOf (decTop l s)) 4 (.slice a4 n4 c4) (valsOf (decTop l s)) w4 (hv3 _ (Agree.of_keeps (Keeps.of_below hb4 (Nat.le_refl _)) _)) (hv4 _ (Agree.refl _ _))
      rw [sameB_yes rfl] at HS0
      have HS4 : Hid (Calls Try.prog 20 #[.slice a3 n3 c3, .slice a4 n4 c4] w4 fun e w' => e = .returned (.bool true) ∧ ∃ m, w' = w4.drewN m) := HS0
      clear HS0 hv3 hv4 hp3 hp4 HD1 HD2
      generalize codeOf (decTop l s) = CO
      go_wp2_with (go_at_call 20; refine HS4.out.mono ?_; rintro e w5 ⟨rfl, m5, rfl⟩)
      go_ret
      exact ⟨rfl, below_drewN hB4 _⟩
end Go.Proofs.Ytjepeonekhhgfaa
