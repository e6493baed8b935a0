/-
  What is proved here: a map that holds which devices were seen.
  Conditions: those that each fact names.
-/
import Derived.Test.YtnagdgkkkkpekaaDoorWaveMap
namespace Go.Proofs.YtnagdgkkkkpekaaDoor
open Go.RowKit Go.Maps

noncomputable abbrev boolR : Value → Option (DataW Unit × List MemPlace) := plainElem Tryd.prog 4
theorem boolR_mk (x : Bool) : boolR (.bool x) = some (.lit (.bool x), []) := plainElem_bool Tryd.underlying4 x
theorem boolR_inv {v : Value} {z : DataW Unit × List MemPlace} (h : boolR v = some z) : ∃ x, v = .bool x ∧ z = (.lit (.bool x), []) := by
  unfold boolR plainElem at h
  rw [Tryd.underlying4] at h
  cases v <;> simp at h
  exact ⟨_, rfl, h.symm⟩
theorem zeroB (w : World) : (zeroValue 4).run Tryd.prog w = .ok (.bool false) w := by kernel_rfl
/-- What a map of those that were seen holds. -/
structure HoldsB (D : DataW Unit) (l : List Int) : Prop where
  has : ∀ q : Int, Maps.has D (.int .i64 q) = decide (q ∈ l)
  is : ∀ d ∈ l, ∀ z, D.atKey (.int .i64 d) z = .lit (.bool true)
  size : Maps.size D = l.length
theorem HoldsB.nil : HoldsB (.map []) [] := ⟨fun _ => rfl, (fun e he => by cases he), rfl⟩
theorem HoldsB.put {D : DataW Unit} {l : List Int} (h : HoldsB D l) (hT : Tidy D) (d : Int) (hk : WideAt.IsKeyLit (.int .i64 d)) (hl : d ∉ l) : HoldsB (D.put (.int .i64 d) (.lit (.bool true))) (l ++ [d]) := by
  refine ⟨fun q => ?_, fun y hy z => ?_, ?_⟩
  · by_cases hq : q = d
    · subst hq
      rw [has_put_same hT.isMap hk]
      simp
    · rw [has_put_other (by simpa using hq), h.has q]
      simp [hq]
  · by_cases hq : y = d
    · subst hq
      rw [atKey_put_same hT.isMap hk]
    · rw [atKey_put_other (by simpa using hq)]
      refine h.is y ?_ z
      simpa [hq] using hy
  · rw [size_put hT, h.has, decide_eq_false hl, if_neg (by decide), h.size, List.length_append]
    rfl
theorem own_chgB {S : Nat → Prop} {w w' : World} {b m : Nat} {D : DataW Unit} (h : w.ownsMap Tryd.prog 3 boolR b m D) (hc : Chg S w w') (hb : ¬ S b) : w'.ownsMap Tryd.prog 3 boolR b m D := by
  have hl := h.lt
  obtain ⟨es, clock, h1, r⟩ := h
  exact ⟨es, clock, (hc.2 b hl hb).trans h1, r⟩
theorem lookB {w : World} {b m : Nat} {D : DataW Unit} {l : List Int} (hown : w.ownsMap Tryd.prog 3 boolR b m D) (hH : HoldsB D l) (q : Int) (h1 : -9223372036854775808 ≤ q) (h2 : q ≤ 9223372036854775807) :
    (Instr.lookup 35 (.map (some b)) (.int .i64 q) false).run Tryd.prog w = .ok (.bool (decide (q ∈ l))) w := by
  obtain ⟨v, ps, hrun, hv⟩ := hown.lookup keyL Tryd.underlying35 (zeroB w) (boolR_mk _) (key_intL q h1 h2)
  obtain ⟨a, rfl, e⟩ := boolR_inv hv
  rw [hrun]
  by_cases hq : q ∈ l
  · rw [hH.is q hq] at e
    have : true = a := (by simpa using e : true = a ∧ ps = []).1
    rw [decide_eq_true hq, ← this]
  · rw [atKey_of_not_has (by rw [hH.has, decide_eq_false hq])] at e
    have : false = a := (by simpa using e : false = a ∧ ps = []).1
    rw [decide_eq_false hq, ← this]
end Go.Proofs.YtnagdgkkkkpekaaDoor
