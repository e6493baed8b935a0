/-
  What is proved here: a statement that draws its order, within a round of a loop over a function: it may be walked as one outside of rounds.
  Conditions: it holds no deferred call.
-/
import Derived.Test.YtgoehohadnkpdaaDoorJRoundKit
namespace Go.Proofs.YtgoehohadnkpdaaDoor
open Go.RowKit

theorem upon_in9 {l n : Nat} {o : Oper} {a : Act} {K : Act → World → Prop} {Q : Exit → Act → World → Prop} {r : Result Next} (h : o.upon Tryd.prog a K Q r) : o.uponIn (Fence.wide.inRound l) n Tryd.prog a K Q r := by
  cases r with
  | ok x w =>
    cases x with
    | value v => exact h
    | skip => exact h
    | «defer» d => exact h
    | enter f args => exact ⟨fun e => (by cases e), CallsIn.inRound l (callsIn_wide.2 h)⟩
    | row row args => exact ⟨fun e => (by cases e), fun c cs _ => let ⟨v, w', r, s⟩ := h c cs; ⟨v, w', r, stepsIn_wide.2 s⟩⟩
    | _ => exact h.elim
  | halt x w =>
    cases x with
    | panic v => exact h
    | _ => exact h.elim
theorem op_in9 {l n i : Nat} {ops : Array Oper} {a : Act} {w : World} {K : Act → World → Prop} {Q : Exit → Act → World → Prop} (hd : ∀ (i : Nat) (o : Oper) c, ops[i]? = some o → o.op ≠ .defer c) (hL : ¬ LetsOut Q) (h : wpOp Tryd.prog ops Q i K a w) : wpOpIn (Fence.wide.inRound l) n Tryd.prog ops Q i K a w := by
  unfold wpOp at h
  unfold wpOpIn
  cases ho : ops[i]? with
  | none => rw [ho] at h; exact h
  | some o =>
    rw [ho] at h
    dsimp only at h ⊢
    by_cases hw : Region.wanted o (yielded ops a.tmps) = true
    · rw [if_pos hw] at h ⊢
      rcases h with h | h
      · refine ⟨fun _ _ => trivial, ?_⟩
        rw [Oper.semAt_eq _ _ _ (fun c => hd i o c ho)]
        exact upon_in9 h
      · exact absurd h.2 hL
    · rw [if_neg hw] at h ⊢
      exact ⟨fun _ _ => trivial, h⟩
theorem any_in9 {l n : Nat} {ops : Array Oper} {Q : Exit → Act → World → Prop} (hd : ∀ (i : Nat) (o : Oper) c, ops[i]? = some o → o.op ≠ .defer c) (hL : ¬ LetsOut Q) : ∀ (fuel : Nat) (listed : Array Bool) (a : Act) (w : World), wpAny Tryd.prog .any ops Q fuel listed a w → wpAnyIn (Fence.wide.inRound l) n Tryd.prog .any ops Q fuel listed a w
  | 0, _, _, _, h => h
  | fuel + 1, _, _, _, h => ⟨h.1, fun i hi => op_in9 hd hL (wpOp_mono (fun a' w' h' => any_in9 hd hL fuel _ a' w' h') (h.2 i hi))⟩
def noDefer9 (l : List Oper) : Bool := l.all fun o => match o.op with
  | .defer _ => false
  | _ => true
theorem noDefer_spec {l : List Oper} (h : noDefer9 l = true) : ∀ (i : Nat) (o : Oper) c, l.toArray[i]? = some o → o.op ≠ .defer c := by
  intro i o c ho e
  have hm : o ∈ l := List.mem_of_getElem? (by simpa using ho)
  have := List.all_eq_true.1 h o hm
  rw [e] at this
  cases this
theorem held_round {id lab n : Nat} {Q : Exit → Act → World → Prop} {a : Act} {w : World} {l : List Oper} (S : World → Prop) (hm : Tryd.prog.follows .mixedOrders = true) (hd : noDefer9 l = true) (hL : ¬ LetsOut Q)
    (h : wpAnyH Tryd.prog .any l.toArray (NoPanic Q) S l.toArray.size (Array.replicate l.toArray.size false) a w.drew) : (Code.region id l.toArray true).wpIn (Fence.wide.inRound lab) n Tryd.prog Q a w :=
  wpIn_mono (Q := NoPanic Q) (wpIn_region_any hm (any_in9 (Q := NoPanic Q) (noDefer_spec hd) (fun ⟨a', w', h'⟩ => hL ⟨a', w', h'⟩) _ _ _ _ (wpAny_of_held (Q := NoPanic Q) _ _ _ _ h))) (fun e a w h => NoPanic.imp e a w h)
end Go.Proofs.YtgoehohadnkpdaaDoor
