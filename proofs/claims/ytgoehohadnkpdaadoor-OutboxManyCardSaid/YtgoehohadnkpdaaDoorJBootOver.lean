/-
  What is proved here: a loop over a function of the program that itself loops over another one: of a loop whose rounds all go on.
  Conditions: the function that is looped over brings what it brings to every loop whose facts don't hang on what it lays for itself.
-/
import Derived.Test.YtgoehohadnkpdaaDoorJRoundKit
namespace Go.Proofs.YtgoehohadnkpdaaDoor
open Go.RowKit

theorem keepsFrom_mono9 {A B : Nat} {W W' : World} (h : KeepsFrom A W W') (hB : A ≤ B) : KeepsFrom B W W' := ⟨h.size, fun k o hk h0 ho => h.same k o (Nat.le_trans hB hk) h0 ho⟩
theorem keepsFrom_put9 {A l : Nat} {W : World} {o' : Obj} (hl : l < A) : KeepsFrom A W (W.putObj l o') :=
  ⟨by simp, fun k o hk h0 _ => (World.putObj_heap_other (by omega)).trans h0⟩
theorem keepsFrom_alloc9 {A : Nat} {W : World} (o : Obj) : KeepsFrom A W (W.alloc o) :=
  keeps_chg9 (S := fun _ => False) A ((Chg.refl _ W).alloc o) (fun _ h => h.elim)
/-- What a function that is looped over must bring. -/
def Brings {α : Type} (n gf : Nat) (lb : Array Value) (encs : α → Array Value) (S : Nat → Prop) (D : List α → Prop) (w : World) : Prop :=
  ∀ (l : Nat) (J : List α → World → Prop) (W : World), Below w.heap.size w W → w.heap.size ≤ l → l < W.heap.size → OwnFrom W.heap.size J →
    (∀ (pre : List α) (x : α) (W1 : World), J pre W1 → YieldAt Fence.wide (n - 1) Tryd.prog l (encs x) W1 fun e W' => e = .returned (.bool true) ∧ J (pre ++ [x]) W' ∧ KeepsFrom W.heap.size W1 W' ∧ Chg (fun q => S q ∨ q = l) W1 W') →
    J [] W → CallsIn Fence.wide n Tryd.prog gf (#[.func (.yield l) #[] #[]] ++ lb) W fun e W' => (∃ v, e = .returned v) ∧ ∃ xs, D xs ∧ J xs W'

theorem over_all {α : Type} {g : Operand} {ps : Array Tmp} {assign body : Code} {Q : Exit → Act → World → Prop} {a : Act} {w : World} {n : Nat} (h1 : 1 ≤ n) {gf : Nat} {lb : Array Value} (hg : a.eval g = .func (.func gf) #[] lb) (eg : ∀ args w, (callFunc gf args).run Tryd.prog w = .ok (.enter gf args) w)
    {encs : α → Array Value} {S : Nat → Prop} {D : List α → Prop} (hseq : Brings (n - 1) gf lb encs S D w) (hps : ∀ x, (encs x).size = ps.size)
    (I : List α → World → Prop) (hI : OwnFrom w.heap.size I) (h0 : I [] w) (ob : α → Obj) (a₁ : α → Nat → Act)
    (hassign : ∀ (l : Nat) (x : α) (W : World) (K : Act → World → Prop), K (a₁ x W.heap.size) (W.alloc (ob x)) → assign.wpIn (Fence.wide.inRound l) (n - 1 - 1) Tryd.prog (Exit.then K (fun _ _ _ => False)) { tmps := (ps.zip (encs x)).foldl (fun t (p, v) => t.setIfInBounds p v) a.tmps, defers := [] } W)
    (hbody : ∀ (l : Nat) (pre : List α) (x : α) (N : Nat) (V : World), I pre V → V.heap[N]? = some (ob x) → w.heap.size ≤ N →
      body.wpIn (Fence.wide.inRound l) (n - 1 - 1) Tryd.prog (fun e _ W' => e = .normal ∧ KeepsFrom w.heap.size V W' ∧ Chg S V W' ∧ I (pre ++ [x]) W') (a₁ x N) V)
    (hdone : ∀ (B : Nat) (xs : List α) (W : World), w.heap.size ≤ B → D xs → I xs W → W.heap[B]? = some (.deferred (some [])) → Q .normal { a with defers := { target := .collected B, args := #[] } :: a.defers } W) :
    (Code.rangeFunc g ps assign body).wpIn Fence.wide n Tryd.prog Q a w := by
  refine wpIn_rangeFunc fun fn hfn => ?_
  obtain ⟨R, hR⟩ : ∃ R : LoopState → Option Code → Loop, R = fun st pe => { state := st, pending := pe, fn, tmps := a.tmps, params := ps, assign, body, defers := w.heap.size } := ⟨_, rfl⟩
  have hRs : ∀ st pe, (R st pe).state = st := fun st pe => by rw [hR]
  have hRb : ∀ st pe st', { R st pe with state := st' } = R st' pe := fun st pe st' => by rw [hR]
  obtain ⟨W1, hW1⟩ : ∃ W1, W1 = (w.alloc (.deferred (some []))).alloc (.loop (R .ready none)) := ⟨_, rfl⟩
  have hs1 : W1.heap.size = w.heap.size + 1 + 1 := by rw [hW1]; simp
  have hb1 : Below w.heap.size w W1 := by rw [hW1]; exact ((Below.refl _ _).alloc (Nat.le_refl _) _).alloc (by simp) _
  have hl1 : W1.heap[w.heap.size + 1]? = some (.loop (R .ready none)) := by
    rw [hW1]
    have := World.alloc_heap_new (w.alloc (.deferred (some []))) (.loop (R .ready none))
    rwa [World.size_alloc] at this
  have hd1 : W1.heap[w.heap.size]? = some (.deferred (some [])) := by
    rw [hW1]; exact (Below.heap_alloc _ _ _ (by simp)).trans (World.alloc_heap_new w _)
  have hi1 : I [] W1 := by rw [hW1]; exact hI.alloc _ (hI.alloc _ h0)
  refine ⟨w.heap.size + 1, [{ target := .collected w.heap.size, args := #[] }], W1, { target := .fn (.func gf) lb, args := #[.func (.yield (w.heap.size + 1)) #[] #[]] }, W1, gf, #[.func (.yield (w.heap.size + 1)) #[] #[]] ++ lb, W1, ?_, ?_, fun _ _ => trivial, ?_, fun _ => h1, ?_⟩
  · rw [hW1, hR]; exact run_enterLoop_outer _ _ _ _ _
  · simp only [resolve, hg]
    simp [go_sem]
  · simp [invoke, go_sem, eg]
  refine (hseq (w.heap.size + 1) (fun pre W => I pre W ∧ W.heap[w.heap.size + 1]? = some (.loop (R .ready none)) ∧ W.heap[w.heap.size]? = some (.deferred (some []))) W1 hb1 (by omega) (by omega) ?own ?rounds ⟨hi1, hl1, hd1⟩).mono ?_
  case own =>
    rintro s A B row ⟨k1, k2, k3⟩ hgr hr
    refine ⟨hI s A B row k1 hgr (fun r e => ⟨by have := (hr r e).1; omega, (hr r e).2⟩), ?_, ?_⟩
    · rw [hgr.block _ (Array.getElem?_eq_some_iff.1 k2).1 (fun e => by have := (hr _ e.symm).1; omega)]; exact k2
    · rw [hgr.block _ (Array.getElem?_eq_some_iff.1 k3).1 (fun e => by have := (hr _ e.symm).1; omega)]; exact k3
  case rounds =>
    rintro pre x W ⟨hi, hl, hd⟩
    have hlt : w.heap.size + 1 < W.heap.size := (Array.getElem?_eq_some_iff.1 hl).1
    have hy := run_yield (P := Tryd.prog) (args := encs x) hl (by rw [hR]; exact hps x)
    rw [hR] at hy
    refine ⟨fn, _, assign, body, hy, roundIn_of_wpIn hfn (hassign _ x W _ ?_)⟩
    clear hy
    have hlA : (W.alloc (ob x)).heap[w.heap.size + 1]? = some (.loop (R .ready none)) := (Below.heap_alloc _ _ _ hlt).trans hl
    have hdA : (W.alloc (ob x)).heap[w.heap.size]? = some (.deferred (some [])) := (Below.heap_alloc _ _ _ (by omega)).trans hd
    have hoA : (W.alloc (ob x)).heap[W.heap.size]? = some (ob x) := World.alloc_heap_new W _
    have hiA : I pre (W.alloc (ob x)) := hI.alloc _ hi
    have hsA : w.heap.size + 1 < (W.alloc (ob x)).heap.size := by simp; omega
    have hkA : KeepsFrom W1.heap.size W (W.alloc (ob x)) := keepsFrom_alloc9 _
    have hcA : Chg (fun q => S q ∨ q = w.heap.size + 1) W (W.alloc (ob x)) := (Chg.refl _ W).alloc _
    refine ⟨_, run_beginRound hlA (hRs _ _), ?_⟩
    rw [hRb]
    generalize W.alloc (ob x) = A at *
    have hlV : (A.putObj (w.heap.size + 1) (.loop (R .busy none))).heap[w.heap.size + 1]? = some (.loop (R .busy none)) := World.putObj_heap_same hsA
    have hdV : (A.putObj (w.heap.size + 1) (.loop (R .busy none))).heap[w.heap.size]? = some (.deferred (some [])) := (World.putObj_heap_other (by omega)).trans hdA
    have hoV : (A.putObj (w.heap.size + 1) (.loop (R .busy none))).heap[W.heap.size]? = some (ob x) := (World.putObj_heap_other (by omega)).trans hoA
    have hiV : I pre (A.putObj (w.heap.size + 1) (.loop (R .busy none))) := hI.putObj _ hiA (by omega) hlA rfl
    have hkV : KeepsFrom W1.heap.size A (A.putObj (w.heap.size + 1) (.loop (R .busy none))) := keepsFrom_put9 (by omega)
    have hcV : Chg (fun q => S q ∨ q = w.heap.size + 1) A (A.putObj (w.heap.size + 1) (.loop (R .busy none))) := Chg.of_grown (grownBy_putObj' _ _ _) (fun k e => by cases e; exact .inr rfl)
    generalize A.putObj (w.heap.size + 1) (.loop (R .busy none)) = V at *
    refine wpIn_mono (hbody _ pre x W.heap.size V hiV hoV (by omega)) ?_
    rintro e a3 W3 ⟨rfl, hk3, hc3, hi3⟩
    have hl3 := hk3.same _ _ (by omega) hlV rfl
    have hd3 := hk3.same _ _ (Nat.le_refl _) hdV rfl
    have hlt3 : w.heap.size + 1 < W3.heap.size := (Array.getElem?_eq_some_iff.1 hl3).1
    have hen := run_endRound (P := Tryd.prog) none hl3
    have hfin : { R .busy none with state := if (none : Option Code).isNone = true then LoopState.ready else .done, pending := none } = R .ready none := by rw [hR]; rfl
    rw [hfin] at hen
    refine ⟨_, _, hen, rfl, ⟨hI.putObj _ hi3 (by omega) hl3 rfl, World.putObj_heap_same hlt3, (World.putObj_heap_other (by omega)).trans hd3⟩, ?_, ?_⟩
    · exact ((hkA.trans hkV).trans (keepsFrom_mono9 hk3 (by omega))).trans (keepsFrom_put9 (by omega))
    · exact ((hcA.trans hcV (fun _ _ h => h)).trans hc3 (fun _ _ h => .inl h)).trans (Chg.of_grown (S := fun q => S q ∨ q = w.heap.size + 1) (grownBy_putObj' _ _ _) (fun k e => by cases e; exact .inr rfl)) (fun _ _ h => h)
  · rintro e W2 ⟨⟨v, rfl⟩, xs, hD, hi, hl, hd⟩
    refine ⟨none, _, by have := run_endLoop (P := Tryd.prog) hl (by rw [hRs]; simp); rw [hR] at this; exact this, hdone w.heap.size xs _ (Nat.le_refl _) hD (hI.putObj _ hi (by omega) hl rfl) ((World.putObj_heap_other (by omega)).trans hd)⟩
end Go.Proofs.YtgoehohadnkpdaaDoor
