/-
  What is proved here: plain facts on worlds in which, of the blocks that were there, only such of a kind have changed. plain facts on worlds in which, of the blocks that were there, only such of a kind have changed.
  Conditions: those that each fact names.
-/
import Derived.Test.YtgfcindkfnjeoaaJShaPure
namespace Go.Proofs.Ytgfcindkfnjeoaa
open Go.RowKit

/-- Of the blocks that were there, none but such have changed. -/
def Chg (S : Nat → Prop) (w w' : World) : Prop := Below 0 w w' ∧ ∀ k, k < w.heap.size → ¬ S k → w'.heap[k]? = w.heap[k]?
theorem Chg.size {S : Nat → Prop} {w w' : World} (h : Chg S w w') : w.heap.size ≤ w'.heap.size := h.1.size
theorem Chg.refl (S : Nat → Prop) (w : World) : Chg S w w := ⟨Below.refl _ _, fun _ _ _ => rfl⟩
theorem Chg.trans {S S' : Nat → Prop} {w w' w'' : World} (h : Chg S w w') (h' : Chg S' w' w'') (hS : ∀ k, k < w.heap.size → S' k → S k) : Chg S w w'' :=
  ⟨h.1.trans h'.1, fun k hk hn => (h'.2 k (Nat.lt_of_lt_of_le hk h.size) (fun e => hn (hS k hk e))).trans (h.2 k hk hn)⟩
theorem Chg.of_below {S : Nat → Prop} {B : Nat} {w w' : World} (h : Below B w w') (hB : w.heap.size ≤ B) : Chg S w w' :=
  ⟨h.mono (Nat.zero_le _), fun k hk _ => h.block k (Nat.lt_of_lt_of_le hk hB)⟩
theorem Chg.of_grown {S : Nat → Prop} {w w' : World} {row : Option Nat} (h : w.grownBy w' row) (hS : ∀ k, row = some k → S k) : Chg S w w' :=
  ⟨below_grown (Below.refl 0 w) h (Nat.zero_le _) (fun _ _ => Nat.zero_le _), fun k hk hn => h.block k hk (fun e => hn (hS k e.symm))⟩
theorem Chg.alloc {S : Nat → Prop} {w w' : World} (h : Chg S w w') (o : Obj) : Chg S w (w'.alloc o) :=
  h.trans (S' := S) (Chg.of_below ((Below.refl w'.heap.size w').alloc (Nat.le_refl _) o) (Nat.le_refl _)) (fun _ _ h => h)
theorem Chg.setCell {S : Nat → Prop} {w w' : World} (h : Chg S w w') (g i : Nat) (v : Value) (hS : g < w.heap.size → S g) : Chg S w (w'.setCell ⟨g, i, none⟩ v) :=
  h.trans (S' := fun k => k = g) ⟨(Below.refl 0 w').setCell (p := ⟨g, i, none⟩) (Nat.zero_le _) v, fun k _ hn => Below.heap_setCell w' ⟨g, i, none⟩ v k hn⟩ (fun k hk e => by subst e; exact hS hk)
theorem Chg.below {S : Nat → Prop} {B : Nat} {w w' : World} (h : Chg S w w') (hS : ∀ k, S k → B ≤ k) (hB : B ≤ w.heap.size) : Below B w w' :=
  ⟨h.1.os, h.1.tape, h.1.output, h.1.size, fun k hk => h.2 k (Nat.lt_of_lt_of_le hk hB) (fun e => by have := hS k e; omega)⟩
theorem Blk.chg {S : Nat → Prop} {w w' : World} {g : Nat} {t : TypeId} {arr : Array Value} (h : Blk w g t arr) (hc : Chg S w w') (hg : ¬ S g) : Blk w' g t arr := by
  unfold Blk; rw [hc.2 g h.lt hg]; exact h
theorem Chg.weaken {S S' : Nat → Prop} {w w' : World} (h : Chg S w w') (hS : ∀ k, S k → S' k) : Chg S' w w' := ⟨h.1, fun k hk hn => h.2 k hk (fun e => hn (hS k e))⟩
theorem Chg.drew {S : Nat → Prop} {w w' : World} (h : Chg S w w') : Chg S w w'.drew := ⟨h.1.drew, h.2⟩
end Go.Proofs.Ytgfcindkfnjeoaa
namespace Go.Proofs.Ytgfcindkfnjeoaa
open Go.RowKit
theorem Own.chg {S : Nat → Prop} {w w' : World} {lo : Nat} {v : Value} {bs : List UInt8} (h : Own w lo v bs) (hc : Chg S w w') (hv : ∀ k, v.ownBlock = some k → ¬ S k) : Own w' lo v bs := by
  refine ⟨h.1, ?_⟩
  rcases h.2 with h2 | ⟨g, cap, cur, h1, h2, h3, h4⟩
  · exact .inl h2
  · exact .inr ⟨g, cap, cur, h1, h2, by rw [hc.2 g (Array.getElem?_eq_some_iff.1 h3).1 (hv g (by rw [h1]; rfl))]; exact h3, h4⟩
theorem Seg.chg {S : Nat → Prop} {w w' : World} {v : Value} {bs : List UInt8} (h : Seg w v bs) (hc : Chg S w w') (hv : 0 < bs.length → ∀ k, v.ownBlock = some k → ¬ S k) : Seg w' v bs := by
  rcases h with h | ⟨b, off, c, h1, h2, h3, h4⟩
  · exact .inl h
  · refine .inr ⟨b, off, c, h1, h2, fun j hj => ?_, Nat.lt_of_lt_of_le h4 hc.size⟩
    rw [World.cell?_of_block (w := w) (a := ⟨b, off + j, none⟩) (hc.2 b h4 (hv (by omega) b (by rw [h1]; rfl)))]
    exact h3 j hj
theorem Tab.chg {S : Nat → Prop} {w w' : World} {g : Nat} {vs : List Value} (h : Tab w g vs) (hc : Chg S w w') (hl : g < w.heap.size) (hg : ¬ S g) : Tab w' g vs := fun j v hv => by
  rw [World.cell?_of_block (w := w) (a := ⟨g, j, none⟩) (hc.2 g hl hg)]; exact h j v hv
/-- A table: a block whose first cells are these. -/
def TabB (w : World) (b : Nat) (t : TypeId) (vs : List Value) : Prop := ∃ arr, Blk w b t arr ∧ vs.length ≤ arr.size ∧ ∀ (j : Nat) v, vs[j]? = some v → arr[j]? = some v
theorem TabB.lt {w : World} {b : Nat} {t : TypeId} {vs : List Value} (h : TabB w b t vs) : b < w.heap.size := by obtain ⟨_, h, _⟩ := h; exact h.lt
theorem TabB.cell {w : World} {b : Nat} {t : TypeId} {vs : List Value} (h : TabB w b t vs) {j : Nat} {v : Value} (hv : vs[j]? = some v) : w.cell? ⟨b, j, none⟩ = some v := by
  obtain ⟨_, h, _, h2⟩ := h; exact h.cell (h2 j v hv)
theorem TabB.frozen {w : World} {b : Nat} {t : TypeId} {vs : List Value} (h : TabB w b t vs) (j : Nat) : w.frozen? ⟨b, j, none⟩ = false := by
  obtain ⟨_, h, _⟩ := h; exact h.frozen j
theorem TabB.chg {S : Nat → Prop} {w w' : World} {b : Nat} {t : TypeId} {vs : List Value} (h : TabB w b t vs) (hc : Chg S w w') (hb : ¬ S b) : TabB w' b t vs := by
  obtain ⟨arr, h, h2⟩ := h; exact ⟨arr, h.chg hc hb, h2⟩
theorem TabB.set {w : World} {b : Nat} {t : TypeId} {vs : List Value} (h : TabB w b t vs) (k : Nat) (v : Value) : TabB (w.setCell ⟨b, k, none⟩ v) b t (vs.set k v) := by
  obtain ⟨arr, h, h1, h2⟩ := h
  refine ⟨_, h.set k v, by simpa using h1, fun j u hu => ?_⟩
  by_cases hjk : k = j
  · subst hjk
    rw [List.getElem?_set_self' ] at hu
    cases hv : vs[k]? with
    | none => rw [hv] at hu; cases hu
    | some x =>
      rw [hv] at hu
      have hu' : v = u := by simpa using hu
      subst hu'
      have := h2 k x hv
      rw [Array.getElem?_setIfInBounds_self_of_lt (Array.getElem?_eq_some_iff.1 this).1]
  · rw [List.getElem?_set_ne hjk] at hu
    rw [Array.getElem?_setIfInBounds_ne hjk]
    exact h2 j u hu
/-- Bytes lie here, apart from such blocks. -/
def SegA (w : World) (T : Nat → Prop) (v : Value) (bs : List UInt8) : Prop := Seg w v bs ∧ (0 < bs.length → ∀ q, v.ownBlock = some q → ¬ T q)
theorem SegA.chg {T : Nat → Prop} {w w' : World} {v : Value} {bs : List UInt8} (h : SegA w T v bs) (hc : Chg T w w') : SegA w' T v bs := ⟨h.1.chg hc h.2, h.2⟩
def RowsA (w : World) (T : Nat → Prop) (vs : List Value) (rs : List (List UInt8)) : Prop := vs.length = rs.length ∧ ∀ (i : Nat) v r, vs[i]? = some v → rs[i]? = some r → SegA w T v r
theorem RowsA.chg {T : Nat → Prop} {w w' : World} {vs : List Value} {rs : List (List UInt8)} (h : RowsA w T vs rs) (hc : Chg T w w') : RowsA w' T vs rs := ⟨h.1, fun i v r h1 h2 => (h.2 i v r h1 h2).chg hc⟩
theorem RowsA.set {T : Nat → Prop} {w : World} {vs : List Value} {rs : List (List UInt8)} (h : RowsA w T vs rs) (k : Nat) (v : Value) (r : List UInt8) (hv : SegA w T v r) : RowsA w T (vs.set k v) (rs.set k r) := by
  refine ⟨by rw [List.length_set, List.length_set]; exact h.1, fun i u q h1 h2 => ?_⟩
  by_cases hik : k = i
  · subst hik
    rcases Nat.lt_or_ge k vs.length with hl | hl
    · rw [List.getElem?_set_self hl] at h1
      rw [List.getElem?_set_self (by rw [← h.1]; exact hl)] at h2
      cases h1; cases h2
      exact hv
    · rw [List.getElem?_eq_none (by rw [List.length_set]; exact hl)] at h1
      cases h1
  · rw [List.getElem?_set_ne hik] at h1 h2
    exact h.2 i u q h1 h2
theorem RowsA.at {T : Nat → Prop} {w : World} {vs : List Value} {rs : List (List UInt8)} (h : RowsA w T vs rs) {k : Nat} (hk : k < rs.length) : ∃ v, vs[k]? = some v ∧ SegA w T v (rs.getD k []) := by
  obtain ⟨v, hv⟩ : ∃ v, vs[k]? = some v := ⟨vs[k]'(by rw [h.1]; exact hk), List.getElem?_eq_getElem (by rw [h.1]; exact hk)⟩
  refine ⟨v, hv, h.2 k v _ hv ?_⟩
  rw [List.getD_eq_getElem?_getD, List.getElem?_eq_getElem hk]; rfl
/-- A slice of the call's own lies apart from what was there. -/
theorem Own.segA {w w0 : World} {T : Nat → Prop} {v : Value} {bs : List UInt8} (h : Own w w0.heap.size v bs) (hT : ∀ q, T q → q < w0.heap.size) : SegA w T v bs := ⟨h.seg, fun _ q hq e => by have := (h.blocks q hq).1; have := hT q e; omega⟩
end Go.Proofs.Ytgfcindkfnjeoaa
