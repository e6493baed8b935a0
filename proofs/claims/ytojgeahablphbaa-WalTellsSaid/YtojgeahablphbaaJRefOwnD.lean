/-
  What is proved here: the document's disk with the blocks that are its own; it keeps when others' blocks change.
  Conditions: the disk lies in memory.
-/
import Derived.Test.YtojgeahablphbaaJRefDiskWrite
import Derived.Test.YtojgeahablphbaaJODisk
import Derived.Test.YtojgeahablphbaaJWalSegs
namespace Go.Proofs.Ytojgeahablphbaa
open Go.RowKit

theorem SegA.keep {w w' : World} {S U U' : Nat → Prop} {v : Value} {bs : List UInt8} (h : SegA w U v bs) (hc : Chg S w w') (hS : ∀ q, S q → q < w.heap.size → U q) (hU : ∀ q, U' q → U q ∨ w.heap.size ≤ q) : SegA w' U' v bs := by
  have hq := fun h0 q hq => Seg.own_lt h.1 h0 q hq
  refine ⟨h.1.chg hc (fun h0 q hqq e => h.2 h0 q hqq (hS q e (hq h0 q hqq))), fun h0 q hqq e => ?_⟩
  rcases hU q e with e | e
  · exact h.2 h0 q hqq e
  · have := hq h0 q hqq; omega
theorem RowsA.keep {w w' : World} {S U U' : Nat → Prop} {vs : List Value} {rs : List (List UInt8)} (h : RowsA w U vs rs) (hc : Chg S w w') (hS : ∀ q, S q → q < w.heap.size → U q) (hU : ∀ q, U' q → U q ∨ w.heap.size ≤ q) : RowsA w' U' vs rs :=
  ⟨h.1, fun i v r h1 h2 => (h.2 i v r h1 h2).keep hc hS hU⟩
theorem RDisk.keep {w w' : World} {L : RLay} {s : DS} {S E' : Nat → Prop} (h : RDisk w L s) (hc : Chg S w w') (hS : ∀ q, S q → q < w.heap.size → L.E q) (hT : ∀ q, L.T q → ¬ S q) (hE : ∀ q, E' q → L.E q ∨ w.heap.size ≤ q) (hl : ∀ q, E' q → q < w'.heap.size) : RDisk w' { L with E := E' } s := by
  obtain ⟨xv, hx, hx2⟩ := h.head
  obtain ⟨nv, hn, hn2⟩ := h.now
  obtain ⟨sv, hs, hs2⟩ := h.sure
  have hSU : ∀ q, S q → q < w.heap.size → L.U q := fun q h1 h2 => .inr (hS q h1 h2)
  have hU : ∀ q, ({ L with E := E' } : RLay).U q → L.U q ∨ w.heap.size ≤ q := fun q hq => by
    rcases hq with hq | hq
    · exact .inl (.inl hq)
    · rcases hE q hq with e | e
      · exact .inl (.inr e)
      · exact .inr e
  exact ⟨h.ok, ⟨h.lay.gn, h.lay.gs, h.lay.gd, h.lay.ns, h.lay.nd, h.lay.sd, h.lay.one, h.lay.max⟩, ⟨xv, hx.chg hc (hT _ (.inl rfl)), hx2.keep hc hSU hU⟩, ⟨nv, hn.chg hc (hT _ (.inr (.inl rfl))), hn2.keep hc hSU hU⟩, ⟨sv, hs.chg hc (hT _ (.inr (.inr (.inl rfl)))), hs2.keep hc hSU hU⟩, h.dirt.chg hc (hT _ (.inr (.inr (.inr rfl)))), hl⟩
/-- All others' blocks. -/
def RLay.off (L : RLay) (w : World) (C : Nat → Prop) : RLay := { L with E := fun q => q < w.heap.size ∧ ¬ C q }
/-- A disk whose own blocks are such. -/
structure OR (w : World) (L : RLay) (C : Nat → Prop) (s : DS) : Prop where
  d : RDisk w (L.off w C) s
  own : ∀ q, L.T q → C q
  lt : ∀ q, C q → q < w.heap.size
theorem OR.chg {w w' : World} {L : RLay} {C S : Nat → Prop} {s : DS} (h : OR w L C s) (hc : Chg S w w') (hS : ∀ q, C q → ¬ S q) : OR w' L C s :=
  ⟨h.d.keep (E' := fun q => q < w'.heap.size ∧ ¬ C q) hc (fun q hq hl => ⟨hl, fun e => hS q e hq⟩) (fun q hq => hS q (h.own q hq)) (fun q hq => by rcases Nat.lt_or_ge q w.heap.size with h1 | h1; exact .inl ⟨h1, hq.2⟩; exact .inr h1) (fun _ hq => hq.1), h.own, fun q hq => Nat.lt_of_lt_of_le (h.lt q hq) hc.size⟩
theorem OR.after {w w' : World} {L : RLay} {C : Nat → Prop} {s : DS} (h : OR w L C s) (hb : Below w.heap.size w w') : OR w' L C s :=
  h.chg (S := fun _ => False) (Chg.of_below hb (Nat.le_refl _)) (fun _ _ => id)
theorem OR.step {w w' : World} {L : RLay} {C : Nat → Prop} {s s' : DS} (h : OR w L C s) (hd : RDisk w' (L.off w C) s') (hc : w.heap.size ≤ w'.heap.size) : OR w' L (Fr C w w') s' :=
  ⟨hd.keep (E' := fun q => q < w'.heap.size ∧ ¬ Fr C w w' q) (S := fun _ => False) (Chg.refl _ _) (fun _ h => h.elim) (fun _ _ => id) (fun q hq => .inl ⟨by rcases Nat.lt_or_ge q w.heap.size with h1 | h1; exact h1; exact absurd (.inr ⟨h1, hq.1⟩) hq.2, fun e => hq.2 (.inl e)⟩) (fun _ hq => hq.1), fun q hq => .inl (h.own q hq), fun q hq => by
    rcases hq with hq | hq
    · exact Nat.lt_of_lt_of_le (h.lt q hq) hc
    · exact hq.2⟩
theorem OR.mono {w : World} {L : RLay} {C C' : Nat → Prop} {s : DS} (h : OR w L C s) (hC : ∀ q, C q → C' q) (hl : ∀ q, C' q → q < w.heap.size) : OR w L C' s :=
  ⟨h.d.keep (E' := fun q => q < w.heap.size ∧ ¬ C' q) (S := fun _ => False) (Chg.refl _ _) (fun _ h => h.elim) (fun _ _ => id) (fun q hq => .inl ⟨hq.1, fun e => hq.2 (hC q e)⟩) (fun _ hq => hq.1), fun q hq => hC q (h.own q hq), hl⟩
theorem OR.new {w : World} {L : RLay} {s : DS} {B : Nat} (h : RDisk w L s) (hE : L.E = fun q => q < B) (hT : ∀ q, L.T q → B ≤ q) : OR w L (fun q => B ≤ q ∧ q < w.heap.size) s :=
  ⟨h.keep (E' := fun q => q < w.heap.size ∧ ¬ (B ≤ q ∧ q < w.heap.size)) (S := fun _ => False) (Chg.refl _ _) (fun _ h => h.elim) (fun _ _ => id) (fun q hq => .inl (by rw [hE]; show q < B; have := hq.2; omega)) (fun _ hq => hq.1), fun q hq => ⟨hT q hq, h.lt q hq⟩, fun _ hq => hq.2⟩
end Go.Proofs.Ytojgeahablphbaa
