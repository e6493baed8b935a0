/-
  What is proved here: the program's disk and the document's side by side, each with its own blocks. pieces as they lie in memory; both disks beside a block that a call keeps, and a write at both.
  Conditions: those that each fact names.
-/
import Derived.Test.YtojgeahablphbaaJRefOwnD
namespace Go.Proofs.Ytojgeahablphbaa
open Go.RowKit

/-- Both disks, side by side; w0 is the world ahead of both. -/
structure DP7 (w0 w : World) (L : PLay) (C : Nat → Prop) (M : RLay) (D : Nat → Prop) (s : DS) : Prop where
  p : OD w L C s
  r : OR w M D s
  off : ∀ q, C q → ¬ D q
  lc : ∀ q, C q → w0.heap.size ≤ q
  ld : ∀ q, D q → w0.heap.size ≤ q
  b : Below w0.heap.size w0 w
theorem DP7.after {w0 w w' : World} {L : PLay} {C : Nat → Prop} {M : RLay} {D : Nat → Prop} {s : DS} (h : DP7 w0 w L C M D s) (hb : Below w.heap.size w w') : DP7 w0 w' L C M D s :=
  ⟨h.p.after hb, h.r.after hb, h.off, h.lc, h.ld, h.b.trans (hb.mono h.b.size)⟩
theorem fr_off {C D : Nat → Prop} {w w1 w2 : World} (hoff : ∀ q, C q → ¬ D q) (hC : ∀ q, C q → q < w.heap.size) (hD : ∀ q, D q → q < w.heap.size) (h1 : w.heap.size ≤ w1.heap.size) : ∀ q, Fr C w w1 q → ¬ Fr D w1 w2 q := fun q hq hd => by
  rcases hq with hq | hq <;> rcases hd with hd | hd
  · exact hoff q hq hd
  · have := hC q hq; omega
  · have := hD q hd; omega
  · omega
theorem fr_low {C : Nat → Prop} {w0 w w1 : World} (hC : ∀ q, C q → w0.heap.size ≤ q) (h : w0.heap.size ≤ w.heap.size) : ∀ q, Fr C w w1 q → w0.heap.size ≤ q := fun q hq => by
  rcases hq with hq | hq
  · exact hC q hq
  · omega
theorem DP7.mid {w0 w w1 : World} {L : PLay} {C : Nat → Prop} {M : RLay} {D : Nat → Prop} {s : DS} (h : DP7 w0 w L C M D s) (hc : Chg C w w1) : OR w1 M D s :=
  h.r.chg hc (fun q hd hq => h.off q hq hd)
theorem DP7.both {w0 w w1 w2 : World} {L : PLay} {C : Nat → Prop} {M : RLay} {D : Nat → Prop} {s s' : DS} (h : DP7 w0 w L C M D s) (hp : OD w1 L (Fr C w w1) s') (hc1 : Chg C w w1) (hr : OR w2 M (Fr D w1 w2) s') (hc2 : Chg D w1 w2) : DP7 w0 w2 L (Fr C w w1) M (Fr D w1 w2) s' :=
  have hs := hc1.size
  have hb1 : Below w0.heap.size w0 w1 := h.b.trans (hc1.below h.lc h.b.size)
  ⟨hp.chg hc2 (fun q hq hd => fr_off (w2 := w1) h.off h.p.lt h.r.lt hs q hq (.inl hd)), hr, fr_off h.off h.p.lt h.r.lt hs, fr_low h.lc h.b.size, fr_low h.ld hb1.size, hb1.trans (hc2.below h.ld hb1.size)⟩
end Go.Proofs.Ytojgeahablphbaa
namespace Go.Proofs.Ytojgeahablphbaa
open Go.RowKit

structure Pc7 where
  kind : Int
  b : List UInt8
/-- A piece lies in these two cells. -/
def PcCells (W : World) (q off : Nat) (a : Pc7) : Prop := q < W.heap.size ∧ W.cell? ⟨q, off, none⟩ = some (.int .i64 a.kind) ∧ ∃ bv, W.cell? ⟨q, off + 1, none⟩ = some bv ∧ Seg W bv a.b ∧ a.b.length ≤ maxLen
def Pcs7 (W : World) (v : Value) (l : List Pc7) : Prop := ∃ ao c, v = .slice ao l.length c ∧ l.length ≤ maxLen ∧ ∀ (i : Nat) a, l[i]? = some a → ∃ q off, ao = some ⟨q, off, none⟩ ∧ PcCells W q (off + i * 2) a
theorem index_pcs7 (b off len c : Nat) (I : Nat) (h : I < len) (w : World) : (Instr.indexAt 24 (.slice (some ⟨b, off, none⟩) len c) (.int .i64 (I : Int))).run Try.prog w = .ok (.pointer (some ⟨b, off + I * 2, none⟩)) w := by
  have hi : (0 : Int) ≤ (I : Int) ∧ (I : Int) < (len : Int) := by omega
  simp [Instr.indexAt, asIntOf, run_underlying Try.underlying24, hi, Addr.add_mid]
  first | rfl | (intro h'; omega)
/-- Both disks, with the power on and no plan, beside a block. -/
structure Tl7 (w0 w : World) (L : PLay) (C : Nat → Prop) (M : RLay) (D : Nat → Prop) (s : DS) (Bx : Nat) (t : TypeId) (hs : Array Value) : Prop where
  d : DP7 w0 w L C M D s
  c : s.down = false ∧ s.next = []
  n : s.now.length = 42
  x : Blk w Bx t hs
  xC : ¬ C Bx
  xD : ¬ D Bx
theorem Tl7.after {w0 w w' : World} {L : PLay} {C : Nat → Prop} {M : RLay} {D : Nat → Prop} {s : DS} {Bx : Nat} {t : TypeId} {hs : Array Value} (h : Tl7 w0 w L C M D s Bx t hs) (hb : Below w.heap.size w w') : Tl7 w0 w' L C M D s Bx t hs :=
  ⟨h.d.after hb, h.c, h.n, h.x.below hb h.x.lt, h.xC, h.xD⟩
theorem write_calm7 {s : DS} (h : s.down = false ∧ s.next = []) (k : Int) (b : List UInt8) : (writeS s k b).2.down = false ∧ (writeS s k b).2.next = [] := by
  have hm : mayS s = (0, s) := by
    unfold mayS
    rw [h.1, h.2]
    rfl
  unfold writeS
  split
  · exact h
  · rw [hm, if_neg (by simp)]
    exact h
theorem write_now7 (s : DS) (k : Int) (b : List UInt8) (h : s.now.length = 42) (hs : s.down = false ∧ s.next = []) : (writeS s k b).2.now.length = 42 := by
  have hm : mayS s = (0, s) := by
    unfold mayS
    rw [hs.1, hs.2]
    rfl
  unfold writeS
  split
  · exact h
  · rw [hm, if_neg (by simp)]
    show (s.now.set _ _).length = 42
    rw [List.length_set]
    exact h
theorem Tl7.wrote {w0 w w1 w2 : World} {L : PLay} {C : Nat → Prop} {M : RLay} {D : Nat → Prop} {s : DS} {Bx : Nat} {t : TypeId} {hs : Array Value} (h : Tl7 w0 w L C M D s Bx t hs) (k : Int) (b : List UInt8) (hp : OD w1 L (Fr C w w1) (writeS s k b).2) (hc1 : Chg C w w1) (hr : RDisk w2 (M.off w1 D) (writeS s k b).2) (hc2 : Chg M.T w1 w2) : Tl7 w0 w2 L (Fr C w w1) M (Fr D w1 w2) (writeS s k b).2 Bx t hs := by
  have hO := h.d.mid hc1
  have hc2' : Chg D w1 w2 := hc2.weaken hO.own
  have hx := h.x.lt
  have hs1 := hc1.size
  refine ⟨h.d.both hp hc1 (hO.step hr hc2.size) hc2', write_calm7 h.c k b, write_now7 s k b h.n h.c, (h.x.chg hc1 h.xC).chg hc2' h.xD, fun e => ?_, fun e => ?_⟩
  · rcases e with e | e
    · exact h.xC e
    · omega
  · rcases e with e | e
    · exact h.xD e
    · omega
/-- Bytes of the call's own, apart from both disks. -/
structure OwnX (w : World) (base : Nat) (C D : Nat → Prop) (v : Value) (bs : List UInt8) : Prop where
  o : Own w base v bs
  c : ∀ q, v.ownBlock = some q → ¬ C q ∧ ¬ D q
theorem OwnX.step {w w1 w2 : World} {base : Nat} {C D : Nat → Prop} {v : Value} {bs : List UInt8} (h : OwnX w base C D v bs) (hc1 : Chg C w w1) (hc2 : Chg D w1 w2) : OwnX w2 base (Fr C w w1) (Fr D w1 w2) v bs := by
  refine ⟨(h.o.chg hc1 (fun q hq => (h.c q hq).1)).chg hc2 (fun q hq => (h.c q hq).2), fun q hq => ?_⟩
  have hl := (h.o.blocks q hq).2
  have := hc1.size
  refine ⟨fun e => ?_, fun e => ?_⟩
  · rcases e with e | e
    · exact (h.c q hq).1 e
    · omega
  · rcases e with e | e
    · exact (h.c q hq).2 e
    · omega
end Go.Proofs.Ytojgeahablphbaa
