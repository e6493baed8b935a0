/-
  What is proved here: the program's disk with the blocks that are its own: what its calls do, in these words; a disk keeps when others' blocks change.
  Conditions: the disk lies in memory.
-/
import Derived.Test.YtojgeahablphbaaJPDiskRead
import Derived.Test.YtojgeahablphbaaJPDiskWrite
import Derived.Test.YtojgeahablphbaaJPDiskSync
import Derived.Test.YtojgeahablphbaaJPDiskNew
namespace Go.Proofs.Ytojgeahablphbaa
open Go.RowKit Go.Maps

theorem PDisk.keep {w w' : World} {L : PLay} {s : DS} {S E' : Nat → Prop} (h : PDisk w L s) (hc : Chg S w w') (hS : ∀ q, S q → q < w.heap.size → L.E q) (hT : ∀ q, L.T q → ¬ S q) (hE : ∀ q, E' q → L.E q ∨ w.heap.size ≤ q) (hl : ∀ q, E' q → q < w'.heap.size) : PDisk w' { L with E := E' } s := by
  obtain ⟨xv, hx1, hx2, hx3⟩ := h.head
  have hq : 0 < s.next.length → ∀ q, xv.ownBlock = some q → q < w.heap.size := fun h0 q hq => by
    rcases hx2 with ⟨e, _⟩ | ⟨b, off, c, e, _, _, hb⟩
    · rw [e] at h0; cases h0
    · rw [e] at hq
      obtain rfl : b = q := Option.some.inj hq
      exact hb
  refine ⟨h.ok, ⟨h.lay.gs, h.lay.gm, h.lay.sm, h.lay.one, h.lay.max⟩, h.clean, ⟨xv, hx1.chg hc (hT _ (.inl rfl)), hx2.chg hc (fun h0 q hqq e => hx3 h0 q hqq (.inr (hS q e (hq h0 q hqq)))), fun h0 q hqq e => ?_⟩, h.sure.chg hc (hT _ (.inr (.inl rfl))), h.map.chg hc (hT _ (.inr (.inr rfl))), hl⟩
  rcases e with e | e
  · exact hx3 h0 q hqq (.inl e)
  · rcases hE q e with e | e
    · exact hx3 h0 q hqq (.inr e)
    · have := hq h0 q hqq; omega

/-- All others' blocks. -/
def PLay.off (L : PLay) (w : World) (C : Nat → Prop) : PLay := { L with E := fun q => q < w.heap.size ∧ ¬ C q }
/-- What was there, and what has come since. -/
def Fr (C : Nat → Prop) (w w' : World) (q : Nat) : Prop := C q ∨ (w.heap.size ≤ q ∧ q < w'.heap.size)
/-- A disk whose own blocks are such. -/
structure OD (w : World) (L : PLay) (C : Nat → Prop) (s : DS) : Prop where
  d : PDisk w (L.off w C) s
  own : ∀ q, L.T q → C q
  lt : ∀ q, C q → q < w.heap.size
theorem OD.chg {w w' : World} {L : PLay} {C S : Nat → Prop} {s : DS} (h : OD w L C s) (hc : Chg S w w') (hS : ∀ q, C q → ¬ S q) : OD w' L C s :=
  ⟨h.d.keep (E' := fun q => q < w'.heap.size ∧ ¬ C q) hc (fun q hq hl => ⟨hl, fun e => hS q e hq⟩) (fun q hq => hS q (h.own q hq)) (fun q hq => by rcases Nat.lt_or_ge q w.heap.size with h1 | h1; exact .inl ⟨h1, hq.2⟩; exact .inr h1) (fun _ hq => hq.1), h.own, fun q hq => Nat.lt_of_lt_of_le (h.lt q hq) hc.size⟩
theorem OD.after {w w' : World} {L : PLay} {C : Nat → Prop} {s : DS} (h : OD w L C s) (hb : Below w.heap.size w w') : OD w' L C s :=
  h.chg (S := fun _ => False) (Chg.of_below hb (Nat.le_refl _)) (fun _ _ => id)
theorem OD.step {w w' : World} {L : PLay} {C : Nat → Prop} {s s' : DS} (h : OD w L C s) (hd : PDisk w' (L.off w C) s') (hc : Chg L.T w w') : OD w' L (Fr C w w') s' :=
  ⟨hd.keep (E' := fun q => q < w'.heap.size ∧ ¬ Fr C w w' q) (S := fun _ => False) (Chg.refl _ _) (fun _ h => h.elim) (fun _ _ => id) (fun q hq => .inl ⟨by rcases Nat.lt_or_ge q w.heap.size with h1 | h1; exact h1; exact absurd (.inr ⟨h1, hq.1⟩) hq.2, fun e => hq.2 (.inl e)⟩) (fun _ hq => hq.1), fun q hq => .inl (h.own q hq), fun q hq => by
    rcases hq with hq | hq
    · exact Nat.lt_of_lt_of_le (h.lt q hq) hc.size
    · exact hq.2⟩
theorem OD.mono {w : World} {L : PLay} {C C' : Nat → Prop} {s : DS} (h : OD w L C s) (hC : ∀ q, C q → C' q) (hl : ∀ q, C' q → q < w.heap.size) : OD w L C' s :=
  ⟨h.d.keep (E' := fun q => q < w.heap.size ∧ ¬ C' q) (S := fun _ => False) (Chg.refl _ _) (fun _ h => h.elim) (fun _ _ => id) (fun q hq => .inl ⟨hq.1, fun e => hq.2 (hC q e)⟩) (fun _ hq => hq.1), fun q hq => hC q (h.own q hq), hl⟩

theorem od_read (L : PLay) (C : Nat → Prop) (s : DS) (k : Int) (w : World) (hD : OD w L C s) :
    Calls Try.prog 57 #[.pointer (some ⟨L.g, 0, none⟩), .int .i64 k] w fun e w' => ∃ v, e = .returned (.tuple #[v, .int .i64 (readS s k).2]) ∧ Own w' w.heap.size v (readS s k).1 ∧ Below w.heap.size w w' := read_any (L.off w C) s k w hD.d
theorem od_write (L : PLay) (C : Nat → Prop) (s : DS) (k : Int) (x : Value) (bs : List UInt8) (w : World) (hD : OD w L C s) (hS : Seg w x bs) (hx : 0 < bs.length → ∀ q, x.ownBlock = some q → ¬ C q) :
    Calls Try.prog 8 #[.pointer (some ⟨L.g, 0, none⟩), .int .i64 k, x] w fun e w' => e = .returned (.int .i64 (writeS s k bs).1) ∧ OD w' L (Fr C w w') (writeS s k bs).2 ∧ Chg C w w' :=
  (write_any (L.off w C) s k x bs w hD.d hS (fun h0 q hq e => hx h0 q hq (hD.own q e))).mono fun _ _ ⟨h1, h2, h3⟩ => ⟨h1, hD.step h2 h3, h3.weaken hD.own⟩
theorem od_sync (L : PLay) (C : Nat → Prop) (s : DS) (w : World) (hD : OD w L C s) :
    Calls Try.prog 48 #[.pointer (some ⟨L.g, 0, none⟩)] w fun e w' => e = .returned (.int .i64 (syncS s).1) ∧ OD w' L (Fr C w w') (syncS s).2 ∧ Chg C w w' :=
  (sync_any (L.off w C) s w hD.d).mono fun _ _ ⟨h1, h2, h3⟩ => ⟨h1, hD.step h2 h3, h3.weaken hD.own⟩

theorem od_len (L : PLay) (C : Nat → Prop) (s : DS) (w : World) (hD : OD w L C s) :
    Calls Try.prog 19 #[.pointer (some ⟨L.g, 0, none⟩)] w fun e w' => e = .returned (.int .i64 (s.now.length : Int)) ∧ w' = w := by
  obtain ⟨xv, hx, _⟩ := hD.d.head
  unfold PLay.head at hx
  have c0 := hx.cell (j := 0) rfl
  have hn := hD.d.ok.now
  have HN : Hid (s.now.length = L.n) := hn
  clear hn
  have c0' : w.cell? ⟨L.g, 0, none⟩ = some (.slice (some ⟨L.bs, 0, none⟩) L.n L.n) := c0
  clear c0
  go_enter Try.func19, Try.ntmps19
  go_wp2
  go_ret
  rw [HN.out]
  exact ⟨rfl, rfl⟩
theorem od_off (L : PLay) (C : Nat → Prop) (s : DS) (w : World) (hD : OD w L C s) :
    Calls Try.prog 20 #[.pointer (some ⟨L.g, 0, none⟩)] w fun e w' => e = .returned (.bool s.down) ∧ w' = w := by
  obtain ⟨xv, hx, _⟩ := hD.d.head
  unfold PLay.head at hx
  have c3 : w.cell? ⟨L.g, 3, none⟩ = some (.bool s.down) := hx.cell (j := 3) rfl
  go_enter Try.func20, Try.ntmps20
  go_wp2
  go_ret
  exact ⟨rfl, rfl⟩
end Go.Proofs.Ytojgeahablphbaa
