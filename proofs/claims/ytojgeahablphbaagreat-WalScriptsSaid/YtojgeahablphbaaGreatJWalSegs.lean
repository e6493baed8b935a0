/-
  What is proved here: rows of bytes that came in, and what the calm log does with them. the document's disk and log with the blocks that are their own: what their calls do, in these words; they keep when others' blocks change. more of the calm log: what is refused changes nothing; what stands is opened. the program's log beside rows that a call gathers: what the log does keeps these rows. the program's log and the document's side by side, each with its own blocks, and what openings told beside them.
  Conditions: those that each fact names. the disk and the log lie in memory.
-/
import Derived.Test.YtojgeahablphbaaGreatJPWalAt
import Derived.Test.YtojgeahablphbaaGreatJRefWalCheck
import Derived.Test.YtojgeahablphbaaGreatJRefWalSay
import Derived.Test.YtojgeahablphbaaGreatJRefDiskSync
import Derived.Test.YtojgeahablphbaaGreatJRefDiskPlan
import Derived.Test.YtojgeahablphbaaGreatJPDiskWrite
import Derived.Test.YtojgeahablphbaaGreatJWalSame
import Derived.Test.YtojgeahablphbaaGreatJBlkNe
namespace Go.Proofs.YtojgeahablphbaaGreat
open Go.RowKit

/-- Rows of bytes: a slice of slices that came in. -/
def Segs7 (w : World) (v : Value) (L : List (List UInt8)) : Prop :=
  ∃ ao c, v = .slice ao L.length c ∧ L.length ≤ maxLen ∧ (0 < L.length → ∃ b off, ao = some ⟨b, off, none⟩ ∧ b < w.heap.size ∧ L.length ≤ c ∧ ∀ i r, L[i]? = some r → ∃ a n cc, w.cell? ⟨b, off + i, none⟩ = some (.slice a n cc) ∧ r.length = n ∧ n ≤ maxLen ∧ Seg w (.slice a n cc) r)
theorem Seg.own_lt {w : World} {v : Value} {bs : List UInt8} (h : Seg w v bs) (h0 : 0 < bs.length) (q : Nat) (hq : v.ownBlock = some q) : q < w.heap.size := by
  obtain ⟨ao, c, rfl⟩ := h.shapeD
  obtain ⟨b, off, rfl, _, _, hl⟩ := h.formD h0
  cases hq
  exact hl
/-- A row of them, in every world that keeps what there was. -/
theorem Segs7.at {w : World} {ao : Option Addr} {n c : Nat} {L : List (List UInt8)} (h : Segs7 w (.slice ao n c) L) {I : Nat} (hI : I < L.length) : ∃ b off a cc, ao = some ⟨b, off, none⟩ ∧ L.length ≤ c ∧ (L.getD I []).length ≤ maxLen ∧
    (∀ W : World, Below w.heap.size w W → W.cell? ⟨b, off + I, none⟩ = some (.slice a (L.getD I []).length cc) ∧ Seg W (.slice a (L.getD I []).length cc) (L.getD I [])) ∧ (0 < (L.getD I []).length → ∀ q, (Value.slice a (L.getD I []).length cc).ownBlock = some q → q < w.heap.size) := by
  obtain ⟨ao', c', e, hm, hr⟩ := h
  cases e
  obtain ⟨b, off, rfl, hb, hc, hcell⟩ := hr (by omega)
  have hg : L[I]? = some (L.getD I []) := by simp [hI]
  obtain ⟨a, n', cc, h1, h2, h3, h4⟩ := hcell I _ hg
  subst h2
  exact ⟨b, off, a, cc, rfl, hc, h3, fun W hW => ⟨((bcell hW).1 b (off + I) hb).trans h1, h4.below hW (Nat.le_refl _)⟩, fun h0 q hq => h4.own_lt h0 q hq⟩
theorem index_rows (b off len c : Nat) (z : Int) (I : Nat) (hz : z = (I : Int)) (h : I < len) (w : World) : (Instr.indexAt 34 (.slice (some ⟨b, off, none⟩) len c) (.int .i64 z)).run Tryz.prog w = .ok (.pointer (some ⟨b, off + I, none⟩)) w := by
  subst hz
  have hi : (0 : Int) ≤ (I : Int) ∧ (I : Int) < (len : Int) := by omega
  simp [Instr.indexAt, asIntOf, run_underlying Tryz.underlying34, hi, Addr.add_mid]
  intro h'
  omega
theorem room_none (s : DS) : roomW s ⟨0, 0, [], 0, false, false⟩ = 0 := rfl
end Go.Proofs.YtojgeahablphbaaGreat
namespace Go.Proofs.YtojgeahablphbaaGreat
open Go.RowKit

theorem SegA.keep {w w' : World} {S U U' : Nat → Prop} {v : Value} {bs : List UInt8} (h : SegA w U v bs) (hc : Chg S w w') (hS : ∀ q, S q → q < w.heap.size → U q) (hU : ∀ q, U' q → U q ∨ w.heap.size ≤ q) : SegA w' U' v bs := by
  have hq := fun h0 q hq => Seg.own_lt h.1 h0 q hq
  refine ⟨h.1.chg hc (fun h0 q hqq e => h.2 h0 q hqq (hS q e (hq h0 q hqq))), fun h0 q hqq e => ?_⟩
  rcases hU q e with e | e
  · exact h.2 h0 q hqq e
  · have := hq h0 q hqq; omega
theorem RowsA.keep {w w' : World} {S U U' : Nat → Prop} {vs : List Value} {rs : List (List UInt8)} (h : RowsA w U vs rs) (hc : Chg S w w') (hS : ∀ q, S q → q < w.heap.size → U q) (hU : ∀ q, U' q → U q ∨ w.heap.size ≤ q) : RowsA w' U' vs rs :=
  ⟨h.1, fun i v r h1 h2 => (h.2 i v r h1 h2).keep hc hS hU⟩
theorem RDisk.keep {w w' : World} {L : RLay} {s : DS} {S E' : Nat → Prop} (h : RDisk w L s) (hc : Chg S w w') (hS : ∀ q, S q → q < w.heap.size → L.E q) (hT : ∀ q, L.T q → ¬ S q) (hE : ∀ q, E' q → L.E q ∨ w.heap.size ≤ q) (hl : ∀ q, E' q → q < w'.heap.size) : RDisk w' { L with E := E' } s := by
  obtain ⟨xv, hx, hx2⟩ := h.head
  obtain ⟨nv, hn, hn2⟩ := h.now
  obtain ⟨sv, hs, hs2⟩ := h.sure
  have hSU : ∀ q, S q → q < w.heap.size → L.U q := fun q h1 h2 => .inr (hS q h1 h2)
  have hU : ∀ q, ({ L with E := E' } : RLay).U q → L.U q ∨ w.heap.size ≤ q := fun q hq => by
    rcases hq with hq | hq
    · exact .inl (.inl hq)
    · rcases hE q hq with e | e
      · exact .inl (.inr e)
      · exact .inr e
  exact ⟨h.ok, ⟨h.lay.gn, h.lay.gs, h.lay.gd, h.lay.ns, h.lay.nd, h.lay.sd, h.lay.one, h.lay.max⟩, ⟨xv, hx.chg hc (hT _ (.inl rfl)), hx2.keep hc hSU hU⟩, ⟨nv, hn.chg hc (hT _ (.inr (.inl rfl))), hn2.keep hc hSU hU⟩, ⟨sv, hs.chg hc (hT _ (.inr (.inr (.inl rfl)))), hs2.keep hc hSU hU⟩, h.dirt.chg hc (hT _ (.inr (.inr (.inr rfl)))), hl⟩
/-- All others' blocks. -/
def RLay.off (L : RLay) (w : World) (C : Nat → Prop) : RLay := { L with E := fun q => q < w.heap.size ∧ ¬ C q }
/-- A disk whose own blocks are such. -/
structure OR (w : World) (L : RLay) (C : Nat → Prop) (s : DS) : Prop where
  d : RDisk w (L.off w C) s
  own : ∀ q, L.T q → C q
  lt : ∀ q, C q → q < w.heap.size
theorem OR.chg {w w' : World} {L : RLay} {C S : Nat → Prop} {s : DS} (h : OR w L C s) (hc : Chg S w w') (hS : ∀ q, C q → ¬ S q) : OR w' L C s :=
  ⟨h.d.keep (E' := fun q => q < w'.heap.size ∧ ¬ C q) hc (fun q hq hl => ⟨hl, fun e => hS q e hq⟩) (fun q hq => hS q (h.own q hq)) (fun q hq => by rcases Nat.lt_or_ge q w.heap.size with h1 | h1; exact .inl ⟨h1, hq.2⟩; exact .inr h1) (fun _ hq => hq.1), h.own, fun q hq => Nat.lt_of_lt_of_le (h.lt q hq) hc.size⟩
theorem OR.after {w w' : World} {L : RLay} {C : Nat → Prop} {s : DS} (h : OR w L C s) (hb : Below w.heap.size w w') : OR w' L C s :=
  h.chg (S := fun _ => False) (Chg.of_below hb (Nat.le_refl _)) (fun _ _ => id)
theorem OR.step {w w' : World} {L : RLay} {C : Nat → Prop} {s s' : DS} (h : OR w L C s) (hd : RDisk w' (L.off w C) s') (hc : w.heap.size ≤ w'.heap.size) : OR w' L (Fr C w w') s' :=
  ⟨hd.keep (E' := fun q => q < w'.heap.size ∧ ¬ Fr C w w' q) (S := fun _ => False) (Chg.refl _ _) (fun _ h => h.elim) (fun _ _ => id) (fun q hq => .inl ⟨by rcases Nat.lt_or_ge q w.heap.size with h1 | h1; exact h1; exact absurd (.inr ⟨h1, hq.1⟩) hq.2, fun e => hq.2 (.inl e)⟩) (fun _ hq => hq.1), fun q hq => .inl (h.own q hq), fun q hq => by
    rcases hq with hq | hq
    · exact Nat.lt_of_lt_of_le (h.lt q hq) hc
    · exact hq.2⟩
theorem OR.mono {w : World} {L : RLay} {C C' : Nat → Prop} {s : DS} (h : OR w L C s) (hC : ∀ q, C q → C' q) (hl : ∀ q, C' q → q < w.heap.size) : OR w L C' s :=
  ⟨h.d.keep (E' := fun q => q < w.heap.size ∧ ¬ C' q) (S := fun _ => False) (Chg.refl _ _) (fun _ h => h.elim) (fun _ _ => id) (fun q hq => .inl ⟨hq.1, fun e => hq.2 (hC q e)⟩) (fun _ hq => hq.1), fun q hq => hC q (h.own q hq), hl⟩
theorem OR.new {w : World} {L : RLay} {s : DS} {B : Nat} (h : RDisk w L s) (hE : L.E = fun q => q < B) (hT : ∀ q, L.T q → B ≤ q) : OR w L (fun q => B ≤ q ∧ q < w.heap.size) s :=
  ⟨h.keep (E' := fun q => q < w.heap.size ∧ ¬ (B ≤ q ∧ q < w.heap.size)) (S := fun _ => False) (Chg.refl _ _) (fun _ h => h.elim) (fun _ _ => id) (fun q hq => .inl (by rw [hE]; show q < B; have := hq.2; omega)) (fun _ hq => hq.1), fun q hq => ⟨hT q hq, h.lt q hq⟩, fun _ hq => hq.2⟩

/-- The document's log on its disk; their own blocks are such. -/
structure RB (w : World) (G : Nat) (L : RLay) (C : Nat → Prop) (s : DS) (l : LS) : Prop where
  d : OR w L C s
  l : RLog w G (L.off w C) l
  own : C G
theorem RB.both {w : World} {G : Nat} {L : RLay} {C : Nat → Prop} {s : DS} {l : LS} (h : RB w G L C s l) : RBoth w G (L.off w C) s l := ⟨h.d.d, h.l⟩
theorem RLog.keep {w w' : World} {G : Nat} {L : RLay} {l : LS} {S E' : Nat → Prop} (h : RLog w G L l) (hc : Chg S w w') (hG : ¬ S G) (hS : ∀ q, S q → q < w.heap.size → L.E q) (hE : ∀ q, E' q → L.E q ∨ w.heap.size ≤ q) : RLog w' G { L with E := E' } l := by
  obtain ⟨bv, h1, h2⟩ := h.head
  refine ⟨⟨bv, h1.chg hc hG, h2.keep hc (fun q h3 h4 => .inr (.inr (hS q h3 h4))) (fun q hq => ?_)⟩, h.off, h.n, h.gen, h.b, h.sure⟩
  rcases hq with hq | hq | hq
  · exact .inl (.inl hq)
  · exact .inl (.inr (.inl hq))
  · rcases hE q hq with e | e
    · exact .inl (.inr (.inr e))
    · exact .inr e
theorem RB.chg {w w' : World} {G : Nat} {L : RLay} {C S : Nat → Prop} {s : DS} {l : LS} (h : RB w G L C s l) (hc : Chg S w w') (hS : ∀ q, C q → ¬ S q) : RB w' G L C s l :=
  ⟨h.d.chg hc hS, h.l.keep (E' := fun q => q < w'.heap.size ∧ ¬ C q) hc (hS G h.own) (fun q hq hl => ⟨hl, fun e => hS q e hq⟩) (fun q hq => by rcases Nat.lt_or_ge q w.heap.size with h1 | h1; exact .inl ⟨h1, hq.2⟩; exact .inr h1), h.own⟩
theorem RB.after {w w' : World} {G : Nat} {L : RLay} {C : Nat → Prop} {s : DS} {l : LS} (h : RB w G L C s l) (hb : Below w.heap.size w w') : RB w' G L C s l :=
  h.chg (S := fun _ => False) (Chg.of_below hb (Nat.le_refl _)) (fun _ _ => id)
theorem RB.step {w w' : World} {G : Nat} {L : RLay} {C : Nat → Prop} {s s' : DS} {l l' : LS} (h : RB w G L C s l) (hd : RBoth w' G (L.off w C) s' l') (hc : w.heap.size ≤ w'.heap.size) : RB w' G L (Fr C w w') s' l' :=
  ⟨h.d.step hd.d hc, hd.l.keep (E' := fun q => q < w'.heap.size ∧ ¬ Fr C w w' q) (S := fun _ => False) (Chg.refl _ _) id (fun _ h => h.elim) (fun q hq => .inl ⟨by rcases Nat.lt_or_ge q w.heap.size with h1 | h1; exact h1; exact absurd (.inr ⟨h1, hq.1⟩) hq.2, fun e => hq.2 (.inl e)⟩), .inl h.own⟩
theorem RB.lt {w : World} {G : Nat} {L : RLay} {C : Nat → Prop} {s : DS} {l : LS} (h : RB w G L C s l) : ∀ q, C q → q < w.heap.size := h.d.lt
theorem RB.of {w : World} {G : Nat} {L : RLay} {C : Nat → Prop} {s : DS} {l : LS} (h : RB w G L C s l) (q : Nat) (hq : bothG G (L.off w C) q) : C q := by
  rcases hq with rfl | hq
  · exact h.own
  · exact h.d.own q hq
theorem rb_append {w : World} {G : Nat} {L : RLay} {C : Nat → Prop} {s : DS} {l : LS} (h : RB w G L C s l) (x : Value) (bs : List UInt8) (hS : Seg w x bs) (hm : bs.length ≤ 1000000) (hx : 0 < bs.length → ∀ q, x.ownBlock = some q → ¬ C q) :
    Calls Tryz.prog 34 #[.pointer (some ⟨G, 0, none⟩), x] w fun e w' => e = .returned (.int .i64 (appendW s l bs).1) ∧ RB w' G L (Fr C w w') s (appendW s l bs).2 ∧ Chg C w w' :=
  (append7_any G _ s l x bs w h.both hS hm (fun h0 q hq e => hx h0 q hq (h.of q e))).mono fun _ _ ⟨h1, h2, h3⟩ => ⟨h1, h.step h2 h3.size, h3.weaken (fun q hq => by rw [hq]; exact h.own)⟩
theorem rb_commit {w : World} {G : Nat} {L : RLay} {C : Nat → Prop} {s : DS} {l : LS} (h : RB w G L C s l) :
    Calls Tryz.prog 36 #[.pointer (some ⟨G, 0, none⟩)] w fun e w' => e = .returned (.int .i64 (commitW s l).1) ∧ RB w' G L (Fr C w w') (commitW s l).2.1 (commitW s l).2.2 ∧ Chg C w w' :=
  (commit7_any G _ s l w h.both).mono fun _ _ ⟨h1, h2, h3⟩ => ⟨h1, h.step h2 h3.size, h3.weaken h.of⟩
theorem rb_check {w : World} {G : Nat} {L : RLay} {C : Nat → Prop} {s : DS} {l : LS} (h : RB w G L C s l) (x : Value) (st : List UInt8) (hS : Seg w x st) (hm : st.length ≤ 1000000) (hx : 0 < st.length → ∀ q, x.ownBlock = some q → ¬ C q) :
    Calls Tryz.prog 37 #[.pointer (some ⟨G, 0, none⟩), x] w fun e w' => e = .returned (.int .i64 (checkW s l st).1) ∧ RB w' G L (Fr C w w') (checkW s l st).2.1 (checkW s l st).2.2 ∧ Chg C w w' :=
  (check7_any G _ s l x st w h.both hS hm (fun h0 q hq e => hx h0 q hq (h.of q e))).mono fun _ _ ⟨h1, h2, h3⟩ => ⟨h1, h.step h2 h3.size, h3.weaken h.of⟩
theorem rb_room {w : World} {G : Nat} {L : RLay} {C : Nat → Prop} {s : DS} {l : LS} (h : RB w G L C s l) :
    Calls Tryz.prog 16 #[.pointer (some ⟨G, 0, none⟩)] w fun e w' => e = .returned (.int .i64 (roomW s l)) ∧ Below w.heap.size w w' := room7_any G _ s l w h.both
theorem rb_size {w : World} {G : Nat} {L : RLay} {C : Nat → Prop} {s : DS} {l : LS} (h : RB w G L C s l) :
    Calls Tryz.prog 18 #[.pointer (some ⟨G, 0, none⟩)] w fun e w' => e = .returned (.int .i64 (sizeS s : Int)) ∧ w = w' := size7_any G _ s l w h.both
theorem RB.broke {w : World} {G : Nat} {L : RLay} {C : Nat → Prop} {s : DS} {l : LS} (h : RB w G L C s l) : w.cell? ⟨G, 6, none⟩ = some (.bool l.broke) := by
  obtain ⟨bv, h1, _⟩ := h.l.head
  exact h1.cell (j := 6) rfl
/-- A step of the disk alone. -/
theorem RB.disk {w w' : World} {G : Nat} {L : RLay} {C : Nat → Prop} {s s' : DS} {l : LS} (h : RB w G L C s l) (hd : RDisk w' (L.off w C) s') (hc : Chg L.T w w') : RB w' G L (Fr C w w') s' l :=
  h.step ⟨hd, h.l.chg hc h.l.off (fun _ hq => .inr hq)⟩ hc.size
theorem rb_open {w : World} {L : RLay} {C : Nat → Prop} {s : DS} (h : OR w L C s) (he : openE s = 0) :
    Calls Tryz.prog 9 #[.pointer (some ⟨L.g, 0, none⟩)] w fun e w' => ∃ G sv rv vs, e = .returned (.tuple #[.pointer (some ⟨G, 0, none⟩), sv, rv, .int .i64 0]) ∧ RB w' G L (fun q => C q ∨ q = G) s (openL s) ∧ w.heap.size ≤ G ∧ Own w' w.heap.size sv (foundS s).1 ∧ Gat w' w.heap.size rv vs (foundS s).2 ∧ Below w.heap.size w w' := by
  refine (open7_any _ s w h.d he).mono ?_
  rintro e w' ⟨G, sv, rv, vs, rfl, hl, hG, hO, hA, hb⟩
  have hlt := hl.lt
  refine ⟨G, sv, rv, vs, rfl, ⟨(h.after hb).mono (fun _ h => .inl h) (fun q hq => ?_), ?_, .inr rfl⟩, hG, hO, hA, hb⟩
  · rcases hq with hq | rfl
    · exact Nat.lt_of_lt_of_le (h.lt q hq) hb.size
    · exact hlt
  · obtain ⟨bv, h1, h2, _⟩ := hl.head
    exact ⟨⟨bv, h1, h2, fun h0 => by cases h0⟩, hl.off, hl.n, hl.gen, hl.b, hl.sure⟩
end Go.Proofs.YtojgeahablphbaaGreat
namespace Go.Proofs.YtojgeahablphbaaGreat
open Go.RowKit

theorem open_stand {s : DS} {n0 : Nat} {l : LS} (h : Stand s n0 l) (h256 : 256 ≤ sizeS s) : openE s = 0 := by
  unfold openE
  rw [if_neg (by omega), h.calm.2]
  rfl
theorem openL_stand {s : DS} {n0 : Nat} {l : LS} (h : Stand s n0 l) : openL s = ⟨l.n, l.gen, [], 0, false, false⟩ := by
  unfold openL
  rw [h.there]
theorem check_full {s : DS} {l : LS} {st : List UInt8} (hbr : l.broke = false) (hf : sizeS s < (stateB st).length) : checkW s l st = (3, s, l) := by
  unfold checkW
  rw [hbr, if_neg (by decide), if_pos (.inl hf)]
theorem append_arg {s : DS} {n0 : Nat} {l : LS} (h : Stand s n0 l) (x : List UInt8) (hx : 4096 < x.length) : appendW s l x = (1, l) := by
  unfold appendW
  rw [h.broke, if_neg (by decide), h.begun, if_neg (by decide), if_pos hx]
theorem told_state (st : List UInt8) : toldB (stateB st) = (st, []) := by
  have := told_put st [] (fun x hx => by cases hx)
  rwa [show recsB [] = [] from rfl, List.append_nil] at this
theorem told_one (st x : List UInt8) (h : x.length ≤ 4096) : toldB (stateB st ++ pieceB 3 x) = (st, [x]) := by
  have := told_put st [x] (fun y hy => by rw [List.mem_singleton.1 hy]; exact h)
  rwa [show recsB [x] = pieceB 3 x from List.append_nil _] at this
end Go.Proofs.YtojgeahablphbaaGreat
namespace Go.Proofs.YtojgeahablphbaaGreat
open Go.RowKit

def Off (B : Nat) (D : Nat → Prop) : Nat → Prop := fun q => B ≤ q ∧ ¬ D q
def LogX (B : Nat) (D : Nat → Prop) (w : World) (G : Nat) (L : PLay) (s : DS) (l : LS) : Prop := ∃ C, PB w G L C s l ∧ (∀ q, C q → Off B D q) ∧ (∀ q, D q → q < w.heap.size) ∧ B ≤ w.heap.size
def DiskX (B : Nat) (D : Nat → Prop) (w : World) (L : PLay) (s : DS) : Prop := ∃ C, OD w L C s ∧ (∀ q, C q → Off B D q) ∧ (∀ q, D q → q < w.heap.size) ∧ B ≤ w.heap.size
theorem LogAt.x {B : Nat} {w : World} {G : Nat} {L : PLay} {s : DS} {l : LS} (h : LogAt B w G L s l) (D : Nat → Prop) (hD : ∀ q, ¬ D q) : LogX B D w G L s l := by
  obtain ⟨C, h1, h2, h3⟩ := h
  exact ⟨C, h1, fun q hq => ⟨h2 q hq, hD q⟩, fun q hq => absurd hq (hD q), h3⟩
theorem LogX.le {B : Nat} {D : Nat → Prop} {w : World} {G : Nat} {L : PLay} {s : DS} {l : LS} (h : LogX B D w G L s l) : B ≤ w.heap.size := h.choose_spec.2.2.2
theorem DiskX.le {B : Nat} {D : Nat → Prop} {w : World} {L : PLay} {s : DS} (h : DiskX B D w L s) : B ≤ w.heap.size := h.choose_spec.2.2.2
theorem LogX.disk {B : Nat} {D : Nat → Prop} {w : World} {G : Nat} {L : PLay} {s : DS} {l : LS} (h : LogX B D w G L s l) : DiskX B D w L s := by
  obtain ⟨C, h1, h2, h3⟩ := h
  obtain ⟨CD, k1, k2⟩ := h1.disk
  exact ⟨CD, k1, fun q hq => h2 q (k2 q hq), h3⟩
theorem DiskX.d {B : Nat} {D : Nat → Prop} {w : World} {L : PLay} {s : DS} (h : DiskX B D w L s) : DiskAt B w L s := by
  obtain ⟨C, h1, h2, h3, h4⟩ := h
  exact ⟨C, h1, fun q hq => (h2 q hq).1, h4⟩
theorem LogX.after {B : Nat} {D : Nat → Prop} {w w' : World} {G : Nat} {L : PLay} {s : DS} {l : LS} (h : LogX B D w G L s l) (hb : Below w.heap.size w w') : LogX B D w' G L s l := by
  obtain ⟨C, h1, h2, h3, h4⟩ := h
  exact ⟨C, h1.after hb, h2, fun q hq => Nat.lt_of_lt_of_le (h3 q hq) hb.size, Nat.le_trans h4 hb.size⟩
theorem x_fr {C : Nat → Prop} {B : Nat} {D : Nat → Prop} {w w' : World} (h : ∀ q, C q → Off B D q) (hD : ∀ q, D q → q < w.heap.size) (hB : B ≤ w.heap.size) (q : Nat) (hq : Fr C w w' q) : Off B D q := by
  rcases hq with e | e
  · exact h q e
  · exact ⟨Nat.le_trans hB e.1, fun d => by have := hD q d; omega⟩
theorem off_below {B : Nat} {D : Nat → Prop} {w w' : World} (h : Chg (Off B D) w w') (hB : B ≤ w.heap.size) : Below B w w' := h.below (fun _ hk => hk.1) hB
theorem x_check {B : Nat} {D : Nat → Prop} {w : World} {G : Nat} {L : PLay} {s : DS} {l : LS} (h : LogX B D w G L s l) (x : Value) (st : List UInt8) (hS : Seg w x st) (hm : st.length ≤ 1000000) :
    Calls Tryz.prog 20 #[.pointer (some ⟨G, 0, none⟩), x] w fun e w' => e = .returned (.int .i64 (checkW s l st).1) ∧ LogX B D w' G L (checkW s l st).2.1 (checkW s l st).2.2 ∧ Chg (Off B D) w w' := by
  obtain ⟨C, h1, h2, h3, h4⟩ := h
  refine (pb_check h1 x st hS hm).mono ?_
  rintro e w' ⟨rfl, hP, hc⟩
  exact ⟨rfl, ⟨_, hP, x_fr h2 h3 h4, fun q hq => Nat.lt_of_lt_of_le (h3 q hq) hc.size, Nat.le_trans h4 hc.size⟩, hc.weaken h2⟩
theorem x_append {B : Nat} {D : Nat → Prop} {w : World} {G : Nat} {L : PLay} {s : DS} {l : LS} (h : LogX B D w G L s l) (x : Value) (bs : List UInt8) (hS : Seg w x bs) (hm : bs.length ≤ 1000000) (hx : 0 < bs.length → ∀ q, x.ownBlock = some q → q < B) :
    Calls Tryz.prog 33 #[.pointer (some ⟨G, 0, none⟩), x] w fun e w' => e = .returned (.int .i64 (appendW s l bs).1) ∧ LogX B D w' G L s (appendW s l bs).2 ∧ Chg (Off B D) w w' := by
  obtain ⟨C, h1, h2, h3, h4⟩ := h
  refine (pb_append h1 x bs hS hm (fun h0 q hq e => by have := hx h0 q hq; have := (h2 q e).1; omega)).mono ?_
  rintro e w' ⟨rfl, hP, hc⟩
  exact ⟨rfl, ⟨_, hP, x_fr h2 h3 h4, fun q hq => Nat.lt_of_lt_of_le (h3 q hq) hc.size, Nat.le_trans h4 hc.size⟩, hc.weaken h2⟩
theorem x_commit {B : Nat} {D : Nat → Prop} {w : World} {G : Nat} {L : PLay} {s : DS} {l : LS} (h : LogX B D w G L s l) :
    Calls Tryz.prog 35 #[.pointer (some ⟨G, 0, none⟩)] w fun e w' => e = .returned (.int .i64 (commitW s l).1) ∧ LogX B D w' G L (commitW s l).2.1 (commitW s l).2.2 ∧ Chg (Off B D) w w' := by
  obtain ⟨C, h1, h2, h3, h4⟩ := h
  refine (pb_commit h1).mono ?_
  rintro e w' ⟨rfl, hP, hc⟩
  exact ⟨rfl, ⟨_, hP, x_fr h2 h3 h4, fun q hq => Nat.lt_of_lt_of_le (h3 q hq) hc.size, Nat.le_trans h4 hc.size⟩, hc.weaken h2⟩
/-- Rows that came in, in a slice of the call's own. -/
structure Kept (w0 w : World) (v : Value) (vs : List Value) (rs : List (List UInt8)) : Prop where
  own : w.ownsRow w0.heap.size 33 1 v rs.length vs
  rows : ∀ (i : Nat) u r, vs[i]? = some u → rs[i]? = some r → Seg w0 u r
def OwnOf (v : Value) : Nat → Prop := fun q => v.ownBlock = some q
theorem Kept.nil (w0 w : World) : Kept w0 w (.slice none 0 0) [] [] := ⟨⟨rfl, .inl ⟨rfl, rfl⟩⟩, fun i u r h => by simp at h⟩
theorem Kept.chg {w0 w w' : World} {v : Value} {vs : List Value} {rs : List (List UInt8)} {B : Nat} (h : Kept w0 w v vs rs) (hc : Chg (Off B (OwnOf v)) w w') : Kept w0 w' v vs rs :=
  ⟨ownsRow_chg h.own hc (fun _ hk e => e.2 hk), h.rows⟩
theorem Kept.after {w0 w w' : World} {v : Value} {vs : List Value} {rs : List (List UInt8)} (h : Kept w0 w v vs rs) (hb : Below w.heap.size w w') : Kept w0 w' v vs rs :=
  ⟨ownsRow_chg h.own (Chg.of_below (S := fun _ => False) hb (Nat.le_refl _)) (fun _ _ => id), h.rows⟩
theorem Kept.sl {w0 w : World} {v : Value} {vs : List Value} {rs : List (List UInt8)} (h : Kept w0 w v vs rs) : ∃ ao c, v = .slice ao rs.length c := by
  rcases h.own.2 with ⟨rfl, e⟩ | ⟨g, cap, cur, rfl, _⟩
  · exact ⟨none, 0, by rw [e]⟩
  · exact ⟨_, _, rfl⟩
theorem Kept.rowsV {w0 w : World} {v : Value} {vs : List Value} {rs : List (List UInt8)} (h : Kept w0 w v vs rs) (hB : Below w0.heap.size w0 w) (hm : rs.length ≤ maxLen) : RowsV w v rs := by
  obtain ⟨h1, h2⟩ := h.own
  rcases h2 with ⟨rfl, e⟩ | ⟨g, cap, cur, rfl, hb, hg, hc, hcm, hcs, ht⟩
  · have e' : rs = [] := List.eq_nil_of_length_eq_zero e
    subst e'
    exact ⟨none, 0, rfl, hm, fun i r hr => by simp at hr⟩
  · refine ⟨_, _, rfl, hm, fun i r hr => ?_⟩
    have hi : i < rs.length := (List.getElem?_eq_some_iff.1 hr).1
    have hiv : i < vs.length := by omega
    refine ⟨g, 0, rfl, Blk.lt (show Blk w g 33 cur from hg), vs[i], ?_, (h.rows i _ r (List.getElem?_eq_getElem hiv) hr).below hB (Nat.le_refl _)⟩
    rw [Nat.zero_add]
    refine Blk.cell (show Blk w g 33 cur from hg) ?_
    have : (cur.toList.take (rs.length * 1))[i]? = some vs[i] := by rw [ht]; exact List.getElem?_eq_getElem hiv
    rw [List.getElem?_take_of_lt (by omega)] at this
    simpa using this
theorem Gat.rowsV {w : World} {base : Nat} {v : Value} {vs : List Value} {rs : List (List UInt8)} (h : Gat w base v vs rs) (hm : rs.length ≤ maxLen) : RowsV w v rs := by
  obtain ⟨h1, h2⟩ := h.own
  rcases h2 with ⟨rfl, e⟩ | ⟨g, cap, cur, rfl, hb, hg, hc, hcm, hcs, ht⟩
  · have e' : rs = [] := List.eq_nil_of_length_eq_zero e
    subst e'
    exact ⟨none, 0, rfl, hm, fun i r hr => by simp at hr⟩
  · refine ⟨_, _, rfl, hm, fun i r hr => ?_⟩
    have hi : i < rs.length := (List.getElem?_eq_some_iff.1 hr).1
    have hiv : i < vs.length := by omega
    refine ⟨g, 0, rfl, Blk.lt (show Blk w g 33 cur from hg), vs[i], ?_, (h.rows i _ r (List.getElem?_eq_getElem hiv) hr).seg⟩
    rw [Nat.zero_add]
    refine Blk.cell (show Blk w g 33 cur from hg) ?_
    have : (cur.toList.take (rs.length * 1))[i]? = some vs[i] := by rw [ht]; exact List.getElem?_eq_getElem hiv
    rw [List.getElem?_take_of_lt (by omega)] at this
    simpa using this
/-- append of one more row that came in. -/
theorem app_kept (w : World) {ops : Array Oper} {rest : List Oper} {o : Oper} {a : Act} {Q : Exit → Act → World → Prop} (hgd : o.guard = none) (s x : Operand)
    (ho : o.op = .call { callee := .builtin .append, args := #[s, x], argTypes := #[34, 34] })
    (w0 : World) (v : Value) (vs : List Value) (rs : List (List UInt8)) (hs : a.eval s = v) (hown : Kept w0 w v vs rs) (g c : Nat) (u : Value) (r : List UInt8) (hx : a.eval x = .slice (some ⟨g, 0, none⟩) 1 c) (hc : w.cell? ⟨g, 0, none⟩ = some u) (hu : Seg w0 u r)
    (hlen : rs.length ≤ 1000000) (hbase : w0.heap.size ≤ w.heap.size)
    (hK : ∀ v' w', Kept w0 w' v' (vs ++ [u]) (rs ++ [r]) → w.grownBy w' v.ownBlock → (v'.ownBlock = v.ownBlock ∨ v'.ownBlock = some w.heap.size) → wpList Tryz.prog ops Q rest (a.put o.dst v') w') :
    wpList Tryz.prog ops Q (o :: rest) a w := by
  obtain ⟨i0, hi, hz0, hz1, hz2⟩ := info_parts Tryz.info33p
  have hu1 : u.oneCell' = true := by
    obtain ⟨ao, c', rfl⟩ := Seg.shapeD hu
    rfl
  refine wpList_append_own_at w hgd s x 34 ho w0.heap.size 33 i0 (.slice none 0 0) 1 24 Tryz.underlying34 hi hz0 hz1 hz2 rfl (by decide) v rs.length vs hs hown.own ⟨g, 0, none⟩ 1 c [u] hx rfl (fun j y hy => ?_) (fun y hy => ?_) (by unfold maxLen; omega) (by omega) hbase ?_
  · match j, hy with
    | 0, hy => cases hy; exact hc
    | (j + 1), hy => cases hy
  · rw [show y = u by simpa using hy]; exact hu1
  intro v' w' h2 h3 _ h5
  refine hK v' w' ⟨by rw [List.length_append]; exact h2, fun i u' r' hu' hr' => ?_⟩ h3 h5
  have hl : vs.length = rs.length := by have := hown.own.1; omega
  rcases Nat.lt_or_ge i vs.length with hi' | hi'
  · rw [List.getElem?_append_left hi'] at hu'
    rw [List.getElem?_append_left (by omega)] at hr'
    exact hown.rows i u' r' hu' hr'
  · rw [List.getElem?_append_right hi'] at hu'
    rw [List.getElem?_append_right (by omega), ← hl] at hr'
    match hd : i - vs.length, hu', hr' with
    | 0, hu', hr' =>
      cases hu'; cases hr'
      exact hu
    | (j + 1), hu', hr' => simp at hu'
/-- The log, when the rows have grown. -/
theorem LogX.grow {B : Nat} {v v' : Value} {w w' : World} {G : Nat} {L : PLay} {s : DS} {l : LS} (h : LogX B (OwnOf v) w G L s l) (hg : w.grownBy w' v.ownBlock) (hv : v'.ownBlock = v.ownBlock ∨ v'.ownBlock = some w.heap.size) (hv2 : ∀ q, v'.ownBlock = some q → q < w'.heap.size) : LogX B (OwnOf v') w' G L s l := by
  obtain ⟨C, h1, h2, h3, h4⟩ := h
  have hc : Chg (OwnOf v) w w' := Chg.of_grown hg (fun k hk => hk)
  refine ⟨C, h1.chg hc (fun q hq e => (h2 q hq).2 e), fun q hq => ⟨(h2 q hq).1, fun e => ?_⟩, hv2, Nat.le_trans h4 hc.size⟩
  rcases hv with k | k
  · exact (h2 q hq).2 (k.symm.trans e)
  · have := h1.lt q hq
    have e : v'.ownBlock = some q := e
    rw [k] at e
    cases e
    omega
theorem Kept.lt {w0 w : World} {v : Value} {vs : List Value} {rs : List (List UInt8)} (h : Kept w0 w v vs rs) (q : Nat) (hq : v.ownBlock = some q) : q < w.heap.size := by
  rcases h.own.2 with ⟨rfl, e⟩ | ⟨g, cap, cur, rfl, hb, hg, _⟩
  · cases hq
  · cases hq
    exact Blk.lt (show Blk w g 33 cur from hg)
theorem Kept.ge {w0 w : World} {v : Value} {vs : List Value} {rs : List (List UInt8)} (h : Kept w0 w v vs rs) (q : Nat) (hq : v.ownBlock = some q) : w0.heap.size ≤ q := by
  rcases h.own.2 with ⟨rfl, e⟩ | ⟨g, cap, cur, rfl, hb, hg, _⟩
  · cases hq
  · cases hq
    exact hb
end Go.Proofs.YtojgeahablphbaaGreat
namespace Go.Proofs.YtojgeahablphbaaGreat
open Go.RowKit

/-- Both disks, side by side; w0 is the world ahead of both. -/
structure DP7 (w0 w : World) (L : PLay) (C : Nat → Prop) (M : RLay) (D : Nat → Prop) (s : DS) : Prop where
  p : OD w L C s
  r : OR w M D s
  off : ∀ q, C q → ¬ D q
  lc : ∀ q, C q → w0.heap.size ≤ q
  ld : ∀ q, D q → w0.heap.size ≤ q
  b : Below w0.heap.size w0 w
/-- Both logs. -/
structure WP7 (w0 w : World) (G : Nat) (L : PLay) (C : Nat → Prop) (H : Nat) (M : RLay) (D : Nat → Prop) (s : DS) (l : LS) : Prop where
  p : PB w G L C s l
  r : RB w H M D s l
  off : ∀ q, C q → ¬ D q
  lc : ∀ q, C q → w0.heap.size ≤ q
  ld : ∀ q, D q → w0.heap.size ≤ q
  b : Below w0.heap.size w0 w
theorem WP7.after {w0 w w' : World} {G : Nat} {L : PLay} {C : Nat → Prop} {H : Nat} {M : RLay} {D : Nat → Prop} {s : DS} {l : LS} (h : WP7 w0 w G L C H M D s l) (hb : Below w.heap.size w w') : WP7 w0 w' G L C H M D s l :=
  ⟨h.p.after hb, h.r.after hb, h.off, h.lc, h.ld, h.b.trans (hb.mono h.b.size)⟩
theorem DP7.after {w0 w w' : World} {L : PLay} {C : Nat → Prop} {M : RLay} {D : Nat → Prop} {s : DS} (h : DP7 w0 w L C M D s) (hb : Below w.heap.size w w') : DP7 w0 w' L C M D s :=
  ⟨h.p.after hb, h.r.after hb, h.off, h.lc, h.ld, h.b.trans (hb.mono h.b.size)⟩
theorem fr_off {C D : Nat → Prop} {w w1 w2 : World} (hoff : ∀ q, C q → ¬ D q) (hC : ∀ q, C q → q < w.heap.size) (hD : ∀ q, D q → q < w.heap.size) (h1 : w.heap.size ≤ w1.heap.size) : ∀ q, Fr C w w1 q → ¬ Fr D w1 w2 q := fun q hq hd => by
  rcases hq with hq | hq <;> rcases hd with hd | hd
  · exact hoff q hq hd
  · have := hC q hq; omega
  · have := hD q hd; omega
  · omega
theorem fr_low {C : Nat → Prop} {w0 w w1 : World} (hC : ∀ q, C q → w0.heap.size ≤ q) (h : w0.heap.size ≤ w.heap.size) : ∀ q, Fr C w w1 q → w0.heap.size ≤ q := fun q hq => by
  rcases hq with hq | hq
  · exact hC q hq
  · omega
/-- The document's log behind a change of the program's. -/
theorem WP7.mid {w0 w w1 : World} {G : Nat} {L : PLay} {C : Nat → Prop} {H : Nat} {M : RLay} {D : Nat → Prop} {s : DS} {l : LS} (h : WP7 w0 w G L C H M D s l) (hc : Chg C w w1) : RB w1 H M D s l :=
  h.r.chg hc (fun q hd hq => h.off q hq hd)
/-- Both do the same. -/
theorem WP7.both {w0 w w1 w2 : World} {G : Nat} {L : PLay} {C : Nat → Prop} {H : Nat} {M : RLay} {D : Nat → Prop} {s s' : DS} {l l' : LS} (h : WP7 w0 w G L C H M D s l) (hp : PB w1 G L (Fr C w w1) s' l') (hc1 : Chg C w w1) (hr : RB w2 H M (Fr D w1 w2) s' l') (hc2 : Chg D w1 w2) : WP7 w0 w2 G L (Fr C w w1) H M (Fr D w1 w2) s' l' :=
  have hs := hc1.size
  have hb1 : Below w0.heap.size w0 w1 := h.b.trans (hc1.below h.lc h.b.size)
  ⟨hp.chg hc2 (fun q hq hd => fr_off (w2 := w1) h.off h.p.lt h.r.lt hs q hq (.inl hd)), hr, fr_off h.off h.p.lt h.r.lt hs, fr_low h.lc h.b.size, fr_low h.ld hb1.size, hb1.trans (hc2.below h.ld hb1.size)⟩
theorem DP7.mid {w0 w w1 : World} {L : PLay} {C : Nat → Prop} {M : RLay} {D : Nat → Prop} {s : DS} (h : DP7 w0 w L C M D s) (hc : Chg C w w1) : OR w1 M D s :=
  h.r.chg hc (fun q hd hq => h.off q hq hd)
theorem DP7.both {w0 w w1 w2 : World} {L : PLay} {C : Nat → Prop} {M : RLay} {D : Nat → Prop} {s s' : DS} (h : DP7 w0 w L C M D s) (hp : OD w1 L (Fr C w w1) s') (hc1 : Chg C w w1) (hr : OR w2 M (Fr D w1 w2) s') (hc2 : Chg D w1 w2) : DP7 w0 w2 L (Fr C w w1) M (Fr D w1 w2) s' :=
  have hs := hc1.size
  have hb1 : Below w0.heap.size w0 w1 := h.b.trans (hc1.below h.lc h.b.size)
  ⟨hp.chg hc2 (fun q hq hd => fr_off (w2 := w1) h.off h.p.lt h.r.lt hs q hq (.inl hd)), hr, fr_off h.off h.p.lt h.r.lt hs, fr_low h.lc h.b.size, fr_low h.ld hb1.size, hb1.trans (hc2.below h.ld hb1.size)⟩
/-- The disks of logs. -/
theorem WP7.disks {w0 w : World} {G : Nat} {L : PLay} {C : Nat → Prop} {H : Nat} {M : RLay} {D : Nat → Prop} {s : DS} {l : LS} (h : WP7 w0 w G L C H M D s l) : ∃ CD, DP7 w0 w L CD M D s ∧ ∀ q, CD q → C q := by
  obtain ⟨CD, h1, h2⟩ := h.p.disk
  exact ⟨CD, ⟨h1, h.r.d, fun q hq => h.off q (h2 q hq), fun q hq => h.lc q (h2 q hq), h.ld, h.b⟩, h2⟩
/-- A step of the program's disk alone, beneath a log. -/
theorem PB.over {w : World} {G : Nat} {L : PLay} {C : Nat → Prop} {s : DS} {l : LS} (h : PB w G L C s l) : ∃ CD, OD w L CD s ∧ (∀ q, CD q → C q) ∧ ∀ w' s', s'.now.length = s.now.length → OD w' L (Fr CD w w') s' → Chg CD w w' → PB w' G L (Fr C w w') s' l ∧ Chg C w w' := by
  obtain ⟨CD, len, bg, tv, tb, h1, h2, h3, h4, h5, h6, h7, h8⟩ := h.body
  refine ⟨CD, h1, h2, fun w' s' hn k1 k2 => ?_⟩
  have hsz : sizeS s' = sizeS s := by unfold sizeS halfS; rw [hn]
  refine ⟨⟨⟨Fr CD w w', len, bg, tv, tb, k1, fun q hq => ?_, ?_, h4.chg k2 (fun k hk e => (h7 k hk).2 e), .inl h5, fun e => ?_, fun q hq => ⟨.inl (h7 q hq).1, fun e => ?_⟩, h8⟩, fun q hq => ?_, h.n, h.gen, h.b, h.sure, h.one⟩, k2.weaken h2⟩
  · rcases hq with hq | hq
    · exact .inl (h2 q hq)
    · exact .inr hq
  · rw [hsz]
    exact Blk.chg h3 k2 h6
  · rcases e with e | e
    · exact h6 e
    · have := h.lt G h5; omega
  · rcases e with e | e
    · exact (h7 q hq).2 e
    · have := h.lt q (h7 q hq).1; omega
  · rcases hq with hq | hq
    · exact Nat.lt_of_lt_of_le (h.lt q hq) k2.size
    · exact hq.2
theorem PB.now {w : World} {G : Nat} {L : PLay} {C : Nat → Prop} {s : DS} {l : LS} (h : PB w G L C s l) : s.now.length = L.n := by
  obtain ⟨CD, h1, _⟩ := h.disk
  exact h1.d.ok.now
/-- Rows of bytes that lie apart from such blocks. -/
def RowsO (w : World) (Z : Nat → Prop) (v : Value) (rs : List (List UInt8)) : Prop := ∃ ao c, v = .slice ao rs.length c ∧ rs.length ≤ maxLen ∧ ∀ (i : Nat) r, rs[i]? = some r → ∃ b off, ao = some ⟨b, off, none⟩ ∧ b < w.heap.size ∧ ¬ Z b ∧ ∃ u, w.cell? ⟨b, off + i, none⟩ = some u ∧ SegA w Z u r
theorem RowsO.rowsV {w : World} {Z : Nat → Prop} {v : Value} {rs : List (List UInt8)} (h : RowsO w Z v rs) : RowsV w v rs := by
  obtain ⟨ao, c, h1, h2, h3⟩ := h
  refine ⟨ao, c, h1, h2, fun i r hr => ?_⟩
  obtain ⟨b, off, e1, e2, _, u, e4, e5⟩ := h3 i r hr
  exact ⟨b, off, e1, e2, u, e4, e5.1⟩
theorem RowsO.keep {w w' : World} {S Z Z' : Nat → Prop} {v : Value} {rs : List (List UInt8)} (h : RowsO w Z v rs) (hc : Chg S w w') (hS : ∀ q, S q → q < w.heap.size → Z q) (hZ : ∀ q, Z' q → Z q ∨ w.heap.size ≤ q) : RowsO w' Z' v rs := by
  obtain ⟨ao, c, h1, h2, h3⟩ := h
  refine ⟨ao, c, h1, h2, fun i r hr => ?_⟩
  obtain ⟨b, off, e1, e2, e3, u, e4, e5⟩ := h3 i r hr
  refine ⟨b, off, e1, Nat.lt_of_lt_of_le e2 hc.size, fun e => ?_, u, ?_, e5.keep hc hS hZ⟩
  · rcases hZ b e with e | e
    · exact e3 e
    · omega
  · rw [World.cell?_of_block (hc.2 b e2 (fun e => e3 (hS b e e2)))]; exact e4
theorem own_apart {w : World} {base G : Nat} {t : TypeId} {cs : Array Value} {v : Value} {bs : List UInt8} (h : Own w base v bs) (hG : Blk w G t cs) (ht : t ≠ 5) : ∀ q, v.ownBlock = some q → q ≠ G := by
  rcases h.2 with ⟨rfl, e⟩ | ⟨g, cap, cur, rfl, hb, hg, _⟩
  · rintro q hq; cases hq
  · rintro q hq rfl
    obtain rfl : g = q := Option.some.inj hq
    have hg' : Blk w g 5 cur := hg
    have := hg'.symm.trans hG
    exact ht (by cases this; rfl)
theorem Gat.rowsO {w : World} {base : Nat} {Z : Nat → Prop} {v : Value} {vs : List Value} {rs : List (List UInt8)} {G H : Nat} {t u : TypeId} {cs ds : Array Value} (h : Gat w base v vs rs) (hm : rs.length ≤ maxLen) (hG : Blk w G t cs) (hH : Blk w H u ds) (ht : t ≠ 5 ∧ t ≠ 33) (hu : u ≠ 5 ∧ u ≠ 33) (hZ : ∀ q, Z q → q < base ∨ q = G ∨ q = H) : RowsO w Z v rs := by
  obtain ⟨h1, h2⟩ := h.own
  rcases h2 with ⟨rfl, e⟩ | ⟨g, cap, cur, rfl, hb, hg, hc, hcm, hcs, hk⟩
  · have e' : rs = [] := List.eq_nil_of_length_eq_zero e
    subst e'
    exact ⟨none, 0, rfl, hm, fun i r hr => by simp at hr⟩
  · refine ⟨_, _, rfl, hm, fun i r hr => ?_⟩
    have hi : i < rs.length := (List.getElem?_eq_some_iff.1 hr).1
    have hiv : i < vs.length := by omega
    have hg' : Blk w g 33 cur := hg
    have ho := h.rows i _ r (List.getElem?_eq_getElem hiv) hr
    refine ⟨g, 0, rfl, Blk.lt hg', fun e => ?_, vs[i], ?_, ho.seg, fun h0 q hq e => ?_⟩
    · rcases hZ g e with e | rfl | rfl
      · omega
      · exact ht.2 (by cases hg'.symm.trans hG; rfl)
      · exact hu.2 (by cases hg'.symm.trans hH; rfl)
    · rw [Nat.zero_add]
      refine Blk.cell hg' ?_
      have : (cur.toList.take (rs.length * 1))[i]? = some vs[i] := by rw [hk]; exact List.getElem?_eq_getElem hiv
      rw [List.getElem?_take_of_lt (by omega)] at this
      simpa using this
    · rcases hZ q e with e | e | e
      · have := (ho.blocks q hq).1; omega
      · exact own_apart ho hG ht.1 q hq e
      · exact own_apart ho hH hu.1 q hq e
theorem Own.segO {w : World} {base : Nat} {Z : Nat → Prop} {v : Value} {bs : List UInt8} {G H : Nat} {t u : TypeId} {cs ds : Array Value} (h : Own w base v bs) (hG : Blk w G t cs) (hH : Blk w H u ds) (ht : t ≠ 5) (hu : u ≠ 5) (hZ : ∀ q, Z q → q < base ∨ q = G ∨ q = H) : SegA w Z v bs :=
  ⟨h.seg, fun h0 q hq e => by
    rcases hZ q e with e | e | e
    · have := (h.blocks q hq).1; omega
    · exact own_apart h hG ht q hq e
    · exact own_apart h hH hu q hq e⟩
end Go.Proofs.YtojgeahablphbaaGreat
