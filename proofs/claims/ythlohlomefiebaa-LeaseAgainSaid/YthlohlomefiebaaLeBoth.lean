/-
  What is proved here: a table of the program's beside one of the document's: what becomes of both, call by call.
  Conditions: those that each fact names.
-/
import Derived.Test.YthlohlomefiebaaLeLoad
import Derived.Test.YthlohlomefiebaaLeSteps
import Derived.Test.YthlohlomefiebaaLeEq
import Derived.Test.YthlohlomefiebaaLeAwake
import Derived.Test.YthlohlomefiebaaRefLeGrant
import Derived.Test.YthlohlomefiebaaRefLeDo
import Derived.Test.YthlohlomefiebaaRefLeExp
import Derived.Test.YthlohlomefiebaaRefLeSame
namespace Go.Proofs.Ythlohlomefiebaa
open Go.RowKit Go.Maps

/-- Both tables, apart from each other. -/
structure TT (w : World) (lo G b G' : Nat) (v v' : Value) (l lr : List LE) : Prop where
  t : LeT w lo G b v l
  r : RfT w lo G' v' lr
  ap : ∀ q, LeM G b v q → ¬ RfM G' v' q
  lo : lo ≤ w.heap.size
theorem TT.after {B : Nat} {w w' : World} {lo G b G' : Nat} {v v' : Value} {l lr : List LE} (h : TT w lo G b G' v v' l lr) (hb : Below B w w') (hB : w.heap.size ≤ B) : TT w' lo G b G' v v' l lr := ⟨h.t.after hb hB, h.r.after hb hB, h.ap, Nat.le_trans h.lo hb.size⟩
theorem TT.chg {S : Nat → Prop} {w w' : World} {lo G b G' : Nat} {v v' : Value} {l lr : List LE} (h : TT w lo G b G' v v' l lr) (hc : Chg S w w') (h1 : ∀ q, LeM G b v q → ¬ S q) (h2 : ∀ q, RfM G' v' q → ¬ S q) : TT w' lo G b G' v v' l lr := ⟨h.t.chg hc h1, h.r.chg hc h2, h.ap, Nat.le_trans h.lo hc.size⟩
def NewL (w : World) (G b : Nat) (v v1 : Value) : Prop := ∀ q, LeM G b v1 q → LeM G b v q ∨ w.heap.size ≤ q
def NewR (w : World) (G : Nat) (v v1 : Value) : Prop := ∀ q, RfM G v1 q → RfM G v q ∨ w.heap.size ≤ q
theorem newL_of {w : World} {G b : Nat} {v v1 : Value} (h : ∀ q, v1.ownBlock = some q → v.ownBlock = some q ∨ w.heap.size ≤ q) : NewL w G b v v1 := fun q hq => by
  rcases hq with e | e | e
  · exact .inl (.inl e)
  · exact .inl (.inr (.inl e))
  · exact (h q e).imp_left (fun k => .inr (.inr k))
theorem newR_of {w : World} {G : Nat} {v v1 : Value} (h : ∀ q, v1.ownBlock = some q → v.ownBlock = some q ∨ w.heap.size ≤ q) : NewR w G v v1 := fun q hq => by
  rcases hq with e | e
  · exact .inl (.inl e)
  · exact (h q e).imp_left (fun k => .inr k)
/-- What a call of the program's table leaves. -/
def PostP (w : World) (lo G b : Nat) (v : Value) (l2 : List LE) (w' : World) : Prop := ∃ v1, LeT w' lo G b v1 l2 ∧ NewL w G b v v1 ∧ Chg (LeM G b v) w w'
def PostR (w : World) (lo G : Nat) (v : Value) (l2 : List LE) (w' : World) : Prop := ∃ v1, RfT w' lo G v1 l2 ∧ NewR w G v v1 ∧ Chg (RfM G v) w w'
theorem TT.one {w w' : World} {lo G b G' : Nat} {v v' v1 : Value} {l lr l2 : List LE} (h : TT w lo G b G' v v' l lr) (hT : LeT w' lo G b v1 l2) (hn : NewL w G b v v1) (hc : Chg (LeM G b v) w w') : TT w' lo G b G' v1 v' l2 lr := by
  refine ⟨hT, h.r.chg hc (fun q hq e => h.ap q e hq), fun q hq hr => ?_, Nat.le_trans h.lo hc.size⟩
  rcases hn q hq with k | k
  · exact h.ap q k hr
  · have := h.r.lt q hr; omega
theorem TT.two {w w' : World} {lo G b G' : Nat} {v v' v1 : Value} {l lr l2 : List LE} (h : TT w lo G b G' v v' l lr) (hR : RfT w' lo G' v1 l2) (hn : NewR w G' v' v1) (hc : Chg (RfM G' v') w w') : TT w' lo G b G' v v1 l l2 := by
  refine ⟨h.t.chg hc (fun q hq e => h.ap q hq e), hR, fun q hq hr => ?_, Nat.le_trans h.lo hc.size⟩
  rcases hn q hr with k | k
  · exact h.ap q hq k
  · have := h.t.lt q hq; omega
/-- What a step leaves of both. -/
def PostB (w : World) (lo G b G' : Nat) (v v' : Value) (l lr : List LE) (w' : World) : Prop := ∃ v1 v2, TT w' lo G b G' v1 v2 l lr ∧ NewL w G b v v1 ∧ NewR w G' v' v2 ∧ Chg (fun q => LeM G b v q ∨ RfM G' v' q) w w'
theorem newL_refl (w : World) (G b : Nat) (v : Value) : NewL w G b v v := fun _ h => .inl h
theorem newR_refl (w : World) (G : Nat) (v : Value) : NewR w G v v := fun _ h => .inl h
theorem grantP {w : World} {lo G b : Nat} {v : Value} {l : List LE} (h : LeT w lo G b v l) (hlo : lo ≤ w.heap.size) (d now life : Int) (h1 : -9223372036854775808 ≤ d) (h2 : d ≤ 9223372036854775807) : Calls Try.prog 16 #[.pointer (some ⟨G, 0, none⟩), .int .i64 d, .int .i64 now, .int .i64 life] w fun e w' => e = .returned (.tuple #[leV (grantT l d now life).1.1, .int .i64 (grantT l d now life).1.2]) ∧ PostP w lo G b v (grantT l d now life).2 w' :=
  (grant16_any h hlo d now life h1 h2).mono (fun _ _ ⟨a, v1, c, d, e⟩ => ⟨a, v1, c, newL_of d, e⟩)
theorem renewP {w : World} {lo G b : Nat} {v : Value} {l : List LE} (h : LeT w lo G b v l) (n now life : Int) : Calls Try.prog 17 #[.pointer (some ⟨G, 0, none⟩), .int .i64 n, .int .i64 now, .int .i64 life] w fun e w' => e = .returned (.tuple #[leV (renewT l n now life).1.1, .int .i64 (renewT l n now life).1.2]) ∧ PostP w lo G b v (renewT l n now life).2 w' :=
  (renew16_any h n now life).mono (fun _ _ ⟨a, c, e⟩ => ⟨a, v, c, newL_refl _ _ _ _, e⟩)
theorem endP {w : World} {lo G b : Nat} {v : Value} {l : List LE} (h : LeT w lo G b v l) (n : Int) : Calls Try.prog 18 #[.pointer (some ⟨G, 0, none⟩), .int .i64 n] w fun e w' => e = .returned (.int .i64 (endT l n).1) ∧ PostP w lo G b v (endT l n).2 w' :=
  (end16_any h n).mono (fun _ _ ⟨a, c, e⟩ => ⟨a, v, c, newL_refl _ _ _ _, e⟩)
theorem expireP {w : World} {lo G b : Nat} {v : Value} {l : List LE} (h : LeT w lo G b v l) (now : Int) : Calls Try.prog 19 #[.pointer (some ⟨G, 0, none⟩), .int .i64 now] w fun e w' => ∃ u, e = .returned (.tuple #[u, .int .i64 (expT l now).1.2]) ∧ LeR w' w.heap.size u (expT l now).1.1 ∧ PostP w lo G b v (expT l now).2 w' :=
  (expire16_any h now).mono (fun _ _ ⟨u, a, c, d, e⟩ => ⟨u, a, d, v, c, newL_refl _ _ _ _, e⟩)
theorem ofP {w : World} {lo G b : Nat} {v : Value} {l : List LE} (h : LeT w lo G b v l) (q : Int) (h1 : -9223372036854775808 ≤ q) (h2 : q ≤ 9223372036854775807) : Calls Try.prog 20 #[.pointer (some ⟨G, 0, none⟩), .int .i64 q] w fun e w' => e = .returned (.tuple #[leV (ofT l q).1, .bool (ofT l q).2]) ∧ PostP w lo G b v l w' :=
  (of16_any h q h1 h2).mono (fun _ _ ⟨a, c⟩ => ⟨a, v, h.after c (Nat.le_refl _), newL_refl _ _ _ _, Chg.of_below c (Nat.le_refl _)⟩)
theorem atP {w : World} {lo G b : Nat} {v : Value} {l : List LE} (h : LeT w lo G b v l) (n : Int) : Calls Try.prog 21 #[.pointer (some ⟨G, 0, none⟩), .int .i64 n] w fun e w' => e = .returned (.tuple #[leV (ansAt l n).1, .int .i64 (ansAt l n).2]) ∧ PostP w lo G b v l w' :=
  (at16_any h n).mono (fun _ _ ⟨a, c⟩ => ⟨a, v, h.after c (Nat.le_refl _), newL_refl _ _ _ _, Chg.of_below c (Nat.le_refl _)⟩)
theorem rgrantP {w : World} {lo G : Nat} {v : Value} {l : List LE} (h : RfT w lo G v l) (hlo : lo ≤ w.heap.size) (d now life : Int) : Calls Try.prog 22 #[.pointer (some ⟨G, 0, none⟩), .int .i64 d, .int .i64 now, .int .i64 life] w fun e w' => e = .returned (.tuple #[leV (grantT l d now life).1.1, .int .i64 (grantT l d now life).1.2]) ∧ PostR w lo G v (grantT l d now life).2 w' :=
  (rgrant16_any h hlo d now life).mono (fun _ _ ⟨a, v1, c, d, e⟩ => ⟨a, v1, c, newR_of d, e⟩)
theorem rrenewP {w : World} {lo G : Nat} {v : Value} {l : List LE} (h : RfT w lo G v l) (n now life : Int) : Calls Try.prog 23 #[.pointer (some ⟨G, 0, none⟩), .int .i64 n, .int .i64 now, .int .i64 life] w fun e w' => e = .returned (.tuple #[leV (renewT l n now life).1.1, .int .i64 (renewT l n now life).1.2]) ∧ PostR w lo G v (renewT l n now life).2 w' :=
  (rrenew16_any h n now life).mono (fun _ _ ⟨a, c, e⟩ => ⟨a, v, c, newR_refl _ _ _, e⟩)
theorem rendP {w : World} {lo G : Nat} {v : Value} {l : List LE} (h : RfT w lo G v l) (n : Int) : Calls Try.prog 24 #[.pointer (some ⟨G, 0, none⟩), .int .i64 n] w fun e w' => e = .returned (.int .i64 (endT l n).1) ∧ PostR w lo G v (endT l n).2 w' :=
  (rend16_any h n).mono (fun _ _ ⟨a, c, e⟩ => ⟨a, v, c, newR_refl _ _ _, e⟩)
theorem rexpireP {w : World} {lo G : Nat} {v : Value} {l : List LE} (h : RfT w lo G v l) (now : Int) : Calls Try.prog 25 #[.pointer (some ⟨G, 0, none⟩), .int .i64 now] w fun e w' => ∃ u, e = .returned (.tuple #[u, .int .i64 (expT l now).1.2]) ∧ LeR w' w.heap.size u (expT l now).1.1 ∧ PostR w lo G v (expT l now).2 w' :=
  (rexpire16_any h now).mono (fun _ _ ⟨u, a, c, d, e⟩ => ⟨u, a, d, v, c, newR_refl _ _ _, e⟩)
theorem rofP {w : World} {lo G : Nat} {v : Value} {l : List LE} (h : RfT w lo G v l) (q : Int) : Calls Try.prog 26 #[.pointer (some ⟨G, 0, none⟩), .int .i64 q] w fun e w' => e = .returned (.tuple #[leV (ofT l q).1, .bool (ofT l q).2]) ∧ PostR w lo G v l w' :=
  (rof16_any h q).mono (fun _ _ ⟨a, c⟩ => ⟨a, v, h.after c (Nat.le_refl _), newR_refl _ _ _, Chg.of_below c (Nat.le_refl _)⟩)
theorem ratP {w : World} {lo G : Nat} {v : Value} {l : List LE} (h : RfT w lo G v l) (n : Int) : Calls Try.prog 27 #[.pointer (some ⟨G, 0, none⟩), .int .i64 n] w fun e w' => e = .returned (.tuple #[leV (ansAt l n).1, .int .i64 (ansAt l n).2]) ∧ PostR w lo G v l w' :=
  (rat16_any h n).mono (fun _ _ ⟨a, c⟩ => ⟨a, v, h.after c (Nat.le_refl _), newR_refl _ _ _, Chg.of_below c (Nat.le_refl _)⟩)
/-- Behind the program's call, with blocks laid that are none of theirs. -/
def Mid (w W : World) (lo G b G' : Nat) (v v' : Value) (l2 lr : List LE) : Prop := ∃ v1, TT W lo G b G' v1 v' l2 lr ∧ NewL w G b v v1 ∧ Chg (fun q => LeM G b v q ∨ RfM G' v' q) w W
theorem mid_of {w W0 w2 W2 : World} {lo G b G' : Nat} {v v' : Value} {l lr l2 : List LE} (h : TT w lo G b G' v v' l lr) (h0 : Below w.heap.size w W0) (h1 : PostP W0 lo G b v l2 w2) (h2 : Below w2.heap.size w2 W2) : Mid w W2 lo G b G' v v' l2 lr := by
  have hW0 := h.after h0 (Nat.le_refl _)
  obtain ⟨v1, a1, a2, a3⟩ := h1
  have hw2 := (hW0.one a1 a2 a3).after h2 (Nat.le_refl _)
  have s0 := h0.size
  exact ⟨v1, hw2, fun q hq => (a2 q hq).imp_right (fun k => by omega), ((Chg.of_below (S := fun q => LeM G b v q ∨ RfM G' v' q) h0 (Nat.le_refl _)).trans (S' := LeM G b v) a3 (fun _ _ e => .inl e)).trans (S' := fun _ => False) (Chg.of_below h2 (Nat.le_refl _)) (fun _ _ e => e.elim)⟩
theorem Mid.ref {w W : World} {lo G b G' : Nat} {v v' : Value} {l2 lr : List LE} (h : Mid w W lo G b G' v v' l2 lr) : RfT W lo G' v' lr ∧ lo ≤ W.heap.size := by
  obtain ⟨v1, h1, _⟩ := h
  exact ⟨h1.r, h1.lo⟩
theorem Mid.chg {w W : World} {lo G b G' : Nat} {v v' : Value} {l2 lr : List LE} (h : Mid w W lo G b G' v v' l2 lr) : Chg (fun q => LeM G b v q ∨ RfM G' v' q) w W := by
  obtain ⟨v1, _, _, h1⟩ := h
  exact h1
theorem end_of {w W2 w3 W3 : World} {lo G b G' : Nat} {v v' : Value} {l2 lr lr2 : List LE} (h : Mid w W2 lo G b G' v v' l2 lr) (h3 : PostR W2 lo G' v' lr2 w3) (h4 : Below w3.heap.size w3 W3) : PostB w lo G b G' v v' l2 lr2 W3 := by
  obtain ⟨v1, hw2, hn, hc⟩ := h
  obtain ⟨v2, b1, b2, b3⟩ := h3
  have hw3 := (hw2.two b1 b2 b3).after h4 (Nat.le_refl _)
  have s0 := hc.size
  exact ⟨v1, v2, hw3, hn, fun q hq => (b2 q hq).imp_right (fun k => by omega), (hc.trans (S' := RfM G' v') b3 (fun _ _ e => .inr e)).trans (S' := fun _ => False) (Chg.of_below h4 (Nat.le_refl _)) (fun _ _ e => e.elim)⟩
/-- A block of a call's own keeps, whatever the tables do. -/
theorem Blk.past {w W : World} {lo G b G' : Nat} {v v' : Value} {l lr : List LE} (h : TT w lo G b G' v v' l lr) {W0 : World} {q : Nat} {t : TypeId} {cs : Array Value} (hk : Blk W0 q t cs) (hq : w.heap.size ≤ q) (hc : Chg (fun q => LeM G b v q ∨ RfM G' v' q) W0 W) : Blk W q t cs := hk.chg hc (fun e => by
  rcases e with e | e
  · have := h.t.lt q e; omega
  · have := h.r.lt q e; omega)
end Go.Proofs.Ythlohlomefiebaa
