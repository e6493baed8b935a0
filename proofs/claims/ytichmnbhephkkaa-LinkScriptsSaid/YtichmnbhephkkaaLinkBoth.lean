/-
  What is proved here: the program's link and the document's, side by side.
  Conditions: those that each fact names.
-/
import Derived.Test.YtichmnbhephkkaaLinkSteps
import Derived.Test.YtichmnbhephkkaaRefLinkT
import Derived.Test.YtichmnbhephkkaaRefLinkK
namespace Go.Proofs.Ytichmnbhephkkaa
open Go.RowKit

theorem LK.other {t : TypeId} {hd : KS → Value → Array Value} {w w1 : World} {T T' S : Nat → Prop} {lo G : Nat} {v : Value} {s : KS} (h : LK t hd w T lo G v s) (hT : ∀ q, T q → T' q) (hN : ∀ q, T' q → T q ∨ w.heap.size ≤ q) (hc : Chg S w w1) (hS : ∀ q, S q → T q) (hn : ∀ q, S q → ¬ LM G v q) (hl : ∀ q, T' q → q < w1.heap.size) (hg : ∀ q, T' q → lo ≤ q) : LK t hd w1 T' lo G v s :=
  ⟨h.head.chg hc (fun e => hn G e (.inl rfl)), (h.row.grow hN).chg hc (fun q e => hT q (hS q e)) (fun q hq e => hn q e (.inr hq)), h.ok, hT _ h.tG, fun q hq => hT q (h.tv q hq), hl, hg, h.ne⟩
/-- Both links, of one state. -/
structure BK (w : World) (T : Nat → Prop) (lo G G' : Nat) (v v' : Value) (s : KS) : Prop where
  p : LP w T lo G v s
  r : LR w T lo G' v' s
  d : ∀ q, LM G v q → ¬ LM G' v' q
theorem BK.new {w0 w1 w2 : World} {G : Nat} {e : Int} (h1 : 1 ≤ e) (h2 : e ≤ 1073741824) (hL : LP w1 (TG G) w0.heap.size G (.slice none 0 0) (newK e)) (hz : w0.heap.size ≤ w1.heap.size) (hk : Blk w2 w1.heap.size 47 (rlinkC (newK e) (.slice none 0 0))) (hb : Below w1.heap.size w1 w2) : BK w2 (fun q => q = G ∨ q = w1.heap.size) w0.heap.size G w1.heap.size (.slice none 0 0) (.slice none 0 0) (newK e) := by
  have hGl : G < w1.heap.size := hL.lt G rfl
  have hGg : w0.heap.size ≤ G := hL.ge G rfl
  have hk1 := hk.lt
  refine ⟨hL.other (S := fun _ => False) (fun q e => .inl e) (fun q e => ?_) (Chg.of_below hb (Nat.le_refl _)) (fun q e => e.elim) (fun q e => e.elim) (fun q e => ?_) (fun q e => ?_), ⟨hk, RowsO.nil _ _ _, newK_ok h1 h2, .inr rfl, (fun q hq => by cases hq), (fun q e => ?_), (fun q e => ?_), (by intro e; cases e)⟩, fun q e e' => ?_⟩
  · rcases e with e | e
    · exact .inl e
    · exact .inr (by omega)
  · rcases e with e | e <;> omega
  · rcases e with e | e <;> omega
  · rcases e with e | e <;> omega
  · rcases e with e | e <;> omega
  · rcases e with e | e
    · rcases e' with e' | e'
      · omega
      · cases e'
    · cases e
theorem BK.after {w w1 : World} {T : Nat → Prop} {lo G G' : Nat} {v v' : Value} {s : KS} (h : BK w T lo G G' v v' s) (hb : Below w.heap.size w w1) : BK w1 T lo G G' v v' s := ⟨h.p.after hb, h.r.after hb, h.d⟩
/-- The document's link behind a call of the program's. -/
theorem BK.mid {w w1 : World} {T : Nat → Prop} {lo G G' : Nat} {v v' : Value} {s : KS} (h : BK w T lo G G' v v' s) (hc : Chg (LM G v) w w1) : LR w1 T lo G' v' s := h.r.chg hc (fun q e => h.p.sub q e) (fun q e => h.d q e)
theorem LM_same {G : Nat} {v v1 : Value} (e : v1.ownBlock = v.ownBlock) (q : Nat) (h : LM G v1 q) : LM G v q := by
  rcases h with h | h
  · exact .inl h
  · exact .inr (by rw [← e]; exact h)
/-- Both behind a call of each. -/
theorem BK.join {w w1 w2 : World} {T : Nat → Prop} {lo G G' : Nat} {v v' v1 v1' : Value} {s s1 : KS} (h : BK w T lo G G' v v' s) (hp : LP w1 T lo G v1 s1) (ev : v1.ownBlock = v.ownBlock) (hr : LR w2 T lo G' v1' s1) (ev' : v1'.ownBlock = v'.ownBlock) (hc : Chg (LM G' v') w1 w2) : BK w2 T lo G G' v1 v1' s1 :=
  ⟨hp.chg hc (fun q e => h.r.sub q e) (fun q e e1 => h.d q (LM_same ev q e1) e), hr, fun q e e' => h.d q (LM_same ev q e) (LM_same ev' q e')⟩
/-- What the program's call told is as it was behind the document's call. -/
theorem BK.told {w w1 w2 : World} {T : Nat → Prop} {lo G G' : Nat} {v v' u : Value} {s : KS} {ps : List KP} (h : BK w T lo G G' v v' s) (hP : PksO w1 T w.heap.size u ps) (hc : Chg (LM G' v') w1 w2) : PksO w2 T w.heap.size u ps :=
  hP.chg hc (fun q e => h.r.sub q e) (fun q hq e => by have := (hP.lt q hq).1; have := h.r.lt q (h.r.sub q e); omega)
theorem BK.toldR {w w1 w2 : World} {T : Nat → Prop} {lo G G' : Nat} {v v' u : Value} {s : KS} {rs : List (List UInt8)} (h : BK w T lo G G' v v' s) (hP : RowsO w1 T w.heap.size u rs) (hc : Chg (LM G' v') w1 w2) : RowsO w2 T w.heap.size u rs :=
  hP.chg hc (fun q e => h.r.sub q e) (fun q hq e => by have := (hP.lt q hq).1; have := h.r.lt q (h.r.sub q e); omega)
/-- The document's link behind the program's Send. -/
theorem BK.sent {w w1 : World} {T : Nat → Prop} {lo G G' : Nat} {v v' v1 : Value} {s s1 : KS} (h : BK w T lo G G' v v' s) (hp : LP w1 (fun q => T q ∨ v1.ownBlock = some q) lo G v1 s1) (ev : v1.ownBlock = v.ownBlock ∨ ∀ q, v1.ownBlock = some q → w.heap.size ≤ q) (hc : Chg (LM G v) w w1) : LR w1 (fun q => T q ∨ v1.ownBlock = some q) lo G' v' s :=
  h.r.other (fun q e => .inl e) (fun q e => by
    rcases e with e | e
    · exact .inl e
    · rcases ev with k | k
      · exact .inl (h.p.tv q (by rw [← k]; exact e))
      · exact .inr (k q e)) hc (fun q e => h.p.sub q e) (fun q e => h.d q e) hp.lt hp.ge
theorem BK.both {w w1 w2 : World} {T : Nat → Prop} {lo G G' : Nat} {v v' v1 v1' : Value} {s s1 : KS} (h : BK w T lo G G' v v' s) (hp : LP w1 (fun q => T q ∨ v1.ownBlock = some q) lo G v1 s1) (ev : v1.ownBlock = v.ownBlock ∨ ∀ q, v1.ownBlock = some q → w.heap.size ≤ q) (_hz : w.heap.size ≤ w1.heap.size)
    (hr : LR w2 (fun q => (T q ∨ v1.ownBlock = some q) ∨ v1'.ownBlock = some q) lo G' v1' s1) (ev' : v1'.ownBlock = v'.ownBlock ∨ ∀ q, v1'.ownBlock = some q → w1.heap.size ≤ q) (hc : Chg (LM G' v') w1 w2) : BK w2 (fun q => (T q ∨ v1.ownBlock = some q) ∨ v1'.ownBlock = some q) lo G G' v1 v1' s1 := by
  have hG := h.p.lt G h.p.tG
  have hG' := h.r.lt G' h.r.tG
  have hd1 : ∀ q, LM G' v' q → ¬ LM G v1 q := fun q e e1 => by
    have hq := h.r.lt q (h.r.sub q e)
    rcases e1 with e1 | e1
    · exact h.d q (.inl e1) e
    · rcases ev with k | k
      · exact h.d q (.inr (by rw [← k]; exact e1)) e
      · have := k q e1; omega
  refine ⟨hp.other (fun q e => .inl e) (fun q e => ?_) hc (fun q e => .inl (h.r.sub q e)) hd1 hr.lt hr.ge, hr, fun q e e' => ?_⟩
  · rcases e with e | e
    · exact .inl e
    · rcases ev' with k | k
      · exact .inl (.inl (h.r.tv q (by rw [← k]; exact e)))
      · exact .inr (k q e)
  · rcases e' with e' | e'
    · exact hd1 q (.inl e') e
    · rcases ev' with k | k
      · exact hd1 q (.inr (by rw [← k]; exact e')) e
      · have := k q e'
        have := hp.lt q (hp.sub q e)
        omega
theorem tickK_few (s : KS) : (tickK s).1.length ≤ 1000 := by
  unfold tickK
  split
  · simp
  · show (datasK _ _ _).length ≤ 1000
    rw [datasK_len]
    unfold topK
    omega
theorem takeK_few (s : KS) (p : KP) : (takeK s p).1.length ≤ 1000 ∧ (takeK s p).2.1.length ≤ 1000 := by
  unfold takeK dataTakeK bringK
  repeat' split
  all_goals simp
/-- Bytes that came in lie apart from all that is written later. -/
theorem seg_apart {w0 V : World} {T : Nat → Prop} {lo : Nat} {v : Value} {bs : List UInt8} (h : Seg w0 v bs) (hb : Below w0.heap.size w0 V) (hlo : w0.heap.size ≤ lo) (hT : ∀ q, T q → lo ≤ q) : SegA V T v bs :=
  ⟨h.below hb (Nat.le_refl _), fun h0 q hq e => by have := h.in_heap h0 q hq; have := hT q e; omega⟩
end Go.Proofs.Ytichmnbhephkkaa
