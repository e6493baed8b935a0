/-
  What is proved here: the program's log beside rows that a call gathers: what the log does keeps these rows.
  Conditions: those that each fact names.
-/
import Derived.Test.YtdojdkmchipccaaWalMore
import Derived.Test.YtdojdkmchipccaaWalSame
import Derived.Test.YtdojdkmchipccaaWalGat
namespace Go.Proofs.Ytdojdkmchipccaa
open Go.RowKit

def Off (B : Nat) (D : Nat → Prop) : Nat → Prop := fun q => B ≤ q ∧ ¬ D q
def LogX (B : Nat) (D : Nat → Prop) (w : World) (G : Nat) (L : PLay) (s : DS) (l : LS) : Prop := ∃ C, PB w G L C s l ∧ (∀ q, C q → Off B D q) ∧ (∀ q, D q → q < w.heap.size) ∧ B ≤ w.heap.size
def DiskX (B : Nat) (D : Nat → Prop) (w : World) (L : PLay) (s : DS) : Prop := ∃ C, OD w L C s ∧ (∀ q, C q → Off B D q) ∧ (∀ q, D q → q < w.heap.size) ∧ B ≤ w.heap.size
theorem LogAt.x {B : Nat} {w : World} {G : Nat} {L : PLay} {s : DS} {l : LS} (h : LogAt B w G L s l) (D : Nat → Prop) (hD : ∀ q, ¬ D q) : LogX B D w G L s l := by
  obtain ⟨C, h1, h2, h3⟩ := h
  exact ⟨C, h1, fun q hq => ⟨h2 q hq, hD q⟩, fun q hq => absurd hq (hD q), h3⟩
theorem LogX.le {B : Nat} {D : Nat → Prop} {w : World} {G : Nat} {L : PLay} {s : DS} {l : LS} (h : LogX B D w G L s l) : B ≤ w.heap.size := h.choose_spec.2.2.2
theorem DiskX.le {B : Nat} {D : Nat → Prop} {w : World} {L : PLay} {s : DS} (h : DiskX B D w L s) : B ≤ w.heap.size := h.choose_spec.2.2.2
theorem LogX.disk {B : Nat} {D : Nat → Prop} {w : World} {G : Nat} {L : PLay} {s : DS} {l : LS} (h : LogX B D w G L s l) : DiskX B D w L s := by
  obtain ⟨C, h1, h2, h3⟩ := h
  obtain ⟨CD, k1, k2⟩ := h1.disk
  exact ⟨CD, k1, fun q hq => h2 q (k2 q hq), h3⟩
theorem DiskX.d {B : Nat} {D : Nat → Prop} {w : World} {L : PLay} {s : DS} (h : DiskX B D w L s) : DiskAt B w L s := by
  obtain ⟨C, h1, h2, h3, h4⟩ := h
  exact ⟨C, h1, fun q hq => (h2 q hq).1, h4⟩
theorem LogX.after {B : Nat} {D : Nat → Prop} {w w' : World} {G : Nat} {L : PLay} {s : DS} {l : LS} (h : LogX B D w G L s l) (hb : Below w.heap.size w w') : LogX B D w' G L s l := by
  obtain ⟨C, h1, h2, h3, h4⟩ := h
  exact ⟨C, h1.after hb, h2, fun q hq => Nat.lt_of_lt_of_le (h3 q hq) hb.size, Nat.le_trans h4 hb.size⟩
theorem x_fr {C : Nat → Prop} {B : Nat} {D : Nat → Prop} {w w' : World} (h : ∀ q, C q → Off B D q) (hD : ∀ q, D q → q < w.heap.size) (hB : B ≤ w.heap.size) (q : Nat) (hq : Fr C w w' q) : Off B D q := by
  rcases hq with e | e
  · exact h q e
  · exact ⟨Nat.le_trans hB e.1, fun d => by have := hD q d; omega⟩
theorem off_below {B : Nat} {D : Nat → Prop} {w w' : World} (h : Chg (Off B D) w w') (hB : B ≤ w.heap.size) : Below B w w' := h.below (fun _ hk => hk.1) hB
theorem x_check {B : Nat} {D : Nat → Prop} {w : World} {G : Nat} {L : PLay} {s : DS} {l : LS} (h : LogX B D w G L s l) (x : Value) (st : List UInt8) (hS : Seg w x st) (hm : st.length ≤ 1000000) :
    Calls Try.prog 16 #[.pointer (some ⟨G, 0, none⟩), x] w fun e w' => e = .returned (.int .i64 (checkW s l st).1) ∧ LogX B D w' G L (checkW s l st).2.1 (checkW s l st).2.2 ∧ Chg (Off B D) w w' := by
  obtain ⟨C, h1, h2, h3, h4⟩ := h
  refine (pb_check h1 x st hS hm).mono ?_
  rintro e w' ⟨rfl, hP, hc⟩
  exact ⟨rfl, ⟨_, hP, x_fr h2 h3 h4, fun q hq => Nat.lt_of_lt_of_le (h3 q hq) hc.size, Nat.le_trans h4 hc.size⟩, hc.weaken h2⟩


/-- Rows that came in, in a slice of the call's own. -/
structure Kept (w0 w : World) (v : Value) (vs : List Value) (rs : List (List UInt8)) : Prop where
  own : w.ownsRow w0.heap.size 22 1 v rs.length vs
  rows : ∀ (i : Nat) u r, vs[i]? = some u → rs[i]? = some r → Seg w0 u r
def OwnOf (v : Value) : Nat → Prop := fun q => v.ownBlock = some q
theorem Kept.nil (w0 w : World) : Kept w0 w (.slice none 0 0) [] [] := ⟨⟨rfl, .inl ⟨rfl, rfl⟩⟩, fun i u r h => by simp at h⟩
theorem Kept.chg {w0 w w' : World} {v : Value} {vs : List Value} {rs : List (List UInt8)} {B : Nat} (h : Kept w0 w v vs rs) (hc : Chg (Off B (OwnOf v)) w w') : Kept w0 w' v vs rs :=
  ⟨ownsRow_chg h.own hc (fun _ hk e => e.2 hk), h.rows⟩
theorem Kept.after {w0 w w' : World} {v : Value} {vs : List Value} {rs : List (List UInt8)} (h : Kept w0 w v vs rs) (hb : Below w.heap.size w w') : Kept w0 w' v vs rs :=
  ⟨ownsRow_chg h.own (Chg.of_below (S := fun _ => False) hb (Nat.le_refl _)) (fun _ _ => id), h.rows⟩
theorem Kept.sl {w0 w : World} {v : Value} {vs : List Value} {rs : List (List UInt8)} (h : Kept w0 w v vs rs) : ∃ ao c, v = .slice ao rs.length c := by
  rcases h.own.2 with ⟨rfl, e⟩ | ⟨g, cap, cur, rfl, _⟩
  · exact ⟨none, 0, by rw [e]⟩
  · exact ⟨_, _, rfl⟩
theorem Kept.rowsV {w0 w : World} {v : Value} {vs : List Value} {rs : List (List UInt8)} (h : Kept w0 w v vs rs) (hB : Below w0.heap.size w0 w) (hm : rs.length ≤ maxLen) : RowsV w v rs := by
  obtain ⟨h1, h2⟩ := h.own
  rcases h2 with ⟨rfl, e⟩ | ⟨g, cap, cur, rfl, hb, hg, hc, hcm, hcs, ht⟩
  · have e' : rs = [] := List.eq_nil_of_length_eq_zero e
    subst e'
    exact ⟨none, 0, rfl, hm, fun i r hr => by simp at hr⟩
  · refine ⟨_, _, rfl, hm, fun i r hr => ?_⟩
    have hi : i < rs.length := (List.getElem?_eq_some_iff.1 hr).1
    have hiv : i < vs.length := by omega
    refine ⟨g, 0, rfl, Blk.lt (show Blk w g 22 cur from hg), vs[i], ?_, (h.rows i _ r (List.getElem?_eq_getElem hiv) hr).below hB (Nat.le_refl _)⟩
    rw [Nat.zero_add]
    refine Blk.cell (show Blk w g 22 cur from hg) ?_
    have : (cur.toList.take (rs.length * 1))[i]? = some vs[i] := by rw [ht]; exact List.getElem?_eq_getElem hiv
    rw [List.getElem?_take_of_lt (by omega)] at this
    simpa using this
theorem Gat.rowsV {w : World} {base : Nat} {v : Value} {vs : List Value} {rs : List (List UInt8)} (h : Gat w base v vs rs) (hm : rs.length ≤ maxLen) : RowsV w v rs := by
  obtain ⟨h1, h2⟩ := h.own
  rcases h2 with ⟨rfl, e⟩ | ⟨g, cap, cur, rfl, hb, hg, hc, hcm, hcs, ht⟩
  · have e' : rs = [] := List.eq_nil_of_length_eq_zero e
    subst e'
    exact ⟨none, 0, rfl, hm, fun i r hr => by simp at hr⟩
  · refine ⟨_, _, rfl, hm, fun i r hr => ?_⟩
    have hi : i < rs.length := (List.getElem?_eq_some_iff.1 hr).1
    have hiv : i < vs.length := by omega
    refine ⟨g, 0, rfl, Blk.lt (show Blk w g 22 cur from hg), vs[i], ?_, (h.rows i _ r (List.getElem?_eq_getElem hiv) hr).seg⟩
    rw [Nat.zero_add]
    refine Blk.cell (show Blk w g 22 cur from hg) ?_
    have : (cur.toList.take (rs.length * 1))[i]? = some vs[i] := by rw [ht]; exact List.getElem?_eq_getElem hiv
    rw [List.getElem?_take_of_lt (by omega)] at this
    simpa using this
/-- append of one more row that came in. -/
theorem app_kept (w : World) {ops : Array Oper} {rest : List Oper} {o : Oper} {a : Act} {Q : Exit → Act → World → Prop} (hgd : o.guard = none) (s x : Operand)
    (ho : o.op = .call { callee := .builtin .append, args := #[s, x], argTypes := #[39, 39] })
    (w0 : World) (v : Value) (vs : List Value) (rs : List (List UInt8)) (hs : a.eval s = v) (hown : Kept w0 w v vs rs) (g c : Nat) (u : Value) (r : List UInt8) (hx : a.eval x = .slice (some ⟨g, 0, none⟩) 1 c) (hc : w.cell? ⟨g, 0, none⟩ = some u) (hu : Seg w0 u r)
    (hlen : rs.length ≤ 1000000) (hbase : w0.heap.size ≤ w.heap.size)
    (hK : ∀ v' w', Kept w0 w' v' (vs ++ [u]) (rs ++ [r]) → w.grownBy w' v.ownBlock → (v'.ownBlock = v.ownBlock ∨ v'.ownBlock = some w.heap.size) → wpList Try.prog ops Q rest (a.put o.dst v') w') :
    wpList Try.prog ops Q (o :: rest) a w := by
  obtain ⟨i0, hi, hz0, hz1, hz2⟩ := info_parts Try.info22p
  have hu1 : u.oneCell' = true := by
    obtain ⟨ao, c', rfl⟩ := Seg.shapeD hu
    rfl
  refine wpList_append_own_at w hgd s x 39 ho w0.heap.size 22 i0 (.slice none 0 0) 1 24 Try.underlying39 hi hz0 hz1 hz2 rfl (by decide) v rs.length vs hs hown.own ⟨g, 0, none⟩ 1 c [u] hx rfl (fun j y hy => ?_) (fun y hy => ?_) (by unfold maxLen; omega) (by omega) hbase ?_
  · match j, hy with
    | 0, hy => cases hy; exact hc
    | (j + 1), hy => cases hy
  · rw [show y = u by simpa using hy]; exact hu1
  intro v' w' h2 h3 _ h5
  refine hK v' w' ⟨by rw [List.length_append]; exact h2, fun i u' r' hu' hr' => ?_⟩ h3 h5
  have hl : vs.length = rs.length := by have := hown.own.1; omega
  rcases Nat.lt_or_ge i vs.length with hi' | hi'
  · rw [List.getElem?_append_left hi'] at hu'
    rw [List.getElem?_append_left (by omega)] at hr'
    exact hown.rows i u' r' hu' hr'
  · rw [List.getElem?_append_right hi'] at hu'
    rw [List.getElem?_append_right (by omega), ← hl] at hr'
    match hd : i - vs.length, hu', hr' with
    | 0, hu', hr' =>
      cases hu'; cases hr'
      exact hu
    | (j + 1), hu', hr' => simp at hu'
/-- The log, when the rows have grown. -/
theorem LogX.grow {B : Nat} {v v' : Value} {w w' : World} {G : Nat} {L : PLay} {s : DS} {l : LS} (h : LogX B (OwnOf v) w G L s l) (hg : w.grownBy w' v.ownBlock) (hv : v'.ownBlock = v.ownBlock ∨ v'.ownBlock = some w.heap.size) (hv2 : ∀ q, v'.ownBlock = some q → q < w'.heap.size) : LogX B (OwnOf v') w' G L s l := by
  obtain ⟨C, h1, h2, h3, h4⟩ := h
  have hc : Chg (OwnOf v) w w' := Chg.of_grown hg (fun k hk => hk)
  refine ⟨C, h1.chg hc (fun q hq e => (h2 q hq).2 e), fun q hq => ⟨(h2 q hq).1, fun e => ?_⟩, hv2, Nat.le_trans h4 hc.size⟩
  rcases hv with k | k
  · exact (h2 q hq).2 (k.symm.trans e)
  · have := h1.lt q hq
    have e : v'.ownBlock = some q := e
    rw [k] at e
    cases e
    omega
theorem Kept.lt {w0 w : World} {v : Value} {vs : List Value} {rs : List (List UInt8)} (h : Kept w0 w v vs rs) (q : Nat) (hq : v.ownBlock = some q) : q < w.heap.size := by
  rcases h.own.2 with ⟨rfl, e⟩ | ⟨g, cap, cur, rfl, hb, hg, _⟩
  · cases hq
  · cases hq
    exact Blk.lt (show Blk w g 22 cur from hg)
theorem Kept.ge {w0 w : World} {v : Value} {vs : List Value} {rs : List (List UInt8)} (h : Kept w0 w v vs rs) (q : Nat) (hq : v.ownBlock = some q) : w0.heap.size ≤ q := by
  rcases h.own.2 with ⟨rfl, e⟩ | ⟨g, cap, cur, rfl, hb, hg, _⟩
  · cases hq
  · cases hq
    exact hb
end Go.Proofs.Ytdojdkmchipccaa
