/-
  What is proved here: plain facts on acts as they lie in memory. acts that came in lie apart from what is laid later. a step at both logs leaves them alike, and the law's 'do' says so.
  Conditions: those that each fact names. both logs lie in memory, apart from one another and from the step.
-/
import Derived.Test.YtojgeahablphbaaGreatJShaPure
import Derived.Test.YtojgeahablphbaaGreatJDiskInts
import Derived.Test.YtojgeahablphbaaGreatJWalSegs
namespace Go.Proofs.YtojgeahablphbaaGreat
open Go.RowKit

structure ActP where
  act : Int
  k : Int
  n : Int
  b : List UInt8
  stay : List Bool
instance actP_inhabited : Inhabited ActP := ⟨⟨0, 0, 0, [], []⟩⟩
/-- Booleans lie here. -/
def BoolsIn (W : World) (v : Value) (l : List Bool) : Prop := ∃ ao c, v = .slice ao l.length c ∧ ∀ (j : Nat) b, l[j]? = some b → ∃ q off, ao = some ⟨q, off, none⟩ ∧ q < W.heap.size ∧ W.cell? ⟨q, off + j, none⟩ = some (.bool b)
/-- An act's bytes and booleans lie here. -/
structure ActAt (W : World) (bv sv : Value) (a : ActP) : Prop where
  b : Seg W bv a.b
  bm : a.b.length ≤ maxLen
  s : BoolsIn W sv a.stay
  sm : a.stay.length ≤ maxLen
/-- An act lies in these five cells. -/
def ActCells (W : World) (q off : Nat) (a : ActP) : Prop := q < W.heap.size ∧ W.cell? ⟨q, off, none⟩ = some (.int .i64 a.act) ∧ W.cell? ⟨q, off + 1, none⟩ = some (.int .i64 a.k) ∧ W.cell? ⟨q, off + 2, none⟩ = some (.int .i64 a.n) ∧ ∃ bv sv, W.cell? ⟨q, off + 3, none⟩ = some bv ∧ W.cell? ⟨q, off + 4, none⟩ = some sv ∧ ActAt W bv sv a
def ActsIn (W : World) (v : Value) (l : List ActP) : Prop := ∃ ao c, v = .slice ao l.length c ∧ l.length ≤ maxLen ∧ ∀ (i : Nat) a, l[i]? = some a → ∃ q off, ao = some ⟨q, off, none⟩ ∧ ActCells W q (off + 5 * i) a
theorem BoolsIn.below {w w' : World} {B : Nat} {v : Value} {l : List Bool} (h : BoolsIn w v l) (hb : Below B w w') (hB : w.heap.size ≤ B) : BoolsIn w' v l := by
  obtain ⟨ao, c, h1, h2⟩ := h
  refine ⟨ao, c, h1, fun j b hj => ?_⟩
  obtain ⟨q, off, e, hq, hc⟩ := h2 j b hj
  exact ⟨q, off, e, Nat.lt_of_lt_of_le hq hb.size, by rw [hb.cell (p := ⟨q, off + j, none⟩) (Nat.lt_of_lt_of_le hq hB)]; exact hc⟩
theorem ActAt.below {w w' : World} {B : Nat} {bv sv : Value} {a : ActP} (h : ActAt w bv sv a) (hb : Below B w w') (hB : w.heap.size ≤ B) : ActAt w' bv sv a := ⟨h.b.below hb hB, h.bm, h.s.below hb hB, h.sm⟩
theorem ActCells.below {w w' : World} {B q off : Nat} {a : ActP} (h : ActCells w q off a) (hb : Below B w w') (hB : w.heap.size ≤ B) : ActCells w' q off a := by
  obtain ⟨hq, h1, h2, h3, bv, sv, h4, h5, h6⟩ := h
  have hc : ∀ o, w'.cell? ⟨q, o, none⟩ = w.cell? ⟨q, o, none⟩ := fun o => hb.cell (p := ⟨q, o, none⟩) (Nat.lt_of_lt_of_le hq hB)
  exact ⟨Nat.lt_of_lt_of_le hq hb.size, (hc _).trans h1, (hc _).trans h2, (hc _).trans h3, bv, sv, (hc _).trans h4, (hc _).trans h5, h6.below hb hB⟩
theorem ActsIn.below {w w' : World} {B : Nat} {v : Value} {l : List ActP} (h : ActsIn w v l) (hb : Below B w w') (hB : w.heap.size ≤ B) : ActsIn w' v l := by
  obtain ⟨ao, c, h1, h2, h3⟩ := h
  refine ⟨ao, c, h1, h2, fun i a hi => ?_⟩
  obtain ⟨q, off, e, h4⟩ := h3 i a hi
  exact ⟨q, off, e, h4.below hb hB⟩
/-- Are acts longer than a test should be? -/
def muchB (l : List ActP) : Bool := (l.take 300).any fun a => decide (1000 < a.b.length) || decide (5000 < a.stay.length)
theorem muchB_false {l : List ActP} (h : muchB l = false) {i : Nat} {a : ActP} (hi : l[i]? = some a) (hl : i < 300) : a.b.length ≤ 1000 ∧ a.stay.length ≤ 5000 := by
  unfold muchB at h
  rw [List.any_eq_false] at h
  have hm : a ∈ l.take 300 := List.mem_of_getElem? (i := i) (by rw [List.getElem?_take_of_lt hl]; exact hi)
  have := h a hm
  simp only [Bool.or_eq_true, decide_eq_true_eq, not_or] at this
  omega
theorem muchB_step {l : List ActP} {I : Nat} {a : ActP} (h : ((l.take I).any fun a => decide (1000 < a.b.length) || decide (5000 < a.stay.length)) = false) (hi : l[I]? = some a) (hb : ¬ 1000 < a.b.length) (hs : ¬ 5000 < a.stay.length) : ((l.take (I + 1)).any fun a => decide (1000 < a.b.length) || decide (5000 < a.stay.length)) = false := by
  rw [List.take_add_one, hi, List.any_append, h]
  simp; omega
theorem muchB_hit {l : List ActP} {I : Nat} {a : ActP} (hI : I < 300) (hi : l[I]? = some a) (h : 1000 < a.b.length ∨ 5000 < a.stay.length) : muchB l = true := by
  unfold muchB
  rw [List.any_eq_true]
  refine ⟨a, List.mem_of_getElem? (i := I) (by rw [List.getElem?_take_of_lt hI]; exact hi), ?_⟩
  simpa using h
theorem muchB_done {l : List ActP} {I : Nat} (h : ((l.take I).any fun a => decide (1000 < a.b.length) || decide (5000 < a.stay.length)) = false) (hI : l.length ≤ I ∨ 300 ≤ I) : muchB l = false := by
  unfold muchB
  rw [List.any_eq_false] at h ⊢
  intro a ha
  refine h a ?_
  rcases hI with hI | hI
  · rw [List.take_of_length_le hI]; exact List.mem_of_mem_take ha
  · exact List.take_subset_take_left l hI ha


end Go.Proofs.YtojgeahablphbaaGreat
namespace Go.Proofs.YtojgeahablphbaaGreat
open Go.RowKit

theorem BoolsIn.apart {w W : World} {v : Value} {l : List Bool} {T : Nat → Prop} (hw : BoolsIn w v l) (hb : Below w.heap.size w W) (hT : ∀ q, T q → w.heap.size ≤ q) : BoolsA W T v l := by
  obtain ⟨ao, c, h1, h2⟩ := hw
  refine ⟨ao, c, h1, fun j b hj => ?_⟩
  obtain ⟨q, off, e, hq, hc⟩ := h2 j b hj
  exact ⟨q, off, e, Nat.lt_of_lt_of_le hq hb.size, fun hTq => by have := hT q hTq; omega, by rw [hb.cell (p := ⟨q, off + j, none⟩) hq]; exact hc⟩
theorem Seg.apart {w : World} {v : Value} {bs : List UInt8} {T : Nat → Prop} (h : Seg w v bs) (hT : ∀ q, T q → w.heap.size ≤ q) : 0 < bs.length → ∀ q, v.ownBlock = some q → ¬ T q := fun h0 q hq e => by
  rcases h with ⟨h, _⟩ | ⟨b, off, c', h, _, _, h4⟩
  · rw [h] at h0; cases h0
  · rw [h] at hq; simp [Value.ownBlock] at hq; have := hT q e; omega
end Go.Proofs.YtojgeahablphbaaGreat
namespace Go.Proofs.YtojgeahablphbaaGreat
open Go.RowKit

/-- What a step leaves. -/
structure Did7 (w0 w w' : World) (G : Nat) (L : PLay) (C : Nat → Prop) (H : Nat) (M : RLay) (D : Nat → Prop) (C' D' : Nat → Prop) (s' : DS) (l' : LS) : Prop where
  p : WP7 w0 w' G L C' H M D' s' l'
  c : Chg (fun q => C q ∨ D q) w w'
  z : ∀ q, (C' q ∨ D' q) → (C q ∨ D q) ∨ w.heap.size ≤ q
theorem Did7.after {w0 w w1 w' : World} {G : Nat} {L : PLay} {C : Nat → Prop} {H : Nat} {M : RLay} {D : Nat → Prop} {C' D' : Nat → Prop} {s' : DS} {l' : LS} (hb : Below w.heap.size w w1) (h : Did7 w0 w1 w' G L C H M D C' D' s' l') : Did7 w0 w w' G L C H M D C' D' s' l' :=
  ⟨h.p, (Chg.of_below (S := fun q => C q ∨ D q) hb (Nat.le_refl _)).trans (S' := fun q => C q ∨ D q) h.c (fun _ _ h => h), fun q hq => by
    rcases h.z q hq with e | e
    · exact .inl e
    · exact .inr (Nat.le_trans hb.size e)⟩
theorem Did7.refl {w0 w : World} {G : Nat} {L : PLay} {C : Nat → Prop} {H : Nat} {M : RLay} {D : Nat → Prop} {s : DS} {l : LS} (h : WP7 w0 w G L C H M D s l) : Did7 w0 w w G L C H M D C D s l := ⟨h, Chg.refl _ _, fun _ h => .inl h⟩
theorem WP7.did {w0 w w1 w2 : World} {G : Nat} {L : PLay} {C : Nat → Prop} {H : Nat} {M : RLay} {D : Nat → Prop} {s s' : DS} {l l' : LS} (h : WP7 w0 w G L C H M D s l) (hp : PB w1 G L (Fr C w w1) s' l') (hc1 : Chg C w w1) (hr : RB w2 H M (Fr D w1 w2) s' l') (hc2 : Chg D w1 w2) : Did7 w0 w w2 G L C H M D (Fr C w w1) (Fr D w1 w2) s' l' :=
  ⟨h.both hp hc1 hr hc2, (hc1.weaken (fun _ h => .inl h)).trans (S' := fun q => C q ∨ D q) (hc2.weaken (fun _ h => .inr h)) (fun _ _ h => h), fun q hq => by
    have := hc1.size
    rcases hq with hq | hq <;> rcases hq with hq | hq
    · exact .inl (.inl hq)
    · exact .inr hq.1
    · exact .inl (.inr hq)
    · exact .inr (by omega)⟩
theorem Did7.then {w0 w w1 w2 : World} {G : Nat} {L : PLay} {C : Nat → Prop} {H : Nat} {M : RLay} {D C1 D1 C2 D2 : Nat → Prop} {s1 s2 : DS} {l1 l2 : LS} (h : Did7 w0 w w1 G L C H M D C1 D1 s1 l1) (k : Did7 w0 w1 w2 G L C1 H M D1 C2 D2 s2 l2) : Did7 w0 w w2 G L C H M D C2 D2 s2 l2 :=
  ⟨k.p, h.c.trans (S' := fun q => C1 q ∨ D1 q) k.c (fun q hq e => by
      rcases h.z q e with e | e
      · exact e
      · omega), fun q hq => by
    have := h.c.size
    rcases k.z q hq with e | e
    · exact h.z q e
    · exact .inr (by omega)⟩

set_option maxRecDepth 100000 in
set_option maxHeartbeats 4000000 in
theorem do7_any (w0 : World) (G : Nat) (L : PLay) (C : Nat → Prop) (H : Nat) (M : RLay) (D : Nat → Prop) (s : DS) (l : LS) (a : ActP) (bv sv : Value) (w : World) (hP : WP7 w0 w G L C H M D s l) (hS : Seg w0 bv a.b) (hbm : a.b.length ≤ 6000) :
    Calls Tryz.prog 13 #[.pointer (some ⟨L.g, 0, none⟩), .pointer (some ⟨M.g, 0, none⟩), .pointer (some ⟨G, 0, none⟩), .pointer (some ⟨H, 0, none⟩), .agg #[.int .i64 a.act, .int .i64 a.k, .int .i64 a.n, bv, sv]] w fun e w' => e = .returned (.bool true) ∧ ∃ C' D' s' l', Did7 w0 w w' G L C H M D C' D' s' l' := by
  obtain ⟨ab, cb, rfl⟩ := Seg.shapeD hS
  have hbw : Below w.heap.size w (w.alloc (.cells #[.int .i64 a.act, .int .i64 a.k, .int .i64 a.n, .slice ab a.b.length cb, sv] 43)) := (Below.refl _ w).alloc (Nat.le_refl _) _
  have hE5 : Blk (w.alloc (.cells #[.int .i64 a.act, .int .i64 a.k, .int .i64 a.n, .slice ab a.b.length cb, sv] 43)) w.heap.size 43 #[.int .i64 a.act, .int .i64 a.k, .int .i64 a.n, .slice ab a.b.length cb, sv] := Blk.new _ _ _
  have hBC : ¬ C w.heap.size := fun e => by have := hP.p.lt _ e; omega
  have hBD : ¬ D w.heap.size := fun e => by have := hP.r.lt _ e; omega
  have hP5 := hP.after hbw
  have hbo : 0 < a.b.length → ∀ q, (Value.slice ab a.b.length cb).ownBlock = some q → q < w0.heap.size := fun h0 q hq => Seg.own_lt hS h0 q hq
  have hxC : 0 < a.b.length → ∀ q, (Value.slice ab a.b.length cb).ownBlock = some q → ¬ C q := fun h0 q hq e => by have := hbo h0 q hq; have := hP.lc q e; omega
  have hxD : 0 < a.b.length → ∀ q, (Value.slice ab a.b.length cb).ownBlock = some q → ¬ D q := fun h0 q hq e => by have := hbo h0 q hq; have := hP.ld q e; omega
  have hS5 : Seg (w.alloc (.cells #[.int .i64 a.act, .int .i64 a.k, .int .i64 a.n, .slice ab a.b.length cb, sv] 43)) (.slice ab a.b.length cb) a.b := hS.below hP5.b (Nat.le_refl _)
  have HDN : Hid (∀ {w' : World} {C' D' : Nat → Prop} {s' : DS} {l' : LS}, Did7 w0 (w.alloc (.cells #[.int .i64 a.act, .int .i64 a.k, .int .i64 a.n, .slice ab a.b.length cb, sv] 43)) w' G L C H M D C' D' s' l' → ∃ C' D' s' l', Did7 w0 w w' G L C H M D C' D' s' l') := fun h => ⟨_, _, _, _, h.after hbw⟩
  have d0 := hE5.cell (j := 0) rfl
  have d1 := hE5.cell (j := 1) rfl
  have d3 := hE5.cell (j := 3) rfl
  have hm6 : a.b.length ≤ 1000000 := by omega
  clear hP hbw hbo hS hbm
  go_enter Tryz.func13, Tryz.ntmps13
  go_upto_region 1 with fail
  have HC6 : Hid (∀ W, Chg C (w.alloc (.cells #[.int .i64 a.act, .int .i64 a.k, .int .i64 a.n, .slice ab a.b.length cb, sv] 43)) W → W.cell? ⟨w.heap.size, 3, none⟩ = some (.slice ab a.b.length cb) ∧ Seg W (.slice ab a.b.length cb) a.b) := fun W hW => ⟨(hE5.chg hW hBC).cell (j := 3) rfl, hS5.chg hW hxC⟩
  have HC1 : Hid (∀ W, Chg (fun q => C q ∨ D q) (w.alloc (.cells #[.int .i64 a.act, .int .i64 a.k, .int .i64 a.n, .slice ab a.b.length cb, sv] 43)) W → W.cell? ⟨w.heap.size, 1, none⟩ = some (.int .i64 a.k) ∧ W.cell? ⟨w.heap.size, 3, none⟩ = some (.slice ab a.b.length cb) ∧ Seg W (.slice ab a.b.length cb) a.b) := fun W hW => ⟨(hE5.chg hW (fun e => e.elim hBC hBD)).cell (j := 1) rfl, (hE5.chg hW (fun e => e.elim hBC hBD)).cell (j := 3) rfl, hS5.chg hW (fun h0 q hq e => e.elim (hxC h0 q hq) (hxD h0 q hq))⟩
  clear hE5
  generalize w.alloc (.cells #[.int .i64 a.act, .int .i64 a.k, .int .i64 a.n, .slice ab a.b.length cb, sv] 43) = w5 at *
  generalize w.heap.size = Bx at *
  by_cases a0 : a.act = 0
  · have b0 : (a.act == 0) = true := by simpa using a0
    clear a0
    go_wp2_with (first | (go_at_call 33; refine (pb_append hP5.p _ a.b hS5 hm6 hxC).mono ?_; rintro e w6 ⟨rfl, hp6, hc6⟩; obtain ⟨e3, hS6⟩ := HC6.out w6 hc6) | (go_at_call 34; refine (rb_append (hP5.mid hc6) _ a.b hS6 hm6 hxD).mono ?_; rintro e w7 ⟨rfl, hr7, hc7⟩; have hDD := HDN.out (hP5.did hp6 hc6 hr7 hc7); generalize (appendW s l a.b).1 = E0 at *) | fail)
    go_ret
    exact ⟨rfl, hDD⟩
  have b0 : (a.act == 0) = false := by simpa using a0
  by_cases a1 : a.act = 1
  · have b1 : (a.act == 1) = true := by simpa using a1
    clear a1
    go_wp2_with (first | (go_at_call 35; refine (pb_commit hP5.p).mono ?_; rintro e w6 ⟨rfl, hp6, hc6⟩; obtain ⟨e3, hS6⟩ := HC6.out w6 hc6) | (go_at_call 36; refine (rb_commit (hP5.mid hc6)).mono ?_; rintro e w7 ⟨rfl, hr7, hc7⟩; have hDD := HDN.out (hP5.did hp6 hc6 hr7 hc7); generalize (commitW s l).1 = E0 at *) | fail)
    go_ret
    exact ⟨rfl, hDD⟩
  have b1 : (a.act == 1) = false := by simpa using a1
  by_cases a2 : a.act = 2
  · have b2 : (a.act == 2) = true := by simpa using a2
    clear a2
    go_wp2_with (first | (go_at_call 20; refine (pb_check hP5.p _ a.b hS5 hm6).mono ?_; rintro e w6 ⟨rfl, hp6, hc6⟩; obtain ⟨e3, hS6⟩ := HC6.out w6 hc6) | (go_at_call 37; refine (rb_check (hP5.mid hc6) _ a.b hS6 hm6 hxD).mono ?_; rintro e w7 ⟨rfl, hr7, hc7⟩; have hDD := HDN.out (hP5.did hp6 hc6 hr7 hc7); generalize (checkW s l a.b).1 = E0 at *) | fail)
    go_ret
    exact ⟨rfl, hDD⟩
  have b2 : (a.act == 2) = false := by simpa using a2
  by_cases a3 : a.act = 3
  · have b3 : (a.act == 3) = true := by simpa using a3
    clear a3
    obtain ⟨CD, hOD, hCD, hup⟩ := hP5.p.over
    go_wp2_with (first | (go_at_call 31; refine (od_plan L CD s _ a.b w5 hOD hS5 hm6).mono ?_; rintro e w6 ⟨rfl, ho6, hk6⟩; obtain ⟨hp6, hc6⟩ := hup w6 { s with next := a.b } rfl ho6 hk6; obtain ⟨e3, hS6⟩ := HC6.out w6 hc6; have hR6 := hP5.mid hc6) | (go_at_call 38; refine (refPlan_any _ s _ a.b w6 hR6.d.d hS6 hm6).mono ?_; rintro e w7 ⟨rfl, hd7, hc7⟩; have hDD := HDN.out (hP5.did hp6 hc6 (hR6.disk hd7 hc7) (hc7.weaken (fun q hq => hR6.d.own q hq)))) | fail)
    go_ret
    exact ⟨rfl, hDD⟩
  have b3 : (a.act == 3) = false := by simpa using a3
  by_cases a5 : a.act = 5
  · have b5 : (a.act == 5) = true := by simpa using a5
    clear a5
    obtain ⟨CD, hOD, hCD, hup⟩ := hP5.p.over
    go_wp2_with (first | (go_at_call 39; refine (od_write L CD s a.k _ a.b w5 hOD hS5 (fun h0 q hq e => hxC h0 q hq (hCD q e))).mono ?_; rintro e w6 ⟨rfl, ho6, hk6⟩; obtain ⟨hp6, hc6⟩ := hup w6 _ (writeS_now s a.k a.b) ho6 hk6; obtain ⟨e1, e3, hS6⟩ := HC1.out w6 (hc6.weaken (fun _ h => .inl h)); have hR6 := hP5.mid hc6) | (go_at_call 40; refine (refWrite_any _ s a.k _ a.b w6 hR6.d.d hS6 hm6 (fun h0 q hq e => hxD h0 q hq (hR6.d.own q e))).mono ?_; rintro e w7 ⟨rfl, hd7, hc7⟩; have hD7 := hP5.did hp6 hc6 (hR6.disk hd7 hc7) (hc7.weaken (fun q hq => hR6.d.own q hq)); generalize (writeS s a.k a.b).1 = E0 at *; generalize (writeS s a.k a.b).2 = s1 at *; obtain ⟨CE, hOE, hCE, hvp⟩ := hD7.p.p.over) | (go_at_call 41; refine (od_sync L CE s1 w7 hOE).mono ?_; rintro e w8 ⟨rfl, ho8, hk8⟩; obtain ⟨hp8, hc8⟩ := hvp w8 _ (syncS_now s1) ho8 hk8; have hR8 := hD7.p.mid hc8) | (go_at_call 42; refine (refSync_any _ s1 w8 hR8.d.d).mono ?_; rintro e w9 ⟨rfl, hd9, hc9⟩; have hDD := HDN.out (hD7.then (hD7.p.did hp8 hc8 (hR8.disk hd9 hc9) (hc9.weaken (fun q hq => hR8.d.own q hq))))) | fail)
    go_ret
    exact ⟨rfl, hDD⟩
  have b5 : (a.act == 5) = false := by simpa using a5
  clear a0 a1 a2 a3 a5
  have hDD := HDN.out (Did7.refl hP5)
  go_wp2_with fail
  go_ret
  exact ⟨rfl, hDD⟩
end Go.Proofs.YtojgeahablphbaaGreat
