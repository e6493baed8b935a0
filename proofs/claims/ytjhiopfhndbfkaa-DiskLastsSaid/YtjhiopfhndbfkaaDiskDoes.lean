/-
  What is proved here: an act at both disks leaves them alike.
  Conditions: both disks lie in memory, apart from one another and from the act.
-/
import Derived.Test.YtjhiopfhndbfkaaPDiskAwake
import Derived.Test.YtjhiopfhndbfkaaPDiskCrash
import Derived.Test.YtjhiopfhndbfkaaRefDiskCrash
import Derived.Test.YtjhiopfhndbfkaaDiskActsB
namespace Go.Proofs.Ytjhiopfhndbfkaa
open Go.RowKit Go.Maps

/-- Both disks, alike, apart from one another. -/
structure Pair (w : World) (L : PLay) (M : RLay) (s : DS) : Prop where
  p : PDisk w L s
  r : RDisk w M s
  lm : ∀ q, M.T q → L.E q
  ml : ∀ q, L.T q → M.E q
  off : ∀ q, L.T q → ¬ M.T q
def both (L : PLay) (M : RLay) (q : Nat) : Prop := L.T q ∨ M.T q
theorem Pair.lt {w : World} {L : PLay} {M : RLay} {s : DS} (h : Pair w L M s) : ∀ q, both L M q → q < w.heap.size := fun q hq => by
  rcases hq with hq | hq
  · exact h.p.lt q hq
  · exact h.r.lt q hq
theorem Pair.after {w w' : World} {L : PLay} {M : RLay} {s : DS} (h : Pair w L M s) (hb : Below w.heap.size w w') : Pair w' L M s := ⟨h.p.after hb, h.r.after hb, h.lm, h.ml, h.off⟩
/-- The program's disk has gone on: the document's is as it was. -/
theorem Pair.stepP {w w' : World} {L : PLay} {M : RLay} {s : DS} (h : Pair w L M s) (hc : Chg L.T w w') : RDisk w' M s := h.r.chgE hc h.ml (fun q hq e => h.off q e hq)
/-- And now the document's, too. -/
theorem Pair.stepR {w w1 w' : World} {L : PLay} {M : RLay} {s t : DS} (h : Pair w L M s) (hp : PDisk w1 L t) (hr : RDisk w' M t) (hc : Chg M.T w1 w') : Pair w' L M t := ⟨hp.chgE hc h.lm (fun q hq e => h.off q hq e), hr, h.lm, h.ml, h.off⟩
theorem BoolsA.weaken {w : World} {T T' : Nat → Prop} {v : Value} {l : List Bool} (h : BoolsA w T v l) (hT : ∀ q, T' q → T q) : BoolsA w T' v l := by
  obtain ⟨ao, c, h1, h2⟩ := h
  refine ⟨ao, c, h1, fun j b hj => ?_⟩
  obtain ⟨q, off, e, hq, hT', hcell⟩ := h2 j b hj
  exact ⟨q, off, e, hq, fun e2 => hT' (hT q e2), hcell⟩
def actS (s : DS) (a : ActP) : DS := if a.act = 0 then (writeS s a.k a.b).2 else if a.act = 1 then (syncS s).2 else if a.act = 2 then s else if a.act = 3 then { s with next := a.b } else if a.act = 4 then crashS s a.stay a.k a.n else s
theorem both_chg {L : PLay} {M : RLay} {w w1 w2 : World} (h1 : Chg L.T w w1) (h2 : Chg M.T w1 w2) : Chg (both L M) w w2 := (h1.weaken (fun _ h => .inl h)).trans (S' := both L M) (h2.weaken (fun _ h => .inr h)) (fun _ _ h => h)

set_option maxRecDepth 100000 in
set_option maxHeartbeats 8000000 in
theorem does_any (L : PLay) (M : RLay) (s : DS) (a : ActP) (bv sv : Value) (w : World) (hP : Pair w L M s) (hS : Seg w bv a.b) (hbm : a.b.length ≤ 1000) (hbA : 0 < a.b.length → ∀ q, bv.ownBlock = some q → ¬ both L M q) (hB : BoolsA w (both L M) sv a.stay) (hsm : a.stay.length ≤ 5000) :
    Calls Try.prog 14 #[.pointer (some ⟨L.g, 0, none⟩), .pointer (some ⟨M.g, 0, none⟩), .agg #[.int .i64 a.act, .int .i64 a.k, .int .i64 a.n, bv, sv]] w fun e w' => e = .returned (.bool true) ∧ Pair w' L M (actS s a) ∧ Chg (both L M) w w' := by
  obtain ⟨ab, cb, rfl⟩ := Seg.shapeD hS
  obtain ⟨as5, cs5, hse, _⟩ := id hB
  subst hse
  obtain ⟨R, hR⟩ : ∃ R, R = actS s a := ⟨_, rfl⟩
  rw [← hR]
  unfold actS at hR
  have hlt := hP.lt
  have hbw : Below w.heap.size w (w.alloc (.cells #[.int .i64 a.act, .int .i64 a.k, .int .i64 a.n, .slice ab a.b.length cb, .slice as5 a.stay.length cs5] 38)) := (Below.refl _ w).alloc (Nat.le_refl _) _
  have hbox0 : Blk (w.alloc (.cells #[.int .i64 a.act, .int .i64 a.k, .int .i64 a.n, .slice ab a.b.length cb, .slice as5 a.stay.length cs5] 38)) w.heap.size 38 #[.int .i64 a.act, .int .i64 a.k, .int .i64 a.n, .slice ab a.b.length cb, .slice as5 a.stay.length cs5] := Blk.new _ _ _
  have hP0 := hP.after hbw
  have hS0 := hS.alloc (.cells #[.int .i64 a.act, .int .i64 a.k, .int .i64 a.n, .slice ab a.b.length cb, .slice as5 a.stay.length cs5] 38)
  have hB0 : BoolsA (w.alloc (.cells #[.int .i64 a.act, .int .i64 a.k, .int .i64 a.n, .slice ab a.b.length cb, .slice as5 a.stay.length cs5] 38)) (both L M) (.slice as5 a.stay.length cs5) a.stay := hB.chg (Chg.of_below hbw (Nat.le_refl _))
  have hcw : Chg (both L M) w (w.alloc (.cells #[.int .i64 a.act, .int .i64 a.k, .int .i64 a.n, .slice ab a.b.length cb, .slice as5 a.stay.length cs5] 38)) := Chg.of_below hbw (Nat.le_refl _)
  have hgb : ∀ q, both L M q → q ≠ w.heap.size := fun q hq e => by have := hlt q hq; omega
  clear hbw hS hB hP
  go_enter Try.func14, Try.ntmps14
  by_cases h0 : a.act = 0
  · rw [if_pos h0] at hR
    have HR : Hid (R = (writeS s a.k a.b).2) := hR
    clear hR
    rw [h0] at hbox0 hP0 hS0 hB0 hcw ⊢
    go_wp2_with fail
    refine (write_any L s a.k _ a.b _ hP0.p hS0 (fun h q hq e => hbA h q hq (.inl e))).mono ?_
    rintro e w1 ⟨rfl, hD1, hc1⟩
    have hr1 := hP0.stepP hc1
    have hS1 := hS0.chg hc1 (fun h q hq e => hbA h q hq (.inl e))
    have hbx := hbox0.chg hc1 (fun e => hgb _ (.inl e) rfl)
    have b1 := hbx.cell (j := 1) rfl
    have b3 := hbx.cell (j := 3) rfl
    go_wp2_with fail
    refine (refWrite_any M s a.k _ a.b _ hr1 hS1 (by omega) (fun h q hq e => hbA h q hq (.inr e))).mono ?_
    rintro e w2 ⟨rfl, hD2, hc2⟩
    generalize (writeS s a.k a.b).1 = E at *
    have hc2' := hcw.trans (S' := both L M) (both_chg hc1 hc2) (fun _ _ h => h)
    go_wp2
    go_ret
    rw [HR.out]
    exact ⟨rfl, hP0.stepR hD1 hD2 hc2, hc2'⟩
  by_cases h1 : a.act = 1
  · rw [if_neg h0, if_pos h1] at hR
    have HR : Hid (R = (syncS s).2) := hR
    clear hR
    rw [h1] at hbox0 hP0 hS0 hB0 hcw ⊢
    go_wp2_with fail
    refine (sync_any L s _ hP0.p).mono ?_
    rintro e w1 ⟨rfl, hD1, hc1⟩
    have hr1 := hP0.stepP hc1
    go_wp2_with fail
    refine (refSync_any M s _ hr1).mono ?_
    rintro e w2 ⟨rfl, hD2, hc2⟩
    generalize (syncS s).1 = E at *
    have hc2' := hcw.trans (S' := both L M) (both_chg hc1 hc2) (fun _ _ h => h)
    go_wp2
    go_ret
    rw [HR.out]
    exact ⟨rfl, hP0.stepR hD1 hD2 hc2, hc2'⟩
  by_cases h2 : a.act = 2
  · rw [if_neg h0, if_neg h1, if_pos h2] at hR
    have HR : Hid (R = s) := hR
    clear hR
    rw [h2] at hbox0 hP0 hS0 hB0 hcw ⊢
    go_wp2_with fail
    refine (read_any L s a.k _ hP0.p).mono ?_
    rintro e w1 ⟨v1, rfl, ho1, hb1⟩
    have hP1 := hP0.after hb1
    have hbx := hbox0.below hb1 hbox0.lt
    have b1 := hbx.cell (j := 1) rfl
    go_wp2_with fail
    refine (refRead_any M s a.k _ hP1.r).mono ?_
    rintro e w2 ⟨v2, rfl, ho2, hb2⟩
    have hP2 := hP1.after hb2
    have k1 := seg_stringD (ho1.below hb2 (Nat.le_refl _)).seg 9 Try.underlying9
    have k2 := seg_stringD ho2.seg 9 Try.underlying9
    obtain ⟨a1, c1, rfl⟩ := Seg.shapeD ho1.seg
    obtain ⟨a2, c2, rfl⟩ := Seg.shapeD ho2.seg
    have hc2' : Chg (both L M) w w2 := hcw.trans (S' := fun _ => False) ((Chg.of_below hb1 (Nat.le_refl _)).trans (S' := fun _ => False) (Chg.of_below hb2 (Nat.le_refl _)) (fun _ _ h => h)) (fun _ _ h => h.elim)
    clear ho1 ho2
    generalize (readS s a.k).1 = BB at *
    generalize (readS s a.k).2 = E at *
    generalize (⟨BB.toArray⟩ : ByteArray) = X at k1 k2
    go_wp2
    go_ret
    rw [HR.out]
    exact ⟨rfl, hP2, hc2'⟩
  by_cases h3 : a.act = 3
  · rw [if_neg h0, if_neg h1, if_neg h2, if_pos h3] at hR
    have HR : Hid (R = { s with next := a.b }) := hR
    clear hR
    rw [h3] at hbox0 hP0 hS0 hB0 hcw ⊢
    go_wp2_with fail
    refine (plan_any L s _ a.b _ hP0.p hS0 (by omega)).mono ?_
    rintro e w1 ⟨rfl, hD1, hc1'⟩
    have hc1 : Chg L.T _ w1 := hc1'.weaken (fun _ h => .inl h)
    have hr1 := hP0.stepP hc1
    have hS1 := hS0.chg hc1 (fun h q hq e => hbA h q hq (.inl e))
    have hbx := hbox0.chg hc1 (fun e => hgb _ (.inl e) rfl)
    have b3 := hbx.cell (j := 3) rfl
    go_wp2_with fail
    refine (refPlan_any M s _ a.b _ hr1 hS1 (by omega)).mono ?_
    rintro e w2 ⟨rfl, hD2, hc2⟩
    have hc2' := hcw.trans (S' := both L M) (both_chg hc1 hc2) (fun _ _ h => h)
    go_wp2
    go_ret
    rw [HR.out]
    exact ⟨rfl, hP0.stepR hD1 hD2 hc2, hc2'⟩
  by_cases h4 : a.act = 4
  · rw [if_neg h0, if_neg h1, if_neg h2, if_neg h3, if_pos h4] at hR
    have HR : Hid (R = crashS s a.stay a.k a.n) := hR
    clear hR
    rw [h4] at hbox0 hP0 hS0 hB0 hcw ⊢
    go_wp2_with fail
    refine (crash_any L s _ a.stay a.k a.n _ hP0.p (hB0.weaken (fun _ h => .inl h))).mono ?_
    rintro e w1 ⟨rfl, hD1, hc1⟩
    have hr1 := hP0.stepP hc1
    have hB1 := hB0.chg (hc1.weaken (fun _ h => .inl h))
    have hbx := hbox0.chg hc1 (fun e => hgb _ (.inl e) rfl)
    have b1 := hbx.cell (j := 1) rfl
    have b2 := hbx.cell (j := 2) rfl
    have b4 := hbx.cell (j := 4) rfl
    go_wp2_with fail
    refine (refCrash_any M s _ a.stay a.k a.n _ hr1 (hB1.weaken (fun _ h => .inr h)) (by omega)).mono ?_
    rintro e w2 ⟨rfl, hD2, hc2⟩
    have hc2' := hcw.trans (S' := both L M) (both_chg hc1 hc2) (fun _ _ h => h)
    go_wp2
    go_ret
    rw [HR.out]
    exact ⟨rfl, hP0.stepR hD1 hD2 hc2, hc2'⟩
  rw [if_neg h0, if_neg h1, if_neg h2, if_neg h3, if_neg h4] at hR
  have HR : Hid (R = s) := hR
  have e0 : (a.act == 0) = false := by simpa using h0
  have e1 : (a.act == 1) = false := by simpa using h1
  have e2 : (a.act == 2) = false := by simpa using h2
  have e3 : (a.act == 3) = false := by simpa using h3
  have e4 : (a.act == 4) = false := by simpa using h4
  clear hR h0 h1 h2 h3 h4
  go_wp2
  go_ret
  rw [HR.out]
  exact ⟨rfl, hP0, hcw⟩
end Go.Proofs.Ytjhiopfhndbfkaa
