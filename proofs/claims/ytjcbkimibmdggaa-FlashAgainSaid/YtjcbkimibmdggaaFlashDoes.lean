/-
  What is proved here: an act at both flashes; if they were alike, they answer alike.
  Conditions: both flashes lie in memory, apart from one another and from the act; the program's keeps to what is asked of it.
-/
import Derived.Test.YtjcbkimibmdggaaFlashActs
import Derived.Test.YtjcbkimibmdggaaRefFlashNew
namespace Go.Proofs.Ytjcbkimibmdggaa
open Go.RowKit

/-- Both flashes, apart from one another. -/
structure Pair6 (P : PF) (w : World) (L : P.Lay) (M : FLay) (s t : FS) : Prop where
  p : P.Rel w L s
  r : RFlash w M t
  off : ∀ q, P.T L q → ¬ M.T q
def both6 (P : PF) (L : P.Lay) (M : FLay) (q : Nat) : Prop := P.T L q ∨ M.T q
theorem Pair6.lt {P : PF} {w : World} {L : P.Lay} {M : FLay} {s t : FS} (h : Pair6 P w L M s t) : ∀ q, both6 P L M q → q < w.heap.size := fun q hq => by
  rcases hq with hq | hq
  · exact P.lt h.p q hq
  · exact h.r.lt q hq
theorem Pair6.after {P : PF} {w w' : World} {L : P.Lay} {M : FLay} {s t : FS} (h : Pair6 P w L M s t) (hb : Below w.heap.size w w') : Pair6 P w' L M s t := ⟨P.after h.p hb, h.r.after hb, h.off⟩
theorem Pair6.stepP {P : PF} {w w' : World} {L : P.Lay} {M : FLay} {s t : FS} (h : Pair6 P w L M s t) (hc : Chg (P.T L) w w') : RFlash w' M t := h.r.chg hc (fun q hq e => h.off q e hq)
theorem Pair6.stepR {P : PF} {w w1 w' : World} {L : P.Lay} {M : FLay} {s t s' t' : FS} (h : Pair6 P w L M s t) (hp : P.Rel w1 L s') (hr : RFlash w' M t') (hc : Chg M.T w1 w') : Pair6 P w' L M s' t' := ⟨P.chg hp hc (fun q hq e => h.off q hq e), hr, h.off⟩
def actF (s : FS) (a : Act6) : FS := if a.act = 0 then (programF s a.k a.b).2 else if a.act = 1 then (eraseF s a.k).2 else if a.act = 2 then s else if a.act = 3 then armF s a.k a.n else if a.act = 4 then powerF s else s
theorem both6_chg {P : PF} {L : P.Lay} {M : FLay} {w w1 w2 : World} (h1 : Chg (P.T L) w w1) (h2 : Chg M.T w1 w2) : Chg (both6 P L M) w w2 := (h1.weaken (fun _ h => .inl h)).trans (S' := both6 P L M) (h2.weaken (fun _ h => .inr h)) (fun _ _ h => h)
theorem own_apart {w w' : World} {v : Value} {bs : List UInt8} (h : Own w' w.heap.size v bs) : Seg w' v bs := h.seg
theorem str_ne {a b : List UInt8} (h : a ≠ b) : ((⟨a.toArray⟩ : ByteArray).toList == (⟨b.toArray⟩ : ByteArray).toList) = false := by
  rw [str_beq]
  simpa using h
/-- It answers whether it is so; if both were alike, it is. -/
def Tells (e : Ending) (same : Prop) : Prop := ∃ b, e = .returned (.bool b) ∧ (same → b = true)

set_option maxRecDepth 100000 in
set_option maxHeartbeats 8000000 in
theorem does6_any (P : PF) (L : P.Lay) (M : FLay) (s t : FS) (a : Act6) (bv : Value) (w : World) (hP : Pair6 P w L M s t) (hA : At6 w bv a) (hbA : 0 < a.b.length → ∀ q, bv.ownBlock = some q → ¬ both6 P L M q) :
    Calls Try.prog 14 #[.pointer (some ⟨P.g L, 0, none⟩), .pointer (some ⟨M.g, 0, none⟩), .agg #[.int .i64 a.act, .int .i64 a.k, .int .i64 a.n, bv]] w fun e w' => Tells e (s = t) ∧ Pair6 P w' L M (actF s a) (actF t a) ∧ Chg (both6 P L M) w w' := by
  have hS := hA.b
  have hbm := hA.bm
  have hk := hA.k
  have hn := hA.n
  obtain ⟨ab, cb, rfl⟩ := Seg.shapeD hS
  obtain ⟨R, hR⟩ : ∃ R, R = actF s a := ⟨_, rfl⟩
  obtain ⟨Q, hQ⟩ : ∃ Q, Q = actF t a := ⟨_, rfl⟩
  rw [← hR, ← hQ]
  unfold actF at hR hQ
  have hlt := hP.lt
  have hbw : Below w.heap.size w (w.alloc (.cells #[.int .i64 a.act, .int .i64 a.k, .int .i64 a.n, .slice ab a.b.length cb] 37)) := (Below.refl _ w).alloc (Nat.le_refl _) _
  have hbox0 : Blk (w.alloc (.cells #[.int .i64 a.act, .int .i64 a.k, .int .i64 a.n, .slice ab a.b.length cb] 37)) w.heap.size 37 #[.int .i64 a.act, .int .i64 a.k, .int .i64 a.n, .slice ab a.b.length cb] := Blk.new _ _ _
  have hP0 := hP.after hbw
  have hS0 := hS.alloc (.cells #[.int .i64 a.act, .int .i64 a.k, .int .i64 a.n, .slice ab a.b.length cb] 37)
  have hcw : Chg (both6 P L M) w (w.alloc (.cells #[.int .i64 a.act, .int .i64 a.k, .int .i64 a.n, .slice ab a.b.length cb] 37)) := Chg.of_below hbw (Nat.le_refl _)
  have hgb : ∀ q, both6 P L M q → q ≠ w.heap.size := fun q hq e => by have := hlt q hq; omega
  clear hbw hS hP hA
  go_enter Try.func14, Try.ntmps14
  by_cases h0 : a.act = 0
  · rw [if_pos h0] at hR hQ
    have HR : Hid (R = (programF s a.k a.b).2) := hR
    have HQ : Hid (Q = (programF t a.k a.b).2) := hQ
    clear hR hQ
    rw [h0] at hbox0 hP0 hS0 hcw ⊢
    go_wp2_with fail
    refine (P.program L s a.k _ a.b _ hP0.p hk hS0 hbm (fun h q hq e => hbA h q hq (.inl e))).mono ?_
    rintro e w1 ⟨rfl, hD1, hc1⟩
    have hr1 := hP0.stepP hc1
    have hS1 := hS0.chg hc1 (fun h q hq e => hbA h q hq (.inl e))
    have hbx := hbox0.chg hc1 (fun e => hgb _ (.inl e) rfl)
    have b1 := hbx.cell (j := 1) rfl
    have b3 := hbx.cell (j := 3) rfl
    go_wp2_with fail
    refine (ref6Program_any M t a.k _ a.b _ hr1 hS1 (fun h q hq e => hbA h q hq (.inr e))).mono ?_
    rintro e w2 ⟨rfl, hD2, hc2⟩
    have HE : Hid (s = t → (programF s a.k a.b).1 = (programF t a.k a.b).1) := fun h => by rw [h]
    generalize (programF s a.k a.b).1 = E at *
    generalize (programF t a.k a.b).1 = E' at *
    have hc2' := hcw.trans (S' := both6 P L M) (both6_chg hc1 hc2) (fun _ _ h => h)
    go_wp2
    go_ret
    rw [HR.out, HQ.out]
    exact ⟨⟨_, rfl, fun h => by simp [HE.out h]⟩, hP0.stepR hD1 hD2 hc2, hc2'⟩
  by_cases h1 : a.act = 1
  · rw [if_neg h0, if_pos h1] at hR hQ
    have HR : Hid (R = (eraseF s a.k).2) := hR
    have HQ : Hid (Q = (eraseF t a.k).2) := hQ
    clear hR hQ
    rw [h1] at hbox0 hP0 hS0 hcw ⊢
    go_wp2_with fail
    refine (P.erase L s a.k _ hP0.p hk).mono ?_
    rintro e w1 ⟨rfl, hD1, hc1⟩
    have hr1 := hP0.stepP hc1
    have hbx := hbox0.chg hc1 (fun e => hgb _ (.inl e) rfl)
    have b1 := hbx.cell (j := 1) rfl
    go_wp2_with fail
    refine (ref6Erase_any M t a.k _ hr1).mono ?_
    rintro e w2 ⟨rfl, hD2, hc2⟩
    have HE : Hid (s = t → (eraseF s a.k).1 = (eraseF t a.k).1) := fun h => by rw [h]
    generalize (eraseF s a.k).1 = E at *
    generalize (eraseF t a.k).1 = E' at *
    have hc2' := hcw.trans (S' := both6 P L M) (both6_chg hc1 hc2) (fun _ _ h => h)
    go_wp2
    go_ret
    rw [HR.out, HQ.out]
    exact ⟨⟨_, rfl, fun h => by simp [HE.out h]⟩, hP0.stepR hD1 hD2 hc2, hc2'⟩
  by_cases h2 : a.act = 2
  · rw [if_neg h0, if_neg h1, if_pos h2] at hR hQ
    have HR : Hid (R = s) := hR
    have HQ : Hid (Q = t) := hQ
    clear hR hQ
    rw [h2] at hbox0 hP0 hS0 hcw ⊢
    go_wp2_with fail
    refine (P.read L s a.k a.n _ hP0.p hk hn).mono ?_
    rintro e w1 ⟨v1, rfl, ho1, hb1⟩
    have hP1 := hP0.after hb1
    have hbx := hbox0.below hb1 hbox0.lt
    have b1 := hbx.cell (j := 1) rfl
    have b2 := hbx.cell (j := 2) rfl
    go_wp2_with fail
    refine (ref6Read_any M t a.k a.n _ hP1.r).mono ?_
    rintro e w2 ⟨v2, rfl, ho2, hb2⟩
    have hP2 := hP1.after hb2
    have k1 := seg_stringD (ho1.below hb2 (Nat.le_refl _)).seg 9 Try.underlying9
    have k2 := seg_stringD ho2.seg 9 Try.underlying9
    obtain ⟨a1, c1, rfl⟩ := Seg.shapeD ho1.seg
    obtain ⟨a2, c2, rfl⟩ := Seg.shapeD ho2.seg
    have hc2' : Chg (both6 P L M) w w2 := hcw.trans (S' := fun _ => False) ((Chg.of_below hb1 (Nat.le_refl _)).trans (S' := fun _ => False) (Chg.of_below hb2 (Nat.le_refl _)) (fun _ _ h => h)) (fun _ _ h => h.elim)
    have HE : Hid (s = t → (readF s a.k a.n).1 = (readF t a.k a.n).1 ∧ (readF s a.k a.n).2 = (readF t a.k a.n).2) := fun h => by rw [h]; exact ⟨rfl, rfl⟩
    clear ho1 ho2
    generalize (readF s a.k a.n).1 = BB at *
    generalize (readF s a.k a.n).2 = E at *
    generalize (readF t a.k a.n).1 = BB' at *
    generalize (readF t a.k a.n).2 = E' at *
    by_cases hbb : BB = BB'
    · subst hbb
      generalize (⟨BB.toArray⟩ : ByteArray) = X at k1 k2
      go_wp2
      go_ret
      rw [HR.out, HQ.out]
      exact ⟨⟨_, rfl, fun h => by simp [(HE.out h).2]⟩, hP2, hc2'⟩
    · have HN : Hid (BB ≠ BB') := hbb
      have hX := str_ne hbb
      clear hbb
      generalize (⟨BB.toArray⟩ : ByteArray) = X at k1 hX
      generalize (⟨BB'.toArray⟩ : ByteArray) = X' at k2 hX
      go_wp2
      go_ret
      rw [HR.out, HQ.out]
      exact ⟨⟨_, rfl, fun h => absurd (HE.out h).1 HN.out⟩, hP2, hc2'⟩
  by_cases h3 : a.act = 3
  · rw [if_neg h0, if_neg h1, if_neg h2, if_pos h3] at hR hQ
    have HR : Hid (R = armF s a.k a.n) := hR
    have HQ : Hid (Q = armF t a.k a.n) := hQ
    clear hR hQ
    rw [h3] at hbox0 hP0 hS0 hcw ⊢
    go_wp2_with fail
    refine (P.arm L s a.k a.n _ hP0.p hk hn).mono ?_
    rintro e w1 ⟨rfl, hD1, hc1⟩
    have hr1 := hP0.stepP hc1
    have hbx := hbox0.chg hc1 (fun e => hgb _ (.inl e) rfl)
    have b1 := hbx.cell (j := 1) rfl
    have b2 := hbx.cell (j := 2) rfl
    go_wp2_with fail
    refine (ref6Arm_any M t a.k a.n _ hr1 hk.2 hn.2).mono ?_
    rintro e w2 ⟨rfl, hD2, hc2⟩
    have hc2' := hcw.trans (S' := both6 P L M) (both6_chg hc1 hc2) (fun _ _ h => h)
    go_wp2
    go_ret
    rw [HR.out, HQ.out]
    exact ⟨⟨_, rfl, fun _ => rfl⟩, hP0.stepR hD1 hD2 hc2, hc2'⟩
  by_cases h4 : a.act = 4
  · rw [if_neg h0, if_neg h1, if_neg h2, if_neg h3, if_pos h4] at hR hQ
    have HR : Hid (R = powerF s) := hR
    have HQ : Hid (Q = powerF t) := hQ
    clear hR hQ
    rw [h4] at hbox0 hP0 hS0 hcw ⊢
    go_wp2_with fail
    refine (P.power L s _ hP0.p).mono ?_
    rintro e w1 ⟨rfl, hD1, hc1⟩
    have hr1 := hP0.stepP hc1
    go_wp2_with fail
    refine (ref6Power_any M t _ hr1).mono ?_
    rintro e w2 ⟨rfl, hD2, hc2⟩
    have hc2' := hcw.trans (S' := both6 P L M) (both6_chg hc1 hc2) (fun _ _ h => h)
    go_wp2
    go_ret
    rw [HR.out, HQ.out]
    exact ⟨⟨_, rfl, fun _ => rfl⟩, hP0.stepR hD1 hD2 hc2, hc2'⟩
  rw [if_neg h0, if_neg h1, if_neg h2, if_neg h3, if_neg h4] at hR hQ
  have HR : Hid (R = s) := hR
  have HQ : Hid (Q = t) := hQ
  have e0 : (a.act == 0) = false := by simpa using h0
  have e1 : (a.act == 1) = false := by simpa using h1
  have e2 : (a.act == 2) = false := by simpa using h2
  have e3 : (a.act == 3) = false := by simpa using h3
  have e4 : (a.act == 4) = false := by simpa using h4
  clear hR hQ h0 h1 h2 h3 h4
  go_wp2
  go_ret
  rw [HR.out, HQ.out]
  exact ⟨⟨_, rfl, fun _ => rfl⟩, hP0, hcw⟩
end Go.Proofs.Ytjcbkimibmdggaa
