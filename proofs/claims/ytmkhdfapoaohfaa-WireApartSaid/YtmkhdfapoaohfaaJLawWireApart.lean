/-
  What is proved here: the statement WireApart is true of any two messages.
  Conditions: they lie in memory.
-/
import Derived.Test.YtmkhdfapoaohfaaJRefMSame
import Derived.Test.YtmkhdfapoaohfaaJWireInj
import Derived.Test.YtmkhdfapoaohfaaJManSomeP
namespace Go.Proofs.Ytmkhdfapoaohfaa
open Go.RowKit

theorem hid_ofM {p : Prop} (h : p) : Hid p := h
theorem sameMM_iff (m n : MM) : sameMM m n = true ↔ m = n := by
  obtain ⟨a, b, c, d, e⟩ := m
  obtain ⟨a', b', c', d', e'⟩ := n
  unfold sameMM
  simp only [MM.mk.injEq, Bool.and_eq_true, beq_iff_eq]
theorem sameMs_iff (x y : MS) : sameMs x y = true ↔ x = y := by
  obtain ⟨k, d, c, l, v, s, h, o, m, b⟩ := x
  obtain ⟨k', d', c', l', v', s', h', o', m', b'⟩ := y
  unfold sameMs
  simp only [MS.mk.injEq, Bool.and_eq_true, beq_iff_eq, decide_eq_true_eq, sameMM_iff]
  constructor
  · rintro ⟨h1, h2, h3, h4, h5, h6, h7, h8, h9, h10⟩
    exact ⟨h1, h2, h3, h4, h5, h6, h7, h8, h10, h9⟩
  · rintro ⟨h1, h2, h3, h4, h5, h6, h7, h8, h10, h9⟩
    exact ⟨h1, h2, h3, h4, h5, h6, h7, h8, h9, h10⟩
/-- The bytes of a message. -/
def bytesM (x : MS) : Option (List UInt8) := encW x ((encM x.m).getD [])
theorem encM_of {x : MS} (h : rightM x = true) (hh : x.m.h.length = 32) (h2 : x.k = 2) : encM x.m = some ((encM x.m).getD []) := by
  obtain ⟨-, -, hm, -⟩ := right_parts h
  unfold manMay at hm
  rw [if_pos h2] at hm
  obtain ⟨p, hp, -⟩ := man_some (of_decide_eq_true hm) hh
  rw [hp]
  rfl
theorem bytesM_right {x : MS} {p : List UInt8} (h : bytesM x = some p) : rightM x = true := by
  unfold bytesM encW at h
  split at h
  · assumption
  · cases h
theorem bytesM_one {x y : MS} {p q : List UInt8} (hh : x.m.h.length = 32) (hh' : y.m.h.length = 32) (h1 : bytesM x = some p) (h2 : bytesM y = some q) : decide (p = q) = sameMs x y := by
  have rx := bytesM_right h1
  have ry := bytesM_right h2
  by_cases e : p = q
  · subst e
    have := encW_inj rx ry (encM_of rx hh) (encM_of ry hh') h1 h2
    rw [decide_eq_true rfl, (sameMs_iff x y).2 this]
  · rw [decide_eq_false e]
    cases h : sameMs x y with
    | false => rfl
    | true =>
      have hxy := (sameMs_iff x y).1 h
      subst hxy
      rw [h1] at h2
      injection h2 with h2
      exact absurd h2 e
theorem encode14_any (x : MS) (ao : Option Addr) (cu : Nat) (ab : Option Addr) (cb : Nat) (w : World) (hh : x.m.h.length = 32) (hm : x.m.u.length ≤ 1000000000) (hu : Wds w (.slice ao x.m.u.length cu) x.m.u) (hS : Seg w (.slice ab x.b.length cb) x.b) (hbl : x.b.length ≤ maxLen) :
    Calls Try.prog 9 #[.agg (msA x (manL x.m (.slice ao x.m.u.length cu)) (.slice ab x.b.length cb))] w fun e w' => encodePost w (bytesM x) e w' := by
  refine wencode_any x (manL x.m (.slice ao x.m.u.length cu)) ab cb _ w (manL_len _ _ hh) hS hbl (fun h2 hr => ?_) (fun V hV => manMay_any x ao cu _ V hh (hu.below hV (Nat.le_refl _))) (fun h2 hr V hV => ?_)
  · exact encM_len (encM_of hr hh h2)
  · have := menc_any x.m (.slice ao x.m.u.length cu) V hh hm (hu.below hV (Nat.le_refl _))
    rw [encM_of hr hh h2] at this
    refine this.mono ?_
    rintro e w' ⟨⟨b, rfl, ho⟩, hb⟩
    exact ⟨b, 0, rfl, ho, hb⟩
set_option maxRecDepth 100000 in
set_option maxHeartbeats 8000000 in
theorem wireApart_any (x : MS) (ao : Option Addr) (cu : Nat) (ab : Option Addr) (cb : Nat) (y : MS) (ao' : Option Addr) (cu' : Nat) (ab' : Option Addr) (cb' : Nat) (w : World) (hh : x.m.h.length = 32) (hu : Wds w (.slice ao x.m.u.length cu) x.m.u) (hS : Seg w (.slice ab x.b.length cb) x.b) (hbl : x.b.length ≤ maxLen) (hh' : y.m.h.length = 32) (hu' : Wds w (.slice ao' y.m.u.length cu') y.m.u) (hS' : Seg w (.slice ab' y.b.length cb') y.b) (hbl' : y.b.length ≤ maxLen) :
    Calls Try.prog 6 #[.agg (msA x (manL x.m (.slice ao x.m.u.length cu)) (.slice ab x.b.length cb)), .agg (msA y (manL y.m (.slice ao' y.m.u.length cu')) (.slice ab' y.b.length cb'))] w fun e w' => e = .returned (.bool true) ∧ Below w.heap.size w w' := by
  obtain ⟨FX, hFX⟩ : ∃ F : Bool, (decide (x.b.length ≤ 5000) && decide (x.m.u.length ≤ 300)) = F := ⟨_, rfl⟩
  obtain ⟨FY, hFY⟩ : ∃ F : Bool, (decide (y.b.length ≤ 5000) && decide (y.m.u.length ≤ 300)) = F := ⟨_, rfl⟩
  have HF1 : Hid (∀ V, Calls Try.prog 8 #[.agg (msA x (manL x.m (.slice ao x.m.u.length cu)) (.slice ab x.b.length cb))] V fun e w' => e = .returned (.bool FX) ∧ Below V.heap.size V w') := fun V => by
    rw [← hFX]
    exact few14_any x ao cu ab cb V hh
  have HF2 : Hid (∀ V, Calls Try.prog 8 #[.agg (msA y (manL y.m (.slice ao' y.m.u.length cu')) (.slice ab' y.b.length cb'))] V fun e w' => e = .returned (.bool FY) ∧ Below V.heap.size V w') := fun V => by
    rw [← hFY]
    exact few14_any y ao' cu' ab' cb' V hh'
  have hx300 : FX = true → x.m.u.length ≤ 300 := fun e => by
    rw [← hFX] at e
    simp only [Bool.and_eq_true, decide_eq_true_eq] at e
    exact e.2
  have hy300 : FY = true → y.m.u.length ≤ 300 := fun e => by
    rw [← hFY] at e
    simp only [Bool.and_eq_true, decide_eq_true_eq] at e
    exact e.2
  have HE1 : Hid (FX = true → ∀ V, Below w.heap.size w V → Calls Try.prog 9 #[.agg (msA x (manL x.m (.slice ao x.m.u.length cu)) (.slice ab x.b.length cb))] V fun e w' => encodePost V (bytesM x) e w') := fun e V hV => encode14_any x ao cu ab cb V hh (by have := hx300 e; omega) (hu.below hV (Nat.le_refl _)) (hS.below hV (Nat.le_refl _)) hbl
  have HE2 : Hid (FY = true → ∀ V, Below w.heap.size w V → Calls Try.prog 9 #[.agg (msA y (manL y.m (.slice ao' y.m.u.length cu')) (.slice ab' y.b.length cb'))] V fun e w' => encodePost V (bytesM y) e w') := fun e V hV => encode14_any y ao' cu' ab' cb' V hh' (by have := hy300 e; omega) (hu'.below hV (Nat.le_refl _)) (hS'.below hV (Nat.le_refl _)) hbl'
  have HSM : Hid (FX = true → ∀ V, Below w.heap.size w V → Calls Try.prog 15 #[.agg (msA x (manL x.m (.slice ao x.m.u.length cu)) (.slice ab x.b.length cb)), .agg (msA y (manL y.m (.slice ao' y.m.u.length cu')) (.slice ab' y.b.length cb'))] V fun e w' => e = .returned (.bool (sameMs x y)) ∧ Below V.heap.size V w') := fun e V hV => rsame14_any x y ao ao' ab ab' cu cu' cb cb' V hh hh' (by have := hx300 e; unfold maxLen; omega) (hu.below hV (Nat.le_refl _)) (hu'.below hV (Nat.le_refl _)) (hS.below hV (Nat.le_refl _)) (hS'.below hV (Nat.le_refl _))
  have HIN : Hid (∀ p q, bytesM x = some p → bytesM y = some q → decide (p = q) = sameMs x y) := fun p q h1 h2 => bytesM_one hh hh' h1 h2
  have hi1 : (Try.prog.info? 28).map (·.size) = some (msA x (manL x.m (.slice ao x.m.u.length cu)) (.slice ab x.b.length cb)).size := by rw [msA_size _ _ _ (manL_len _ _ hh)]; exact info_mess
  have hi2 : (Try.prog.info? 28).map (·.size) = some (msA y (manL y.m (.slice ao' y.m.u.length cu')) (.slice ab' y.b.length cb')).size := by rw [msA_size _ _ _ (manL_len _ _ hh')]; exact info_mess
  have hB0 : Below w.heap.size w ((w.alloc (.cells (msA x (manL x.m (.slice ao x.m.u.length cu)) (.slice ab x.b.length cb)) 28)).alloc (.cells (msA y (manL y.m (.slice ao' y.m.u.length cu')) (.slice ab' y.b.length cb')) 28)) := ((Below.refl _ _).alloc (Nat.le_refl _) _).alloc (by simp) _
  have kA0 := (Blk.new w 28 (msA x (manL x.m (.slice ao x.m.u.length cu)) (.slice ab x.b.length cb))).alloc (.cells (msA y (manL y.m (.slice ao' y.m.u.length cu')) (.slice ab' y.b.length cb')) 28)
  have kB0 : Blk ((w.alloc (.cells (msA x (manL x.m (.slice ao x.m.u.length cu)) (.slice ab x.b.length cb)) 28)).alloc (.cells (msA y (manL y.m (.slice ao' y.m.u.length cu')) (.slice ab' y.b.length cb')) 28)) (w.heap.size + 1) 28 (msA y (manL y.m (.slice ao' y.m.u.length cu')) (.slice ab' y.b.length cb')) := Blk.newAt _ _ _ _ (by simp)
  clear hh hu hS hbl hh' hu' hS' hbl' hx300 hy300 hFX hFY
  generalize (msA x (manL x.m (.slice ao x.m.u.length cu)) (.slice ab x.b.length cb)) = MX at *
  generalize (msA y (manL y.m (.slice ao' y.m.u.length cu')) (.slice ab' y.b.length cb')) = MY at *
  generalize sameMs x y = SM at *
  generalize bytesM x = PX at *
  generalize bytesM y = PY at *
  obtain ⟨A, hA⟩ : ∃ A, A = w.heap.size := ⟨_, rfl⟩
  rw [← hA] at kA0 kB0
  go_enter Try.func6, Try.ntmps6
  go_wp2_with fail
  rw [← hA]
  clear hA
  generalize (w.alloc (.cells MX 28)).alloc (.cells MY 28) = W0 at *
  refine (awake14_any W0).mono ?_
  rintro e W1 ⟨rfl, hb1⟩
  have kA1 := kA0.below hb1 kA0.lt
  have kB1 := kB0.below hb1 kB0.lt
  have hB1 := hB0.trans (hb1.mono hB0.size)
  clear kA0 kB0 hb1 hB0
  go_wp2_with (first | (refine wpList_load_row rfl 28 _ rfl A rfl 28 MX (0, 0) _ kA1 Try.underlying28 rfl hi1 ?_) | (refine wpList_load_row rfl 28 _ rfl (A + 1) rfl 28 MY (0, 0) _ kB1 Try.underlying28 rfl hi2 ?_))
  refine (HF1.out W1).mono ?_
  rintro e W2 ⟨rfl, hb2⟩
  have kA2 := kA1.below hb2 kA1.lt
  have kB2 := kB1.below hb2 kB1.lt
  have hB2 := hB1.trans (hb2.mono hB1.size)
  clear kA1 kB1 hb2 hB1 HF1
  go_wp2_with (first | (refine wpList_load_row rfl 28 _ rfl A rfl 28 MX (0, 0) _ kA2 Try.underlying28 rfl hi1 ?_) | (refine wpList_load_row rfl 28 _ rfl (A + 1) rfl 28 MY (0, 0) _ kB2 Try.underlying28 rfl hi2 ?_))
  refine (HF2.out W2).mono ?_
  rintro e W3 ⟨rfl, hb3⟩
  have kA3 := kA2.below hb3 kA2.lt
  have kB3 := kB2.below hb3 kB2.lt
  have hB3 := hB2.trans (hb3.mono hB2.size)
  clear kA2 kB2 hb3 hB2 HF2
  cases FX with
  | false =>
    clear kA3 kB3 HE1 HE2 HSM HIN
    go_wp2
    go_ret
    exact ⟨rfl, hB3⟩
  | true =>
  cases FY with
  | false =>
    clear kA3 kB3 HE1 HE2 HSM HIN
    go_wp2
    go_ret
    exact ⟨rfl, hB3⟩
  | true =>
  have HX := hid_ofM (HE1.out (by first | rfl | trivial) W3 hB3)
  clear HE1
  go_wp2_with (first | (refine wpList_load_row rfl 28 _ rfl A rfl 28 MX (0, 0) _ kA3 Try.underlying28 rfl hi1 ?_) | (refine wpList_load_row rfl 28 _ rfl (A + 1) rfl 28 MY (0, 0) _ kB3 Try.underlying28 rfl hi2 ?_))
  refine HX.out.mono ?_
  clear HX
  cases PX with
  | none =>
    rintro e W4 ⟨rfl, hb4⟩
    have kA4 := kA3.below hb4 kA3.lt
    have kB4 := kB3.below hb4 kB3.lt
    have hB4 := hB3.trans (hb4.mono hB3.size)
    have HY := hid_ofM (HE2.out (by first | rfl | trivial) W4 hB4)
    clear HE2 kA3 kB3 hB3 hb4 HSM HIN
    go_wp2_with (first | (refine wpList_load_row rfl 28 _ rfl A rfl 28 MX (0, 0) _ kA4 Try.underlying28 rfl hi1 ?_) | (refine wpList_load_row rfl 28 _ rfl (A + 1) rfl 28 MY (0, 0) _ kB4 Try.underlying28 rfl hi2 ?_))
    refine HY.out.mono ?_
    clear HY
    cases PY with
    | none =>
      rintro e W5 ⟨rfl, hb5⟩
      have hB5 := hB4.trans (hb5.mono hB4.size)
      clear kA4 kB4
      go_wp2
      go_ret
      exact ⟨rfl, hB5⟩
    | some q =>
      rintro e W5 ⟨⟨bq, rfl, hoq⟩, hb5⟩
      have hB5 := hB4.trans (hb5.mono hB4.size)
      clear kA4 kB4 hoq
      go_wp2
      go_ret
      exact ⟨rfl, hB5⟩
  | some p =>
    rintro e W4 ⟨⟨bp, rfl, hop⟩, hb4⟩
    have kA4 := kA3.below hb4 kA3.lt
    have kB4 := kB3.below hb4 kB3.lt
    have hB4 := hB3.trans (hb4.mono hB3.size)
    have HY := hid_ofM (HE2.out (by first | rfl | trivial) W4 hB4)
    have HOP : Hid (Own W4 W3.heap.size bp p) := hop
    clear HE2 kA3 kB3 hB3 hb4 hop
    go_wp2_with (first | (refine wpList_load_row rfl 28 _ rfl A rfl 28 MX (0, 0) _ kA4 Try.underlying28 rfl hi1 ?_) | (refine wpList_load_row rfl 28 _ rfl (A + 1) rfl 28 MY (0, 0) _ kB4 Try.underlying28 rfl hi2 ?_))
    refine HY.out.mono ?_
    clear HY
    cases PY with
    | none =>
      rintro e W5 ⟨rfl, hb5⟩
      have hB5 := hB4.trans (hb5.mono hB4.size)
      clear kA4 kB4
      go_wp2
      go_ret
      exact ⟨rfl, hB5⟩
    | some q =>
      rintro e W5 ⟨⟨bq, rfl, hoq⟩, hb5⟩
      have kA5 := kA4.below hb5 kA4.lt
      have kB5 := kB4.below hb5 kB4.lt
      have hB5 := hB4.trans (hb5.mono hB4.size)
      have HSX := hid_ofM (HSM.out (by first | rfl | trivial) W5 hB5)
      have hIN := HIN.out p q rfl rfl
      have HOP5 : Hid (Seg W5 bp p ∧ Seg W5 bq q) := ⟨HOP.out.seg.below hb5 (Nat.le_refl _), hoq.seg⟩
      have HIN2 : Hid (decide (p = q) = SM) := hIN
      clear kA4 kB4 hB4 hb5 hoq HOP HSM HIN hIN
      go_wp2_with (first | (refine wpList_load_row rfl 28 _ rfl A rfl 28 MX (0, 0) _ kA5 Try.underlying28 rfl hi1 ?_) | (refine wpList_load_row rfl 28 _ rfl (A + 1) rfl 28 MY (0, 0) _ kB5 Try.underlying28 rfl hi2 ?_))
      refine HSX.out.mono ?_
      rintro e W6 ⟨rfl, hb6⟩
      have hB6 := hB5.trans (hb6.mono hB5.size)
      have k5 := seg_stringD (HOP5.out.1.below hb6 (Nat.le_refl _)) 9 Try.underlying9
      have k6 := seg_stringD (HOP5.out.2.below hb6 (Nat.le_refl _)) 9 Try.underlying9
      have hq := str_beq p q
      rw [HIN2.out] at hq
      generalize (⟨p.toArray⟩ : ByteArray) = BX at *
      generalize (⟨q.toArray⟩ : ByteArray) = BY at *
      clear HSX HOP5 HIN2 kA5 kB5 hB5 hb6
      cases SM with
      | true =>
        have hq' : (BX.toList == BY.toList) = true := hq
        clear hq
        go_wp2
        go_ret
        exact ⟨rfl, hB6⟩
      | false =>
        have hq' : (BX.toList == BY.toList) = false := hq
        clear hq
        go_wp2
        go_ret
        exact ⟨rfl, hB6⟩
end Go.Proofs.Ytmkhdfapoaohfaa
