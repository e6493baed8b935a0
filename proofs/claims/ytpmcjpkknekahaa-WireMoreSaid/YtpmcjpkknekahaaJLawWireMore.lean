/-
  What is proved here: the statement WireMore is true of any message and any number.
  Conditions: the message lies in memory.
-/
import Derived.Test.YtpmcjpkknekahaaJWireOffer
namespace Go.Proofs.Ytpmcjpkknekahaa
open Go.RowKit

/-- A message that may be, with something changed so that it may not be. -/
def moreM (x : MS) (n : Int) : MS := if n = 0 then { x with d := 1 - min x.d 1 } else if n = 1 then { x with s := 1 - min x.s 1 } else if n = 2 then { x with o := 1 - min x.o 1 } else if n = 3 then { x with l := 1 - min x.l 1 } else if n = 4 then { x with k := 0 } else { x with k := 9 }
theorem more_not0 {k d c l v s q o : Int} {m : MM} {b : List UInt8} (h : rightM ⟨k, d, c, l, v, s, q, o, m, b⟩ = true) : rightM ⟨k, 1 - min d 1, c, l, v, s, q, o, m, b⟩ = false := by
  cases hy : rightM ⟨k, 1 - min d 1, c, l, v, s, q, o, m, b⟩ with
  | false => rfl
  | true =>
    exfalso
    obtain ⟨⟨h1, h8⟩, hn, -, -⟩ := right_parts h
    obtain ⟨⟨g1, g8⟩, gn, -, -⟩ := right_parts hy
    simp only at h1 h8
    unfold numsMay at hn gn
    simp only at hn gn
    rcases kinds k with rfl | rfl | rfl | rfl | rfl | rfl | rfl | rfl | hk
    all_goals first | omega | skip
    all_goals simp [numK, mayL, getM, zeroAt] at hn gn
    all_goals omega
theorem more_not1 {k d c l v s q o : Int} {m : MM} {b : List UInt8} (h : rightM ⟨k, d, c, l, v, s, q, o, m, b⟩ = true) : rightM ⟨k, d, c, l, v, 1 - min s 1, q, o, m, b⟩ = false := by
  cases hy : rightM ⟨k, d, c, l, v, 1 - min s 1, q, o, m, b⟩ with
  | false => rfl
  | true =>
    exfalso
    obtain ⟨⟨h1, h8⟩, hn, -, -⟩ := right_parts h
    obtain ⟨⟨g1, g8⟩, gn, -, -⟩ := right_parts hy
    simp only at h1 h8
    unfold numsMay at hn gn
    simp only at hn gn
    rcases kinds k with rfl | rfl | rfl | rfl | rfl | rfl | rfl | rfl | hk
    all_goals first | omega | skip
    all_goals simp [numK, mayL, getM, zeroAt] at hn gn
    all_goals omega
theorem more_not2 {k d c l v s q o : Int} {m : MM} {b : List UInt8} (h : rightM ⟨k, d, c, l, v, s, q, o, m, b⟩ = true) : rightM ⟨k, d, c, l, v, s, q, 1 - min o 1, m, b⟩ = false := by
  cases hy : rightM ⟨k, d, c, l, v, s, q, 1 - min o 1, m, b⟩ with
  | false => rfl
  | true =>
    exfalso
    obtain ⟨⟨h1, h8⟩, hn, -, -⟩ := right_parts h
    obtain ⟨⟨g1, g8⟩, gn, -, -⟩ := right_parts hy
    simp only at h1 h8
    unfold numsMay at hn gn
    simp only at hn gn
    rcases kinds k with rfl | rfl | rfl | rfl | rfl | rfl | rfl | rfl | hk
    all_goals first | omega | skip
    all_goals simp [numK, mayL, getM, zeroAt] at hn gn
    all_goals omega
theorem more_not3 {k d c l v s q o : Int} {m : MM} {b : List UInt8} (h : rightM ⟨k, d, c, l, v, s, q, o, m, b⟩ = true) : rightM ⟨k, d, c, 1 - min l 1, v, s, q, o, m, b⟩ = false := by
  cases hy : rightM ⟨k, d, c, 1 - min l 1, v, s, q, o, m, b⟩ with
  | false => rfl
  | true =>
    exfalso
    obtain ⟨⟨h1, h8⟩, hn, -, -⟩ := right_parts h
    obtain ⟨⟨g1, g8⟩, gn, -, -⟩ := right_parts hy
    simp only at h1 h8
    unfold numsMay at hn gn
    simp only at hn gn
    rcases kinds k with rfl | rfl | rfl | rfl | rfl | rfl | rfl | rfl | hk
    all_goals first | omega | skip
    all_goals simp [numK, mayL, getM, zeroAt] at hn gn
    all_goals omega
theorem more_not4 {k d c l v s q o : Int} {m : MM} {b : List UInt8} (h : rightM ⟨k, d, c, l, v, s, q, o, m, b⟩ = true) : rightM ⟨0, d, c, l, v, s, q, o, m, b⟩ = false := by
  cases hy : rightM ⟨0, d, c, l, v, s, q, o, m, b⟩ with
  | false => rfl
  | true =>
    exfalso
    obtain ⟨⟨h1, h8⟩, hn, -, -⟩ := right_parts h
    obtain ⟨⟨g1, g8⟩, gn, -, -⟩ := right_parts hy
    simp only at g1 g8
    omega
theorem more_not5 {k d c l v s q o : Int} {m : MM} {b : List UInt8} (h : rightM ⟨k, d, c, l, v, s, q, o, m, b⟩ = true) : rightM ⟨9, d, c, l, v, s, q, o, m, b⟩ = false := by
  cases hy : rightM ⟨9, d, c, l, v, s, q, o, m, b⟩ with
  | false => rfl
  | true =>
    exfalso
    obtain ⟨⟨h1, h8⟩, hn, -, -⟩ := right_parts h
    obtain ⟨⟨g1, g8⟩, gn, -, -⟩ := right_parts hy
    simp only at g1 g8
    omega
theorem more_pos {k d c l v s q o : Int} {m : MM} {b : List UInt8} (h : rightM ⟨k, d, c, l, v, s, q, o, m, b⟩ = true) : 0 ≤ d ∧ 0 ≤ s ∧ 0 ≤ o ∧ 0 ≤ l := by
  obtain ⟨⟨h1, h8⟩, hn, -, -⟩ := right_parts h
  simp only at h1 h8
  unfold numsMay at hn
  simp only at hn
  rcases kinds k with rfl | rfl | rfl | rfl | rfl | rfl | rfl | rfl | hk
  all_goals first | omega | skip
  all_goals simp [numK, mayL, getM, zeroAt] at hn
  all_goals omega
set_option maxRecDepth 100000 in
set_option maxHeartbeats 8000000 in
theorem wireMore_any (x : MS) (n : Int) (ao : Option Addr) (cu : Nat) (ab : Option Addr) (cb : Nat) (w : World) (hh : x.m.h.length = 32) (hu : Wds w (.slice ao x.m.u.length cu) x.m.u) (hS : Seg w (.slice ab x.b.length cb) x.b) (hbl : x.b.length ≤ maxLen) :
    Calls Try.prog 7 #[.agg (msA x (manL x.m (.slice ao x.m.u.length cu)) (.slice ab x.b.length cb)), .int .i64 n] w fun e w' => e = .returned (.bool true) ∧ Below w.heap.size w w' := by
  obtain ⟨k, d, c, l, v, s, q, o, m, b⟩ := x
  simp only at hh hu hS hbl ⊢
  have hi : (Try.prog.info? 28).map (·.size) = some (msA (⟨k, d, c, l, v, s, q, o, m, b⟩ : MS) (manL m (.slice ao m.u.length cu)) (.slice ab b.length cb)).size := by rw [msA_size _ _ _ (manL_len _ _ hh)]; exact info_mess
  obtain ⟨FW, hFW⟩ : ∃ FW : Bool, (decide (b.length ≤ 5000) && decide (m.u.length ≤ 300)) = FW := ⟨_, rfl⟩
  have HF : Hid (∀ V, Calls Try.prog 9 #[.agg (msA (⟨k, d, c, l, v, s, q, o, m, b⟩ : MS) (manL m (.slice ao m.u.length cu)) (.slice ab b.length cb))] V fun e w' => e = .returned (.bool FW) ∧ Below V.heap.size V w') := fun V => by
    rw [← hFW]
    exact few14_any (⟨k, d, c, l, v, s, q, o, m, b⟩ : MS) ao cu ab cb V hh
  have HR : Hid (∀ y : MS, y.m = m → y.b = b → ∀ V, Below w.heap.size w V → Calls Try.prog 12 #[.agg (msA y (manL m (.slice ao m.u.length cu)) (.slice ab b.length cb))] V fun e w' => e = .returned (.bool (rightM y)) ∧ Below V.heap.size V w') := fun y e1 e2 V hV => by
    subst e1 e2
    exact right14_any y ao cu ab cb V hh (hu.below hV (Nat.le_refl _))
  have HE : Hid (∀ y : MS, y.m = m → y.b = b → rightM y = false → ∀ V, Below w.heap.size w V → Calls Try.prog 10 #[.agg (msA y (manL m (.slice ao m.u.length cu)) (.slice ab b.length cb))] V fun e w' => e = .returned (.tuple #[.slice none 0 0, .int .i64 1]) ∧ Below V.heap.size V w') := fun y e1 e2 hr V hV => by
    subst e1 e2
    exact encode14_not y ao cu ab cb V hh (hu.below hV (Nat.le_refl _)) (hS.below hV (Nat.le_refl _)) hbl hr
  have HI : Hid (∀ y : MS, (Try.prog.info? 28).map (·.size) = some (msA y (manL m (.slice ao m.u.length cu)) (.slice ab b.length cb)).size) := fun y => by rw [msA_size _ _ _ (manL_len _ _ hh)]; exact info_mess
  have hs : (msA (⟨k, d, c, l, v, s, q, o, m, b⟩ : MS) (manL m (.slice ao m.u.length cu)) (.slice ab b.length cb)).size = 45 := msA_size _ _ _ (manL_len _ _ hh)
  have h1c : (msA (⟨k, d, c, l, v, s, q, o, m, b⟩ : MS) (manL m (.slice ao m.u.length cu)) (.slice ab b.length cb)).all (·.oneCell') = true := msA_one _ _ _ (manL_one _ _ _ _) rfl
  have kB0 := Blk.new w 28 (msA (⟨k, d, c, l, v, s, q, o, m, b⟩ : MS) (manL m (.slice ao m.u.length cu)) (.slice ab b.length cb))
  have hB0 := (Below.refl w.heap.size w).alloc (Nat.le_refl _) (.cells (msA (⟨k, d, c, l, v, s, q, o, m, b⟩ : MS) (manL m (.slice ao m.u.length cu)) (.slice ab b.length cb)) 28)
  clear hh hu hS hbl hFW
  generalize (manL m (.slice ao m.u.length cu)) = MC at *
  generalize ((.slice ab b.length cb) : Value) = BV at *
  obtain ⟨B, hB⟩ : ∃ B, B = w.heap.size := ⟨_, rfl⟩
  have HBE : Hid (w.heap.size = B) := hB.symm
  rw [← hB] at kB0
  go_enter Try.func7, Try.ntmps7
  go_wp2_with fail
  rw [← hB]
  clear hB
  generalize w.alloc (.cells (msA (⟨k, d, c, l, v, s, q, o, m, b⟩ : MS) MC BV) 28) = WA at *
  refine (awake14_any WA).mono ?_
  rintro e w1 ⟨rfl, hb1⟩
  have kB1 := kB0.below hb1 kB0.lt
  have hB1 := hB0.trans (hb1.mono hB0.size)
  clear hb1 hB0 kB0
  go_wp2_with (refine wpList_load_row rfl 28 _ rfl B rfl 28 (msA (⟨k, d, c, l, v, s, q, o, m, b⟩ : MS) MC BV) (0, 0) _ kB1 Try.underlying28 rfl hi ?_)
  refine (HF.out _).mono ?_
  rintro e w2 ⟨rfl, hb2⟩
  have kB2 := kB1.below hb2 kB1.lt
  have hB2 := hB1.trans (hb2.mono hB1.size)
  clear hb2 hB1 kB1 HF
  go_wp2_with (refine wpList_load_row rfl 28 _ rfl B rfl 28 (msA (⟨k, d, c, l, v, s, q, o, m, b⟩ : MS) MC BV) (0, 0) _ kB2 Try.underlying28 rfl hi ?_)
  refine (HR.out (⟨k, d, c, l, v, s, q, o, m, b⟩ : MS) rfl rfl _ hB2).mono ?_
  rintro e w3 ⟨rfl, hb3⟩
  have kB3 := kB2.below hb3 kB2.lt
  have hB3 := hB2.trans (hb3.mono hB2.size)
  clear hb3 hB2 kB2
  cases FW with
  | false =>
    clear kB3 HR HE HI hi
    generalize rightM (⟨k, d, c, l, v, s, q, o, m, b⟩ : MS) = RM
    go_wp2
    go_ret
    exact ⟨rfl, hB3⟩
  | true =>
  cases hr : rightM (⟨k, d, c, l, v, s, q, o, m, b⟩ : MS) with
  | false =>
    clear kB3 HR HE HI hi
    go_wp2
    go_ret
    exact ⟨rfl, hB3⟩
  | true =>
  have hlt : B < w3.heap.size := kB3.lt
  have hBw : w.heap.size ≤ B := Nat.le_of_eq HBE.out
  have hne4 : B ≠ w3.heap.size := by omega
  by_cases e0 : n = 0
  · have d0 : (n == 0) = true := beq_iff_eq.2 e0
    clear e0
    have h0 : 0 ≤ d := (more_pos hr).1
    have hw : IntKind.i64.wrap (1 - min d 1) = 1 - min d 1 := by rw [IntKind.wrap_i64]; omega
    have hc : (msA (⟨k, d, c, l, v, s, q, o, m, b⟩ : MS) MC BV)[1]? = some (.int .i64 d) := rfl
    have hse : (msA (⟨k, d, c, l, v, s, q, o, m, b⟩ : MS) MC BV).setIfInBounds 1 (.int .i64 (1 - min d 1)) = (msA ⟨k, 1 - min d 1, c, l, v, s, q, o, m, b⟩ MC BV) := by simp [msA, msL]
    have hy := more_not0 hr
    have HR1 := HR.out (⟨k, d, c, l, v, s, q, o, m, b⟩ : MS) rfl rfl
    have HR2 := HR.out ⟨k, 1 - min d 1, c, l, v, s, q, o, m, b⟩ rfl rfl
    have HE2 := HE.out ⟨k, 1 - min d 1, c, l, v, s, q, o, m, b⟩ rfl rfl hy
    rw [hr] at HR1
    rw [hy] at HR2
    have hi2 := HI.out ⟨k, 1 - min d 1, c, l, v, s, q, o, m, b⟩
    clear hr hy HR HE HI
    have HR1 : Hid (∀ V, Below w.heap.size w V → Calls Try.prog 12 #[.agg (msA (⟨k, d, c, l, v, s, q, o, m, b⟩ : MS) MC BV)] V fun e w' => e = .returned (.bool true) ∧ Below V.heap.size V w') := HR1
    have HR2 : Hid (∀ V, Below w.heap.size w V → Calls Try.prog 12 #[.agg (msA ⟨k, 1 - min d 1, c, l, v, s, q, o, m, b⟩ MC BV)] V fun e w' => e = .returned (.bool false) ∧ Below V.heap.size V w') := HR2
    have HE2 : Hid (∀ V, Below w.heap.size w V → Calls Try.prog 10 #[.agg (msA ⟨k, 1 - min d 1, c, l, v, s, q, o, m, b⟩ MC BV)] V fun e w' => e = .returned (.tuple #[.slice none 0 0, .int .i64 1]) ∧ Below V.heap.size V w') := HE2
    generalize (msA (⟨k, d, c, l, v, s, q, o, m, b⟩ : MS) MC BV) = MX at *
    generalize (msA ⟨k, 1 - min d 1, c, l, v, s, q, o, m, b⟩ MC BV) = MY at *
    go_wp2_with (first | (refine wpList_load_row rfl 28 _ rfl B rfl 28 MX (0, 0) _ kB3 Try.underlying28 rfl hi ?_) | (refine store_blk rfl 28 _ _ rfl rfl w3.heap.size MX rfl rfl 28 _ (Blk.new _ _ _) hi hs.symm h1c ?_; intro w4 kG4 hg4 hs4; have kB4 : Blk w4 B 28 MX := (kB3.alloc _).grown hg4 (fun e => hne4 (Option.some.inj e)); have cc : w4.cell? ⟨B, 1, none⟩ = some (.int .i64 d) := kB4.cell hc; have cf : w4.frozen? ⟨B, 1, none⟩ = false := kB4.frozen 1) | (refine wpList_load_row rfl 28 _ rfl w3.heap.size rfl 28 MX (0, 0) _ (kG4.setOther _ _ (Ne.symm hne4)) Try.underlying28 rfl hi ?_))
    have kB5 : Blk (w4.setCell ⟨B, 1, none⟩ (.int .i64 (1 - min d 1))) B 28 MY := (kB4.set 1 _).of_eq hse
    have hB4 : Below w.heap.size w w4 := below_grown (hB3.alloc hB3.size _) hg4 (by simp; omega) (fun q e => by cases e; omega)
    have hB5 : Below w.heap.size w (w4.setCell ⟨B, 1, none⟩ (.int .i64 (1 - min d 1))) := hB4.setCell hBw _
    clear hg4 hs4 kB4 cc cf kG4 hB4 hse hc kB3 hB3
    generalize w4.setCell ⟨B, 1, none⟩ (.int .i64 (1 - min d 1)) = w5 at *
    refine (HR1.out _ hB5).mono ?_
    rintro e w6 ⟨rfl, hb6⟩
    have kB6 := kB5.below hb6 kB5.lt
    have hB6 := hB5.trans (hb6.mono hB5.size)
    clear hb6 hB5 kB5 HR1
    go_wp2_with (refine wpList_load_row rfl 28 _ rfl B rfl 28 MY (0, 0) _ kB6 Try.underlying28 rfl hi2 ?_)
    refine (HR2.out _ hB6).mono ?_
    rintro e w7 ⟨rfl, hb7⟩
    have kB7 := kB6.below hb7 kB6.lt
    have hB7 := hB6.trans (hb7.mono hB6.size)
    clear hb7 hB6 kB6 HR2
    go_wp2_with (refine wpList_load_row rfl 28 _ rfl B rfl 28 MY (0, 0) _ kB7 Try.underlying28 rfl hi2 ?_)
    refine (HE2.out _ hB7).mono ?_
    rintro e w8 ⟨rfl, hb8⟩
    have hB8 := hB7.trans (hb8.mono hB7.size)
    clear hb8 hB7 kB7 HE2
    go_wp2
    go_ret
    exact ⟨rfl, hB8⟩
  by_cases e1 : n = 1
  · have d0 : (n == 0) = false := beq_eq_false_iff_ne.2 e0
    have d1 : (n == 1) = true := beq_iff_eq.2 e1
    clear e0 e1
    have h0 : 0 ≤ s := (more_pos hr).2.1
    have hw : IntKind.i64.wrap (1 - min s 1) = 1 - min s 1 := by rw [IntKind.wrap_i64]; omega
    have hc : (msA (⟨k, d, c, l, v, s, q, o, m, b⟩ : MS) MC BV)[5]? = some (.int .i64 s) := rfl
    have hse : (msA (⟨k, d, c, l, v, s, q, o, m, b⟩ : MS) MC BV).setIfInBounds 5 (.int .i64 (1 - min s 1)) = (msA ⟨k, d, c, l, v, 1 - min s 1, q, o, m, b⟩ MC BV) := by simp [msA, msL]
    have hy := more_not1 hr
    have HR1 := HR.out (⟨k, d, c, l, v, s, q, o, m, b⟩ : MS) rfl rfl
    have HR2 := HR.out ⟨k, d, c, l, v, 1 - min s 1, q, o, m, b⟩ rfl rfl
    have HE2 := HE.out ⟨k, d, c, l, v, 1 - min s 1, q, o, m, b⟩ rfl rfl hy
    rw [hr] at HR1
    rw [hy] at HR2
    have hi2 := HI.out ⟨k, d, c, l, v, 1 - min s 1, q, o, m, b⟩
    clear hr hy HR HE HI
    have HR1 : Hid (∀ V, Below w.heap.size w V → Calls Try.prog 12 #[.agg (msA (⟨k, d, c, l, v, s, q, o, m, b⟩ : MS) MC BV)] V fun e w' => e = .returned (.bool true) ∧ Below V.heap.size V w') := HR1
    have HR2 : Hid (∀ V, Below w.heap.size w V → Calls Try.prog 12 #[.agg (msA ⟨k, d, c, l, v, 1 - min s 1, q, o, m, b⟩ MC BV)] V fun e w' => e = .returned (.bool false) ∧ Below V.heap.size V w') := HR2
    have HE2 : Hid (∀ V, Below w.heap.size w V → Calls Try.prog 10 #[.agg (msA ⟨k, d, c, l, v, 1 - min s 1, q, o, m, b⟩ MC BV)] V fun e w' => e = .returned (.tuple #[.slice none 0 0, .int .i64 1]) ∧ Below V.heap.size V w') := HE2
    generalize (msA (⟨k, d, c, l, v, s, q, o, m, b⟩ : MS) MC BV) = MX at *
    generalize (msA ⟨k, d, c, l, v, 1 - min s 1, q, o, m, b⟩ MC BV) = MY at *
    go_wp2_with (first | (refine wpList_load_row rfl 28 _ rfl B rfl 28 MX (0, 0) _ kB3 Try.underlying28 rfl hi ?_) | (refine store_blk rfl 28 _ _ rfl rfl w3.heap.size MX rfl rfl 28 _ (Blk.new _ _ _) hi hs.symm h1c ?_; intro w4 kG4 hg4 hs4; have kB4 : Blk w4 B 28 MX := (kB3.alloc _).grown hg4 (fun e => hne4 (Option.some.inj e)); have cc : w4.cell? ⟨B, 5, none⟩ = some (.int .i64 s) := kB4.cell hc; have cf : w4.frozen? ⟨B, 5, none⟩ = false := kB4.frozen 5) | (refine wpList_load_row rfl 28 _ rfl w3.heap.size rfl 28 MX (0, 0) _ (kG4.setOther _ _ (Ne.symm hne4)) Try.underlying28 rfl hi ?_))
    have kB5 : Blk (w4.setCell ⟨B, 5, none⟩ (.int .i64 (1 - min s 1))) B 28 MY := (kB4.set 5 _).of_eq hse
    have hB4 : Below w.heap.size w w4 := below_grown (hB3.alloc hB3.size _) hg4 (by simp; omega) (fun q e => by cases e; omega)
    have hB5 : Below w.heap.size w (w4.setCell ⟨B, 5, none⟩ (.int .i64 (1 - min s 1))) := hB4.setCell hBw _
    clear hg4 hs4 kB4 cc cf kG4 hB4 hse hc kB3 hB3
    generalize w4.setCell ⟨B, 5, none⟩ (.int .i64 (1 - min s 1)) = w5 at *
    refine (HR1.out _ hB5).mono ?_
    rintro e w6 ⟨rfl, hb6⟩
    have kB6 := kB5.below hb6 kB5.lt
    have hB6 := hB5.trans (hb6.mono hB5.size)
    clear hb6 hB5 kB5 HR1
    go_wp2_with (refine wpList_load_row rfl 28 _ rfl B rfl 28 MY (0, 0) _ kB6 Try.underlying28 rfl hi2 ?_)
    refine (HR2.out _ hB6).mono ?_
    rintro e w7 ⟨rfl, hb7⟩
    have kB7 := kB6.below hb7 kB6.lt
    have hB7 := hB6.trans (hb7.mono hB6.size)
    clear hb7 hB6 kB6 HR2
    go_wp2_with (refine wpList_load_row rfl 28 _ rfl B rfl 28 MY (0, 0) _ kB7 Try.underlying28 rfl hi2 ?_)
    refine (HE2.out _ hB7).mono ?_
    rintro e w8 ⟨rfl, hb8⟩
    have hB8 := hB7.trans (hb8.mono hB7.size)
    clear hb8 hB7 kB7 HE2
    go_wp2
    go_ret
    exact ⟨rfl, hB8⟩
  by_cases e2 : n = 2
  · have d0 : (n == 0) = false := beq_eq_false_iff_ne.2 e0
    have d1 : (n == 1) = false := beq_eq_false_iff_ne.2 e1
    have d2 : (n == 2) = true := beq_iff_eq.2 e2
    clear e0 e1 e2
    have h0 : 0 ≤ o := (more_pos hr).2.2.1
    have hw : IntKind.i64.wrap (1 - min o 1) = 1 - min o 1 := by rw [IntKind.wrap_i64]; omega
    have hc : (msA (⟨k, d, c, l, v, s, q, o, m, b⟩ : MS) MC BV)[7]? = some (.int .i64 o) := rfl
    have hse : (msA (⟨k, d, c, l, v, s, q, o, m, b⟩ : MS) MC BV).setIfInBounds 7 (.int .i64 (1 - min o 1)) = (msA ⟨k, d, c, l, v, s, q, 1 - min o 1, m, b⟩ MC BV) := by simp [msA, msL]
    have hy := more_not2 hr
    have HR1 := HR.out (⟨k, d, c, l, v, s, q, o, m, b⟩ : MS) rfl rfl
    have HR2 := HR.out ⟨k, d, c, l, v, s, q, 1 - min o 1, m, b⟩ rfl rfl
    have HE2 := HE.out ⟨k, d, c, l, v, s, q, 1 - min o 1, m, b⟩ rfl rfl hy
    rw [hr] at HR1
    rw [hy] at HR2
    have hi2 := HI.out ⟨k, d, c, l, v, s, q, 1 - min o 1, m, b⟩
    clear hr hy HR HE HI
    have HR1 : Hid (∀ V, Below w.heap.size w V → Calls Try.prog 12 #[.agg (msA (⟨k, d, c, l, v, s, q, o, m, b⟩ : MS) MC BV)] V fun e w' => e = .returned (.bool true) ∧ Below V.heap.size V w') := HR1
    have HR2 : Hid (∀ V, Below w.heap.size w V → Calls Try.prog 12 #[.agg (msA ⟨k, d, c, l, v, s, q, 1 - min o 1, m, b⟩ MC BV)] V fun e w' => e = .returned (.bool false) ∧ Below V.heap.size V w') := HR2
    have HE2 : Hid (∀ V, Below w.heap.size w V → Calls Try.prog 10 #[.agg (msA ⟨k, d, c, l, v, s, q, 1 - min o 1, m, b⟩ MC BV)] V fun e w' => e = .returned (.tuple #[.slice none 0 0, .int .i64 1]) ∧ Below V.heap.size V w') := HE2
    generalize (msA (⟨k, d, c, l, v, s, q, o, m, b⟩ : MS) MC BV) = MX at *
    generalize (msA ⟨k, d, c, l, v, s, q, 1 - min o 1, m, b⟩ MC BV) = MY at *
    go_wp2_with (first | (refine wpList_load_row rfl 28 _ rfl B rfl 28 MX (0, 0) _ kB3 Try.underlying28 rfl hi ?_) | (refine store_blk rfl 28 _ _ rfl rfl w3.heap.size MX rfl rfl 28 _ (Blk.new _ _ _) hi hs.symm h1c ?_; intro w4 kG4 hg4 hs4; have kB4 : Blk w4 B 28 MX := (kB3.alloc _).grown hg4 (fun e => hne4 (Option.some.inj e)); have cc : w4.cell? ⟨B, 7, none⟩ = some (.int .i64 o) := kB4.cell hc; have cf : w4.frozen? ⟨B, 7, none⟩ = false := kB4.frozen 7) | (refine wpList_load_row rfl 28 _ rfl w3.heap.size rfl 28 MX (0, 0) _ (kG4.setOther _ _ (Ne.symm hne4)) Try.underlying28 rfl hi ?_))
    have kB5 : Blk (w4.setCell ⟨B, 7, none⟩ (.int .i64 (1 - min o 1))) B 28 MY := (kB4.set 7 _).of_eq hse
    have hB4 : Below w.heap.size w w4 := below_grown (hB3.alloc hB3.size _) hg4 (by simp; omega) (fun q e => by cases e; omega)
    have hB5 : Below w.heap.size w (w4.setCell ⟨B, 7, none⟩ (.int .i64 (1 - min o 1))) := hB4.setCell hBw _
    clear hg4 hs4 kB4 cc cf kG4 hB4 hse hc kB3 hB3
    generalize w4.setCell ⟨B, 7, none⟩ (.int .i64 (1 - min o 1)) = w5 at *
    refine (HR1.out _ hB5).mono ?_
    rintro e w6 ⟨rfl, hb6⟩
    have kB6 := kB5.below hb6 kB5.lt
    have hB6 := hB5.trans (hb6.mono hB5.size)
    clear hb6 hB5 kB5 HR1
    go_wp2_with (refine wpList_load_row rfl 28 _ rfl B rfl 28 MY (0, 0) _ kB6 Try.underlying28 rfl hi2 ?_)
    refine (HR2.out _ hB6).mono ?_
    rintro e w7 ⟨rfl, hb7⟩
    have kB7 := kB6.below hb7 kB6.lt
    have hB7 := hB6.trans (hb7.mono hB6.size)
    clear hb7 hB6 kB6 HR2
    go_wp2_with (refine wpList_load_row rfl 28 _ rfl B rfl 28 MY (0, 0) _ kB7 Try.underlying28 rfl hi2 ?_)
    refine (HE2.out _ hB7).mono ?_
    rintro e w8 ⟨rfl, hb8⟩
    have hB8 := hB7.trans (hb8.mono hB7.size)
    clear hb8 hB7 kB7 HE2
    go_wp2
    go_ret
    exact ⟨rfl, hB8⟩
  by_cases e3 : n = 3
  · have d0 : (n == 0) = false := beq_eq_false_iff_ne.2 e0
    have d1 : (n == 1) = false := beq_eq_false_iff_ne.2 e1
    have d2 : (n == 2) = false := beq_eq_false_iff_ne.2 e2
    have d3 : (n == 3) = true := beq_iff_eq.2 e3
    clear e0 e1 e2 e3
    have h0 : 0 ≤ l := (more_pos hr).2.2.2
    have hw : IntKind.i64.wrap (1 - min l 1) = 1 - min l 1 := by rw [IntKind.wrap_i64]; omega
    have hc : (msA (⟨k, d, c, l, v, s, q, o, m, b⟩ : MS) MC BV)[3]? = some (.int .i64 l) := rfl
    have hse : (msA (⟨k, d, c, l, v, s, q, o, m, b⟩ : MS) MC BV).setIfInBounds 3 (.int .i64 (1 - min l 1)) = (msA ⟨k, d, c, 1 - min l 1, v, s, q, o, m, b⟩ MC BV) := by simp [msA, msL]
    have hy := more_not3 hr
    have HR1 := HR.out (⟨k, d, c, l, v, s, q, o, m, b⟩ : MS) rfl rfl
    have HR2 := HR.out ⟨k, d, c, 1 - min l 1, v, s, q, o, m, b⟩ rfl rfl
    have HE2 := HE.out ⟨k, d, c, 1 - min l 1, v, s, q, o, m, b⟩ rfl rfl hy
    rw [hr] at HR1
    rw [hy] at HR2
    have hi2 := HI.out ⟨k, d, c, 1 - min l 1, v, s, q, o, m, b⟩
    clear hr hy HR HE HI
    have HR1 : Hid (∀ V, Below w.heap.size w V → Calls Try.prog 12 #[.agg (msA (⟨k, d, c, l, v, s, q, o, m, b⟩ : MS) MC BV)] V fun e w' => e = .returned (.bool true) ∧ Below V.heap.size V w') := HR1
    have HR2 : Hid (∀ V, Below w.heap.size w V → Calls Try.prog 12 #[.agg (msA ⟨k, d, c, 1 - min l 1, v, s, q, o, m, b⟩ MC BV)] V fun e w' => e = .returned (.bool false) ∧ Below V.heap.size V w') := HR2
    have HE2 : Hid (∀ V, Below w.heap.size w V → Calls Try.prog 10 #[.agg (msA ⟨k, d, c, 1 - min l 1, v, s, q, o, m, b⟩ MC BV)] V fun e w' => e = .returned (.tuple #[.slice none 0 0, .int .i64 1]) ∧ Below V.heap.size V w') := HE2
    generalize (msA (⟨k, d, c, l, v, s, q, o, m, b⟩ : MS) MC BV) = MX at *
    generalize (msA ⟨k, d, c, 1 - min l 1, v, s, q, o, m, b⟩ MC BV) = MY at *
    go_wp2_with (first | (refine wpList_load_row rfl 28 _ rfl B rfl 28 MX (0, 0) _ kB3 Try.underlying28 rfl hi ?_) | (refine store_blk rfl 28 _ _ rfl rfl w3.heap.size MX rfl rfl 28 _ (Blk.new _ _ _) hi hs.symm h1c ?_; intro w4 kG4 hg4 hs4; have kB4 : Blk w4 B 28 MX := (kB3.alloc _).grown hg4 (fun e => hne4 (Option.some.inj e)); have cc : w4.cell? ⟨B, 3, none⟩ = some (.int .i64 l) := kB4.cell hc; have cf : w4.frozen? ⟨B, 3, none⟩ = false := kB4.frozen 3) | (refine wpList_load_row rfl 28 _ rfl w3.heap.size rfl 28 MX (0, 0) _ (kG4.setOther _ _ (Ne.symm hne4)) Try.underlying28 rfl hi ?_))
    have kB5 : Blk (w4.setCell ⟨B, 3, none⟩ (.int .i64 (1 - min l 1))) B 28 MY := (kB4.set 3 _).of_eq hse
    have hB4 : Below w.heap.size w w4 := below_grown (hB3.alloc hB3.size _) hg4 (by simp; omega) (fun q e => by cases e; omega)
    have hB5 : Below w.heap.size w (w4.setCell ⟨B, 3, none⟩ (.int .i64 (1 - min l 1))) := hB4.setCell hBw _
    clear hg4 hs4 kB4 cc cf kG4 hB4 hse hc kB3 hB3
    generalize w4.setCell ⟨B, 3, none⟩ (.int .i64 (1 - min l 1)) = w5 at *
    refine (HR1.out _ hB5).mono ?_
    rintro e w6 ⟨rfl, hb6⟩
    have kB6 := kB5.below hb6 kB5.lt
    have hB6 := hB5.trans (hb6.mono hB5.size)
    clear hb6 hB5 kB5 HR1
    go_wp2_with (refine wpList_load_row rfl 28 _ rfl B rfl 28 MY (0, 0) _ kB6 Try.underlying28 rfl hi2 ?_)
    refine (HR2.out _ hB6).mono ?_
    rintro e w7 ⟨rfl, hb7⟩
    have kB7 := kB6.below hb7 kB6.lt
    have hB7 := hB6.trans (hb7.mono hB6.size)
    clear hb7 hB6 kB6 HR2
    go_wp2_with (refine wpList_load_row rfl 28 _ rfl B rfl 28 MY (0, 0) _ kB7 Try.underlying28 rfl hi2 ?_)
    refine (HE2.out _ hB7).mono ?_
    rintro e w8 ⟨rfl, hb8⟩
    have hB8 := hB7.trans (hb8.mono hB7.size)
    clear hb8 hB7 kB7 HE2
    go_wp2
    go_ret
    exact ⟨rfl, hB8⟩
  by_cases e4 : n = 4
  · have d0 : (n == 0) = false := beq_eq_false_iff_ne.2 e0
    have d1 : (n == 1) = false := beq_eq_false_iff_ne.2 e1
    have d2 : (n == 2) = false := beq_eq_false_iff_ne.2 e2
    have d3 : (n == 3) = false := beq_eq_false_iff_ne.2 e3
    have d4 : (n == 4) = true := beq_iff_eq.2 e4
    clear e0 e1 e2 e3 e4
    have hc : (msA (⟨k, d, c, l, v, s, q, o, m, b⟩ : MS) MC BV)[0]? = some (.int .i64 k) := rfl
    have hse : (msA (⟨k, d, c, l, v, s, q, o, m, b⟩ : MS) MC BV).setIfInBounds 0 (.int .i64 0) = (msA ⟨0, d, c, l, v, s, q, o, m, b⟩ MC BV) := by simp [msA, msL]
    have hy := more_not4 hr
    have HR1 := HR.out (⟨k, d, c, l, v, s, q, o, m, b⟩ : MS) rfl rfl
    have HR2 := HR.out ⟨0, d, c, l, v, s, q, o, m, b⟩ rfl rfl
    have HE2 := HE.out ⟨0, d, c, l, v, s, q, o, m, b⟩ rfl rfl hy
    rw [hr] at HR1
    rw [hy] at HR2
    have hi2 := HI.out ⟨0, d, c, l, v, s, q, o, m, b⟩
    clear hr hy HR HE HI
    have HR1 : Hid (∀ V, Below w.heap.size w V → Calls Try.prog 12 #[.agg (msA (⟨k, d, c, l, v, s, q, o, m, b⟩ : MS) MC BV)] V fun e w' => e = .returned (.bool true) ∧ Below V.heap.size V w') := HR1
    have HR2 : Hid (∀ V, Below w.heap.size w V → Calls Try.prog 12 #[.agg (msA ⟨0, d, c, l, v, s, q, o, m, b⟩ MC BV)] V fun e w' => e = .returned (.bool false) ∧ Below V.heap.size V w') := HR2
    have HE2 : Hid (∀ V, Below w.heap.size w V → Calls Try.prog 10 #[.agg (msA ⟨0, d, c, l, v, s, q, o, m, b⟩ MC BV)] V fun e w' => e = .returned (.tuple #[.slice none 0 0, .int .i64 1]) ∧ Below V.heap.size V w') := HE2
    generalize (msA (⟨k, d, c, l, v, s, q, o, m, b⟩ : MS) MC BV) = MX at *
    generalize (msA ⟨0, d, c, l, v, s, q, o, m, b⟩ MC BV) = MY at *
    go_wp2_with (first | (refine wpList_load_row rfl 28 _ rfl B rfl 28 MX (0, 0) _ kB3 Try.underlying28 rfl hi ?_) | (refine store_blk rfl 28 _ _ rfl rfl w3.heap.size MX rfl rfl 28 _ (Blk.new _ _ _) hi hs.symm h1c ?_; intro w4 kG4 hg4 hs4; have kB4 : Blk w4 B 28 MX := (kB3.alloc _).grown hg4 (fun e => hne4 (Option.some.inj e)); have cc : w4.cell? ⟨B, 0, none⟩ = some (.int .i64 k) := kB4.cell hc; have cf : w4.frozen? ⟨B, 0, none⟩ = false := kB4.frozen 0) | (refine wpList_load_row rfl 28 _ rfl w3.heap.size rfl 28 MX (0, 0) _ (kG4.setOther _ _ (Ne.symm hne4)) Try.underlying28 rfl hi ?_))
    have kB5 : Blk (w4.setCell ⟨B, 0, none⟩ (.int .i64 0)) B 28 MY := (kB4.set 0 _).of_eq hse
    have hB4 : Below w.heap.size w w4 := below_grown (hB3.alloc hB3.size _) hg4 (by simp; omega) (fun q e => by cases e; omega)
    have hB5 : Below w.heap.size w (w4.setCell ⟨B, 0, none⟩ (.int .i64 0)) := hB4.setCell hBw _
    clear hg4 hs4 kB4 cc cf kG4 hB4 hse hc kB3 hB3
    generalize w4.setCell ⟨B, 0, none⟩ (.int .i64 0) = w5 at *
    refine (HR1.out _ hB5).mono ?_
    rintro e w6 ⟨rfl, hb6⟩
    have kB6 := kB5.below hb6 kB5.lt
    have hB6 := hB5.trans (hb6.mono hB5.size)
    clear hb6 hB5 kB5 HR1
    go_wp2_with (refine wpList_load_row rfl 28 _ rfl B rfl 28 MY (0, 0) _ kB6 Try.underlying28 rfl hi2 ?_)
    refine (HR2.out _ hB6).mono ?_
    rintro e w7 ⟨rfl, hb7⟩
    have kB7 := kB6.below hb7 kB6.lt
    have hB7 := hB6.trans (hb7.mono hB6.size)
    clear hb7 hB6 kB6 HR2
    go_wp2_with (refine wpList_load_row rfl 28 _ rfl B rfl 28 MY (0, 0) _ kB7 Try.underlying28 rfl hi2 ?_)
    refine (HE2.out _ hB7).mono ?_
    rintro e w8 ⟨rfl, hb8⟩
    have hB8 := hB7.trans (hb8.mono hB7.size)
    clear hb8 hB7 kB7 HE2
    go_wp2
    go_ret
    exact ⟨rfl, hB8⟩
  have d0 : (n == 0) = false := beq_eq_false_iff_ne.2 e0
  have d1 : (n == 1) = false := beq_eq_false_iff_ne.2 e1
  have d2 : (n == 2) = false := beq_eq_false_iff_ne.2 e2
  have d3 : (n == 3) = false := beq_eq_false_iff_ne.2 e3
  have d4 : (n == 4) = false := beq_eq_false_iff_ne.2 e4
  clear e0 e1 e2 e3 e4
  have hc : (msA (⟨k, d, c, l, v, s, q, o, m, b⟩ : MS) MC BV)[0]? = some (.int .i64 k) := rfl
  have hse : (msA (⟨k, d, c, l, v, s, q, o, m, b⟩ : MS) MC BV).setIfInBounds 0 (.int .i64 9) = (msA ⟨9, d, c, l, v, s, q, o, m, b⟩ MC BV) := by simp [msA, msL]
  have hy := more_not5 hr
  have HR1 := HR.out (⟨k, d, c, l, v, s, q, o, m, b⟩ : MS) rfl rfl
  have HR2 := HR.out ⟨9, d, c, l, v, s, q, o, m, b⟩ rfl rfl
  have HE2 := HE.out ⟨9, d, c, l, v, s, q, o, m, b⟩ rfl rfl hy
  rw [hr] at HR1
  rw [hy] at HR2
  have hi2 := HI.out ⟨9, d, c, l, v, s, q, o, m, b⟩
  clear hr hy HR HE HI
  have HR1 : Hid (∀ V, Below w.heap.size w V → Calls Try.prog 12 #[.agg (msA (⟨k, d, c, l, v, s, q, o, m, b⟩ : MS) MC BV)] V fun e w' => e = .returned (.bool true) ∧ Below V.heap.size V w') := HR1
  have HR2 : Hid (∀ V, Below w.heap.size w V → Calls Try.prog 12 #[.agg (msA ⟨9, d, c, l, v, s, q, o, m, b⟩ MC BV)] V fun e w' => e = .returned (.bool false) ∧ Below V.heap.size V w') := HR2
  have HE2 : Hid (∀ V, Below w.heap.size w V → Calls Try.prog 10 #[.agg (msA ⟨9, d, c, l, v, s, q, o, m, b⟩ MC BV)] V fun e w' => e = .returned (.tuple #[.slice none 0 0, .int .i64 1]) ∧ Below V.heap.size V w') := HE2
  generalize (msA (⟨k, d, c, l, v, s, q, o, m, b⟩ : MS) MC BV) = MX at *
  generalize (msA ⟨9, d, c, l, v, s, q, o, m, b⟩ MC BV) = MY at *
  go_wp2_with (first | (refine wpList_load_row rfl 28 _ rfl B rfl 28 MX (0, 0) _ kB3 Try.underlying28 rfl hi ?_) | (refine store_blk rfl 28 _ _ rfl rfl w3.heap.size MX rfl rfl 28 _ (Blk.new _ _ _) hi hs.symm h1c ?_; intro w4 kG4 hg4 hs4; have kB4 : Blk w4 B 28 MX := (kB3.alloc _).grown hg4 (fun e => hne4 (Option.some.inj e)); have cc : w4.cell? ⟨B, 0, none⟩ = some (.int .i64 k) := kB4.cell hc; have cf : w4.frozen? ⟨B, 0, none⟩ = false := kB4.frozen 0) | (refine wpList_load_row rfl 28 _ rfl w3.heap.size rfl 28 MX (0, 0) _ (kG4.setOther _ _ (Ne.symm hne4)) Try.underlying28 rfl hi ?_))
  have kB5 : Blk (w4.setCell ⟨B, 0, none⟩ (.int .i64 9)) B 28 MY := (kB4.set 0 _).of_eq hse
  have hB4 : Below w.heap.size w w4 := below_grown (hB3.alloc hB3.size _) hg4 (by simp; omega) (fun q e => by cases e; omega)
  have hB5 : Below w.heap.size w (w4.setCell ⟨B, 0, none⟩ (.int .i64 9)) := hB4.setCell hBw _
  clear hg4 hs4 kB4 cc cf kG4 hB4 hse hc kB3 hB3
  generalize w4.setCell ⟨B, 0, none⟩ (.int .i64 9) = w5 at *
  refine (HR1.out _ hB5).mono ?_
  rintro e w6 ⟨rfl, hb6⟩
  have kB6 := kB5.below hb6 kB5.lt
  have hB6 := hB5.trans (hb6.mono hB5.size)
  clear hb6 hB5 kB5 HR1
  go_wp2_with (refine wpList_load_row rfl 28 _ rfl B rfl 28 MY (0, 0) _ kB6 Try.underlying28 rfl hi2 ?_)
  refine (HR2.out _ hB6).mono ?_
  rintro e w7 ⟨rfl, hb7⟩
  have kB7 := kB6.below hb7 kB6.lt
  have hB7 := hB6.trans (hb7.mono hB6.size)
  clear hb7 hB6 kB6 HR2
  go_wp2_with (refine wpList_load_row rfl 28 _ rfl B rfl 28 MY (0, 0) _ kB7 Try.underlying28 rfl hi2 ?_)
  refine (HE2.out _ hB7).mono ?_
  rintro e w8 ⟨rfl, hb8⟩
  have hB8 := hB7.trans (hb8.mono hB7.size)
  clear hb8 hB7 kB7 HE2
  go_wp2
  go_ret
  exact ⟨rfl, hB8⟩
end Go.Proofs.Ytpmcjpkknekahaa
