/-
  What is proved here: wire.isNone, manifestMay of what is no Offer, and wire.Right.
  Conditions: the message comes in as a value; what manifestMay answers.
-/
import Derived.Test.YtgfcindkfnjeoaaJWireMay
import Derived.Stop.BytesEq
namespace Go.Proofs.Ytgfcindkfnjeoaa
open Go.RowKit

theorem loadmid_guardedW {ops : Array Oper} {rest : List Oper} {o : Oper} {a : Act} {w : World} {Q : Exit → Act → World → Prop} (hw : Region.wanted o (yielded ops a.tmps) = true) (ty : TypeId) (x : Operand) (ho : o.op = .load ty x)
    (b off : Nat) (hx : a.eval x = .pointer (some ⟨b, off, none⟩)) (cs : List Value) (d : TypeDesc) (hc : w.rangeAt b off cs)
    (hu : Try.prog.underlying ty = some d) (hd : d.isRow = true) (hi : (Try.prog.info? ty).map (·.size) = some cs.length)
    (h : wpList Try.prog ops Q rest (a.put o.dst (.agg cs.toArray)) w) : wpList Try.prog ops Q (o :: rest) a w := by
  refine wpList_step fun K hK => ?_
  rw [if_pos hw]
  unfold Oper.wp
  rw [exec_loadB ty x ho b off cs d hx hc hu hd hi]
  exact hK _ _ h
theorem eql_sumsW (xs ys : List UInt8) (hx : xs.length = 32) (hy : ys.length = 32) (w : World) : (binOp .eql 22 (.agg (xs.map v8).toArray) (.agg (ys.map v8).toArray)).run Try.prog w = .ok (.bool (xs == ys)) w := by
  have h : (Op.equalIn 10000 22 (.agg (xs.map v8).toArray) (.agg (ys.map v8).toArray)).run Try.prog w = .ok (xs == ys) w := run_equalIn_bytes (P := Try.prog) w 9998 22 5 32 Try.underlying22 Try.underlying5 (fun w => by kernel_rfl) xs ys hx hy
  rw [run_eql_struct, h]
  rfl
def zeroC : List Value := manL ⟨0, 0, 0, List.replicate 32 0, []⟩ (.slice none 0 0)
theorem zeroManW (w : World) : (zeroValue 25).run Try.prog w = .ok (.agg zeroC.toArray) w := by kernel_rfl
theorem info_manW : (Try.prog.info? 25).map (·.size) = some 36 := by kernel_rfl
theorem info_sumAW : (Try.prog.info? 22).map (·.size) = some 32 := by kernel_rfl
theorem manC_rangeW (m : MM) (su : Value) (B off : Nat) (V : World) (h : V.rangeAt B off (manL m su)) : V.rangeAt B (off + 3) (m.h.map v8) := fun j v hv => by
  have hj := (List.getElem?_eq_some_iff.1 hv).1
  rw [Nat.add_assoc]
  refine h (3 + j) v ?_
  rw [Nat.add_comm]
  show ((m.h.map v8 ++ [su]) : List Value)[j]? = some v
  rw [List.getElem?_append_left hj]
  exact hv
set_option maxRecDepth 100000 in
set_option maxHeartbeats 4000000 in
theorem isNone_any (m : MM) (ao : Option Addr) (cu : Nat) (w : World) (hh : m.h.length = 32) :
    Calls Try.prog 44 #[.agg (manL m (.slice ao m.u.length cu)).toArray] w fun e w' => e = .returned (.bool (noneM m)) ∧ Below w.heap.size w w' := by
  have hz := zeroManW
  have hil : (Try.prog.info? 22).map (·.size) = some (m.h.map v8).length := by rw [List.length_map, hh]; exact info_sumAW
  have HE := eql_sumsW m.h (List.replicate 32 0) hh rfl
  have hB2 : Below w.heap.size w ((w.alloc (.cells (manL m (.slice ao m.u.length cu)).toArray 25)).alloc (.cells zeroC.toArray 25)) := by exact ((Below.refl w.heap.size w).alloc (Nat.le_refl _) _).alloc (by simp) _
  have kM : Blk ((w.alloc (.cells (manL m (.slice ao m.u.length cu)).toArray 25)).alloc (.cells zeroC.toArray 25)) w.heap.size 25 (manL m (.slice ao m.u.length cu)).toArray := (Blk.new w _ _).alloc _
  have kN : Blk ((w.alloc (.cells (manL m (.slice ao m.u.length cu)).toArray 25)).alloc (.cells zeroC.toArray 25)) (w.heap.size + 1) 25 zeroC.toArray := Blk.newAt _ _ _ _ (by simp)
  have c0 : ((w.alloc (.cells (manL m (.slice ao m.u.length cu)).toArray 25)).alloc (.cells zeroC.toArray 25)).cell? ⟨w.heap.size, 0, none⟩ = some (.int .i64 m.v) := kM.cell rfl
  have c1 : ((w.alloc (.cells (manL m (.slice ao m.u.length cu)).toArray 25)).alloc (.cells zeroC.toArray 25)).cell? ⟨w.heap.size, 1, none⟩ = some (.int .i64 m.s) := kM.cell rfl
  have c2 : ((w.alloc (.cells (manL m (.slice ao m.u.length cu)).toArray 25)).alloc (.cells zeroC.toArray 25)).cell? ⟨w.heap.size, 2, none⟩ = some (.int .i64 m.c) := kM.cell rfl
  have c35 : ((w.alloc (.cells (manL m (.slice ao m.u.length cu)).toArray 25)).alloc (.cells zeroC.toArray 25)).cell? ⟨w.heap.size, 35, none⟩ = some (.slice ao m.u.length cu) := kM.cell (by have := manC_35 m (.slice ao m.u.length cu) hh; exact this)
  have r1 : ((w.alloc (.cells (manL m (.slice ao m.u.length cu)).toArray 25)).alloc (.cells zeroC.toArray 25)).rangeAt w.heap.size 3 (m.h.map v8) := manC_rangeW m (.slice ao m.u.length cu) w.heap.size 0 ((w.alloc (.cells (manL m (.slice ao m.u.length cu)).toArray 25)).alloc (.cells zeroC.toArray 25)) (kM.range 0 _ (fun j v hj => by rw [Nat.zero_add]; simpa using hj))
  have r2 : ((w.alloc (.cells (manL m (.slice ao m.u.length cu)).toArray 25)).alloc (.cells zeroC.toArray 25)).rangeAt (w.heap.size + 1) 3 ((List.replicate 32 (0 : UInt8)).map v8) := manC_rangeW ⟨0, 0, 0, List.replicate 32 0, []⟩ (.slice none 0 0) (w.heap.size + 1) 0 ((w.alloc (.cells (manL m (.slice ao m.u.length cu)).toArray 25)).alloc (.cells zeroC.toArray 25)) (kN.range 0 _ (fun j v hj => by rw [Nat.zero_add]; simpa [zeroC] using hj))
  have hi2 : (Try.prog.info? 22).map (·.size) = some ((List.replicate 32 (0 : UInt8)).map v8).length := info_sumAW
  unfold noneM
  generalize m.h.map v8 = SL at *
  generalize (List.replicate 32 (0 : UInt8)).map v8 = ZL at *
  generalize (m.h == List.replicate 32 0) = b4 at *
  generalize (manL m (.slice ao m.u.length cu)).toArray = MC at *
  generalize zeroC.toArray = ZC at *
  have hl : decide (m.u.length = 0) = ((m.u.length : Int) == 0) := by
    by_cases h : m.u.length = 0
    · rw [decide_eq_true h, h]; rfl
    · rw [decide_eq_false h]; exact (beq_eq_false_iff_ne.2 (by omega)).symm
  rw [hl]
  have hBw : w.heap.size ≠ w.heap.size + 1 := by omega
  clear kM kN hl hh
  cases q1 : (m.v == 0) with
  | false =>
    go_enter Try.func44, Try.ntmps44
    go_wp2_with (first | (refine loadmid_guardedW rfl 22 _ rfl w.heap.size 3 rfl SL _ r1 Try.underlying22 rfl hil ?_) | (refine loadmid_guardedW rfl 22 _ rfl (w.heap.size + 1) 3 rfl ZL _ r2 Try.underlying22 rfl hi2 ?_))
    go_ret
    exact ⟨rfl, hB2⟩
  | true =>
    cases q2 : (m.s == 0) with
    | false =>
      go_enter Try.func44, Try.ntmps44
      go_wp2_with (first | (refine loadmid_guardedW rfl 22 _ rfl w.heap.size 3 rfl SL _ r1 Try.underlying22 rfl hil ?_) | (refine loadmid_guardedW rfl 22 _ rfl (w.heap.size + 1) 3 rfl ZL _ r2 Try.underlying22 rfl hi2 ?_))
      go_ret
      exact ⟨rfl, hB2⟩
    | true =>
      cases q3 : (m.c == 0) with
      | false =>
        go_enter Try.func44, Try.ntmps44
        go_wp2_with (first | (refine loadmid_guardedW rfl 22 _ rfl w.heap.size 3 rfl SL _ r1 Try.underlying22 rfl hil ?_) | (refine loadmid_guardedW rfl 22 _ rfl (w.heap.size + 1) 3 rfl ZL _ r2 Try.underlying22 rfl hi2 ?_))
        go_ret
        exact ⟨rfl, hB2⟩
      | true =>
        cases b4 with
        | false =>
          go_enter Try.func44, Try.ntmps44
          go_wp2_with (first | (refine loadmid_guardedW rfl 22 _ rfl w.heap.size 3 rfl SL _ r1 Try.underlying22 rfl hil ?_) | (refine loadmid_guardedW rfl 22 _ rfl (w.heap.size + 1) 3 rfl ZL _ r2 Try.underlying22 rfl hi2 ?_))
          go_ret
          exact ⟨rfl, hB2⟩
        | true =>
          cases q5 : ((m.u.length : Int) == 0) with
          | false =>
            go_enter Try.func44, Try.ntmps44
            go_wp2_with (first | (refine loadmid_guardedW rfl 22 _ rfl w.heap.size 3 rfl SL _ r1 Try.underlying22 rfl hil ?_) | (refine loadmid_guardedW rfl 22 _ rfl (w.heap.size + 1) 3 rfl ZL _ r2 Try.underlying22 rfl hi2 ?_))
            go_ret
            exact ⟨rfl, hB2⟩
          | true =>
            go_enter Try.func44, Try.ntmps44
            go_wp2_with (first | (refine loadmid_guardedW rfl 22 _ rfl w.heap.size 3 rfl SL _ r1 Try.underlying22 rfl hil ?_) | (refine loadmid_guardedW rfl 22 _ rfl (w.heap.size + 1) 3 rfl ZL _ r2 Try.underlying22 rfl hi2 ?_))
            go_ret
            exact ⟨rfl, hB2⟩
theorem manL_len (m : MM) (su : Value) (h : m.h.length = 32) : (manL m su).length = 36 := by simp [manL, h]
theorem manL_one (m : MM) (ao : Option Addr) (n c : Nat) : ∀ u ∈ manL m (.slice ao n c), u.oneCell' = true := fun u hu => by
  simp only [manL, List.mem_cons, List.mem_append, List.not_mem_nil, or_false] at hu
  rcases hu with rfl | rfl | rfl | hu | rfl
  · rfl
  · rfl
  · rfl
  · obtain ⟨b, _, rfl⟩ := List.mem_map.1 hu; rfl
  · rfl
theorem msA_range (x : MS) (mc : List Value) (bv : Value) (B : Nat) (V : World) (h : Blk V B 28 (msA x mc bv)) : V.rangeAt B 8 mc := h.range 8 mc (fun j v hj => msA_man x mc bv j v hj)
/-- manifestMay of what is no Offer. -/
theorem manMay_other (x : MS) (ao : Option Addr) (cu : Nat) (bv : Value) (w : World) (hh : x.m.h.length = 32) (hk : x.k ≠ 2) :
    Calls Try.prog 22 #[.agg (msA x (manL x.m (.slice ao x.m.u.length cu)) bv)] w fun e w' => e = .returned (.bool (manMay x)) ∧ Below w.heap.size w w' := by
  have hB0 := (Below.refl w.heap.size w).alloc (Nat.le_refl _) (.cells (msA x (manL x.m (.slice ao x.m.u.length cu)) bv) 28)
  have kB0 := Blk.new w 28 (msA x (manL x.m (.slice ao x.m.u.length cu)) bv)
  have c0 := kB0.cell (msA_k x (manL x.m (.slice ao x.m.u.length cu)) bv)
  have hr := msA_range x (manL x.m (.slice ao x.m.u.length cu)) bv _ _ kB0
  have hi : (Try.prog.info? 25).map (·.size) = some (manL x.m (.slice ao x.m.u.length cu)).length := by rw [manL_len _ _ hh]; exact info_manW
  have hN := fun V => isNone_any x.m ao cu V hh
  have d5 : (x.k == 2) = false := beq_eq_false_iff_ne.2 hk
  have hm : manMay x = noneM x.m := if_neg hk
  rw [hm]
  generalize manL x.m (.slice ao x.m.u.length cu) = MC at *
  have HN : Hid (∀ V, Calls Try.prog 44 #[.agg MC.toArray] V fun e w' => e = .returned (.bool (noneM x.m)) ∧ Below V.heap.size V w') := hN
  clear hN hk hh hm kB0
  go_enter Try.func22, Try.ntmps22
  go_wp2_with (refine wpList_load_mid rfl 25 _ rfl w.heap.size 8 rfl MC _ hr Try.underlying25 rfl hi ?_)
  refine (HN.out _).mono ?_
  rintro e w1 ⟨rfl, hb1⟩
  have hB1 := hB0.trans (hb1.mono hB0.size)
  go_wp2
  go_ret
  exact ⟨rfl, hB1⟩
set_option maxRecDepth 100000 in
set_option maxHeartbeats 4000000 in
/-- Whether a message may be. -/
theorem wright_any (x : MS) (mc : List Value) (ab : Option Addr) (cb : Nat) (w : World) (hmc : mc.length = 36) (HM0 : ∀ V, Below w.heap.size w V → Calls Try.prog 22 #[.agg (msA x mc (.slice ab x.b.length cb))] V fun e w' => e = .returned (.bool (manMay x)) ∧ Below V.heap.size V w') :
    Calls Try.prog 10 #[.agg (msA x mc (.slice ab x.b.length cb))] w fun e w' => e = .returned (.bool (rightM x)) ∧ Below w.heap.size w w' := by
  have hB0 := (Below.refl w.heap.size w).alloc (Nat.le_refl _) (.cells (msA x mc (.slice ab x.b.length cb)) 28)
  have kB0 := Blk.new w 28 (msA x mc (.slice ab x.b.length cb))
  have c0 := kB0.cell (msA_k x mc (.slice ab x.b.length cb))
  have hi : (Try.prog.info? 28).map (·.size) = some (msA x mc (.slice ab x.b.length cb)).size := by rw [msA_size _ _ _ hmc]; exact info_mess
  have hNU := fun V => numsMay_any x mc (.slice ab x.b.length cb) V hmc
  have hBO := fun V => bodyMay_any x mc ab cb V hmc
  have HMM : Hid (∀ V, Below w.heap.size w V → Calls Try.prog 22 #[.agg (msA x mc (.slice ab x.b.length cb))] V fun e w' => e = .returned (.bool (manMay x)) ∧ Below V.heap.size V w') := HM0
  clear HM0
  unfold rightM
  generalize numsMay x = b1 at *
  generalize manMay x = b2 at *
  generalize bodyMay x = b3 at *
  generalize x.k = kk at *
  generalize msA x mc (.slice ab x.b.length cb) = MC at *
  have HNU : Hid (∀ V, Calls Try.prog 21 #[.agg MC] V fun e w' => e = .returned (.bool b1) ∧ Below V.heap.size V w') := hNU
  have HBO : Hid (∀ V, Calls Try.prog 23 #[.agg MC] V fun e w' => e = .returned (.bool b3) ∧ Below V.heap.size V w') := hBO
  clear hNU hBO hmc
  obtain ⟨B, hB⟩ : ∃ B, B = w.heap.size := ⟨_, rfl⟩
  have HBE : Hid (w.heap.size = B) := hB.symm
  rw [← hB] at kB0 c0
  by_cases h1 : 1 ≤ kk
  rotate_left
  · have d1 : decide (1 ≤ kk) = false := decide_eq_false h1
    rw [hB] at c0
    clear h1 hB kB0 HMM HNU HBO
    rw [d1]
    go_enter Try.func10, Try.ntmps10
    go_wp2
    go_ret
    exact ⟨rfl, hB0⟩
  have d1 : decide (1 ≤ kk) = true := decide_eq_true h1
  by_cases h2 : kk ≤ 8
  rotate_left
  · have d2 : decide (kk ≤ 8) = false := decide_eq_false h2
    rw [hB] at c0
    clear h1 h2 hB kB0 HMM HNU HBO
    rw [d1, d2]
    go_enter Try.func10, Try.ntmps10
    go_wp2
    go_ret
    exact ⟨rfl, hB0⟩
  have d2 : decide (kk ≤ 8) = true := decide_eq_true h2
  rw [d1, d2]
  rw [hB] at c0
  clear h1 h2 hB
  rw [← HBE.out] at kB0
  go_enter Try.func10, Try.ntmps10
  go_wp2_with (refine load_guarded rfl 28 _ rfl w.heap.size rfl 28 MC (0, 0) _ kB0 Try.underlying28 rfl hi ?_)
  refine (HNU.out _).mono ?_
  rintro e w1 ⟨rfl, hb1⟩
  have kB1 := kB0.below hb1 kB0.lt
  have hB1 := hB0.trans (hb1.mono hB0.size)
  clear hb1 c0 HNU hB0 kB0
  cases b1 with
  | false =>
    go_wp2
    go_ret
    exact ⟨rfl, hB1⟩
  | true =>
    go_wp2_with (refine load_guarded rfl 28 _ rfl w.heap.size rfl 28 MC (0, 0) _ kB1 Try.underlying28 rfl hi ?_)
    refine (HMM.out _ hB1).mono ?_
    rintro e w2 ⟨rfl, hb2⟩
    have kB2 := kB1.below hb2 kB1.lt
    have hB2 := hB1.trans (hb2.mono hB1.size)
    clear hb2 HMM hB1 kB1
    cases b2 with
    | false =>
      go_wp2
      go_ret
      exact ⟨rfl, hB2⟩
    | true =>
      go_wp2_with (refine load_guarded rfl 28 _ rfl w.heap.size rfl 28 MC (0, 0) _ kB2 Try.underlying28 rfl hi ?_)
      refine (HBO.out _).mono ?_
      rintro e w3 ⟨rfl, hb3⟩
      have hB3 := hB2.trans (hb3.mono hB2.size)
      clear hb3 hB2 kB2
      go_wp2
      go_ret
      exact ⟨rfl, hB3⟩
end Go.Proofs.Ytgfcindkfnjeoaa
