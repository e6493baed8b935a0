/-
  What is proved here: the statement LeaseEnds is true of any devices.
  Conditions: they lie in memory.
-/
import Derived.Test.YthlohlomefiebaaLeAwake
import Derived.Test.YthlohlomefiebaaLeSteps
import Derived.BigQuiet
import Derived.Deep.QuietTactic
namespace Go.Proofs.Ythlohlomefiebaa
open Go.RowKit Go.Maps

/-- All have ended. -/
def Shut (l : List LE) : Prop := ∀ e ∈ l, e.u = 0
theorem shut_open {l : List LE} (h : Shut l) (d : Int) : openD l d = none := by
  rw [openD_none]
  rintro e he ⟨_, hu⟩
  have := h e he
  omega
theorem ends_grant {l : List LE} (h : Shut l) (d t : Int) (hl : l.length < 20000) (hd : deT d = true) (ht : moT t = true) : grantT l d t 5 = ((⟨(l.length : Int) + 1, d, t + 5⟩, 0), l ++ [⟨(l.length : Int) + 1, d, t + 5⟩]) := by
  unfold grantT
  rw [hd, ht, if_neg (by decide), shut_open h, if_neg (by decide), if_neg (by omega)]
theorem ends_bad {l : List LE} (d t f : Int) (hd : deT d = false) : grantT l d t f = ((noLE, 1), l) := by
  unfold grantT
  rw [if_pos (.inl hd)]
theorem at_last (l : List LE) (e : LE) : atT (l ++ [e]) ((l.length : Int) + 1) = some e := by
  rw [atT_at, List.getElem?_append_right (Nat.le_refl _), Nat.sub_self]; rfl
theorem set_last (l : List LE) (e x : LE) : (l ++ [e]).set l.length x = l ++ [x] := by
  rw [List.set_append_right _ _ (Nat.le_refl _), Nat.sub_self]; rfl
theorem ends_end (l : List LE) (e : LE) (he : 0 < e.u) : endT (l ++ [e]) ((l.length : Int) + 1) = (0, l ++ [e.off]) := by
  unfold endT
  rw [opn_of (at_last l e) he]
  show ((0 : Int), (l ++ [e]).set ((l.length : Int) + 1 - 1).toNat e.off) = _
  rw [show ((l.length : Int) + 1 - 1).toNat = l.length by omega, set_last]
theorem ends_again (l : List LE) (e : LE) : endT (l ++ [e.off]) ((l.length : Int) + 1) = (4, l ++ [e.off]) := by
  unfold endT
  rw [opn_no (at_last l e.off) (by show ¬ (0 : Int) < 0; omega)]
theorem ends_at (l : List LE) (e : LE) : ansAt (l ++ [e]) ((l.length : Int) + 1) = (e, 0) := by
  unfold ansAt
  rw [at_last]
theorem ends_renew (l : List LE) (e : LE) (t : Int) (ht : moT t = true) : renewT (l ++ [e.off]) ((l.length : Int) + 1) t 5 = ((noLE, 4), l ++ [e.off]) := by
  unfold renewT
  rw [ht, if_neg (by decide), opn_no (at_last l e.off) (by show ¬ (0 : Int) < 0; omega)]
theorem shut_snoc {l : List LE} (h : Shut l) (e : LE) : Shut (l ++ [e.off]) := fun x hx => by
  rcases List.mem_append.1 hx with h1 | h1
  · exact h x h1
  · rw [List.mem_singleton.1 h1]; rfl
theorem ends_of {l : List LE} (h : Shut l) (e : LE) (d : Int) : ofT (l ++ [e.off]) d = (noLE, false) := by
  unfold ofT
  rw [shut_open (shut_snoc h e)]
set_option maxRecDepth 100000 in
set_option maxHeartbeats 4000000 in
theorem leaseEnds_any (x : Value) (ds : List Int) (w : World) (hx : Ints16 w x ds) : Calls Try.prog 8 #[x] w fun e w' => e = .returned (.bool true) ∧ Below w.heap.size w w' := by
  have HR : Hid (0 < ds.length → ∃ b off c, x = .slice (some ⟨b, off, none⟩) ds.length c ∧ b < w.heap.size ∧ ∀ (i : Nat) z, ds[i]? = some z → w.cell? ⟨b, off + i, none⟩ = some (.int .i64 z)) := fun h => hx.form h
  have HW : Hid (∀ z ∈ ds, -9223372036854775808 ≤ z ∧ z ≤ 9223372036854775807) := hx.2
  obtain ⟨ax, cx, rfl⟩ := hx.1.shape
  clear hx
  go_enter Try.func8, Try.ntmps8
  go_wp2_with fail
  refine (awake16_any w).mono ?_
  rintro e w1 ⟨rfl, hB1⟩
  go_wp2_with fail
  refine (new16_any w1).mono ?_
  rintro e w2 ⟨G, b, rfl, hT, hb2⟩
  have hB2 : Below w.heap.size w w2 := hB1.trans (hb2.mono hB1.size)
  have HS : Hid (w.heap.size ≤ w1.heap.size) := hB1.size
  have HT0 : Hid (LeT w2 w1.heap.size G b (.slice none 0 0) []) := hT
  clear hT hb2 hB1
  go_wp2_with fail
  go_loopw [5, 6] (fun n i wr => ∃ (k : Nat) (v : Value) (l : List LE), n = .int .i64 (k : Int) ∧ i = .int .i64 (k : Int) ∧ k ≤ ds.length ∧ k ≤ 100 ∧ Below w.heap.size w wr ∧ Hid (LeT wr w1.heap.size G b v l ∧ Shut l ∧ l.length = k)) (fun _ i _ => 100 - (Go.RowKit.intOf i).toNat)
  case atStart => exact ⟨0, _, [], rfl, rfl, Nat.zero_le _, Nat.zero_le _, hB2, HT0.out, fun e he => (by cases he), rfl⟩
  case round =>
    clear hB2 HT0
    obtain ⟨k, v, l, rfl, rfl, hk, hk100, hB, HI⟩ := hrel
    by_cases hlt : k < ds.length
    · by_cases h100 : k < 100
      · obtain ⟨bd, off, c', hxx, hbd, hr⟩ := HR.out (by omega)
        cases hxx
        have hdd := HW.out ds[k] (List.getElem_mem hlt)
        have hc0 : w.cell? ⟨bd, off + k, none⟩ = some (.int .i64 ds[k]) := hr k _ (List.getElem?_eq_getElem hlt)
        have hc1 : wr.cell? ⟨bd, off + k, none⟩ = some (.int .i64 ds[k]) := (hB.cell (p := ⟨bd, off + k, none⟩) hbd).trans hc0
        have HC : Hid (∀ V, Below w.heap.size w V → V.cell? ⟨bd, off + k, none⟩ = some (.int .i64 ds[k])) := fun V hV => (hV.cell (p := ⟨bd, off + k, none⟩) hbd).trans hc0
        have ix := fun w => index_i16 bd off ds.length cx k w hlt
        have hmo : moT (k : Int) = true := decide_eq_true (by omega)
        obtain ⟨hT, hSh, hlen⟩ := HI.out
        have HGR := grant16_any hT (Nat.le_trans hT.gG (Nat.le_of_lt hT.head.lt)) ds[k] k 5 hdd.1 hdd.2
        have hfr : ∀ q, LeM G b v q → w1.heap.size ≤ q := hT.ge
        clear hr hdd hc0
        generalize ds[k] = d at *
        cases hde : deT d with
        | false =>
          rw [ends_bad d k 5 hde] at HGR
          have HG2 : Hid (Calls Try.prog 16 #[.pointer (some ⟨G, 0, none⟩), .int .i64 d, .int .i64 (k : Int), .int .i64 5] wr fun e w' => e = .returned (.tuple #[.agg #[.int .i64 0, .int .i64 0, .int .i64 0], .int .i64 1]) ∧ Below w.heap.size w w') := HGR.mono (fun e w' ⟨q1, v', q2, q3, q4⟩ => ⟨q1, hB.trans (q4.below (fun q hq => Nat.le_trans HS.out (hfr q hq)) hB.size)⟩)
          clear HGR hT hSh hlen hmo HC hfr
          go_wp2_with fail
          refine HG2.out.mono ?_
          rintro e w3 ⟨rfl, hb3⟩
          have hb4 := low_new hb3 (.cells #[.int .i64 0, .int .i64 0, .int .i64 0] 43)
          clear HG2
          go_wp2
          go_ret
          exact ⟨rfl, hb4⟩
        | true =>
          have hg := ends_grant hSh d k (by omega) hde hmo
          rw [hlen] at hg
          rw [hg] at HGR
          have HSH : Hid (Shut l) := hSh
          have HLE : Hid (l.length = k) := hlen
          have HMO : Hid (moT (k : Int) = true) := hmo
          have HWK : Hid (-9223372036854775808 ≤ d ∧ d ≤ 9223372036854775807) := ⟨by have := of_decide_eq_true hde; omega, by have := of_decide_eq_true hde; omega⟩
          clear hg hT hSh hlen hmo hde
          unfold leV leL at HGR
          dsimp only at HGR
          go_wp2_with fail
          refine HGR.mono ?_
          rintro e w3 ⟨rfl, v3, hT3, hf3, hC3⟩
          have HB3 : Hid (Below w.heap.size w w3) := hB.trans (hC3.below (fun q hq => Nat.le_trans HS.out (hfr q hq)) hB.size)
          have hTA := hT3.after (below_newE w3 (.cells #[.int .i64 ((k : Int) + 1), .int .i64 d, .int .i64 ((k : Int) + 5)] 43)) (Nat.le_refl _)
          have HX : Hid (Blk (w3.alloc (.cells #[.int .i64 ((k : Int) + 1), .int .i64 d, .int .i64 ((k : Int) + 5)] 43)) w3.heap.size 43 #[.int .i64 ((k : Int) + 1), .int .i64 d, .int .i64 ((k : Int) + 5)]) := Blk.new w3 43 _
          have HBA : Hid (Below w.heap.size w (w3.alloc (.cells #[.int .i64 ((k : Int) + 1), .int .i64 d, .int .i64 ((k : Int) + 5)] 43))) := low_new HB3.out _
          have HNX : Hid (¬ LeM G b v3 w3.heap.size) := hT3.fresh (Nat.le_refl _)
          have HGE : Hid (∀ q, LeM G b v3 q → w1.heap.size ≤ q) := hT3.ge
          have HEN := end16_any hTA ((k : Int) + 1)
          have e1 := ends_end l ⟨(k : Int) + 1, d, (k : Int) + 5⟩ (by show (0 : Int) < (k : Int) + 5; omega)
          rw [HLE.out] at e1
          rw [e1] at HEN
          dsimp only at HEN
          clear e1 hTA hT3 hC3 hf3 HGR hB hfr hc1
          go_wp2_with fail
          refine HEN.mono ?_
          rintro e w5 ⟨rfl, hT5, hC5⟩
          have HX5 : Hid (Blk w5 w3.heap.size 43 #[.int .i64 ((k : Int) + 1), .int .i64 d, .int .i64 ((k : Int) + 5)]) := HX.out.chg hC5 HNX.out
          have HB5 : Hid (Below w.heap.size w w5) := HBA.out.trans (hC5.below (fun q hq => Nat.le_trans HS.out (HGE.out q hq)) HBA.out.size)
          have HOF := of16_any hT5 d HWK.out.1 HWK.out.2
          rw [ends_of HSH.out ⟨(k : Int) + 1, d, (k : Int) + 5⟩ d] at HOF
          have HT5 : Hid (LeT w5 w1.heap.size G b v3 (l ++ [LE.off ⟨(k : Int) + 1, d, (k : Int) + 5⟩])) := hT5
          have hc5 := HC.out w5 HB5.out
          unfold leV leL noLE at HOF
          dsimp only at HOF
          clear hT5 hC5 HEN
          go_wp2_with fail
          refine HOF.mono ?_
          rintro e w6 ⟨rfl, hb6⟩
          have HBW : Hid (Below w5.heap.size w5 (w6.alloc (.cells #[.int .i64 0, .int .i64 0, .int .i64 0] 43))) := low_new hb6 _
          have HT6 : Hid (LeT (w6.alloc (.cells #[.int .i64 0, .int .i64 0, .int .i64 0] 43)) w1.heap.size G b v3 (l ++ [LE.off ⟨(k : Int) + 1, d, (k : Int) + 5⟩])) := HT5.out.after HBW.out (Nat.le_refl _)
          have HX6 : Hid (Blk (w6.alloc (.cells #[.int .i64 0, .int .i64 0, .int .i64 0] 43)) w3.heap.size 43 #[.int .i64 ((k : Int) + 1), .int .i64 d, .int .i64 ((k : Int) + 5)]) := HX5.out.below HBW.out HX5.out.lt
          have HB6 : Hid (Below w.heap.size w (w6.alloc (.cells #[.int .i64 0, .int .i64 0, .int .i64 0] 43))) := HB5.out.trans (HBW.out.mono HB5.out.size)
          have x6 : (w6.alloc (.cells #[.int .i64 0, .int .i64 0, .int .i64 0] 43)).cell? ⟨w3.heap.size, 0, none⟩ = some (.int .i64 ((k : Int) + 1)) := HX6.out.cell (j := 0) rfl
          have HAT := at16_any HT6.out ((k : Int) + 1)
          have e2 := ends_at l (LE.off ⟨(k : Int) + 1, d, (k : Int) + 5⟩)
          rw [HLE.out] at e2
          rw [e2] at HAT
          unfold leV leL LE.off at HAT
          dsimp only at HAT
          clear e2 HOF hc5 hb6
          go_wp2_with fail
          refine HAT.mono ?_
          rintro e w7 ⟨rfl, hb7⟩
          have HBW7 : Hid (Below (w6.alloc (.cells #[.int .i64 0, .int .i64 0, .int .i64 0] 43)).heap.size (w6.alloc (.cells #[.int .i64 0, .int .i64 0, .int .i64 0] 43)) (w7.alloc (.cells #[.int .i64 ((k : Int) + 1), .int .i64 d, .int .i64 0] 43))) := low_new hb7 _
          have HT7 : Hid (LeT (w7.alloc (.cells #[.int .i64 ((k : Int) + 1), .int .i64 d, .int .i64 0] 43)) w1.heap.size G b v3 (l ++ [LE.off ⟨(k : Int) + 1, d, (k : Int) + 5⟩])) := HT6.out.after HBW7.out (Nat.le_refl _)
          have HX7 : Hid (Blk (w7.alloc (.cells #[.int .i64 ((k : Int) + 1), .int .i64 d, .int .i64 0] 43)) w3.heap.size 43 #[.int .i64 ((k : Int) + 1), .int .i64 d, .int .i64 ((k : Int) + 5)]) := HX6.out.below HBW7.out HX6.out.lt
          have HY7 : Hid (Blk (w7.alloc (.cells #[.int .i64 ((k : Int) + 1), .int .i64 d, .int .i64 0] 43)) w7.heap.size 43 #[.int .i64 ((k : Int) + 1), .int .i64 d, .int .i64 0]) := Blk.new w7 43 _
          have HNY : Hid (¬ LeM G b v3 w7.heap.size) := (HT6.out.after hb7 (Nat.le_refl _)).fresh (Nat.le_refl _)
          have HB7 : Hid (Below w.heap.size w (w7.alloc (.cells #[.int .i64 ((k : Int) + 1), .int .i64 d, .int .i64 0] 43))) := HB6.out.trans (HBW7.out.mono HB6.out.size)
          have x7 : (w7.alloc (.cells #[.int .i64 ((k : Int) + 1), .int .i64 d, .int .i64 0] 43)).cell? ⟨w3.heap.size, 0, none⟩ = some (.int .i64 ((k : Int) + 1)) := HX7.out.cell (j := 0) rfl
          have HE2 := end16_any HT7.out ((k : Int) + 1)
          have e3 := ends_again l ⟨(k : Int) + 1, d, (k : Int) + 5⟩
          rw [HLE.out] at e3
          rw [e3] at HE2
          dsimp only at HE2
          clear e3 HAT hb7 x6
          go_wp2_with fail
          refine HE2.mono ?_
          rintro e w8 ⟨rfl, hT8, hC8⟩
          have HX8 : Hid (Blk w8 w3.heap.size 43 #[.int .i64 ((k : Int) + 1), .int .i64 d, .int .i64 ((k : Int) + 5)]) := HX7.out.chg hC8 HNX.out
          have HY8 : Hid (Blk w8 w7.heap.size 43 #[.int .i64 ((k : Int) + 1), .int .i64 d, .int .i64 0]) := HY7.out.chg hC8 HNY.out
          have HB8 : Hid (Below w.heap.size w w8) := HB7.out.trans (hC8.below (fun q hq => Nat.le_trans HS.out (HGE.out q hq)) HB7.out.size)
          have x8 : w8.cell? ⟨w3.heap.size, 0, none⟩ = some (.int .i64 ((k : Int) + 1)) := HX8.out.cell (j := 0) rfl
          have HRN := renew16_any hT8 ((k : Int) + 1) k 5
          have e4 := ends_renew l ⟨(k : Int) + 1, d, (k : Int) + 5⟩ k HMO.out
          rw [HLE.out] at e4
          rw [e4] at HRN
          unfold leV leL noLE at HRN
          dsimp only at HRN
          clear e4 HE2 hC8 hT8 x7
          go_wp2_with fail
          refine HRN.mono ?_
          rintro e w9 ⟨rfl, hT9, hC9⟩
          have hX9 := HX8.out.chg hC9 HNX.out
          have hY9 := HY8.out.chg hC9 HNY.out
          have hB9 := HB8.out.trans (hC9.below (fun q hq => Nat.le_trans HS.out (HGE.out q hq)) HB8.out.size)
          have hbN := below_newE w9 (.cells #[.int .i64 0, .int .i64 0, .int .i64 0] 43)
          have HTN : Hid (LeT (w9.alloc (.cells #[.int .i64 0, .int .i64 0, .int .i64 0] 43)) w1.heap.size G b v3 (l ++ [LE.off ⟨(k : Int) + 1, d, (k : Int) + 5⟩])) := hT9.after hbN (Nat.le_refl _)
          have HBN : Hid (Below w.heap.size w (w9.alloc (.cells #[.int .i64 0, .int .i64 0, .int .i64 0] 43))) := low_new hB9 _
          have z0 : (w9.alloc (.cells #[.int .i64 0, .int .i64 0, .int .i64 0] 43)).cell? ⟨w3.heap.size, 0, none⟩ = some (.int .i64 ((k : Int) + 1)) := (hX9.below hbN hX9.lt).cell (j := 0) rfl
          have z1 : (w9.alloc (.cells #[.int .i64 0, .int .i64 0, .int .i64 0] 43)).cell? ⟨w7.heap.size, 1, none⟩ = some (.int .i64 d) := (hY9.below hbN hY9.lt).cell (j := 1) rfl
          have z2 : (w9.alloc (.cells #[.int .i64 0, .int .i64 0, .int .i64 0] 43)).cell? ⟨w7.heap.size, 2, none⟩ = some (.int .i64 0) := (hY9.below hbN hY9.lt).cell (j := 2) rfl
          have z3 : (w9.alloc (.cells #[.int .i64 0, .int .i64 0, .int .i64 0] 43)).cell? ⟨bd, off + k, none⟩ = some (.int .i64 d) := HC.out _ HBN.out
          clear HRN hC9 hT9 hX9 hY9 hB9 hbN x8
          go_wp2_with fail
          go_quiet (fail)
          go_wp2
          go_roundw
          case rel => exact ⟨k + 1, v3, l ++ [LE.off ⟨(k : Int) + 1, d, (k : Int) + 5⟩], by go_num, by go_num, hlt, h100, Below.drewN HBN.out nq, HTN.out.after (Below.drewN (Below.refl _ _) nq) (Nat.le_refl _), shut_snoc HSH.out _, by rw [List.length_append, HLE.out]; rfl⟩
          case measure => simp [Go.RowKit.intOf]; omega
      · have hni : ¬ (k : Int) < 100 := by omega
        clear h100
        obtain ⟨hT, _, hlen⟩ := HI.out
        have HAL := all16_any hT
        have d1 : ((l.length : Int) == (k : Int)) = true := by rw [hlen]; exact beq_self_eq_true _
        clear hT hlen HI
        go_wp2_with fail
        refine HAL.mono ?_
        rintro e w3 ⟨u, rfl, hu, hb3⟩
        obtain ⟨au, cu, rfl⟩ := hu.shape
        have HF : Hid (Below w.heap.size w w3) := hB.trans (hb3.mono hB.size)
        clear hu hb3 hB HAL
        go_wp2
        go_ret
        exact ⟨rfl, HF.out⟩
    · have hni : ¬ (k : Int) < (ds.length : Int) := by omega
      obtain ⟨hT, _, hlen⟩ := HI.out
      have HAL := all16_any hT
      have d1 : ((l.length : Int) == (k : Int)) = true := by rw [hlen]; exact beq_self_eq_true _
      clear hT hlen HI hlt
      go_wp2_with fail
      refine HAL.mono ?_
      rintro e w3 ⟨u, rfl, hu, hb3⟩
      obtain ⟨au, cu, rfl⟩ := hu.shape
      have HF : Hid (Below w.heap.size w w3) := hB.trans (hb3.mono hB.size)
      clear hu hb3 hB HAL
      go_wp2
      go_ret
      exact ⟨rfl, HF.out⟩
end Go.Proofs.Ythlohlomefiebaa
