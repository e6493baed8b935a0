/-
  What is proved here: for every number and report the statement OutboxFull answers true: no more wait than there is room for, what does not fit is refused, and behind taking one block's there is room again.
  Conditions: the variable fourBits holds the sixteen words.
-/
import Derived.Test.YtgoehohadnkpdaaDoorJOutSeqs
namespace Go.Proofs.YtgoehohadnkpdaaDoor
open Go.RowKit

set_option maxRecDepth 100000 in
set_option maxHeartbeats 8000000 in
theorem outboxFull_any (z : Int) (r : RP) (w : World) (hgf : 1 < w.heap.size) (hf : Tab w 1 (fours.map v32)) : Calls Tryd.prog 7 #[.int .i64 z, rpV r] w fun e w' => e = .returned (.bool true) ∧ Below w.heap.size w w' := by
  have hbA := (Below.refl w.heap.size w).alloc (Nat.le_refl _) (.cells (rpL r).toArray 23)
  have kR := Blk.new w 23 (rpL r).toArray
  have HAW : Hid (Calls Tryd.prog 8 #[] (w.alloc (.cells (rpL r).toArray 23)) fun e w' => e = .returned (.bool true) ∧ Below (w.alloc (.cells (rpL r).toArray 23)).heap.size (w.alloc (.cells (rpL r).toArray 23)) w') := awakeX _ (Nat.lt_of_lt_of_le hgf hbA.size) (hf.below hbA hgf)
  have HRI : Hid (∀ W, Calls Tryd.prog 9 #[rpV r] W fun e w' => e = .returned (.bool (rightO r)) ∧ Below W.heap.size W w') := rightX r
  have HRP : Hid (rpL r = [.int .i64 r.c, .int .i64 r.l, .int .i64 r.v, .int .i64 r.o]) := rfl
  obtain ⟨Br, hBr⟩ : ∃ B, B = w.heap.size := ⟨_, rfl⟩
  rw [← hBr] at kR
  have HROK : Hid (rightO r = true → r.ok) := fun h => of_decide_eq_true h
  generalize rightO r = RB at *
  unfold rpV at *
  rw [HRP.out] at hbA kR HAW HRI ⊢
  go_enter Tryd.func7, Tryd.ntmps7
  go_wp2_with fail
  rw [← hBr]
  refine HAW.out.mono ?_
  rintro e w1 ⟨rfl, hb1⟩
  have hB1 : Below w.heap.size w w1 := hbA.trans (hb1.mono hbA.size)
  have kR1 := kR.below hb1 kR.lt
  clear hBr kR HAW hbA hb1
  have c0 := kR1.cell (j := 0) rfl
  have c1 := kR1.cell (j := 1) rfl
  have c2 := kR1.cell (j := 2) rfl
  have c3 := kR1.cell (j := 3) rfl
  go_wp2_with fail
  refine (HRI.out _).mono ?_
  rintro e w2 ⟨rfl, hb2⟩
  clear c0 c1 c2 c3 HRI
  have hB2 : Below w.heap.size w w2 := hB1.trans (hb2.mono hB1.size)
  have kR2 := kR1.below hb2 kR1.lt
  have hf2 := hf.below hB2 hgf
  have hg2 := Nat.lt_of_lt_of_le hgf hB2.size
  clear kR1 hb2 hB1
  have HN : Hid (Calls Tryd.prog 11 #[.int .i64 2, .int .i64 100] w2 fun e w' => ∃ L : PLay6, e = .returned (.tuple #[.pointer (some ⟨L.g, 0, none⟩), .int .i64 0]) ∧ L.n = 2 ∧ PFlash w' L (newF 2 100) ∧ Below w2.heap.size w2 w' ∧ (∀ q, L.T q → w2.heap.size ≤ q)) := thePF.new_any 2 100 w2 (by decide) (by decide) (by decide) (by decide)
  go_wp2_with fail
  refine HN.out.mono ?_
  rintro e w3 ⟨L, rfl, hn, hD3, hb3, hT3⟩
  clear HN
  have hB3 : Below w.heap.size w w3 := hB2.trans (hb3.mono hB2.size)
  cases RB with
  | false =>
    go_wp2
    go_ret
    exact ⟨rfl, hB3⟩
  | true =>
  have hrok := HROK.out rfl
  by_cases hz1 : z < 64
  · go_wp2
    go_ret
    exact ⟨rfl, hB3⟩
  by_cases hz2 : 100 < z
  · go_wp2
    go_ret
    exact ⟨rfl, hB3⟩
  have HO : Hid (Calls Tryd.prog 12 #[.pointer (some ⟨L.g, 0, none⟩), .int .i64 0] w3 fun e' W' => ∃ g, e' = .returned (.tuple #[.pointer (some ⟨g, 0, none⟩), .int .i64 0]) ∧ BC w2 W' L g 0 2 0 (.slice none 0 0) XS.first (newF 2 100) ∧ Below w3.heap.size w3 W') := open_bc w2 w3 L 2 100 0 hD3 hn hT3 (by decide) (by decide) (by decide) (by decide) hb3 hg2 hf2
  clear hD3 hT3 hn HROK
  go_wp2_with fail
  refine HO.out.mono ?_
  rintro e w4 ⟨g, rfl, hC4, hb4⟩
  clear HO
  have hB4 : Below w2.heap.size w2 w4 := hb3.trans (hb4.mono hb3.size)
  obtain ⟨Z, rfl⟩ : ∃ Z : Nat, z = (Z : Int) := ⟨z.toNat, by omega⟩
  have hZ : 64 ≤ Z ∧ Z ≤ 100 := by omega
  clear hz1 hz2 hb3 hb4 hB3
  have HPUT : Hid (∀ (W : World) (e : Nat) (wv : Value) (x : XS) (s : FS), BC w2 W L g 0 2 e wv x s → Below w2.heap.size w2 W → x.last.seq < 1000 → e < s.most → x.wt.length < 1000 → Calls Tryd.prog 13 #[.pointer (some ⟨g, 0, none⟩), .agg #[.int .i64 r.c, .int .i64 r.l, .int .i64 r.v, .int .i64 r.o]] W fun e' W' => ∃ wv' s', s'.most = s.most ∧ Below w2.heap.size w2 W' ∧
      ((¬ fullX x ∧ e' = .returned (.tuple #[.int .i64 ((x.last.seq + 1 : Nat) : Int), .int .i64 0]) ∧ BC w2 W' L g 0 2 (e + 1) wv' ⟨x.wt ++ [nextX x r], nextX x r, false⟩ s') ∨ (fullX x ∧ e' = .returned (.tuple #[.int .i64 0, .int .i64 3]) ∧ BC w2 W' L g 0 2 e wv' x s'))) := fun W e wv x s hC hB hs he hl => by
    refine (hC.put hB (by decide) r hrok (by omega) he hl hg2 hf2).mono ?_
    rintro e' W' ⟨wv', s', h1, _, h3, h4⟩
    exact ⟨wv', s', h1, hC.below hB h3, h4⟩
  clear hrok
  go_wp2
  go_loopw [10] (fun i wr => ∃ K : Nat, 1 ≤ K ∧ K ≤ Z + 1 ∧ i = .int .i64 K ∧ Below w2.heap.size w2 wr ∧ ∃ e wv x s, BC w2 wr L g 0 2 e wv x s ∧ e ≤ min (K - 1) 64 ∧ s.most = 100 ∧ x.last.seq = min (K - 1) 64 ∧ seqL x.wt = List.range' 1 (min (K - 1) 64)) (fun i _ => Z + 1 - (intOf i).toNat)
  case atStart => exact ⟨1, Nat.le_refl _, by omega, rfl, hB4, 0, _, _, _, hC4, Nat.zero_le _, rfl, rfl, rfl⟩
  case round =>
    obtain ⟨K, hK1, hK2, rfl, hB, e, wv, x, s, hC, he, hm, hq, hsq⟩ := hrel
    clear hC4 hB4
    have kRr := kR2.below hB kR2.lt
    have c0 := kRr.cell (j := 0) rfl
    have c1 := kRr.cell (j := 1) rfl
    have c2 := kRr.cell (j := 2) rfl
    have c3 := kRr.cell (j := 3) rfl
    clear kRr
    by_cases hlt : K ≤ Z
    · have hlen : x.wt.length = min (K - 1) 64 := by rw [← seqL_len, hsq, List.length_range']
      have HP := HPUT.out wr e wv x s hC hB (by omega) (by omega) (by omega)
      have HPH : Hid (Calls Tryd.prog 13 #[.pointer (some ⟨g, 0, none⟩), .agg #[.int .i64 r.c, .int .i64 r.l, .int .i64 r.v, .int .i64 r.o]] wr fun e' W' => ∃ wv' s', s'.most = s.most ∧ Below w2.heap.size w2 W' ∧ ((¬ fullX x ∧ e' = .returned (.tuple #[.int .i64 ((x.last.seq + 1 : Nat) : Int), .int .i64 0]) ∧ BC w2 W' L g 0 2 (e + 1) wv' ⟨x.wt ++ [nextX x r], nextX x r, false⟩ s') ∨ (fullX x ∧ e' = .returned (.tuple #[.int .i64 0, .int .i64 3]) ∧ BC w2 W' L g 0 2 e wv' x s'))) := HP
      have HFA : Hid (e ≤ min (K - 1) 64 ∧ s.most = 100 ∧ x.last.seq = min (K - 1) 64 ∧ seqL x.wt = List.range' 1 (min (K - 1) 64) ∧ x.wt.length = min (K - 1) 64) := ⟨he, hm, hq, hsq, hlen⟩
      clear HP he hm hq hsq hlen
      have hle : (K : Int) ≤ (Z : Int) := by omega
      go_wp2_with fail
      refine HPH.out.mono ?_
      rintro e' w5 ⟨wv5, s5, hm5, hB5, hcase⟩
      clear HPH c0 c1 c2 c3
      obtain ⟨he, hm, hq, hsq, hlen⟩ := HFA.out
      clear HFA
      by_cases hk64 : K ≤ 64
      · have hnf : ¬ fullX x := full_not hC.cb hsq (fun y h1 h2 h3 h4 => by unfold blkO; omega)
        rcases hcase with ⟨_, rfl, hC5⟩ | ⟨hf1, _, _⟩
        rotate_left
        · exact absurd hf1 hnf
        have hKn : x.last.seq + 1 = K := by omega
        have HQ : Hid (seqL (x.wt ++ [nextX x r]) = List.range' 1 (min (K + 1 - 1) 64)) := by
          show _ = _
          rw [seqL_next, hsq, show min (K + 1 - 1) 64 = min (K - 1) 64 + 1 by omega, List.range'_concat, show 1 + 1 * min (K - 1) 64 = x.last.seq + 1 by omega]
        have HC5 : Hid (BC w2 w5 L g 0 2 (e + 1) wv5 ⟨x.wt ++ [nextX x r], nextX x r, false⟩ s5) := hC5
        have HR : Hid (e + 1 ≤ min (K + 1 - 1) 64 ∧ s5.most = 100 ∧ (nextX x r).seq = min (K + 1 - 1) 64) := ⟨by omega, by omega, by show x.last.seq + 1 = _; omega⟩
        rw [hKn]
        clear hC5 hC he hm hq hsq hlen hnf hm5 hKn
        have hk : (K : Int) ≤ 64 := by omega
        have hk2 : ¬ (64 : Int) < (K : Int) := by omega
        have hkk : ((K : Int) != (K : Int)) = false := by simp
        go_wp2
        go_roundw
        case rel => exact ⟨K + 1, by omega, by omega, by go_num, hB5, e + 1, wv5, _, s5, HC5.out, HR.out.1, HR.out.2.1, HR.out.2.2, HQ.out⟩
        case measure => simp [intOf]; omega
      · have hyf : fullX x := by
          have h64 : min (K - 1) 64 = 64 := by omega
          rw [h64] at hq hsq
          obtain ⟨y, t, hyt, hy1, _, _⟩ := seq_head (m := 63) hsq
          exact full_yes hC.cb (y := y) (by rw [hyt]; exact List.mem_cons_self) (by omega) (by omega) (by rw [hy1, hq]; rfl)
        rcases hcase with ⟨hf1, _, _⟩ | ⟨_, rfl, hC5⟩
        · exact absurd hyf hf1
        have HC5 : Hid (BC w2 w5 L g 0 2 e wv5 x s5) := hC5
        have HR : Hid (e ≤ min (K + 1 - 1) 64 ∧ s5.most = 100 ∧ x.last.seq = min (K + 1 - 1) 64 ∧ seqL x.wt = List.range' 1 (min (K + 1 - 1) 64)) := ⟨by omega, by omega, by omega, by rw [hsq]; congr 1; omega⟩
        clear hC5 hC he hm hq hsq hlen hyf hm5
        have hk : ¬ (K : Int) ≤ 64 := by omega
        have hk2 : (64 : Int) < (K : Int) := by omega
        go_wp2
        go_roundw
        case rel => exact ⟨K + 1, by omega, by omega, by go_num, hB5, e, wv5, x, s5, HC5.out, HR.out.1, HR.out.2.1, HR.out.2.2.1, HR.out.2.2.2⟩
        case measure => simp [intOf]; omega
    · obtain rfl : K = Z + 1 := by omega
      have h64 : min (Z + 1 - 1) 64 = 64 := by omega
      rw [h64] at he hq hsq
      have hle : ¬ ((Z + 1 : Nat) : Int) ≤ (Z : Int) := by omega
      have HC : Hid (BC w2 wr L g 0 2 e wv x s) := hC
      have HFA : Hid (e ≤ 64 ∧ s.most = 100 ∧ x.last.seq = 64 ∧ seqL x.wt = List.range' 1 64) := ⟨he, hm, hq, hsq⟩
      clear hC he hm hq hsq c0 c1 c2 c3 h64
      generalize ((Z + 1 : Nat) : Int) = ZI at *
      go_wp2
      go_loopw [13] (fun i wr => ∃ K : Nat, 1 ≤ K ∧ K ≤ 33 ∧ i = .int .i64 K ∧ Below w2.heap.size w2 wr ∧ ∃ e wv x s, BC w2 wr L g 0 2 e wv x s ∧ e ≤ 64 ∧ s.most = 100 ∧ x.last.seq = 64 ∧ seqL x.wt = List.range' K (65 - K)) (fun i _ => 33 - (intOf i).toNat)
      case atStart => exact ⟨1, by omega, by omega, rfl, hB, e, wv, x, s, HC.out, HFA.out.1, HFA.out.2.1, HFA.out.2.2.1, HFA.out.2.2.2⟩
      case round =>
        clear HC HFA hB
        obtain ⟨K, hK1, hK2, rfl, hB, e, wv, x, s, hC, he, hm, hq, hsq⟩ := hrel
        by_cases hlt : K ≤ 32
        · have HAK : Hid (Calls Tryd.prog 15 #[.pointer (some ⟨g, 0, none⟩), .int .i64 (K : Int)] wr fun e' W' => ∃ wv' s', s'.most = s.most ∧ Below w2.heap.size w2 W' ∧ ∃ z x', e' = .returned (.int .i64 z) ∧ BC w2 W' L g 0 2 e wv' x' s' ∧ x'.last = x.last ∧ seqL x'.wt = List.range' (K + 1) (65 - (K + 1))) := by
            refine (hC.ack (by decide) (K : Int)).mono ?_
            rintro e' W' ⟨wv', s', h1, _, h3, h4⟩
            obtain ⟨y, t, hyt, hy1, ht, hix⟩ := seq_head (m := 64 - K) (l := x.wt) (K := K) (by rw [hsq]; congr 1; omega)
            rcases h4 with ⟨i, hi, rfl, hC'⟩ | ⟨hi, _, _⟩
            · rw [hix] at hi
              obtain rfl : 0 = i := Option.some.inj hi
              refine ⟨wv', s', h1, hC.below hB h3, 0, _, rfl, hC', rfl, ?_⟩
              show seqL (x.wt.eraseIdx 0) = _
              rw [hyt, List.eraseIdx_zero, List.tail_cons, ht]
              congr 1
              omega
            · rw [hix] at hi; cases hi
          have HFA : Hid (e ≤ 64 ∧ s.most = 100 ∧ x.last.seq = 64) := ⟨he, hm, hq⟩
          clear hC he hm hq hsq
          have hle : (K : Int) ≤ 32 := by omega
          go_wp2_with fail
          refine HAK.out.mono ?_
          rintro e' w5 ⟨wv5, s5, hm5, hB5, z5, x5, rfl, hC5, hl5, hs5⟩
          clear HAK
          have HC5 : Hid (BC w2 w5 L g 0 2 e wv5 x5 s5) := hC5
          have HR : Hid (e ≤ 64 ∧ s5.most = 100 ∧ x5.last.seq = 64 ∧ seqL x5.wt = List.range' (K + 1) (65 - (K + 1))) := ⟨HFA.out.1, hm5.trans HFA.out.2.1, by rw [hl5]; exact HFA.out.2.2, hs5⟩
          clear hC5 hm5 hl5 hs5 HFA
          go_wp2
          go_roundw
          case rel => exact ⟨K + 1, by omega, by omega, by go_num, hB5, e, wv5, x5, s5, HC5.out, HR.out.1, HR.out.2.1, HR.out.2.2.1, HR.out.2.2.2⟩
          case measure => simp [intOf]; omega
        · obtain rfl : K = 33 := by omega
          have kRr := kR2.below hB kR2.lt
          have c0 := kRr.cell (j := 0) rfl
          have c1 := kRr.cell (j := 1) rfl
          have c2 := kRr.cell (j := 2) rfl
          have c3 := kRr.cell (j := 3) rfl
          have hlen : x.wt.length = 32 := by rw [← seqL_len, hsq, List.length_range']
          have hnf : ¬ fullX x := full_not hC.cb hsq (fun y h1 h2 h3 h4 => by unfold blkO; omega)
          have HP : Hid (Calls Tryd.prog 13 #[.pointer (some ⟨g, 0, none⟩), .agg #[.int .i64 r.c, .int .i64 r.l, .int .i64 r.v, .int .i64 r.o]] wr fun e' W' => Below w2.heap.size w2 W' ∧ e' = .returned (.tuple #[.int .i64 65, .int .i64 0]) ∧ ∃ wv' x' s', BC w2 W' L g 0 2 (e + 1) wv' x' s' ∧ x'.wt.length = 33) := by
            refine (HPUT.out wr e wv x s hC hB (by omega) (by omega) (by omega)).mono ?_
            rintro e' W' ⟨wv', s', _, h2, h3⟩
            rcases h3 with ⟨_, rfl, hC'⟩ | ⟨hf1, _, _⟩
            · refine ⟨h2, by rw [hq]; rfl, wv', _, s', hC', ?_⟩
              show (x.wt ++ [nextX x r]).length = 33
              rw [List.length_append, hlen]
              rfl
            · exact absurd hf1 hnf
          clear hC he hm hq hsq hlen hnf kRr
          go_wp2_with fail
          refine HP.out.mono ?_
          rintro e' w5 ⟨hB5, rfl, wv5, x5, s5, hC5, hl5⟩
          clear HP c0 c1 c2 c3
          have HE : Hid (Calls Tryd.prog 20 #[.pointer (some ⟨g, 0, none⟩)] w5 fun e w' => ∃ ao c, e = .returned (.slice ao 33 c) ∧ Below w5.heap.size w5 w') := by
            refine (pendP L s5 g 0 w2.heap.size wv5 x5 w5 hC5.bx).mono ?_
            rintro e' W' ⟨v, rfl, hqv, hb⟩
            obtain ⟨ao, c, rfl⟩ := hqv.shape
            rw [hl5]
            exact ⟨ao, c, rfl, hb⟩
          clear hC5 hl5
          go_wp2_with fail
          refine HE.out.mono ?_
          rintro e' w6 ⟨ao, c, rfl, hb6⟩
          go_wp2
          go_ret
          exact ⟨rfl, hB2.trans ((hB5.trans (hb6.mono hB5.size)).mono hB2.size)⟩
end Go.Proofs.YtgoehohadnkpdaaDoor
