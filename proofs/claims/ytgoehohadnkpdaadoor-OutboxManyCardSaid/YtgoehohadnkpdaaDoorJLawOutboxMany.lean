/-
  What is proved here: for every two numbers and report the statement OutboxMany answers true: reports that are put and taken, so many at a time, are all put, by rising numbers.
  Conditions: the variable fourBits holds the sixteen words.
-/
import Derived.Test.YtgoehohadnkpdaaDoorJOutSeqs
namespace Go.Proofs.YtgoehohadnkpdaaDoor
open Go.RowKit

theorem exec_remX {a : Act} {o : Oper} {w : World} (t : TypeId) (x y : Operand) (ho : o.op = .binOp .rem t x y t) (m n : Int) (r : Int) (hx : a.eval x = .int .i64 m) (hy : a.eval y = .int .i64 n) (hn : n ≠ 0) (h : Int.tmod m n = r) : (execOp a.eval o).run Tryd.prog w = .ok (.value (.int .i64 r)) w := by
  subst h
  unfold execOp
  simp [ho, hx, hy, binOp, Op.intDiv, hn]
  rfl
theorem exec_lenQ {a : Act} {o : Oper} {w : World} (x : Operand) (ho : o.op = .call { callee := .builtin .len, args := #[x], argTypes := #[34] }) (ao : Option Addr) (n c : Nat) (hx : a.eval x = .slice ao n c) : (execOp a.eval o).run Tryd.prog w = .ok (.value (.int .i64 (n : Int))) w := by
  unfold execOp
  have hl : ∀ cs, builtin .len #[34] o.type cs #[.slice ao n c] = (do pure (.value (← Builtin.len_ #[34] o.type #[.slice ao n c]))) := fun _ => rfl
  simp [ho, resolve, invoke, hx, hl, Builtin.len_, run_underlying Tryd.underlying34]
  rfl
theorem tmod_nat (m n : Nat) : Int.tmod (m : Int) (n : Int) = ((m % n : Nat) : Int) := by simp [Int.tmod]
theorem QsR.at {w : World} {base : Nat} {v : Value} {l : List XE} (h : QsR w base v l) {i : Nat} {e : XE} (hi : l[i]? = some e) : ∃ b c, v = .slice (some ⟨b, 0, none⟩) l.length c ∧ b < w.heap.size ∧ base ≤ b ∧ ∀ k u, (qL e)[k]? = some u → w.cell? ⟨b, i * 5 + k, none⟩ = some u := by
  have hl : i < l.length := (List.getElem?_eq_some_iff.1 hi).1
  rcases h.2 with ⟨h1, h2⟩ | ⟨b, c, cur, h1, h2, h3, h4, h5, h6, h7⟩
  · omega
  refine ⟨b, c, h1, (Array.getElem?_eq_some_iff.1 h3).1, h2, fun k u hu => ?_⟩
  have hk : k < 5 := (List.getElem?_eq_some_iff.1 hu).1
  have hb : Blk w b 41 cur := h3
  refine hb.cell ?_
  have h8 := qsC_at l i k e hi hk
  rw [hu, ← h7, List.getElem?_take_of_lt (by omega)] at h8
  rw [← h8]
  simp
theorem QsR.chg {S : Nat → Prop} {w w' : World} {base : Nat} {v : Value} {l : List XE} (h : QsR w base v l) (hc : Chg S w w') (hv : ∀ k, v.ownBlock = some k → ¬ S k) : QsR w' base v l := ownsRow_chgX h hc hv
theorem index_qs (b len c I : Nat) (w : World) (h : I < len) : (Instr.indexAt 34 (.slice (some ⟨b, 0, none⟩) len c) (.int .i64 (I : Int))).run Tryd.prog w = .ok (.pointer (some ⟨b, I * 5, none⟩)) w := by
  have hs : ∀ w, (sizeOf 41).run Tryd.prog w = .ok 5 w := fun w => by kernel_rfl
  have hi : (0 : Int) ≤ (I : Int) ∧ (I : Int) < (len : Int) := by omega
  simp [Instr.indexAt, asIntOf, run_underlying Tryd.underlying34, hs, hi, Addr.add_mid]
  intro h2
  omega
theorem mod_next (m A : Nat) (hA : 1 ≤ A) : (m + 1) % A = 0 ∧ m % A + 1 = A ∨ (m + 1) % A = m % A + 1 ∧ m % A + 1 < A := by
  have h1 := Nat.mod_lt m hA
  have h2 := Nat.div_add_mod m A
  by_cases h : m % A + 1 = A
  · left
    refine ⟨?_, h⟩
    have : m + 1 = A * (m / A) + A := by omega
    rw [this, Nat.mul_add_mod, Nat.mod_self]
  · right
    refine ⟨?_, by omega⟩
    have : m + 1 = A * (m / A) + (m % A + 1) := by omega
    rw [this, Nat.mul_add_mod, Nat.mod_eq_of_lt (by omega)]

set_option maxRecDepth 100000 in
set_option maxHeartbeats 8000000 in
theorem outboxMany_any (z y : Int) (r : RP) (w : World) (hgf : 1 < w.heap.size) (hf : Tab w 1 (fours.map v32)) : Calls Tryd.prog 5 #[.int .i64 z, .int .i64 y, rpV r] w fun e w' => e = .returned (.bool true) ∧ Below w.heap.size w w' := by
  have hbA := (Below.refl w.heap.size w).alloc (Nat.le_refl _) (.cells (rpL r).toArray 23)
  have kR := Blk.new w 23 (rpL r).toArray
  have HAW : Hid (Calls Tryd.prog 8 #[] (w.alloc (.cells (rpL r).toArray 23)) fun e w' => e = .returned (.bool true) ∧ Below (w.alloc (.cells (rpL r).toArray 23)).heap.size (w.alloc (.cells (rpL r).toArray 23)) w') := awakeX _ (Nat.lt_of_lt_of_le hgf hbA.size) (hf.below hbA hgf)
  have HRI : Hid (∀ W, Calls Tryd.prog 9 #[rpV r] W fun e w' => e = .returned (.bool (rightO r)) ∧ Below W.heap.size W w') := rightX r
  have HRP : Hid (rpL r = [.int .i64 r.c, .int .i64 r.l, .int .i64 r.v, .int .i64 r.o]) := rfl
  obtain ⟨Br, hBr⟩ : ∃ B, B = w.heap.size := ⟨_, rfl⟩
  rw [← hBr] at kR
  have HROK : Hid (rightO r = true → r.ok) := fun h => of_decide_eq_true h
  generalize rightO r = RB at *
  unfold rpV at *
  rw [HRP.out] at hbA kR HAW HRI ⊢
  go_enter Tryd.func5, Tryd.ntmps5
  go_wp2_with fail
  rw [← hBr]
  refine HAW.out.mono ?_
  rintro e w1 ⟨rfl, hb1⟩
  have hB1 : Below w.heap.size w w1 := hbA.trans (hb1.mono hbA.size)
  have kR1 := kR.below hb1 kR.lt
  clear hBr kR HAW hbA hb1
  have c0 := kR1.cell (j := 0) rfl
  have c1 := kR1.cell (j := 1) rfl
  have c2 := kR1.cell (j := 2) rfl
  have c3 := kR1.cell (j := 3) rfl
  go_wp2_with fail
  refine (HRI.out _).mono ?_
  rintro e w2 ⟨rfl, hb2⟩
  clear c0 c1 c2 c3 HRI
  have hB2 : Below w.heap.size w w2 := hB1.trans (hb2.mono hB1.size)
  have kR2 := kR1.below hb2 kR1.lt
  have hf2 := hf.below hB2 hgf
  have hg2 := Nat.lt_of_lt_of_le hgf hB2.size
  clear kR1 hb2 hB1
  have HN : Hid (Calls Tryd.prog 11 #[.int .i64 3, .int .i64 10000] w2 fun e w' => ∃ L : PLay6, e = .returned (.tuple #[.pointer (some ⟨L.g, 0, none⟩), .int .i64 0]) ∧ L.n = 3 ∧ PFlash w' L (newF 3 10000) ∧ Below w2.heap.size w2 w' ∧ (∀ q, L.T q → w2.heap.size ≤ q)) := thePF.new_any 3 10000 w2 (by decide) (by decide) (by decide) (by decide)
  go_wp2_with fail
  refine HN.out.mono ?_
  rintro e w3 ⟨L, rfl, hn, hD3, hb3, hT3⟩
  clear HN
  have hB3 : Below w.heap.size w w3 := hB2.trans (hb3.mono hB2.size)
  cases RB with
  | false =>
    go_wp2
    go_ret
    exact ⟨rfl, hB3⟩
  | true =>
  have hrok := HROK.out rfl
  by_cases hz1 : z < 0
  · go_wp2
    go_ret
    exact ⟨rfl, hB3⟩
  by_cases hz2 : 300 < z
  · go_wp2
    go_ret
    exact ⟨rfl, hB3⟩
  by_cases hy1 : y < 1
  · go_wp2
    go_ret
    exact ⟨rfl, hB3⟩
  by_cases hy2 : 32 < y
  · go_wp2
    go_ret
    exact ⟨rfl, hB3⟩
  have HO : Hid (Calls Tryd.prog 12 #[.pointer (some ⟨L.g, 0, none⟩), .int .i64 1] w3 fun e' W' => ∃ g, e' = .returned (.tuple #[.pointer (some ⟨g, 0, none⟩), .int .i64 0]) ∧ BC w2 W' L g 1 3 0 (.slice none 0 0) XS.first (newF 3 10000) ∧ Below w3.heap.size w3 W') := open_bc w2 w3 L 3 10000 1 hD3 hn hT3 (by decide) (by decide) (by decide) (by decide) hb3 hg2 hf2
  clear hD3 hT3 hn HROK
  go_wp2_with fail
  refine HO.out.mono ?_
  rintro e w4 ⟨g, rfl, hC4, hb4⟩
  clear HO
  have hB4 : Below w2.heap.size w2 w4 := hb3.trans (hb4.mono hb3.size)
  obtain ⟨Z, rfl⟩ : ∃ Z : Nat, z = (Z : Int) := ⟨z.toNat, by omega⟩
  obtain ⟨A, rfl⟩ : ∃ A : Nat, y = (A : Int) := ⟨y.toNat, by omega⟩
  have hZ : Z ≤ 300 := by omega
  have hA : 1 ≤ A ∧ A ≤ 32 := by omega
  have hA0 : ¬ (A : Int) = 0 := by omega
  clear hz1 hz2 hy1 hy2 hb3 hb4 hB3
  have HPUT : Hid (∀ (W : World) (K e : Nat) (wv : Value) (x : XS) (s : FS), BC w2 W L g 1 3 e wv x s → Below w2.heap.size w2 W → x.last.seq + 1 = K → K ≤ 300 → e ≤ 300 → s.most = 10000 → seqL x.wt = List.range' (K - (K - 1) % A) ((K - 1) % A) → Calls Tryd.prog 13 #[.pointer (some ⟨g, 0, none⟩), .agg #[.int .i64 r.c, .int .i64 r.l, .int .i64 r.v, .int .i64 r.o]] W fun e' W' => e' = .returned (.tuple #[.int .i64 (K : Int), .int .i64 0]) ∧ Below w2.heap.size w2 W' ∧ ∃ wv' x' s', s'.most = 10000 ∧ BC w2 W' L g 1 3 (e + 1) wv' x' s' ∧ x'.last.seq = K ∧ seqL x'.wt = List.range' (K - (K - 1) % A) ((K - 1) % A + 1)) := fun W K e wv x s hC hB hs hK he hm hq => by
    have hmod := Nat.mod_lt (K - 1) hA.1
    have hml := Nat.mod_le (K - 1) A
    have hlen : x.wt.length = (K - 1) % A := by rw [← seqL_len, hq, List.length_range']
    refine (hC.put hB (by decide) r hrok (by omega) (by omega) (by omega) hg2 hf2).mono ?_
    rintro e' W' ⟨wv', s', h1, _, h3, h4⟩
    have hnf : ¬ fullX x := full_not hC.cb hq (fun y h1 h2 h3 h4 => by unfold blkO; omega)
    rcases h4 with ⟨_, rfl, hC'⟩ | ⟨hf1, _, _⟩
    · refine ⟨by rw [hs], hC.below hB h3, wv', _, s', by omega, hC', hs, ?_⟩
      show seqL (x.wt ++ [nextX x r]) = _
      rw [seqL_next, hq, List.range'_concat, hs, Nat.one_mul]
      congr 2
      omega
    · exact absurd hf1 hnf
  clear hrok
  go_wp2
  go_loopw [12] (fun i wr => ∃ K : Nat, 1 ≤ K ∧ K ≤ Z + 1 ∧ i = .int .i64 K ∧ Below w2.heap.size w2 wr ∧ ∃ e wv x s, BC w2 wr L g 1 3 e wv x s ∧ e ≤ K ∧ s.most = 10000 ∧ x.last.seq + 1 = K ∧ seqL x.wt = List.range' (K - (K - 1) % A) ((K - 1) % A)) (fun i _ => Z + 1 - (intOf i).toNat)
  case atStart => exact ⟨1, Nat.le_refl _, by omega, rfl, hB4, 0, _, _, _, hC4, Nat.zero_le _, rfl, rfl, by rw [show (1 - 1) % A = 0 from Nat.zero_mod _]; rfl⟩
  case round =>
    obtain ⟨K, hK1, hK2, rfl, hB, e, wv, x, s, hC, he, hm, hq, hsq⟩ := hrel
    clear hC4 hB4
    have kRr := kR2.below hB kR2.lt
    have c0 := kRr.cell (j := 0) rfl
    have c1 := kRr.cell (j := 1) rfl
    have c2 := kRr.cell (j := 2) rfl
    have c3 := kRr.cell (j := 3) rfl
    clear kRr
    by_cases hlt : K ≤ Z
    · have HPH : Hid (Calls Tryd.prog 13 #[.pointer (some ⟨g, 0, none⟩), .agg #[.int .i64 r.c, .int .i64 r.l, .int .i64 r.v, .int .i64 r.o]] wr fun e' W' => e' = .returned (.tuple #[.int .i64 (K : Int), .int .i64 0]) ∧ Below w2.heap.size w2 W' ∧ ∃ wv' x' s', s'.most = 10000 ∧ BC w2 W' L g 1 3 (e + 1) wv' x' s' ∧ x'.last.seq = K ∧ seqL x'.wt = List.range' (K - (K - 1) % A) ((K - 1) % A + 1)) := HPUT.out wr K e wv x s hC hB hq (by omega) (by omega) hm hsq
      have HEE : Hid (e ≤ K) := he
      clear hC he hm hq hsq
      have hle : (K : Int) ≤ (Z : Int) := by omega
      have hkk : ((K : Int) != (K : Int)) = false := by simp
      go_wp2_with fail
      refine HPH.out.mono ?_
      rintro e' w5 ⟨rfl, hB5, wv5, x5, s5, hm5, hC5, hl5, hs5⟩
      clear HPH c0 c1 c2 c3
      have HMN := mod_next (K - 1) A hA.1
      rw [show K - 1 + 1 = K by omega] at HMN
      have htm := tmod_nat K A
      have HC5 : Hid (BC w2 w5 L g 1 3 (e + 1) wv5 x5 s5) := hC5
      have HFA : Hid (s5.most = 10000 ∧ x5.last.seq = K ∧ seqL x5.wt = List.range' (K - (K - 1) % A) ((K - 1) % A + 1)) := ⟨hm5, hl5, hs5⟩
      clear hC5 hm5 hl5 hs5
      obtain ⟨RM, hRM⟩ : ∃ RM, RM = K % A := ⟨_, rfl⟩
      rw [← hRM] at HMN htm
      have HRM : Hid (RM = K % A) := hRM
      obtain ⟨PM, hPM⟩ : ∃ PM, PM = (K - 1) % A := ⟨_, rfl⟩
      rw [← hPM] at HMN HFA
      have HPM : Hid (PM = (K - 1) % A) := hPM
      have hPK : PM ≤ K - 1 := by rw [hPM]; exact Nat.mod_le _ _
      clear hRM hPM
      rcases HMN with ⟨h0, hPA⟩ | ⟨h0, hPA⟩
      · subst h0
        have HE : Hid (Calls Tryd.prog 20 #[.pointer (some ⟨g, 0, none⟩)] w5 fun e w' => ∃ v, e = .returned v ∧ QsR w' w5.heap.size v x5.wt ∧ Below w5.heap.size w5 w') := pendP L s5 g 1 w2.heap.size wv5 x5 w5 HC5.out.bx
        go_wp2_with fail
        refine HE.out.mono ?_
        rintro e' w6 ⟨v6, rfl, hq6, hb6⟩
        clear HE
        have hlen : x5.wt.length = A := by rw [← seqL_len, HFA.out.2.2, List.length_range']; exact hPA
        obtain ⟨ao, c, hv6⟩ := hq6.shape
        rw [hlen] at hv6
        subst hv6
        have hB6 : Below w2.heap.size w2 w6 := hB5.trans (hb6.mono hB5.size)
        have HC6 : Hid (BC w2 w6 L g 1 3 (e + 1) wv5 x5 s5) := HC5.out.after hb6
        have HBT : Hid (∀ q, bT L g wv5 q → q < w5.heap.size) := fun q hq => by
          rcases hq with h | h | h
          · exact HC5.out.bx.fl.lt q h
          · rw [h]; exact HC5.out.bx.blk.lt
          · exact (HC5.out.bx.row.lt q h).2
        have HQ6 : Hid (QsR w6 w5.heap.size (.slice ao A c) x5.wt) := hq6
        have HSQ : Hid (∀ k, k < A → ∃ y, x5.wt[k]? = some y ∧ y.seq = K - PM + k) := fun k hk => by
          refine ⟨x5.wt[k]'(by omega), List.getElem?_eq_getElem (by omega), ?_⟩
          have h2 : (seqL x5.wt)[k]? = some (x5.wt[k]'(by omega)).seq := by unfold seqL; rw [List.getElem?_map, List.getElem?_eq_getElem (by omega)]; rfl
          rw [HFA.out.2.2, List.getElem?_range' (by omega)] at h2
          have := Option.some.inj h2
          omega
        have HL5 : Hid (x5.wt.length = A) := hlen
        clear hq6 hlen hb6 HC5
        go_wp2
        go_loopw [16] (fun i wr => ∃ k : Nat, k ≤ A ∧ i = .int .i64 k ∧ Below w2.heap.size w2 wr ∧ QsR wr w5.heap.size (.slice ao A c) x5.wt ∧ ∃ wv x s, BC w2 wr L g 1 3 (e + 1) wv x s ∧ s.most = 10000 ∧ x.last.seq = K ∧ seqL x.wt = List.range' (K - PM + k) (A - k) ∧ (∀ q, bT L g wv q → q < w5.heap.size)) (fun i _ => A - (intOf i).toNat)
        case atStart => exact ⟨0, Nat.zero_le _, rfl, hB6, HQ6.out, wv5, x5, s5, HC6.out, HFA.out.1, HFA.out.2.1, by rw [HFA.out.2.2, hPA]; rfl, HBT.out⟩
        case round =>
          clear HC6 HFA HBT HQ6 hB6
          obtain ⟨k, hk, rfl, hBr, hQr, wvr, xr, sr, hCr, hmr, hlr, hsr, hbr⟩ := hrel
          by_cases hkl : k < A
          · obtain ⟨y, hy, hys⟩ := HSQ.out k hkl
            obtain ⟨b, c', hbv, hbl, hbb, hcs⟩ := hQr.at hy
            have hao : ao = some ⟨b, 0, none⟩ := by cases hbv; rfl
            subst hao
            have ix := fun w => index_qs b A c k w hkl
            have d0 := hcs 0 _ rfl
            rw [Nat.add_zero, hys] at d0
            have HAK : Hid (Calls Tryd.prog 15 #[.pointer (some ⟨g, 0, none⟩), .int .i64 ((K - PM + k : Nat) : Int)] wr fun e' W' => e' = .returned (.int .i64 0) ∧ Below w2.heap.size w2 W' ∧ QsR W' w5.heap.size (.slice (some ⟨b, 0, none⟩) A c) x5.wt ∧ ∃ wv' x' s', BC w2 W' L g 1 3 (e + 1) wv' x' s' ∧ s'.most = 10000 ∧ x'.last.seq = K ∧ seqL x'.wt = List.range' (K - PM + (k + 1)) (A - (k + 1)) ∧ (∀ q, bT L g wv' q → q < w5.heap.size)) := by
              refine (hCr.ack (by decide) ((K - PM + k : Nat) : Int)).mono ?_
              rintro e' W' ⟨wv', s', h1, h2, h3, h4⟩
              obtain ⟨y', t, hyt, hy1, ht, hix⟩ := seq_head (m := A - k - 1) (l := xr.wt) (K := K - PM + k) (by rw [hsr]; congr 1; omega)
              rcases h4 with ⟨i, hi, rfl, hC'⟩ | ⟨hi, _, _⟩
              · rw [hix] at hi
                obtain rfl : 0 = i := Option.some.inj hi
                refine ⟨rfl, hCr.below hBr h3, hQr.chg h3 (fun q hq e => by have := hbr q e; have h9 : b = q := Option.some.inj hq; omega), wv', _, s', hC', h1.trans hmr, hlr, ?_, fun q hq => hbr q (by unfold bT at hq ⊢; rw [h2] at hq; exact hq)⟩
                show seqL (xr.wt.eraseIdx 0) = _
                rw [hyt, List.eraseIdx_zero, List.tail_cons, ht, Nat.add_assoc]
                congr 1
              · rw [hix] at hi; cases hi
            clear hCr hmr hlr hsr hbr hQr hy hys hbv hcs
            generalize ((K - PM + k : Nat) : Int) = SI at *
            have hkA : (k : Int) < (A : Int) := by omega
            go_wp2_with fail
            refine HAK.out.mono ?_
            rintro e' w7 ⟨rfl, hB7, hQ7, wv7, x7, s7, hC7, hm7, hl7, hs7, hb7⟩
            clear HAK d0 ix
            have H7 : Hid (QsR w7 w5.heap.size (.slice (some ⟨b, 0, none⟩) A c) x5.wt ∧ BC w2 w7 L g 1 3 (e + 1) wv7 x7 s7 ∧ s7.most = 10000 ∧ x7.last.seq = K ∧ seqL x7.wt = List.range' (K - PM + (k + 1)) (A - (k + 1)) ∧ (∀ q, bT L g wv7 q → q < w5.heap.size)) := ⟨hQ7, hC7, hm7, hl7, hs7, hb7⟩
            clear hQ7 hC7 hm7 hl7 hs7 hb7
            go_wp2
            go_roundw
            case rel => exact ⟨k + 1, by omega, by go_num, hB7, H7.out.1, wv7, x7, s7, H7.out.2.1, H7.out.2.2.1, H7.out.2.2.2.1, H7.out.2.2.2.2.1, H7.out.2.2.2.2.2⟩
            case measure => simp [intOf]; omega
          · obtain rfl : k = A := by omega
            have hnk : ¬ (k : Int) < (k : Int) := by omega
            have H7 : Hid (BC w2 wr L g 1 3 (e + 1) wvr xr sr ∧ sr.most = 10000 ∧ xr.last.seq = K ∧ seqL xr.wt = List.range' (K + 1 - (K + 1 - 1) % k) ((K + 1 - 1) % k)) := ⟨hCr, hmr, hlr, by rw [hsr, Nat.sub_self, show K + 1 - 1 = K by omega, ← HRM.out]; rfl⟩
            clear hCr hmr hlr hsr hbr hQr
            go_wp2
            go_roundw
            case rel => exact ⟨K + 1, by omega, by omega, by go_num, hBr, e + 1, wvr, xr, sr, H7.out.1, by have := HEE.out; omega, H7.out.2.1, by rw [H7.out.2.2.1], H7.out.2.2.2⟩
            case measure => simp [intOf]; omega
      · have hb0 : ((RM : Int) == 0) = false := beq_eq_false_iff_ne.2 (by omega)
        have H7 : Hid (s5.most = 10000 ∧ x5.last.seq = K ∧ seqL x5.wt = List.range' (K + 1 - (K + 1 - 1) % A) ((K + 1 - 1) % A)) := ⟨HFA.out.1, HFA.out.2.1, by
          rw [HFA.out.2.2, show K + 1 - 1 = K by omega, ← HRM.out]
          congr 1 <;> omega⟩
        clear HFA
        go_wp2
        go_roundw
        case rel => exact ⟨K + 1, by omega, by omega, by go_num, hB5, e + 1, wv5, x5, s5, HC5.out, by have := HEE.out; omega, H7.out.1, by rw [H7.out.2.1], H7.out.2.2⟩
        case measure => simp [intOf]; omega
    · obtain rfl : K = Z + 1 := by omega
      have hle : ¬ ((Z + 1 : Nat) : Int) ≤ (Z : Int) := by omega
      have hq2 : x.last.seq = Z := by omega
      have hlen : x.wt.length = Z % A := by rw [← seqL_len, hsq, List.length_range', show Z + 1 - 1 = Z by omega]
      have htm := tmod_nat Z A
      have HLA : Hid (Calls Tryd.prog 14 #[.pointer (some ⟨g, 0, none⟩)] wr.drew fun e w' => e = .returned (.int .i64 (Z : Int)) ∧ w' = wr.drew) := by
        have := lastX L g 1 wv x wr.drew hC.bx.blk.drew
        rwa [hq2] at this
      have HE : Hid (∀ W, Below wr.heap.size wr W → Calls Tryd.prog 20 #[.pointer (some ⟨g, 0, none⟩)] W fun e w' => ∃ ao c, e = .returned (.slice ao (Z % A) c) ∧ Below W.heap.size W w') := fun W hW => by
        refine (pendP L s g 1 w2.heap.size wv x W (hC.bx.after hW)).mono ?_
        rintro e' W' ⟨v, rfl, hqv, hb⟩
        obtain ⟨ao, c, rfl⟩ := hqv.shape
        rw [hlen]
        exact ⟨ao, c, rfl, hb⟩
      generalize ((Z + 1 : Nat) : Int) = ZI at *
      generalize Z % A = RM at *
      clear hC he hm hq hsq c0 c1 c2 c3 hq2 hlen
      go_wp2_with fail
      refine held_begin (fun _ => True) (by kernel_rfl) ?_
      refine held_take 0 103 _ (.pointer (some ⟨g, 0, none⟩)) rfl rfl (by kernel_rfl) (by kernel_rfl) (by kernel_rfl) rfl trivial (fun _ _ => rfl) ?_
      simp only [Act.put, List.setIfInBounds_toArray, List.set_cons_succ, List.set_cons_zero]
      refine held_take 2 105 _ (.int .i64 (Z : Int)) rfl rfl (by kernel_rfl) (by kernel_rfl) (by kernel_rfl) rfl trivial (fun _ _ => rfl) ?_
      simp only [Act.put, List.setIfInBounds_toArray, List.set_cons_succ, List.set_cons_zero]
      refine held_all1 1 (by kernel_rfl) (op_call 1 104 _ 14 #[.pointer (some ⟨g, 0, none⟩)] rfl rfl rfl (exec_one 14 _ _ rfl _ rfl Tryd.call14) (HLA.out.mono ?_))
      rintro e1 w8 ⟨rfl, hw8⟩
      subst hw8
      refine ⟨_, rfl, trivial, ?_⟩
      simp only [Act.put, List.setIfInBounds_toArray, List.set_cons_succ, List.set_cons_zero]
      refine held_take 3 106 _ (.bool true) rfl rfl (by kernel_rfl) (by kernel_rfl) (by kernel_rfl) rfl trivial (fun V _ => exec_eql7 3 _ _ rfl (Z : Int) (Z : Int) true rfl rfl (fun _ => by kernel_rfl) (by simp)) ?_
      simp only [Act.put, List.setIfInBounds_toArray, List.set_cons_succ, List.set_cons_zero]
      refine held_take 4 107 _ (.bool true) rfl rfl (by kernel_rfl) (by kernel_rfl) (by kernel_rfl) rfl trivial (fun _ _ => rfl) ?_
      simp only [Act.put, List.setIfInBounds_toArray, List.set_cons_succ, List.set_cons_zero]
      refine held_take 5 108 _ (.pointer (some ⟨g, 0, none⟩)) rfl rfl (by kernel_rfl) (by kernel_rfl) (by kernel_rfl) rfl trivial (fun _ _ => rfl) ?_
      simp only [Act.put, List.setIfInBounds_toArray, List.set_cons_succ, List.set_cons_zero]
      refine held_take 8 111 _ (.int .i64 (Z : Int)) rfl rfl (by kernel_rfl) (by kernel_rfl) (by kernel_rfl) rfl trivial (fun _ _ => rfl) ?_
      simp only [Act.put, List.setIfInBounds_toArray, List.set_cons_succ, List.set_cons_zero]
      refine held_take 9 112 _ (.int .i64 (A : Int)) rfl rfl (by kernel_rfl) (by kernel_rfl) (by kernel_rfl) rfl trivial (fun _ _ => rfl) ?_
      simp only [Act.put, List.setIfInBounds_toArray, List.set_cons_succ, List.set_cons_zero]
      refine held_take 10 113 _ (.int .i64 (RM : Int)) rfl rfl (by kernel_rfl) (by kernel_rfl) (by kernel_rfl) rfl trivial (fun V _ => exec_remX 3 _ _ rfl (Z : Int) (A : Int) (RM : Int) rfl rfl hA0 htm) ?_
      simp only [Act.put, List.setIfInBounds_toArray, List.set_cons_succ, List.set_cons_zero]
      refine held_all1 6 (by kernel_rfl) (op_call 6 109 _ 20 #[.pointer (some ⟨g, 0, none⟩)] rfl rfl rfl (exec_one 20 _ _ rfl _ rfl Tryd.call20) ((HE.out _ (Below.refl _ _).drew).mono ?_))
      rintro e1 w9 ⟨ao, c, rfl, hb9⟩
      refine ⟨_, rfl, trivial, ?_⟩
      simp only [Act.put, List.setIfInBounds_toArray, List.set_cons_succ, List.set_cons_zero]
      refine held_take 7 110 _ (.int .i64 (RM : Int)) rfl rfl (by kernel_rfl) (by kernel_rfl) (by kernel_rfl) rfl trivial (fun V _ => exec_lenQ _ rfl ao RM c rfl) ?_
      simp only [Act.put, List.setIfInBounds_toArray, List.set_cons_succ, List.set_cons_zero]
      refine held_take 11 114 _ (.bool true) rfl rfl (by kernel_rfl) (by kernel_rfl) (by kernel_rfl) rfl trivial (fun V _ => exec_eql7 3 _ _ rfl (RM : Int) (RM : Int) true rfl rfl (fun _ => by kernel_rfl) (by simp)) ?_
      simp only [Act.put, List.setIfInBounds_toArray, List.set_cons_succ, List.set_cons_zero]
      refine held_take 12 115 _ (.bool true) rfl rfl (by kernel_rfl) (by kernel_rfl) (by kernel_rfl) rfl trivial (fun _ _ => rfl) ?_
      simp only [Act.put, List.setIfInBounds_toArray, List.set_cons_succ, List.set_cons_zero]
      refine held_take 13 6 _ (.bool true) rfl rfl (by kernel_rfl) (by kernel_rfl) (by kernel_rfl) rfl trivial (fun _ _ => rfl) ?_
      simp only [Act.put, List.setIfInBounds_toArray, List.set_cons_succ, List.set_cons_zero]
      refine wpAnyH_done (by kernel_rfl) ?_ _
      refine NoPanic.normal ?_
      have hb9b : Below wr.heap.size wr w9 := ((Below.refl wr.heap.size wr).drew).trans hb9
      go_wp2
      go_ret
      exact ⟨rfl, hB2.trans ((hB.trans (hb9b.mono hB.size)).mono hB2.size)⟩
end Go.Proofs.YtgoehohadnkpdaaDoor
