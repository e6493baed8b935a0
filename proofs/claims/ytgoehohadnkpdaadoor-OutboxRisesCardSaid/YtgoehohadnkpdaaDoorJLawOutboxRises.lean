/-
  What is proved here: for every slice of reports and every slice of numbers the statement OutboxRises answers true: what waits is told by rising numbers, each once, with the report that was put; what was taken is taken once.
  Conditions: the variable fourBits holds the sixteen words.
-/
import Derived.Test.YtgoehohadnkpdaaDoorJOutMap
import Derived.Test.YtgoehohadnkpdaaDoorJOutLaid
import Derived.Test.YtgoehohadnkpdaaDoorJLawOutboxMany
namespace Go.Proofs.YtgoehohadnkpdaaDoor
open Go.RowKit Go.Maps

theorem index_reps (b off len c I : Nat) (w : World) (h : I < len) : (Instr.indexAt 50 (.slice (some ⟨b, off, none⟩) len c) (.int .i64 (I : Int))).run Tryd.prog w = .ok (.pointer (some ⟨b, off + I * 4, none⟩)) w := by
  have hs : ∀ w, (sizeOf 23).run Tryd.prog w = .ok 4 w := fun w => by kernel_rfl
  have hi : (0 : Int) ≤ (I : Int) ∧ (I : Int) < (len : Int) := by omega
  simp [Instr.indexAt, asIntOf, run_underlying Tryd.underlying50, hs, hi, Addr.add_mid]
  intro h2
  omega
theorem index_intsX (b off len c I : Nat) (w : World) (h : I < len) : (Instr.indexAt 51 (.slice (some ⟨b, off, none⟩) len c) (.int .i64 (I : Int))).run Tryd.prog w = .ok (.pointer (some ⟨b, off + I, none⟩)) w := by
  have hs : ∀ w, (sizeOf 3).run Tryd.prog w = .ok 1 w := fun w => by kernel_rfl
  have hi : (0 : Int) ≤ (I : Int) ∧ (I : Int) < (len : Int) := by omega
  simp [Instr.indexAt, asIntOf, run_underlying Tryd.underlying51, hs, hi, Addr.add_mid]
  intro h2
  omega
/-- A slice of ints that came in. -/
def IntsX (w : World) (v : Value) (zs : List Int) : Prop :=
  ∃ ao c, v = .slice ao zs.length c ∧ zs.length ≤ maxLen ∧ (0 < zs.length → ∃ b off, ao = some ⟨b, off, none⟩ ∧ b < w.heap.size ∧ ∀ j (h : j < zs.length), w.cell? ⟨b, off + j, none⟩ = some (.int .i64 zs[j]) ∧ -9223372036854775808 ≤ zs[j] ∧ zs[j] ≤ 9223372036854775807)
theorem exec_lookX {a : Act} {o : Oper} {w : World} (x y : Operand) (ho : o.op = .lookup 52 x y false) (u k v : Value) (hx : a.eval x = u) (hy : a.eval y = k) (hr : (Instr.lookup 52 u k false).run Tryd.prog w = .ok v w) : (execOp a.eval o).run Tryd.prog w = .ok (.value v) w := by
  unfold execOp
  simp [ho, hx, hy, hr]
theorem nodupX {l : List XE} (hr : l.Pairwise (fun a b => a.seq < b.seq)) {i : Nat} (hi : i + 1 < l.length) : l[i].seq < l[i + 1].seq := List.pairwise_iff_getElem.1 hr i (i + 1) (by omega) hi (by omega)

set_option maxRecDepth 100000 in
set_option maxHeartbeats 16000000 in
theorem outboxRises_any (lv : Value) (rs : List RP) (av : Value) (zs : List Int) (w : World) (hRs : Reps w lv rs) (hZs : IntsX w av zs) (hgf : 1 < w.heap.size) (hf : Tab w 1 (fours.map v32)) : Calls Tryd.prog 6 #[lv, av] w fun e w' => e = .returned (.bool true) ∧ Below w.heap.size w w' := by
  have HAW : Hid (Calls Tryd.prog 8 #[] w fun e w' => e = .returned (.bool true) ∧ Below w.heap.size w w') := awakeX w hgf hf
  obtain ⟨la, lc, rfl, hlm, hlr⟩ := hRs
  obtain ⟨za, zc, rfl, hzm, hzr⟩ := hZs
  have HLR : Hid (∀ i b, rs[i]? = some b → ∃ g off, la = some ⟨g, off, none⟩ ∧ g < w.heap.size ∧ ∀ (j : Nat) x, (rpL b)[j]? = some x → w.cell? ⟨g, off + i * 4 + j, none⟩ = some x) := hlr
  have HZR : Hid (0 < zs.length → ∃ b off, za = some ⟨b, off, none⟩ ∧ b < w.heap.size ∧ ∀ j (h : j < zs.length), w.cell? ⟨b, off + j, none⟩ = some (.int .i64 zs[j]) ∧ -9223372036854775808 ≤ zs[j] ∧ zs[j] ≤ 9223372036854775807) := hzr
  clear hlr hzr
  have hmm := @run_makeMap Tryd.prog
  go_enter Tryd.func6, Tryd.ntmps6
  go_wp2_with fail
  refine HAW.out.mono ?_
  rintro e w1 ⟨rfl, hB1⟩
  clear HAW
  have HN : Hid (Calls Tryd.prog 11 #[.int .i64 3, .int .i64 10000] w1 fun e w' => ∃ L : PLay6, e = .returned (.tuple #[.pointer (some ⟨L.g, 0, none⟩), .int .i64 0]) ∧ L.n = 3 ∧ PFlash w' L (newF 3 10000) ∧ Below w1.heap.size w1 w' ∧ (∀ q, L.T q → w1.heap.size ≤ q)) := thePF.new_any 3 10000 w1 (by decide) (by decide) (by decide) (by decide)
  have hg1 := Nat.lt_of_lt_of_le hgf hB1.size
  have hf1 := hf.below hB1 hgf
  go_wp2_with fail
  refine HN.out.mono ?_
  rintro e w3 ⟨L, rfl, hn, hD3, hb3, hT3⟩
  clear HN
  have HO : Hid (Calls Tryd.prog 12 #[.pointer (some ⟨L.g, 0, none⟩), .int .i64 0] w3 fun e' W' => ∃ g, e' = .returned (.tuple #[.pointer (some ⟨g, 0, none⟩), .int .i64 0]) ∧ BC w1 W' L g 0 3 0 (.slice none 0 0) XS.first (newF 3 10000) ∧ Below w3.heap.size w3 W') := open_bc w1 w3 L 3 10000 0 hD3 hn hT3 (by decide) (by decide) (by decide) (by decide) hb3 hg1 hf1
  clear hD3 hT3 hn
  go_wp2_with fail
  refine HO.out.mono ?_
  rintro e w4 ⟨g, rfl, hC4, hb4⟩
  clear HO
  have hB4 : Below w1.heap.size w1 w4 := hb3.trans (hb4.mono hb3.size)
  obtain ⟨bm, hbm⟩ : ∃ b, b = w4.heap.size := ⟨_, rfl⟩
  have hown0 : (w4.alloc (.map #[] 0)).ownsMap Tryd.prog 3 repR bm 0 (.map []) := by rw [hbm]; exact World.ownsMap_made (H := Unit) w4 Tryd.prog 3 repR
  have hb5 : Below w4.heap.size w4 (w4.alloc (.map #[] 0)) := (Below.refl _ _).alloc (Nat.le_refl _) _
  have hC5 := hC4.after hb5
  have hB5 : Below w1.heap.size w1 (w4.alloc (.map #[] 0)) := hB4.trans (hb5.mono hB4.size)
  have hnb : ¬ bT L g (.slice none 0 0) bm := by
    rintro (e | e | e)
    · have := hC4.bx.fl.lt bm e; omega
    · have := hC4.bx.blk.lt; omega
    · cases e
  have hs4 := hB4.size
  clear hC4 hB4 hb4 hb3 hb5
  have hs1 := hB1.size
  -- what a round does
  have HPUT : Hid (∀ (W : World) (k e : Nat) (wv : Value) (x : XS) (s : FS) (r : RP), BC w1 W L g 0 3 e wv x s → Below w1.heap.size w1 W → x.last.seq ≤ k → k < 60 → e ≤ k → s.most = 10000 → x.wt.length ≤ k → ¬ bT L g wv bm → bm < W.heap.size → Calls Tryd.prog 13 #[.pointer (some ⟨g, 0, none⟩), .agg #[.int .i64 r.c, .int .i64 r.l, .int .i64 r.v, .int .i64 r.o]] W fun e' W' => Below w1.heap.size w1 W' ∧ Chg (bT L g wv) W W' ∧ ∃ wv' s', s'.most = 10000 ∧ ¬ bT L g wv' bm ∧ ((r.ok ∧ e' = .returned (.tuple #[.int .i64 ((x.last.seq + 1 : Nat) : Int), .int .i64 0]) ∧ BC w1 W' L g 0 3 (e + 1) wv' ⟨x.wt ++ [nextX x r], nextX x r, false⟩ s') ∨ (¬ r.ok ∧ e' = .returned (.tuple #[.int .i64 0, .int .i64 1]) ∧ BC w1 W' L g 0 3 e wv' x s'))) := fun W k e wv x s r hC hB hs hk he hm hl hnb hbl => by
    have hnx : ∀ wv', (∀ q, wv'.ownBlock = some q → wv.ownBlock = some q ∨ W.heap.size ≤ q) → ¬ bT L g wv' bm := fun wv' hv hx => by
      rcases hx with h1 | h1 | h1
      · exact hnb (.inl h1)
      · exact hnb (.inr (.inl h1))
      · rcases hv bm h1 with h2 | h2
        · exact hnb (.inr (.inr h2))
        · omega
    by_cases hr : r.ok
    · refine (hC.put hB (by decide) r hr (by omega) (by omega) (by omega) hg1 hf1).mono ?_
      rintro e' W' ⟨wv', s', h1, h2, h3, h4⟩
      rcases h4 with ⟨_, rfl, hC'⟩ | ⟨hf2, _, _⟩
      · exact ⟨hC.below hB h3, h3, wv', s', h1.trans hm, hnx wv' h2, .inl ⟨hr, rfl, hC'⟩⟩
      · exact absurd hf2 (full_sixty hC.cb (by omega))
    · refine (hC.bad hB (by decide) r (decide_eq_false hr) (by omega) (by omega) hg1 hf1).mono ?_
      rintro e' W' ⟨wv', h2, h3, rfl, hC'⟩
      exact ⟨hC.below hB h3, h3, wv', s, hm, hnx wv' h2, .inr ⟨hr, rfl, hC'⟩⟩
  have HACK : Hid (∀ (W : World) (e : Nat) (wv : Value) (x : XS) (s : FS) (q : Int), BC w1 W L g 0 3 e wv x s → Below w1.heap.size w1 W → s.most = 10000 → ¬ bT L g wv bm → Calls Tryd.prog 15 #[.pointer (some ⟨g, 0, none⟩), .int .i64 q] W fun e' W' => Below w1.heap.size w1 W' ∧ Chg (bT L g wv) W W' ∧ ∃ z wv' x' s', e' = .returned (.int .i64 z) ∧ (z == 0) = hasX x.wt q ∧ s'.most = 10000 ∧ ¬ bT L g wv' bm ∧ BC w1 W' L g 0 3 e wv' x' s' ∧ x'.last = x.last ∧ x'.wt.length ≤ x.wt.length ∧ (∀ D, Tidy D → HoldsX D x.wt → HoldsX (D.del (.int .i64 q)) x'.wt)) := fun W e wv x s q hC hB hm hnb => by
    refine (hC.ack (by decide) q).mono ?_
    rintro e' W' ⟨wv', s', h1, h2, h3, h4⟩
    have hnx : ¬ bT L g wv' bm := by unfold bT at hnb ⊢; rw [h2]; exact hnb
    rcases h4 with ⟨i, hi, rfl, hC'⟩ | ⟨hi, rfl, hC'⟩
    · exact ⟨hC.below hB h3, h3, 0, wv', _, s', rfl, by rw [hasX_idx, hi]; rfl, h1.trans hm, hnx, hC', rfl, List.length_eraseIdx_le .., fun D hT hH => hH.del hT hC.cb.rise q i hi⟩
    · exact ⟨hC.below hB h3, h3, 4, wv', x, s', rfl, by rw [hasX_idx, hi]; rfl, h1.trans hm, hnx, hC', rfl, Nat.le_refl _, fun D hT hH => hH.drop hT q hi⟩
  go_wp2_with fail
  rw [← hbm]
  generalize w4.alloc (.map #[] 0) = w5 at *
  have hbm1 : w1.heap.size ≤ bm := by omega
  clear hbm hmm
  go_loopw [10] (fun i wr => ∃ k : Nat, k ≤ rs.length ∧ k ≤ 60 ∧ i = .int .i64 k ∧ Below w1.heap.size w1 wr ∧ ∃ e wv x s m D, BC w1 wr L g 0 3 e wv x s ∧ e ≤ k ∧ s.most = 10000 ∧ x.last.seq ≤ k ∧ x.wt.length ≤ k ∧ ¬ bT L g wv bm ∧ wr.ownsMap Tryd.prog 3 repR bm m D ∧ m ≤ k ∧ HoldsX D x.wt) (fun i _ => 60 - (intOf i).toNat)
  case atStart => exact ⟨0, Nat.zero_le _, by decide, rfl, hB5, 0, _, _, _, 0, _, hC5, Nat.zero_le _, rfl, Nat.zero_le _, Nat.zero_le _, hnb, hown0, Nat.zero_le _, HoldsX.nil⟩
  case round =>
    clear hC5 hB5 hnb hown0
    obtain ⟨k, hk1, hk2, rfl, hB, e, wv, x, s, m, D, hC, he, hm, hq, hlen, hnb, hown, hmk, hH⟩ := hrel
    have hBw : Below w.heap.size w wr := hB1.trans (hB.mono hs1)
    have HBC : Hid (BC w1 wr L g 0 3 e wv x s) := hC
    have HNB : Hid (¬ bT L g wv bm) := hnb
    have HOW : Hid (wr.ownsMap Tryd.prog 3 repR bm m D) := hown
    have HHX : Hid (HoldsX D x.wt) := hH
    have HFA : Hid (e ≤ k ∧ s.most = 10000 ∧ x.last.seq ≤ k ∧ x.wt.length ≤ k ∧ m ≤ k) := ⟨he, hm, hq, hlen, hmk⟩
    clear hC he hm hq hlen hnb hown hmk hH
    by_cases hlt : k < rs.length
    rotate_left
    · have hni : ¬ (k : Int) < (rs.length : Int) := by omega
      have HE : Hid (Calls Tryd.prog 20 #[.pointer (some ⟨g, 0, none⟩)] wr fun e w' => ∃ v, e = .returned v ∧ QsR w' wr.heap.size v x.wt ∧ Below wr.heap.size wr w') := pendP L s g 0 w1.heap.size wv x wr HBC.out.bx
      have HRI : Hid (x.wt.Pairwise (fun a b => a.seq < b.seq) ∧ (∀ y ∈ x.wt, y.seq ≤ 1073741824)) := ⟨HBC.out.cb.rise, fun y hy => by have := (HBC.out.cb.wts y hy).2.1; have := HFA.out.2.2.1; omega⟩
      have hlL : x.wt.length ≤ 60 := by have := HFA.out.2.2.2.1; omega
      generalize x.wt = l at *
      clear HBC HNB HFA
      go_wp2_with fail
      refine HE.out.mono ?_
      rintro e' w6 ⟨v6, rfl, hq6, hb6⟩
      clear HE
      have HQ6 : Hid (QsR w6 wr.heap.size v6 l) := hq6
      have HO6 : Hid (w6.ownsMap Tryd.prog 3 repR bm m D) := own_chgX (S := fun _ => False) HOW.out (Chg.of_below hb6 (Nat.le_refl _)) id
      obtain ⟨ao, c, hv6⟩ := hq6.shape
      subst hv6
      have hBw6 : Below w.heap.size w w6 := hBw.trans (hb6.mono hBw.size)
      have HSZ : Hid (Maps.size D = l.length) := HHX.out.size
      clear hq6 hb6 HOW
      go_wp2
      go_loopw [17] (fun i wq => ∃ t : Nat, t ≤ l.length ∧ i = .int .i64 t ∧ Below w6.heap.size w6 wq) (fun i _ => l.length - (intOf i).toNat)
      case atStart => exact ⟨0, Nat.zero_le _, rfl, Below.refl _ _⟩
      case round =>
        obtain ⟨wo, hwo⟩ : ∃ wo : World, wo = wr := ⟨_, rfl⟩
        obtain ⟨t, ht, rfl, hBt⟩ := hrel
        by_cases htl : t < l.length
        · have hti : (t : Int) < (l.length : Int) := by omega
          obtain ⟨y, hy⟩ : ∃ y, l[t]? = some y := ⟨l[t], List.getElem?_eq_getElem htl⟩
          obtain ⟨b, c', hbv, hbl, hbb, hcs⟩ := HQ6.out.at hy
          have hao : ao = some ⟨b, 0, none⟩ := by cases hbv; rfl
          subst hao
          have HY : Hid (l[t]? = some y) := hy
          have HYM : Hid (y ∈ l ∧ y.seq ≤ 1073741824) := ⟨List.mem_of_getElem? hy, HRI.out.2 y (List.mem_of_getElem? hy)⟩
          obtain ⟨PSQ, hPSQ⟩ : ∃ P : Nat, P = (l.getD (t - 1) XE.first).seq := ⟨_, rfl⟩
          have HPL : Hid (0 < t → PSQ < y.seq) := fun h0 => by
            have hlt2 := nodupX HRI.out.1 (i := t - 1) (by omega)
            obtain ⟨h7, h8⟩ := List.getElem?_eq_some_iff.1 HY.out
            have h9 : l[t - 1 + 1]'(by omega) = y := by rw [← h8]; congr 1; omega
            rw [h9] at hlt2
            rw [hPSQ, List.getD_eq_getElem?_getD, List.getElem?_eq_getElem (by omega)]
            exact hlt2
          have HSV : Hid (∀ V, Below w6.heap.size w6 V → V.ownsMap Tryd.prog 3 repR bm m D ∧ V.cell? ⟨b, t * 5, none⟩ = some (.int .i64 (y.seq : Int)) ∧ V.rangeAt b (t * 5 + 1) [.int .i64 y.r.c, .int .i64 y.r.l, .int .i64 y.r.v, .int .i64 y.r.o] ∧ (0 < t → V.cell? ⟨b, (t - 1) * 5, none⟩ = some (.int .i64 (PSQ : Int)))) := fun V hV => by
            have hQ : QsR V _ _ l := HQ6.out.chg (S := fun _ => False) (Chg.of_below hV (Nat.le_refl _)) (fun _ _ => id)
            have hO : V.ownsMap Tryd.prog 3 repR bm m D := own_chgX (S := fun _ => False) HO6.out (Chg.of_below hV (Nat.le_refl _)) id
            obtain ⟨b2, c2, hb2, _, _, hc2⟩ := hQ.at HY.out
            have hbe : b2 = b := by cases hb2; rfl
            subst hbe
            refine ⟨hO, ?_, ?_, ?_⟩
            · have := hc2 0 _ rfl; rwa [Nat.add_zero] at this
            · intro kk u hu
              rw [Nat.add_assoc]
              refine hc2 (1 + kk) u ?_
              have hkk : kk < 4 := (List.getElem?_eq_some_iff.1 hu).1
              rcases (by omega : kk = 0 ∨ kk = 1 ∨ kk = 2 ∨ kk = 3) with rfl | rfl | rfl | rfl <;> exact hu
            · intro h0
              obtain ⟨y2, hy2⟩ : ∃ y2, l[t - 1]? = some y2 := ⟨l[t - 1], List.getElem?_eq_getElem (by omega)⟩
              obtain ⟨b3, c3, hb3, _, _, hc3⟩ := hQ.at hy2
              have hbe : b3 = b2 := by cases hb3; rfl
              subst hbe
              have h4 := hc3 0 _ rfl
              rw [Nat.add_zero] at h4
              rw [hPSQ, List.getD_eq_getElem?_getD, hy2]
              exact h4
          have ix := fun w => index_qs b l.length c t w htl
          have hS0 := HSV.out wr.drew hBt.drew
          clear hbv hcs hy hbl hbb
          go_wp2_with fail
          by_cases ht0 : 0 < t
          · have hg0 : decide ((0 : Int) < (t : Int)) = true := decide_eq_true (by omega)
            have ix2 := fun w => index_qs b l.length c (t - 1) w (by omega)
            have et : ((t - 1 : Nat) : Int) = (t : Int) - 1 := by omega
            rw [et] at ix2
            have hle : decide (((y.seq : Nat) : Int) ≤ ((PSQ : Nat) : Int)) = false := decide_eq_false (by have := HPL.out ht0; omega)
            refine held_begin (fun V => V.ownsMap Tryd.prog 3 repR bm m D ∧ V.cell? ⟨b, t * 5, none⟩ = some (.int .i64 (y.seq : Int)) ∧ V.rangeAt b (t * 5 + 1) [.int .i64 y.r.c, .int .i64 y.r.l, .int .i64 y.r.v, .int .i64 y.r.o] ∧ (0 < t → V.cell? ⟨b, (t - 1) * 5, none⟩ = some (.int .i64 (PSQ : Int)))) (by kernel_rfl) ?_
            refine held_take 0 108 _ (.map (some bm)) rfl rfl (by kernel_rfl) (by kernel_rfl) (by kernel_rfl) rfl hS0 (fun _ _ => rfl) ?_
            simp only [Act.put, List.setIfInBounds_toArray, List.set_cons_succ, List.set_cons_zero]
            refine held_take 1 109 _ (.slice (some ⟨b, 0, none⟩) l.length c) rfl rfl (by kernel_rfl) (by kernel_rfl) (by kernel_rfl) rfl hS0 (fun _ _ => rfl) ?_
            simp only [Act.put, List.setIfInBounds_toArray, List.set_cons_succ, List.set_cons_zero]
            refine held_take 2 110 _ (.int .i64 (t : Int)) rfl rfl (by kernel_rfl) (by kernel_rfl) (by kernel_rfl) rfl hS0 (fun _ _ => rfl) ?_
            simp only [Act.put, List.setIfInBounds_toArray, List.set_cons_succ, List.set_cons_zero]
            refine held_take 3 111 _ (.pointer (some ⟨b, t * 5, none⟩)) rfl rfl (by kernel_rfl) (by kernel_rfl) (by kernel_rfl) rfl hS0 (fun V _ => exec_indexat 34 _ _ rfl (.slice (some ⟨b, 0, none⟩) l.length c) (.int .i64 (t : Int)) _ rfl rfl (ix V)) ?_
            simp only [Act.put, List.setIfInBounds_toArray, List.set_cons_succ, List.set_cons_zero]
            refine held_take 4 112 _ (.pointer (some ⟨b, t * 5, none⟩)) rfl rfl (by kernel_rfl) (by kernel_rfl) (by kernel_rfl) rfl hS0 (fun _ _ => rfl) ?_
            simp only [Act.put, List.setIfInBounds_toArray, List.set_cons_succ, List.set_cons_zero]
            refine held_take 5 113 _ (.int .i64 (y.seq : Int)) rfl rfl (by kernel_rfl) (by kernel_rfl) (by kernel_rfl) rfl hS0 (fun V hV => exec_loadc 3 _ rfl _ _ rfl (load_one 3 (fun _ => by kernel_rfl) V _ _ _ hV.2.1)) ?_
            simp only [Act.put, List.setIfInBounds_toArray, List.set_cons_succ, List.set_cons_zero]
            refine held_take 6 114 _ (.agg #[.int .i64 y.r.c, .int .i64 y.r.l, .int .i64 y.r.v, .int .i64 y.r.o]) rfl rfl (by kernel_rfl) (by kernel_rfl) (by kernel_rfl) rfl hS0 (fun V hV => exec_lookX _ _ rfl (.map (some bm)) (.int .i64 (y.seq : Int)) _ rfl rfl (lookX hV.1 HHX.out y HYM.out.1 HYM.out.2)) ?_
            simp only [Act.put, List.setIfInBounds_toArray, List.set_cons_succ, List.set_cons_zero]
            refine held_take 7 115 _ (.slice (some ⟨b, 0, none⟩) l.length c) rfl rfl (by kernel_rfl) (by kernel_rfl) (by kernel_rfl) rfl hS0 (fun _ _ => rfl) ?_
            simp only [Act.put, List.setIfInBounds_toArray, List.set_cons_succ, List.set_cons_zero]
            refine held_take 8 116 _ (.int .i64 (t : Int)) rfl rfl (by kernel_rfl) (by kernel_rfl) (by kernel_rfl) rfl hS0 (fun _ _ => rfl) ?_
            simp only [Act.put, List.setIfInBounds_toArray, List.set_cons_succ, List.set_cons_zero]
            refine held_take 9 117 _ (.pointer (some ⟨b, t * 5, none⟩)) rfl rfl (by kernel_rfl) (by kernel_rfl) (by kernel_rfl) rfl hS0 (fun V _ => exec_indexat 34 _ _ rfl (.slice (some ⟨b, 0, none⟩) l.length c) (.int .i64 (t : Int)) _ rfl rfl (ix V)) ?_
            simp only [Act.put, List.setIfInBounds_toArray, List.set_cons_succ, List.set_cons_zero]
            refine held_take 10 118 _ (.pointer (some ⟨b, t * 5 + 1, none⟩)) rfl rfl (by kernel_rfl) (by kernel_rfl) (by kernel_rfl) rfl hS0 (fun _ _ => rfl) ?_
            simp only [Act.put, List.setIfInBounds_toArray, List.set_cons_succ, List.set_cons_zero]
            refine held_take 11 119 _ (.agg #[.int .i64 y.r.c, .int .i64 y.r.l, .int .i64 y.r.v, .int .i64 y.r.o]) rfl rfl (by kernel_rfl) (by kernel_rfl) (by kernel_rfl) rfl hS0 (fun V hV => exec_loads 23 _ rfl b (t * 5 + 1) rfl [.int .i64 y.r.c, .int .i64 y.r.l, .int .i64 y.r.v, .int .i64 y.r.o] _ hV.2.2.1 Tryd.underlying23 rfl info_rep12) ?_
            simp only [Act.put, List.setIfInBounds_toArray, List.set_cons_succ, List.set_cons_zero]
            refine held_take 12 120 _ (.bool false) rfl rfl (by kernel_rfl) (by kernel_rfl) (by kernel_rfl) rfl hS0 (fun V _ => exec_cmp .neq 23 23 _ _ rfl (.inl rfl) (.agg #[.int .i64 y.r.c, .int .i64 y.r.l, .int .i64 y.r.v, .int .i64 y.r.o]) (.agg #[.int .i64 y.r.c, .int .i64 y.r.l, .int .i64 y.r.v, .int .i64 y.r.o]) _ rfl rfl (by kernel_rfl) (ne_rep y.r V)) ?_
            simp only [Act.put, List.setIfInBounds_toArray, List.set_cons_succ, List.set_cons_zero]
            refine held_take 13 121 _ (.bool false) rfl rfl (by kernel_rfl) (by kernel_rfl) (by kernel_rfl) rfl hS0 (fun _ _ => rfl) ?_
            simp only [Act.put, List.setIfInBounds_toArray, List.set_cons_succ, List.set_cons_zero]
            refine held_take 14 122 _ (.int .i64 (t : Int)) rfl rfl (by kernel_rfl) (by kernel_rfl) (by kernel_rfl) rfl hS0 (fun _ _ => rfl) ?_
            simp only [Act.put, List.setIfInBounds_toArray, List.set_cons_succ, List.set_cons_zero]
            refine held_take 15 123 _ (.bool true) rfl rfl (by kernel_rfl) (by kernel_rfl) (by kernel_rfl) rfl hS0 (fun V _ => exec_gtr7 3 _ _ rfl (t : Int) 0 _ rfl rfl hg0) ?_
            simp only [Act.put, List.setIfInBounds_toArray, List.set_cons_succ, List.set_cons_zero]
            refine held_take 16 124 _ (.bool true) rfl rfl (by kernel_rfl) (by kernel_rfl) (by kernel_rfl) rfl hS0 (fun _ _ => rfl) ?_
            simp only [Act.put, List.setIfInBounds_toArray, List.set_cons_succ, List.set_cons_zero]
            refine held_take 17 125 _ (.slice (some ⟨b, 0, none⟩) l.length c) rfl rfl (by kernel_rfl) (by kernel_rfl) (by kernel_rfl) rfl hS0 (fun _ _ => rfl) ?_
            simp only [Act.put, List.setIfInBounds_toArray, List.set_cons_succ, List.set_cons_zero]
            refine held_take 18 126 _ (.int .i64 (t : Int)) rfl rfl (by kernel_rfl) (by kernel_rfl) (by kernel_rfl) rfl hS0 (fun _ _ => rfl) ?_
            simp only [Act.put, List.setIfInBounds_toArray, List.set_cons_succ, List.set_cons_zero]
            refine held_take 19 127 _ (.pointer (some ⟨b, t * 5, none⟩)) rfl rfl (by kernel_rfl) (by kernel_rfl) (by kernel_rfl) rfl hS0 (fun V _ => exec_indexat 34 _ _ rfl (.slice (some ⟨b, 0, none⟩) l.length c) (.int .i64 (t : Int)) _ rfl rfl (ix V)) ?_
            simp only [Act.put, List.setIfInBounds_toArray, List.set_cons_succ, List.set_cons_zero]
            refine held_take 20 128 _ (.pointer (some ⟨b, t * 5, none⟩)) rfl rfl (by kernel_rfl) (by kernel_rfl) (by kernel_rfl) rfl hS0 (fun _ _ => rfl) ?_
            simp only [Act.put, List.setIfInBounds_toArray, List.set_cons_succ, List.set_cons_zero]
            refine held_take 21 129 _ (.int .i64 (y.seq : Int)) rfl rfl (by kernel_rfl) (by kernel_rfl) (by kernel_rfl) rfl hS0 (fun V hV => exec_loadc 3 _ rfl _ _ rfl (load_one 3 (fun _ => by kernel_rfl) V _ _ _ hV.2.1)) ?_
            simp only [Act.put, List.setIfInBounds_toArray, List.set_cons_succ, List.set_cons_zero]
            refine held_take 22 130 _ (.slice (some ⟨b, 0, none⟩) l.length c) rfl rfl (by kernel_rfl) (by kernel_rfl) (by kernel_rfl) rfl hS0 (fun _ _ => rfl) ?_
            simp only [Act.put, List.setIfInBounds_toArray, List.set_cons_succ, List.set_cons_zero]
            refine held_take 23 131 _ (.int .i64 (t : Int)) rfl rfl (by kernel_rfl) (by kernel_rfl) (by kernel_rfl) rfl hS0 (fun _ _ => rfl) ?_
            simp only [Act.put, List.setIfInBounds_toArray, List.set_cons_succ, List.set_cons_zero]
            refine held_take 24 132 _ (.int .i64 ((t : Int) - 1)) rfl rfl (by kernel_rfl) (by kernel_rfl) (by kernel_rfl) rfl hS0 (fun V _ => exec_subi 3 _ _ rfl (t : Int) 1 rfl rfl (by omega) (by omega)) ?_
            simp only [Act.put, List.setIfInBounds_toArray, List.set_cons_succ, List.set_cons_zero]
            refine held_take 25 133 _ (.pointer (some ⟨b, (t - 1) * 5, none⟩)) rfl rfl (by kernel_rfl) (by kernel_rfl) (by kernel_rfl) rfl hS0 (fun V _ => exec_indexat 34 _ _ rfl (.slice (some ⟨b, 0, none⟩) l.length c) (.int .i64 ((t : Int) - 1)) _ rfl rfl (ix2 V)) ?_
            simp only [Act.put, List.setIfInBounds_toArray, List.set_cons_succ, List.set_cons_zero]
            refine held_take 26 134 _ (.pointer (some ⟨b, (t - 1) * 5, none⟩)) rfl rfl (by kernel_rfl) (by kernel_rfl) (by kernel_rfl) rfl hS0 (fun _ _ => rfl) ?_
            simp only [Act.put, List.setIfInBounds_toArray, List.set_cons_succ, List.set_cons_zero]
            refine held_take 27 135 _ (.int .i64 (PSQ : Int)) rfl rfl (by kernel_rfl) (by kernel_rfl) (by kernel_rfl) rfl hS0 (fun V hV => exec_loadc 3 _ rfl _ _ rfl (load_one 3 (fun _ => by kernel_rfl) V _ _ _ (hV.2.2.2 ht0))) ?_
            simp only [Act.put, List.setIfInBounds_toArray, List.set_cons_succ, List.set_cons_zero]
            refine held_take 28 136 _ (.bool false) rfl rfl (by kernel_rfl) (by kernel_rfl) (by kernel_rfl) rfl hS0 (fun V _ => exec_leq7 3 _ _ rfl (y.seq : Int) (PSQ : Int) _ rfl rfl hle) ?_
            simp only [Act.put, List.setIfInBounds_toArray, List.set_cons_succ, List.set_cons_zero]
            refine held_take 29 137 _ (.bool false) rfl rfl (by kernel_rfl) (by kernel_rfl) (by kernel_rfl) rfl hS0 (fun _ _ => rfl) ?_
            simp only [Act.put, List.setIfInBounds_toArray, List.set_cons_succ, List.set_cons_zero]
            refine held_take 30 138 _ (.bool false) rfl rfl (by kernel_rfl) (by kernel_rfl) (by kernel_rfl) rfl hS0 (fun _ _ => rfl) ?_
            simp only [Act.put, List.setIfInBounds_toArray, List.set_cons_succ, List.set_cons_zero]
            refine wpAnyH_done (by kernel_rfl) ?_ _
            refine NoPanic.normal ?_
            have hBd : Below w6.heap.size w6 wr.drew := hBt.drew
            clear hS0 hwo
            go_wp2
            go_roundw
            case rel => exact ⟨t + 1, htl, by go_num, hBd⟩
            case measure => simp [intOf]; omega
          · have hg0 : decide ((0 : Int) < (t : Int)) = false := decide_eq_false (by omega)
            refine held_begin (fun V => V.ownsMap Tryd.prog 3 repR bm m D ∧ V.cell? ⟨b, t * 5, none⟩ = some (.int .i64 (y.seq : Int)) ∧ V.rangeAt b (t * 5 + 1) [.int .i64 y.r.c, .int .i64 y.r.l, .int .i64 y.r.v, .int .i64 y.r.o] ∧ (0 < t → V.cell? ⟨b, (t - 1) * 5, none⟩ = some (.int .i64 (PSQ : Int)))) (by kernel_rfl) ?_
            refine held_take 0 108 _ (.map (some bm)) rfl rfl (by kernel_rfl) (by kernel_rfl) (by kernel_rfl) rfl hS0 (fun _ _ => rfl) ?_
            simp only [Act.put, List.setIfInBounds_toArray, List.set_cons_succ, List.set_cons_zero]
            refine held_take 1 109 _ (.slice (some ⟨b, 0, none⟩) l.length c) rfl rfl (by kernel_rfl) (by kernel_rfl) (by kernel_rfl) rfl hS0 (fun _ _ => rfl) ?_
            simp only [Act.put, List.setIfInBounds_toArray, List.set_cons_succ, List.set_cons_zero]
            refine held_take 2 110 _ (.int .i64 (t : Int)) rfl rfl (by kernel_rfl) (by kernel_rfl) (by kernel_rfl) rfl hS0 (fun _ _ => rfl) ?_
            simp only [Act.put, List.setIfInBounds_toArray, List.set_cons_succ, List.set_cons_zero]
            refine held_take 3 111 _ (.pointer (some ⟨b, t * 5, none⟩)) rfl rfl (by kernel_rfl) (by kernel_rfl) (by kernel_rfl) rfl hS0 (fun V _ => exec_indexat 34 _ _ rfl (.slice (some ⟨b, 0, none⟩) l.length c) (.int .i64 (t : Int)) _ rfl rfl (ix V)) ?_
            simp only [Act.put, List.setIfInBounds_toArray, List.set_cons_succ, List.set_cons_zero]
            refine held_take 4 112 _ (.pointer (some ⟨b, t * 5, none⟩)) rfl rfl (by kernel_rfl) (by kernel_rfl) (by kernel_rfl) rfl hS0 (fun _ _ => rfl) ?_
            simp only [Act.put, List.setIfInBounds_toArray, List.set_cons_succ, List.set_cons_zero]
            refine held_take 5 113 _ (.int .i64 (y.seq : Int)) rfl rfl (by kernel_rfl) (by kernel_rfl) (by kernel_rfl) rfl hS0 (fun V hV => exec_loadc 3 _ rfl _ _ rfl (load_one 3 (fun _ => by kernel_rfl) V _ _ _ hV.2.1)) ?_
            simp only [Act.put, List.setIfInBounds_toArray, List.set_cons_succ, List.set_cons_zero]
            refine held_take 6 114 _ (.agg #[.int .i64 y.r.c, .int .i64 y.r.l, .int .i64 y.r.v, .int .i64 y.r.o]) rfl rfl (by kernel_rfl) (by kernel_rfl) (by kernel_rfl) rfl hS0 (fun V hV => exec_lookX _ _ rfl (.map (some bm)) (.int .i64 (y.seq : Int)) _ rfl rfl (lookX hV.1 HHX.out y HYM.out.1 HYM.out.2)) ?_
            simp only [Act.put, List.setIfInBounds_toArray, List.set_cons_succ, List.set_cons_zero]
            refine held_take 7 115 _ (.slice (some ⟨b, 0, none⟩) l.length c) rfl rfl (by kernel_rfl) (by kernel_rfl) (by kernel_rfl) rfl hS0 (fun _ _ => rfl) ?_
            simp only [Act.put, List.setIfInBounds_toArray, List.set_cons_succ, List.set_cons_zero]
            refine held_take 8 116 _ (.int .i64 (t : Int)) rfl rfl (by kernel_rfl) (by kernel_rfl) (by kernel_rfl) rfl hS0 (fun _ _ => rfl) ?_
            simp only [Act.put, List.setIfInBounds_toArray, List.set_cons_succ, List.set_cons_zero]
            refine held_take 9 117 _ (.pointer (some ⟨b, t * 5, none⟩)) rfl rfl (by kernel_rfl) (by kernel_rfl) (by kernel_rfl) rfl hS0 (fun V _ => exec_indexat 34 _ _ rfl (.slice (some ⟨b, 0, none⟩) l.length c) (.int .i64 (t : Int)) _ rfl rfl (ix V)) ?_
            simp only [Act.put, List.setIfInBounds_toArray, List.set_cons_succ, List.set_cons_zero]
            refine held_take 10 118 _ (.pointer (some ⟨b, t * 5 + 1, none⟩)) rfl rfl (by kernel_rfl) (by kernel_rfl) (by kernel_rfl) rfl hS0 (fun _ _ => rfl) ?_
            simp only [Act.put, List.setIfInBounds_toArray, List.set_cons_succ, List.set_cons_zero]
            refine held_take 11 119 _ (.agg #[.int .i64 y.r.c, .int .i64 y.r.l, .int .i64 y.r.v, .int .i64 y.r.o]) rfl rfl (by kernel_rfl) (by kernel_rfl) (by kernel_rfl) rfl hS0 (fun V hV => exec_loads 23 _ rfl b (t * 5 + 1) rfl [.int .i64 y.r.c, .int .i64 y.r.l, .int .i64 y.r.v, .int .i64 y.r.o] _ hV.2.2.1 Tryd.underlying23 rfl info_rep12) ?_
            simp only [Act.put, List.setIfInBounds_toArray, List.set_cons_succ, List.set_cons_zero]
            refine held_take 12 120 _ (.bool false) rfl rfl (by kernel_rfl) (by kernel_rfl) (by kernel_rfl) rfl hS0 (fun V _ => exec_cmp .neq 23 23 _ _ rfl (.inl rfl) (.agg #[.int .i64 y.r.c, .int .i64 y.r.l, .int .i64 y.r.v, .int .i64 y.r.o]) (.agg #[.int .i64 y.r.c, .int .i64 y.r.l, .int .i64 y.r.v, .int .i64 y.r.o]) _ rfl rfl (by kernel_rfl) (ne_rep y.r V)) ?_
            simp only [Act.put, List.setIfInBounds_toArray, List.set_cons_succ, List.set_cons_zero]
            refine held_take 13 121 _ (.bool false) rfl rfl (by kernel_rfl) (by kernel_rfl) (by kernel_rfl) rfl hS0 (fun _ _ => rfl) ?_
            simp only [Act.put, List.setIfInBounds_toArray, List.set_cons_succ, List.set_cons_zero]
            refine held_take 14 122 _ (.int .i64 (t : Int)) rfl rfl (by kernel_rfl) (by kernel_rfl) (by kernel_rfl) rfl hS0 (fun _ _ => rfl) ?_
            simp only [Act.put, List.setIfInBounds_toArray, List.set_cons_succ, List.set_cons_zero]
            refine held_take 15 123 _ (.bool false) rfl rfl (by kernel_rfl) (by kernel_rfl) (by kernel_rfl) rfl hS0 (fun V _ => exec_gtr7 3 _ _ rfl (t : Int) 0 _ rfl rfl hg0) ?_
            simp only [Act.put, List.setIfInBounds_toArray, List.set_cons_succ, List.set_cons_zero]
            refine held_take 16 124 _ (.bool false) rfl rfl (by kernel_rfl) (by kernel_rfl) (by kernel_rfl) rfl hS0 (fun _ _ => rfl) ?_
            simp only [Act.put, List.setIfInBounds_toArray, List.set_cons_succ, List.set_cons_zero]
            refine held_pass 17 125 _ rfl rfl (by kernel_rfl) (by kernel_rfl) (by kernel_rfl) rfl hS0 ?_
            simp only [Act.put, List.setIfInBounds_toArray, List.set_cons_succ, List.set_cons_zero]
            refine held_pass 18 126 _ rfl rfl (by kernel_rfl) (by kernel_rfl) (by kernel_rfl) rfl hS0 ?_
            simp only [Act.put, List.setIfInBounds_toArray, List.set_cons_succ, List.set_cons_zero]
            refine held_pass 19 127 _ rfl rfl (by kernel_rfl) (by kernel_rfl) (by kernel_rfl) rfl hS0 ?_
            simp only [Act.put, List.setIfInBounds_toArray, List.set_cons_succ, List.set_cons_zero]
            refine held_pass 20 128 _ rfl rfl (by kernel_rfl) (by kernel_rfl) (by kernel_rfl) rfl hS0 ?_
            simp only [Act.put, List.setIfInBounds_toArray, List.set_cons_succ, List.set_cons_zero]
            refine held_pass 21 129 _ rfl rfl (by kernel_rfl) (by kernel_rfl) (by kernel_rfl) rfl hS0 ?_
            simp only [Act.put, List.setIfInBounds_toArray, List.set_cons_succ, List.set_cons_zero]
            refine held_pass 22 130 _ rfl rfl (by kernel_rfl) (by kernel_rfl) (by kernel_rfl) rfl hS0 ?_
            simp only [Act.put, List.setIfInBounds_toArray, List.set_cons_succ, List.set_cons_zero]
            refine held_pass 23 131 _ rfl rfl (by kernel_rfl) (by kernel_rfl) (by kernel_rfl) rfl hS0 ?_
            simp only [Act.put, List.setIfInBounds_toArray, List.set_cons_succ, List.set_cons_zero]
            refine held_pass 24 132 _ rfl rfl (by kernel_rfl) (by kernel_rfl) (by kernel_rfl) rfl hS0 ?_
            simp only [Act.put, List.setIfInBounds_toArray, List.set_cons_succ, List.set_cons_zero]
            refine held_pass 25 133 _ rfl rfl (by kernel_rfl) (by kernel_rfl) (by kernel_rfl) rfl hS0 ?_
            simp only [Act.put, List.setIfInBounds_toArray, List.set_cons_succ, List.set_cons_zero]
            refine held_pass 26 134 _ rfl rfl (by kernel_rfl) (by kernel_rfl) (by kernel_rfl) rfl hS0 ?_
            simp only [Act.put, List.setIfInBounds_toArray, List.set_cons_succ, List.set_cons_zero]
            refine held_pass 27 135 _ rfl rfl (by kernel_rfl) (by kernel_rfl) (by kernel_rfl) rfl hS0 ?_
            simp only [Act.put, List.setIfInBounds_toArray, List.set_cons_succ, List.set_cons_zero]
            refine held_pass 28 136 _ rfl rfl (by kernel_rfl) (by kernel_rfl) (by kernel_rfl) rfl hS0 ?_
            simp only [Act.put, List.setIfInBounds_toArray, List.set_cons_succ, List.set_cons_zero]
            refine held_take 29 137 _ (.bool false) rfl rfl (by kernel_rfl) (by kernel_rfl) (by kernel_rfl) rfl hS0 (fun _ _ => rfl) ?_
            simp only [Act.put, List.setIfInBounds_toArray, List.set_cons_succ, List.set_cons_zero]
            refine held_take 30 138 _ (.bool false) rfl rfl (by kernel_rfl) (by kernel_rfl) (by kernel_rfl) rfl hS0 (fun _ _ => rfl) ?_
            simp only [Act.put, List.setIfInBounds_toArray, List.set_cons_succ, List.set_cons_zero]
            refine wpAnyH_done (by kernel_rfl) ?_ _
            refine NoPanic.normal ?_
            have hBd : Below w6.heap.size w6 wr.drew := hBt.drew
            clear hS0 hwo
            go_wp2
            go_roundw
            case rel => exact ⟨t + 1, htl, by go_num, hBd⟩
            case measure => simp [intOf]; omega
        · obtain rfl : t = l.length := by omega
          have hnt : ¬ ((l.length : Nat) : Int) < (l.length : Int) := by omega
          have hO : wr.ownsMap Tryd.prog 3 repR bm m D := own_chgX (S := fun _ => False) HO6.out (Chg.of_below hBt (Nat.le_refl _)) id
          have hse : (((l.length : Nat) : Int) == ((Maps.size D : Nat) : Int)) = true := by rw [HSZ.out]; simp
          have HO : Hid (wr.ownsMap Tryd.prog 3 repR bm m D) := hO
          clear hO hwo
          go_wp2_with (at_len; refine wpList_len_own _ rfl _ 52 rfl 3 23 Tryd.underlying52 repR bm m D rfl HO.out ?_)
          go_ret
          exact ⟨rfl, hBw6.trans (hBt.mono hBw6.size)⟩
    by_cases hl60 : k < 60
    rotate_left
    · have hi : (k : Int) < (rs.length : Int) := by omega
      have hn6 : ¬ (k : Int) < 60 := by omega
      have HE : Hid (Calls Tryd.prog 20 #[.pointer (some ⟨g, 0, none⟩)] wr fun e w' => ∃ v, e = .returned v ∧ QsR w' wr.heap.size v x.wt ∧ Below wr.heap.size wr w') := pendP L s g 0 w1.heap.size wv x wr HBC.out.bx
      have HRI : Hid (x.wt.Pairwise (fun a b => a.seq < b.seq) ∧ (∀ y ∈ x.wt, y.seq ≤ 1073741824)) := ⟨HBC.out.cb.rise, fun y hy => by have := (HBC.out.cb.wts y hy).2.1; have := HFA.out.2.2.1; omega⟩
      have hlL : x.wt.length ≤ 60 := by have := HFA.out.2.2.2.1; omega
      generalize x.wt = l at *
      clear HBC HNB HFA
      go_wp2_with fail
      refine HE.out.mono ?_
      rintro e' w6 ⟨v6, rfl, hq6, hb6⟩
      clear HE
      have HQ6 : Hid (QsR w6 wr.heap.size v6 l) := hq6
      have HO6 : Hid (w6.ownsMap Tryd.prog 3 repR bm m D) := own_chgX (S := fun _ => False) HOW.out (Chg.of_below hb6 (Nat.le_refl _)) id
      obtain ⟨ao, c, hv6⟩ := hq6.shape
      subst hv6
      have hBw6 : Below w.heap.size w w6 := hBw.trans (hb6.mono hBw.size)
      have HSZ : Hid (Maps.size D = l.length) := HHX.out.size
      clear hq6 hb6 HOW
      go_wp2
      go_loopw [17] (fun i wq => ∃ t : Nat, t ≤ l.length ∧ i = .int .i64 t ∧ Below w6.heap.size w6 wq) (fun i _ => l.length - (intOf i).toNat)
      case atStart => exact ⟨0, Nat.zero_le _, rfl, Below.refl _ _⟩
      case round =>
        obtain ⟨wo, hwo⟩ : ∃ wo : World, wo = wr := ⟨_, rfl⟩
        obtain ⟨t, ht, rfl, hBt⟩ := hrel
        by_cases htl : t < l.length
        · have hti : (t : Int) < (l.length : Int) := by omega
          obtain ⟨y, hy⟩ : ∃ y, l[t]? = some y := ⟨l[t], List.getElem?_eq_getElem htl⟩
          obtain ⟨b, c', hbv, hbl, hbb, hcs⟩ := HQ6.out.at hy
          have hao : ao = some ⟨b, 0, none⟩ := by cases hbv; rfl
          subst hao
          have HY : Hid (l[t]? = some y) := hy
          have HYM : Hid (y ∈ l ∧ y.seq ≤ 1073741824) := ⟨List.mem_of_getElem? hy, HRI.out.2 y (List.mem_of_getElem? hy)⟩
          obtain ⟨PSQ, hPSQ⟩ : ∃ P : Nat, P = (l.getD (t - 1) XE.first).seq := ⟨_, rfl⟩
          have HPL : Hid (0 < t → PSQ < y.seq) := fun h0 => by
            have hlt2 := nodupX HRI.out.1 (i := t - 1) (by omega)
            obtain ⟨h7, h8⟩ := List.getElem?_eq_some_iff.1 HY.out
            have h9 : l[t - 1 + 1]'(by omega) = y := by rw [← h8]; congr 1; omega
            rw [h9] at hlt2
            rw [hPSQ, List.getD_eq_getElem?_getD, List.getElem?_eq_getElem (by omega)]
            exact hlt2
          have HSV : Hid (∀ V, Below w6.heap.size w6 V → V.ownsMap Tryd.prog 3 repR bm m D ∧ V.cell? ⟨b, t * 5, none⟩ = some (.int .i64 (y.seq : Int)) ∧ V.rangeAt b (t * 5 + 1) [.int .i64 y.r.c, .int .i64 y.r.l, .int .i64 y.r.v, .int .i64 y.r.o] ∧ (0 < t → V.cell? ⟨b, (t - 1) * 5, none⟩ = some (.int .i64 (PSQ : Int)))) := fun V hV => by
            have hQ : QsR V _ _ l := HQ6.out.chg (S := fun _ => False) (Chg.of_below hV (Nat.le_refl _)) (fun _ _ => id)
            have hO : V.ownsMap Tryd.prog 3 repR bm m D := own_chgX (S := fun _ => False) HO6.out (Chg.of_below hV (Nat.le_refl _)) id
            obtain ⟨b2, c2, hb2, _, _, hc2⟩ := hQ.at HY.out
            have hbe : b2 = b := by cases hb2; rfl
            subst hbe
            refine ⟨hO, ?_, ?_, ?_⟩
            · have := hc2 0 _ rfl; rwa [Nat.add_zero] at this
            · intro kk u hu
              rw [Nat.add_assoc]
              refine hc2 (1 + kk) u ?_
              have hkk : kk < 4 := (List.getElem?_eq_some_iff.1 hu).1
              rcases (by omega : kk = 0 ∨ kk = 1 ∨ kk = 2 ∨ kk = 3) with rfl | rfl | rfl | rfl <;> exact hu
            · intro h0
              obtain ⟨y2, hy2⟩ : ∃ y2, l[t - 1]? = some y2 := ⟨l[t - 1], List.getElem?_eq_getElem (by omega)⟩
              obtain ⟨b3, c3, hb3, _, _, hc3⟩ := hQ.at hy2
              have hbe : b3 = b2 := by cases hb3; rfl
              subst hbe
              have h4 := hc3 0 _ rfl
              rw [Nat.add_zero] at h4
              rw [hPSQ, List.getD_eq_getElem?_getD, hy2]
              exact h4
          have ix := fun w => index_qs b l.length c t w htl
          have hS0 := HSV.out wr.drew hBt.drew
          clear hbv hcs hy hbl hbb
          go_wp2_with fail
          by_cases ht0 : 0 < t
          · have hg0 : decide ((0 : Int) < (t : Int)) = true := decide_eq_true (by omega)
            have ix2 := fun w => index_qs b l.length c (t - 1) w (by omega)
            have et : ((t - 1 : Nat) : Int) = (t : Int) - 1 := by omega
            rw [et] at ix2
            have hle : decide (((y.seq : Nat) : Int) ≤ ((PSQ : Nat) : Int)) = false := decide_eq_false (by have := HPL.out ht0; omega)
            refine held_begin (fun V => V.ownsMap Tryd.prog 3 repR bm m D ∧ V.cell? ⟨b, t * 5, none⟩ = some (.int .i64 (y.seq : Int)) ∧ V.rangeAt b (t * 5 + 1) [.int .i64 y.r.c, .int .i64 y.r.l, .int .i64 y.r.v, .int .i64 y.r.o] ∧ (0 < t → V.cell? ⟨b, (t - 1) * 5, none⟩ = some (.int .i64 (PSQ : Int)))) (by kernel_rfl) ?_
            refine held_take 0 108 _ (.map (some bm)) rfl rfl (by kernel_rfl) (by kernel_rfl) (by kernel_rfl) rfl hS0 (fun _ _ => rfl) ?_
            simp only [Act.put, List.setIfInBounds_toArray, List.set_cons_succ, List.set_cons_zero]
            refine held_take 1 109 _ (.slice (some ⟨b, 0, none⟩) l.length c) rfl rfl (by kernel_rfl) (by kernel_rfl) (by kernel_rfl) rfl hS0 (fun _ _ => rfl) ?_
            simp only [Act.put, List.setIfInBounds_toArray, List.set_cons_succ, List.set_cons_zero]
            refine held_take 2 110 _ (.int .i64 (t : Int)) rfl rfl (by kernel_rfl) (by kernel_rfl) (by kernel_rfl) rfl hS0 (fun _ _ => rfl) ?_
            simp only [Act.put, List.setIfInBounds_toArray, List.set_cons_succ, List.set_cons_zero]
            refine held_take 3 111 _ (.pointer (some ⟨b, t * 5, none⟩)) rfl rfl (by kernel_rfl) (by kernel_rfl) (by kernel_rfl) rfl hS0 (fun V _ => exec_indexat 34 _ _ rfl (.slice (some ⟨b, 0, none⟩) l.length c) (.int .i64 (t : Int)) _ rfl rfl (ix V)) ?_
            simp only [Act.put, List.setIfInBounds_toArray, List.set_cons_succ, List.set_cons_zero]
            refine held_take 4 112 _ (.pointer (some ⟨b, t * 5, none⟩)) rfl rfl (by kernel_rfl) (by kernel_rfl) (by kernel_rfl) rfl hS0 (fun _ _ => rfl) ?_
            simp only [Act.put, List.setIfInBounds_toArray, List.set_cons_succ, List.set_cons_zero]
            refine held_take 5 113 _ (.int .i64 (y.seq : Int)) rfl rfl (by kernel_rfl) (by kernel_rfl) (by kernel_rfl) rfl hS0 (fun V hV => exec_loadc 3 _ rfl _ _ rfl (load_one 3 (fun _ => by kernel_rfl) V _ _ _ hV.2.1)) ?_
            simp only [Act.put, List.setIfInBounds_toArray, List.set_cons_succ, List.set_cons_zero]
            refine held_take 6 114 _ (.agg #[.int .i64 y.r.c, .int .i64 y.r.l, .int .i64 y.r.v, .int .i64 y.r.o]) rfl rfl (by kernel_rfl) (by kernel_rfl) (by kernel_rfl) rfl hS0 (fun V hV => exec_lookX _ _ rfl (.map (some bm)) (.int .i64 (y.seq : Int)) _ rfl rfl (lookX hV.1 HHX.out y HYM.out.1 HYM.out.2)) ?_
            simp only [Act.put, List.setIfInBounds_toArray, List.set_cons_succ, List.set_cons_zero]
            refine held_take 7 115 _ (.slice (some ⟨b, 0, none⟩) l.length c) rfl rfl (by kernel_rfl) (by kernel_rfl) (by kernel_rfl) rfl hS0 (fun _ _ => rfl) ?_
            simp only [Act.put, List.setIfInBounds_toArray, List.set_cons_succ, List.set_cons_zero]
            refine held_take 8 116 _ (.int .i64 (t : Int)) rfl rfl (by kernel_rfl) (by kernel_rfl) (by kernel_rfl) rfl hS0 (fun _ _ => rfl) ?_
            simp only [Act.put, List.setIfInBounds_toArray, List.set_cons_succ, List.set_cons_zero]
            refine held_take 9 117 _ (.pointer (some ⟨b, t * 5, none⟩)) rfl rfl (by kernel_rfl) (by kernel_rfl) (by kernel_rfl) rfl hS0 (fun V _ => exec_indexat 34 _ _ rfl (.slice (some ⟨b, 0, none⟩) l.length c) (.int .i64 (t : Int)) _ rfl rfl (ix V)) ?_
            simp only [Act.put, List.setIfInBounds_toArray, List.set_cons_succ, List.set_cons_zero]
            refine held_take 10 118 _ (.pointer (some ⟨b, t * 5 + 1, none⟩)) rfl rfl (by kernel_rfl) (by kernel_rfl) (by kernel_rfl) rfl hS0 (fun _ _ => rfl) ?_
            simp only [Act.put, List.setIfInBounds_toArray, List.set_cons_succ, List.set_cons_zero]
            refine held_take 11 119 _ (.agg #[.int .i64 y.r.c, .int .i64 y.r.l, .int .i64 y.r.v, .int .i64 y.r.o]) rfl rfl (by kernel_rfl) (by kernel_rfl) (by kernel_rfl) rfl hS0 (fun V hV => exec_loads 23 _ rfl b (t * 5 + 1) rfl [.int .i64 y.r.c, .int .i64 y.r.l, .int .i64 y.r.v, .int .i64 y.r.o] _ hV.2.2.1 Tryd.underlying23 rfl info_rep12) ?_
            simp only [Act.put, List.setIfInBounds_toArray, List.set_cons_succ, List.set_cons_zero]
            refine held_take 12 120 _ (.bool false) rfl rfl (by kernel_rfl) (by kernel_rfl) (by kernel_rfl) rfl hS0 (fun V _ => exec_cmp .neq 23 23 _ _ rfl (.inl rfl) (.agg #[.int .i64 y.r.c, .int .i64 y.r.l, .int .i64 y.r.v, .int .i64 y.r.o]) (.agg #[.int .i64 y.r.c, .int .i64 y.r.l, .int .i64 y.r.v, .int .i64 y.r.o]) _ rfl rfl (by kernel_rfl) (ne_rep y.r V)) ?_
            simp only [Act.put, List.setIfInBounds_toArray, List.set_cons_succ, List.set_cons_zero]
            refine held_take 13 121 _ (.bool false) rfl rfl (by kernel_rfl) (by kernel_rfl) (by kernel_rfl) rfl hS0 (fun _ _ => rfl) ?_
            simp only [Act.put, List.setIfInBounds_toArray, List.set_cons_succ, List.set_cons_zero]
            refine held_take 14 122 _ (.int .i64 (t : Int)) rfl rfl (by kernel_rfl) (by kernel_rfl) (by kernel_rfl) rfl hS0 (fun _ _ => rfl) ?_
            simp only [Act.put, List.setIfInBounds_toArray, List.set_cons_succ, List.set_cons_zero]
            refine held_take 15 123 _ (.bool true) rfl rfl (by kernel_rfl) (by kernel_rfl) (by kernel_rfl) rfl hS0 (fun V _ => exec_gtr7 3 _ _ rfl (t : Int) 0 _ rfl rfl hg0) ?_
            simp only [Act.put, List.setIfInBounds_toArray, List.set_cons_succ, List.set_cons_zero]
            refine held_take 16 124 _ (.bool true) rfl rfl (by kernel_rfl) (by kernel_rfl) (by kernel_rfl) rfl hS0 (fun _ _ => rfl) ?_
            simp only [Act.put, List.setIfInBounds_toArray, List.set_cons_succ, List.set_cons_zero]
            refine held_take 17 125 _ (.slice (some ⟨b, 0, none⟩) l.length c) rfl rfl (by kernel_rfl) (by kernel_rfl) (by kernel_rfl) rfl hS0 (fun _ _ => rfl) ?_
            simp only [Act.put, List.setIfInBounds_toArray, List.set_cons_succ, List.set_cons_zero]
            refine held_take 18 126 _ (.int .i64 (t : Int)) rfl rfl (by kernel_rfl) (by kernel_rfl) (by kernel_rfl) rfl hS0 (fun _ _ => rfl) ?_
            simp only [Act.put, List.setIfInBounds_toArray, List.set_cons_succ, List.set_cons_zero]
            refine held_take 19 127 _ (.pointer (some ⟨b, t * 5, none⟩)) rfl rfl (by kernel_rfl) (by kernel_rfl) (by kernel_rfl) rfl hS0 (fun V _ => exec_indexat 34 _ _ rfl (.slice (some ⟨b, 0, none⟩) l.length c) (.int .i64 (t : Int)) _ rfl rfl (ix V)) ?_
            simp only [Act.put, List.setIfInBounds_toArray, List.set_cons_succ, List.set_cons_zero]
            refine held_take 20 128 _ (.pointer (some ⟨b, t * 5, none⟩)) rfl rfl (by kernel_rfl) (by kernel_rfl) (by kernel_rfl) rfl hS0 (fun _ _ => rfl) ?_
            simp only [Act.put, List.setIfInBounds_toArray, List.set_cons_succ, List.set_cons_zero]
            refine held_take 21 129 _ (.int .i64 (y.seq : Int)) rfl rfl (by kernel_rfl) (by kernel_rfl) (by kernel_rfl) rfl hS0 (fun V hV => exec_loadc 3 _ rfl _ _ rfl (load_one 3 (fun _ => by kernel_rfl) V _ _ _ hV.2.1)) ?_
            simp only [Act.put, List.setIfInBounds_toArray, List.set_cons_succ, List.set_cons_zero]
            refine held_take 22 130 _ (.slice (some ⟨b, 0, none⟩) l.length c) rfl rfl (by kernel_rfl) (by kernel_rfl) (by kernel_rfl) rfl hS0 (fun _ _ => rfl) ?_
            simp only [Act.put, List.setIfInBounds_toArray, List.set_cons_succ, List.set_cons_zero]
            refine held_take 23 131 _ (.int .i64 (t : Int)) rfl rfl (by kernel_rfl) (by kernel_rfl) (by kernel_rfl) rfl hS0 (fun _ _ => rfl) ?_
            simp only [Act.put, List.setIfInBounds_toArray, List.set_cons_succ, List.set_cons_zero]
            refine held_take 24 132 _ (.int .i64 ((t : Int) - 1)) rfl rfl (by kernel_rfl) (by kernel_rfl) (by kernel_rfl) rfl hS0 (fun V _ => exec_subi 3 _ _ rfl (t : Int) 1 rfl rfl (by omega) (by omega)) ?_
            simp only [Act.put, List.setIfInBounds_toArray, List.set_cons_succ, List.set_cons_zero]
            refine held_take 25 133 _ (.pointer (some ⟨b, (t - 1) * 5, none⟩)) rfl rfl (by kernel_rfl) (by kernel_rfl) (by kernel_rfl) rfl hS0 (fun V _ => exec_indexat 34 _ _ rfl (.slice (some ⟨b, 0, none⟩) l.length c) (.int .i64 ((t : Int) - 1)) _ rfl rfl (ix2 V)) ?_
            simp only [Act.put, List.setIfInBounds_toArray, List.set_cons_succ, List.set_cons_zero]
            refine held_take 26 134 _ (.pointer (some ⟨b, (t - 1) * 5, none⟩)) rfl rfl (by kernel_rfl) (by kernel_rfl) (by kernel_rfl) rfl hS0 (fun _ _ => rfl) ?_
            simp only [Act.put, List.setIfInBounds_toArray, List.set_cons_succ, List.set_cons_zero]
            refine held_take 27 135 _ (.int .i64 (PSQ : Int)) rfl rfl (by kernel_rfl) (by kernel_rfl) (by kernel_rfl) rfl hS0 (fun V hV => exec_loadc 3 _ rfl _ _ rfl (load_one 3 (fun _ => by kernel_rfl) V _ _ _ (hV.2.2.2 ht0))) ?_
            simp only [Act.put, List.setIfInBounds_toArray, List.set_cons_succ, List.set_cons_zero]
            refine held_take 28 136 _ (.bool false) rfl rfl (by kernel_rfl) (by kernel_rfl) (by kernel_rfl) rfl hS0 (fun V _ => exec_leq7 3 _ _ rfl (y.seq : Int) (PSQ : Int) _ rfl rfl hle) ?_
            simp only [Act.put, List.setIfInBounds_toArray, List.set_cons_succ, List.set_cons_zero]
            refine held_take 29 137 _ (.bool false) rfl rfl (by kernel_rfl) (by kernel_rfl) (by kernel_rfl) rfl hS0 (fun _ _ => rfl) ?_
            simp only [Act.put, List.setIfInBounds_toArray, List.set_cons_succ, List.set_cons_zero]
            refine held_take 30 138 _ (.bool false) rfl rfl (by kernel_rfl) (by kernel_rfl) (by kernel_rfl) rfl hS0 (fun _ _ => rfl) ?_
            simp only [Act.put, List.setIfInBounds_toArray, List.set_cons_succ, List.set_cons_zero]
            refine wpAnyH_done (by kernel_rfl) ?_ _
            refine NoPanic.normal ?_
            have hBd : Below w6.heap.size w6 wr.drew := hBt.drew
            clear hS0 hwo
            go_wp2
            go_roundw
            case rel => exact ⟨t + 1, htl, by go_num, hBd⟩
            case measure => simp [intOf]; omega
          · have hg0 : decide ((0 : Int) < (t : Int)) = false := decide_eq_false (by omega)
            refine held_begin (fun V => V.ownsMap Tryd.prog 3 repR bm m D ∧ V.cell? ⟨b, t * 5, none⟩ = some (.int .i64 (y.seq : Int)) ∧ V.rangeAt b (t * 5 + 1) [.int .i64 y.r.c, .int .i64 y.r.l, .int .i64 y.r.v, .int .i64 y.r.o] ∧ (0 < t → V.cell? ⟨b, (t - 1) * 5, none⟩ = some (.int .i64 (PSQ : Int)))) (by kernel_rfl) ?_
            refine held_take 0 108 _ (.map (some bm)) rfl rfl (by kernel_rfl) (by kernel_rfl) (by kernel_rfl) rfl hS0 (fun _ _ => rfl) ?_
            simp only [Act.put, List.setIfInBounds_toArray, List.set_cons_succ, List.set_cons_zero]
            refine held_take 1 109 _ (.slice (some ⟨b, 0, none⟩) l.length c) rfl rfl (by kernel_rfl) (by kernel_rfl) (by kernel_rfl) rfl hS0 (fun _ _ => rfl) ?_
            simp only [Act.put, List.setIfInBounds_toArray, List.set_cons_succ, List.set_cons_zero]
            refine held_take 2 110 _ (.int .i64 (t : Int)) rfl rfl (by kernel_rfl) (by kernel_rfl) (by kernel_rfl) rfl hS0 (fun _ _ => rfl) ?_
            simp only [Act.put, List.setIfInBounds_toArray, List.set_cons_succ, List.set_cons_zero]
            refine held_take 3 111 _ (.pointer (some ⟨b, t * 5, none⟩)) rfl rfl (by kernel_rfl) (by kernel_rfl) (by kernel_rfl) rfl hS0 (fun V _ => exec_indexat 34 _ _ rfl (.slice (some ⟨b, 0, none⟩) l.length c) (.int .i64 (t : Int)) _ rfl rfl (ix V)) ?_
            simp only [Act.put, List.setIfInBounds_toArray, List.set_cons_succ, List.set_cons_zero]
            refine held_take 4 112 _ (.pointer (some ⟨b, t * 5, none⟩)) rfl rfl (by kernel_rfl) (by kernel_rfl) (by kernel_rfl) rfl hS0 (fun _ _ => rfl) ?_
            simp only [Act.put, List.setIfInBounds_toArray, List.set_cons_succ, List.set_cons_zero]
            refine held_take 5 113 _ (.int .i64 (y.seq : Int)) rfl rfl (by kernel_rfl) (by kernel_rfl) (by kernel_rfl) rfl hS0 (fun V hV => exec_loadc 3 _ rfl _ _ rfl (load_one 3 (fun _ => by kernel_rfl) V _ _ _ hV.2.1)) ?_
            simp only [Act.put, List.setIfInBounds_toArray, List.set_cons_succ, List.set_cons_zero]
            refine held_take 6 114 _ (.agg #[.int .i64 y.r.c, .int .i64 y.r.l, .int .i64 y.r.v, .int .i64 y.r.o]) rfl rfl (by kernel_rfl) (by kernel_rfl) (by kernel_rfl) rfl hS0 (fun V hV => exec_lookX _ _ rfl (.map (some bm)) (.int .i64 (y.seq : Int)) _ rfl rfl (lookX hV.1 HHX.out y HYM.out.1 HYM.out.2)) ?_
            simp only [Act.put, List.setIfInBounds_toArray, List.set_cons_succ, List.set_cons_zero]
            refine held_take 7 115 _ (.slice (some ⟨b, 0, none⟩) l.length c) rfl rfl (by kernel_rfl) (by kernel_rfl) (by kernel_rfl) rfl hS0 (fun _ _ => rfl) ?_
            simp only [Act.put, List.setIfInBounds_toArray, List.set_cons_succ, List.set_cons_zero]
            refine held_take 8 116 _ (.int .i64 (t : Int)) rfl rfl (by kernel_rfl) (by kernel_rfl) (by kernel_rfl) rfl hS0 (fun _ _ => rfl) ?_
            simp only [Act.put, List.setIfInBounds_toArray, List.set_cons_succ, List.set_cons_zero]
            refine held_take 9 117 _ (.pointer (some ⟨b, t * 5, none⟩)) rfl rfl (by kernel_rfl) (by kernel_rfl) (by kernel_rfl) rfl hS0 (fun V _ => exec_indexat 34 _ _ rfl (.slice (some ⟨b, 0, none⟩) l.length c) (.int .i64 (t : Int)) _ rfl rfl (ix V)) ?_
            simp only [Act.put, List.setIfInBounds_toArray, List.set_cons_succ, List.set_cons_zero]
            refine held_take 10 118 _ (.pointer (some ⟨b, t * 5 + 1, none⟩)) rfl rfl (by kernel_rfl) (by kernel_rfl) (by kernel_rfl) rfl hS0 (fun _ _ => rfl) ?_
            simp only [Act.put, List.setIfInBounds_toArray, List.set_cons_succ, List.set_cons_zero]
            refine held_take 11 119 _ (.agg #[.int .i64 y.r.c, .int .i64 y.r.l, .int .i64 y.r.v, .int .i64 y.r.o]) rfl rfl (by kernel_rfl) (by kernel_rfl) (by kernel_rfl) rfl hS0 (fun V hV => exec_loads 23 _ rfl b (t * 5 + 1) rfl [.int .i64 y.r.c, .int .i64 y.r.l, .int .i64 y.r.v, .int .i64 y.r.o] _ hV.2.2.1 Tryd.underlying23 rfl info_rep12) ?_
            simp only [Act.put, List.setIfInBounds_toArray, List.set_cons_succ, List.set_cons_zero]
            refine held_take 12 120 _ (.bool false) rfl rfl (by kernel_rfl) (by kernel_rfl) (by kernel_rfl) rfl hS0 (fun V _ => exec_cmp .neq 23 23 _ _ rfl (.inl rfl) (.agg #[.int .i64 y.r.c, .int .i64 y.r.l, .int .i64 y.r.v, .int .i64 y.r.o]) (.agg #[.int .i64 y.r.c, .int .i64 y.r.l, .int .i64 y.r.v, .int .i64 y.r.o]) _ rfl rfl (by kernel_rfl) (ne_rep y.r V)) ?_
            simp only [Act.put, List.setIfInBounds_toArray, List.set_cons_succ, List.set_cons_zero]
            refine held_take 13 121 _ (.bool false) rfl rfl (by kernel_rfl) (by kernel_rfl) (by kernel_rfl) rfl hS0 (fun _ _ => rfl) ?_
            simp only [Act.put, List.setIfInBounds_toArray, List.set_cons_succ, List.set_cons_zero]
            refine held_take 14 122 _ (.int .i64 (t : Int)) rfl rfl (by kernel_rfl) (by kernel_rfl) (by kernel_rfl) rfl hS0 (fun _ _ => rfl) ?_
            simp only [Act.put, List.setIfInBounds_toArray, List.set_cons_succ, List.set_cons_zero]
            refine held_take 15 123 _ (.bool false) rfl rfl (by kernel_rfl) (by kernel_rfl) (by kernel_rfl) rfl hS0 (fun V _ => exec_gtr7 3 _ _ rfl (t : Int) 0 _ rfl rfl hg0) ?_
            simp only [Act.put, List.setIfInBounds_toArray, List.set_cons_succ, List.set_cons_zero]
            refine held_take 16 124 _ (.bool false) rfl rfl (by kernel_rfl) (by kernel_rfl) (by kernel_rfl) rfl hS0 (fun _ _ => rfl) ?_
            simp only [Act.put, List.setIfInBounds_toArray, List.set_cons_succ, List.set_cons_zero]
            refine held_pass 17 125 _ rfl rfl (by kernel_rfl) (by kernel_rfl) (by kernel_rfl) rfl hS0 ?_
            simp only [Act.put, List.setIfInBounds_toArray, List.set_cons_succ, List.set_cons_zero]
            refine held_pass 18 126 _ rfl rfl (by kernel_rfl) (by kernel_rfl) (by kernel_rfl) rfl hS0 ?_
            simp only [Act.put, List.setIfInBounds_toArray, List.set_cons_succ, List.set_cons_zero]
            refine held_pass 19 127 _ rfl rfl (by kernel_rfl) (by kernel_rfl) (by kernel_rfl) rfl hS0 ?_
            simp only [Act.put, List.setIfInBounds_toArray, List.set_cons_succ, List.set_cons_zero]
            refine held_pass 20 128 _ rfl rfl (by kernel_rfl) (by kernel_rfl) (by kernel_rfl) rfl hS0 ?_
            simp only [Act.put, List.setIfInBounds_toArray, List.set_cons_succ, List.set_cons_zero]
            refine held_pass 21 129 _ rfl rfl (by kernel_rfl) (by kernel_rfl) (by kernel_rfl) rfl hS0 ?_
            simp only [Act.put, List.setIfInBounds_toArray, List.set_cons_succ, List.set_cons_zero]
            refine held_pass 22 130 _ rfl rfl (by kernel_rfl) (by kernel_rfl) (by kernel_rfl) rfl hS0 ?_
            simp only [Act.put, List.setIfInBounds_toArray, List.set_cons_succ, List.set_cons_zero]
            refine held_pass 23 131 _ rfl rfl (by kernel_rfl) (by kernel_rfl) (by kernel_rfl) rfl hS0 ?_
            simp only [Act.put, List.setIfInBounds_toArray, List.set_cons_succ, List.set_cons_zero]
            refine held_pass 24 132 _ rfl rfl (by kernel_rfl) (by kernel_rfl) (by kernel_rfl) rfl hS0 ?_
            simp only [Act.put, List.setIfInBounds_toArray, List.set_cons_succ, List.set_cons_zero]
            refine held_pass 25 133 _ rfl rfl (by kernel_rfl) (by kernel_rfl) (by kernel_rfl) rfl hS0 ?_
            simp only [Act.put, List.setIfInBounds_toArray, List.set_cons_succ, List.set_cons_zero]
            refine held_pass 26 134 _ rfl rfl (by kernel_rfl) (by kernel_rfl) (by kernel_rfl) rfl hS0 ?_
            simp only [Act.put, List.setIfInBounds_toArray, List.set_cons_succ, List.set_cons_zero]
            refine held_pass 27 135 _ rfl rfl (by kernel_rfl) (by kernel_rfl) (by kernel_rfl) rfl hS0 ?_
            simp only [Act.put, List.setIfInBounds_toArray, List.set_cons_succ, List.set_cons_zero]
            refine held_pass 28 136 _ rfl rfl (by kernel_rfl) (by kernel_rfl) (by kernel_rfl) rfl hS0 ?_
            simp only [Act.put, List.setIfInBounds_toArray, List.set_cons_succ, List.set_cons_zero]
            refine held_take 29 137 _ (.bool false) rfl rfl (by kernel_rfl) (by kernel_rfl) (by kernel_rfl) rfl hS0 (fun _ _ => rfl) ?_
            simp only [Act.put, List.setIfInBounds_toArray, List.set_cons_succ, List.set_cons_zero]
            refine held_take 30 138 _ (.bool false) rfl rfl (by kernel_rfl) (by kernel_rfl) (by kernel_rfl) rfl hS0 (fun _ _ => rfl) ?_
            simp only [Act.put, List.setIfInBounds_toArray, List.set_cons_succ, List.set_cons_zero]
            refine wpAnyH_done (by kernel_rfl) ?_ _
            refine NoPanic.normal ?_
            have hBd : Below w6.heap.size w6 wr.drew := hBt.drew
            clear hS0 hwo
            go_wp2
            go_roundw
            case rel => exact ⟨t + 1, htl, by go_num, hBd⟩
            case measure => simp [intOf]; omega
        · obtain rfl : t = l.length := by omega
          have hnt : ¬ ((l.length : Nat) : Int) < (l.length : Int) := by omega
          have hO : wr.ownsMap Tryd.prog 3 repR bm m D := own_chgX (S := fun _ => False) HO6.out (Chg.of_below hBt (Nat.le_refl _)) id
          have hse : (((l.length : Nat) : Int) == ((Maps.size D : Nat) : Int)) = true := by rw [HSZ.out]; simp
          have HO : Hid (wr.ownsMap Tryd.prog 3 repR bm m D) := hO
          clear hO hwo
          go_wp2_with (at_len; refine wpList_len_own _ rfl _ 52 rfl 3 23 Tryd.underlying52 repR bm m D rfl HO.out ?_)
          go_ret
          exact ⟨rfl, hBw6.trans (hBt.mono hBw6.size)⟩
    have hi : (k : Int) < (rs.length : Int) := by omega
    have hi6 : (k : Int) < 60 := by omega
    obtain ⟨r, hr⟩ : ∃ r, rs[k]? = some r := ⟨rs[k], List.getElem?_eq_getElem hlt⟩
    obtain ⟨gl, off, hla, hgl, hcs⟩ := HLR.out k r hr
    subst hla
    have HCS : Hid (∀ V, Below w.heap.size w V → ∀ (j : Nat) x, (rpL r)[j]? = some x → V.cell? ⟨gl, off + k * 4 + j, none⟩ = some x) := fun V hV j x hx => (hV.cell (p := ⟨gl, off + k * 4 + j, none⟩) hgl).trans (hcs j x hx)
    clear hr hcs
    have ix := fun w => index_reps gl off rs.length lc k w hlt
    have c0 := HCS.out wr hBw 0 _ rfl
    have c1 := HCS.out wr hBw 1 _ rfl
    have c2 := HCS.out wr hBw 2 _ rfl
    have c3 := HCS.out wr hBw 3 _ rfl
    rw [Nat.add_zero] at c0
    have HP : Hid (Calls Tryd.prog 13 #[.pointer (some ⟨g, 0, none⟩), .agg #[.int .i64 r.c, .int .i64 r.l, .int .i64 r.v, .int .i64 r.o]] wr fun e' W' => Below w1.heap.size w1 W' ∧ Chg (bT L g wv) wr W' ∧ ∃ wv' s', s'.most = 10000 ∧ ¬ bT L g wv' bm ∧ ((r.ok ∧ e' = .returned (.tuple #[.int .i64 ((x.last.seq + 1 : Nat) : Int), .int .i64 0]) ∧ BC w1 W' L g 0 3 (e + 1) wv' ⟨x.wt ++ [nextX x r], nextX x r, false⟩ s') ∨ (¬ r.ok ∧ e' = .returned (.tuple #[.int .i64 0, .int .i64 1]) ∧ BC w1 W' L g 0 3 e wv' x s'))) := HPUT.out wr k e wv x s r HBC.out hB HFA.out.2.2.1 hl60 HFA.out.1 HFA.out.2.1 HFA.out.2.2.2.1 HNB.out HOW.out.lt
    go_wp2_with fail
    refine HP.out.mono ?_
    rintro e' w6 ⟨hB6, hc6, wv6, s6, hm6, hnb6, hcase⟩
    clear HP c0 c1 c2 c3
    have hBw6 : Below w.heap.size w w6 := hB1.trans (hB6.mono hs1)
    have own6 := own_chgX HOW.out hc6 HNB.out
    have c0 := HCS.out w6 hBw6 0 _ rfl
    have c1 := HCS.out w6 hBw6 1 _ rfl
    have c2 := HCS.out w6 hBw6 2 _ rfl
    have c3 := HCS.out w6 hBw6 3 _ rfl
    rw [Nat.add_zero] at c0
    have HOW6 : Hid (w6.ownsMap Tryd.prog 3 repR bm m D) := own6
    have HN6 : Hid (¬ bT L g wv6 bm ∧ s6.most = 10000) := ⟨hnb6, hm6⟩
    have HRISE : Hid (∀ y ∈ x.wt, y.seq < x.last.seq + 1) := fun y hy => Nat.lt_succ_of_le (HBC.out.cb.wts y hy).2.1
    clear own6 hnb6 hm6 HBC HOW HNB
    rcases hcase with ⟨hok, rfl, hC6⟩ | ⟨hno, rfl, hC6⟩
    · have HC6 : Hid (BC w1 w6 L g 0 3 (e + 1) wv6 ⟨x.wt ++ [nextX x r], nextX x r, false⟩ s6) := hC6
      have HSN : Hid ((nextX x r).seq = x.last.seq + 1) := rfl
      have hkey := key_intX ((x.last.seq + 1 : Nat) : Int) (by omega) (by have := HFA.out.2.2.1; omega)
      have HH7 : Hid (HoldsX (D.put (.int .i64 ((x.last.seq + 1 : Nat) : Int)) (repD r)) (x.wt ++ [nextX x r])) := HHX.out.put (HOW6.out.tidy keyX) (nextX x r) (keyX.key hkey) HRISE.out
      have HK : Hid (keyOf Tryd.prog 3 (.int .i64 ((x.last.seq + 1 : Nat) : Int)) = some (.int .i64 ((x.last.seq + 1 : Nat) : Int))) := hkey
      have HML : Hid (m < maxLen) := by have := HFA.out.2.2.2.2; show m < maxLen; unfold maxLen; omega
      have HX7 : Hid ((⟨x.wt ++ [nextX x r], nextX x r, false⟩ : XS).last.seq ≤ k + 1 ∧ (⟨x.wt ++ [nextX x r], nextX x r, false⟩ : XS).wt.length ≤ k + 1 ∧ e + 1 ≤ k + 1 ∧ m + 1 ≤ k + 1) := by
        obtain ⟨a1, _, a3, a4, a5⟩ := HFA.out
        exact ⟨by show x.last.seq + 1 ≤ k + 1; omega, by show (x.wt ++ [nextX x r]).length ≤ k + 1; rw [List.length_append]; show _ + 1 ≤ k + 1; omega, by omega, by omega⟩
      have HXW : Hid ((⟨x.wt ++ [nextX x r], nextX x r, false⟩ : XS).wt = x.wt ++ [nextX x r]) := rfl
      rw [← HXW.out] at HH7
      generalize (⟨x.wt ++ [nextX x r], nextX x r, false⟩ : XS) = x7 at *
      generalize ((x.last.seq + 1 : Nat) : Int) = SI at *
      clear hok hC6 hkey HRISE HHX HXW HSN HFA
      by_cases hz : k < zs.length
      · have hzi : (k : Int) < (zs.length : Int) := by omega
        obtain ⟨zb, zoff, hza, hzb, hzc⟩ := HZR.out (by omega)
        subst hza
        obtain ⟨hz0, hq1, hq2⟩ := hzc k hz
        obtain ⟨q, hqe⟩ : ∃ q, q = zs[k] := ⟨_, rfl⟩
        rw [← hqe] at hz0 hq1 hq2
        have hq12 : -9223372036854775808 ≤ q ∧ q ≤ 9223372036854775807 := ⟨hq1, hq2⟩
        have HCZ : Hid (∀ V, Below w.heap.size w V → V.cell? ⟨zb, zoff + k, none⟩ = some (.int .i64 q)) := fun V hV => (hV.cell (p := ⟨zb, zoff + k, none⟩) hzb).trans hz0
        have iz := fun w => index_intsX zb zoff zs.length zc k w hz
        clear hzc hz0 hqe hq1 hq2
        go_wp2_with (at_mapUpdate; refine wpList_mapUpdate_own _ rfl _ _ _ 52 rfl 3 23 keyX Tryd.underlying52 repR bm m D rfl HOW6.out HML.out _ _ _ rfl rfl HK.out (repD r) [] (repR_mk r) ?_; intro w7 hown7 hg7; have hc7 : Chg (fun q => q = bm) w6 w7 := Chg.of_grown hg7 (fun q e => (Option.some.inj e).symm); have hBw7 : Below w.heap.size w w7 := hBw6.trans (hc7.below (fun q hq => (by have h9 : q = bm := hq; omega)) hBw6.size); have cz := HCZ.out w7 hBw7; have hzl : zb < w7.heap.size := Nat.lt_of_lt_of_le hzb hBw7.size; have hzn : zb ≠ w7.heap.size := Nat.ne_of_lt hzl; obtain ⟨rq, hlk⟩ := look_okX hown7 HH7.out q hq12.1 hq12.2)
        have HO7 : Hid (w7.ownsMap Tryd.prog 3 repR bm (m + 1) (D.put (.int .i64 SI) (repD r))) := hown7
        have HC7 : Hid (BC w1 w7 L g 0 3 (e + 1) wv6 x7 s6) := HC6.out.chg hc7 (fun p hp e => HN6.out.1 (by rw [← hp]; exact e))
        have hB7 : Below w1.heap.size w1 w7 := hB6.trans (hc7.below (fun p hp => (by have h9 : p = bm := hp; omega)) hB6.size)
        clear hown7 hg7 HOW6 HC6 HK HML hc7
        generalize D.put (.int .i64 SI) (repD r) = D7 at *
        obtain ⟨e7, he7⟩ : ∃ e7, e7 = e + 1 := ⟨_, rfl⟩
        obtain ⟨m7, hm7⟩ : ∃ m7, m7 = m + 1 := ⟨_, rfl⟩
        rw [← he7] at HC7 HX7
        rw [← hm7] at HO7 HX7
        clear he7 hm7
        have hA7 := (Below.refl w7.heap.size w7).alloc (Nat.le_refl _) (.cells #[.int .i64 rq.c, .int .i64 rq.l, .int .i64 rq.v, .int .i64 rq.o] 23)
        have HO8 : Hid ((w7.alloc (.cells #[.int .i64 rq.c, .int .i64 rq.l, .int .i64 rq.v, .int .i64 rq.o] 23)).ownsMap Tryd.prog 3 repR bm m7 D7) := HO7.out.alloc _
        have HC8 : Hid (BC w1 (w7.alloc (.cells #[.int .i64 rq.c, .int .i64 rq.l, .int .i64 rq.v, .int .i64 rq.o] 23)) L g 0 3 e7 wv6 x7 s6) := HC7.out.after hA7
        have hB8 : Below w1.heap.size w1 (w7.alloc (.cells #[.int .i64 rq.c, .int .i64 rq.l, .int .i64 rq.v, .int .i64 rq.o] 23)) := hB7.trans (hA7.mono hB7.size)
        generalize hw8 : w7.alloc (.cells #[.int .i64 rq.c, .int .i64 rq.l, .int .i64 rq.v, .int .i64 rq.o] 23) = w8 at *
        obtain ⟨B13, hB13⟩ : ∃ B, B = w7.heap.size := ⟨_, rfl⟩
        (try rw [← hB13])
        clear hw8 hA7 HO7 HC7 hB7 hB13 hlk cz hzl hzn c0 c1 c2 c3
        have HAK : Hid (Calls Tryd.prog 15 #[.pointer (some ⟨g, 0, none⟩), .int .i64 q] w8 fun e' W' => Below w1.heap.size w1 W' ∧ Chg (bT L g wv6) w8 W' ∧ ∃ z wv' x' s', e' = .returned (.int .i64 z) ∧ (z == 0) = hasX x7.wt q ∧ s'.most = 10000 ∧ ¬ bT L g wv' bm ∧ BC w1 W' L g 0 3 e7 wv' x' s' ∧ x'.last = x7.last ∧ x'.wt.length ≤ x7.wt.length ∧ (∀ D, Tidy D → HoldsX D x7.wt → HoldsX (D.del (.int .i64 q)) x'.wt)) := HACK.out w8 e7 wv6 x7 s6 q HC8.out hB8 HN6.out.2 HN6.out.1
        refine HAK.out.mono ?_
        rintro e'' w9 ⟨hB9, hc9, z9, wv9, x9, s9, rfl, hz9, hm9, hnb9, hC9, hl9, hlen9, hdel9⟩
        clear HAK
        have hBw9 : Below w.heap.size w w9 := hB1.trans (hB9.mono hs1)
        have HO9 : Hid (w9.ownsMap Tryd.prog 3 repR bm m7 D7) := own_chgX HO8.out hc9 HN6.out.1
        have HH9 : Hid (HoldsX (D7.del (.int .i64 q)) x9.wt) := hdel9 D7 (HO8.out.tidy keyX) HH7.out
        have HC9 : Hid (BC w1 w9 L g 0 3 e7 wv9 x9 s9) := hC9
        have HF9 : Hid (s9.most = 10000 ∧ ¬ bT L g wv9 bm ∧ x9.last.seq ≤ k + 1 ∧ x9.wt.length ≤ k + 1 ∧ e7 ≤ k + 1 ∧ m7 ≤ k + 1) := ⟨hm9, hnb9, by rw [hl9]; exact HX7.out.1, Nat.le_trans hlen9 HX7.out.2.1, HX7.out.2.2.1, HX7.out.2.2.2⟩
        have cz := HCZ.out w9 hBw9
        have hkq := key_intX q hq12.1 hq12.2
        have HKQ : Hid (keyOf Tryd.prog 3 (.int .i64 q) = some (.int .i64 q)) := hkq
        clear hkq hm9 hnb9 hC9 hl9 hlen9 hdel9 hc9 HO8 HC8 HH7 HX7 hB8
        generalize hasX x7.wt q = HB at *
        cases HB with
        | true =>
          go_wp2_with (at_delete; refine wpList_delete_own _ rfl _ _ 52 3 rfl 23 keyX Tryd.underlying52 repR bm m7 D7 rfl HO9.out _ _ rfl HKQ.out ?_; intro w10 hown10 hturn10)
          have hc10 : Chg (fun p => p = bm) w9 w10 := Chg.of_grown hturn10.grown (fun p e => (Option.some.inj e).symm)
          go_roundw
          case rel => exact ⟨k + 1, hlt, by omega, by go_num, hB9.trans (hc10.below (fun p hp => (by have h9 : p = bm := hp; omega)) hB9.size), e7, wv9, x9, s9, m7, _, HC9.out.chg hc10 (fun p hp e => HF9.out.2.1 (by rw [← hp]; exact e)), HF9.out.2.2.2.2.1, HF9.out.1, HF9.out.2.2.1, HF9.out.2.2.2.1, HF9.out.2.1, hown10, HF9.out.2.2.2.2.2, HH9.out⟩
          case measure => simp [intOf]; omega
        | false =>
          go_wp2_with (at_delete; refine wpList_delete_own _ rfl _ _ 52 3 rfl 23 keyX Tryd.underlying52 repR bm m7 D7 rfl HO9.out _ _ rfl HKQ.out ?_; intro w10 hown10 hturn10)
          have hc10 : Chg (fun p => p = bm) w9 w10 := Chg.of_grown hturn10.grown (fun p e => (Option.some.inj e).symm)
          go_roundw
          case rel => exact ⟨k + 1, hlt, by omega, by go_num, hB9.trans (hc10.below (fun p hp => (by have h9 : p = bm := hp; omega)) hB9.size), e7, wv9, x9, s9, m7, _, HC9.out.chg hc10 (fun p hp e => HF9.out.2.1 (by rw [← hp]; exact e)), HF9.out.2.2.2.2.1, HF9.out.1, HF9.out.2.2.1, HF9.out.2.2.2.1, HF9.out.2.1, hown10, HF9.out.2.2.2.2.2, HH9.out⟩
          case measure => simp [intOf]; omega
      · have hzi : ¬ (k : Int) < (zs.length : Int) := by omega
        go_wp2_with (at_mapUpdate; refine wpList_mapUpdate_own _ rfl _ _ _ 52 rfl 3 23 keyX Tryd.underlying52 repR bm m D rfl HOW6.out HML.out _ _ _ rfl rfl HK.out (repD r) [] (repR_mk r) ?_; intro w7 hown7 hg7)
        have hc7 : Chg (fun q => q = bm) w6 w7 := Chg.of_grown hg7 (fun q e => (Option.some.inj e).symm)
        go_roundw
        case rel => exact ⟨k + 1, hlt, by omega, by go_num, hB6.trans (hc7.below (fun p hp => (by have h9 : p = bm := hp; omega)) hB6.size), e + 1, wv6, x7, s6, m + 1, _, HC6.out.chg hc7 (fun p hp e => HN6.out.1 (by rw [← hp]; exact e)), HX7.out.2.2.1, HN6.out.2, HX7.out.1, HX7.out.2.1, HN6.out.1, hown7, HX7.out.2.2.2, HH7.out⟩
        case measure => simp [intOf]; omega
    · have HC7 : Hid (BC w1 w6 L g 0 3 e wv6 x s6) := hC6
      have HH7 : Hid (HoldsX D x.wt) := HHX.out
      have HX7 : Hid (x.last.seq ≤ k + 1 ∧ x.wt.length ≤ k + 1 ∧ e ≤ k + 1 ∧ m ≤ k + 1) := by obtain ⟨a1, _, a3, a4, a5⟩ := HFA.out; exact ⟨by omega, by omega, by omega, by omega⟩
      have hne : ((1 : Int) == 0) = false := rfl
      clear hno hC6 HRISE HHX HFA
      by_cases hz : k < zs.length
      · have hzi : (k : Int) < (zs.length : Int) := by omega
        obtain ⟨zb, zoff, hza, hzb, hzc⟩ := HZR.out (by omega)
        subst hza
        obtain ⟨hz0, hq1, hq2⟩ := hzc k hz
        obtain ⟨q, hqe⟩ : ∃ q, q = zs[k] := ⟨_, rfl⟩
        rw [← hqe] at hz0 hq1 hq2
        have hq12 : -9223372036854775808 ≤ q ∧ q ≤ 9223372036854775807 := ⟨hq1, hq2⟩
        have HCZ : Hid (∀ V, Below w.heap.size w V → V.cell? ⟨zb, zoff + k, none⟩ = some (.int .i64 q)) := fun V hV => (hV.cell (p := ⟨zb, zoff + k, none⟩) hzb).trans hz0
        have iz := fun w => index_intsX zb zoff zs.length zc k w hz
        clear hzc hz0 hqe hq1 hq2
        have cz := HCZ.out w6 hBw6
        have hzl : zb < w6.heap.size := Nat.lt_of_lt_of_le hzb hBw6.size
        have hzn : zb ≠ w6.heap.size := Nat.ne_of_lt hzl
        obtain ⟨rq, hlk⟩ := look_okX HOW6.out HH7.out q hq12.1 hq12.2
        go_wp2_with fail
        have HO7 : Hid (w6.ownsMap Tryd.prog 3 repR bm m D) := HOW6.out
        clear HOW6
        obtain ⟨w7, hw7⟩ : ∃ w7, w7 = w6 := ⟨_, rfl⟩
        subst hw7
        have hB7 := hB6
        have hBw7 := hBw6
        obtain ⟨x7, hx7⟩ : ∃ x7, x7 = x := ⟨_, rfl⟩
        rw [← hx7] at HC7 HH7 HX7 hlk ⊢
        clear hx7
        obtain ⟨D7, hD7⟩ : ∃ D7, D7 = D := ⟨_, rfl⟩
        rw [← hD7] at HH7 HO7
        clear hD7
        obtain ⟨e7, he7⟩ : ∃ e7, e7 = e := ⟨_, rfl⟩
        obtain ⟨m7, hm7⟩ : ∃ m7, m7 = m := ⟨_, rfl⟩
        rw [← he7] at HC7 HX7
        rw [← hm7] at HO7 HX7
        clear he7 hm7
        have hA7 := (Below.refl w7.heap.size w7).alloc (Nat.le_refl _) (.cells #[.int .i64 rq.c, .int .i64 rq.l, .int .i64 rq.v, .int .i64 rq.o] 23)
        have HO8 : Hid ((w7.alloc (.cells #[.int .i64 rq.c, .int .i64 rq.l, .int .i64 rq.v, .int .i64 rq.o] 23)).ownsMap Tryd.prog 3 repR bm m7 D7) := HO7.out.alloc _
        have HC8 : Hid (BC w1 (w7.alloc (.cells #[.int .i64 rq.c, .int .i64 rq.l, .int .i64 rq.v, .int .i64 rq.o] 23)) L g 0 3 e7 wv6 x7 s6) := HC7.out.after hA7
        have hB8 : Below w1.heap.size w1 (w7.alloc (.cells #[.int .i64 rq.c, .int .i64 rq.l, .int .i64 rq.v, .int .i64 rq.o] 23)) := hB7.trans (hA7.mono hB7.size)
        generalize hw8 : w7.alloc (.cells #[.int .i64 rq.c, .int .i64 rq.l, .int .i64 rq.v, .int .i64 rq.o] 23) = w8 at *
        obtain ⟨B13, hB13⟩ : ∃ B, B = w7.heap.size := ⟨_, rfl⟩
        (try rw [← hB13])
        clear hw8 hA7 HO7 HC7 hB7 hB13 hlk cz hzl hzn c0 c1 c2 c3
        have HAK : Hid (Calls Tryd.prog 15 #[.pointer (some ⟨g, 0, none⟩), .int .i64 q] w8 fun e' W' => Below w1.heap.size w1 W' ∧ Chg (bT L g wv6) w8 W' ∧ ∃ z wv' x' s', e' = .returned (.int .i64 z) ∧ (z == 0) = hasX x7.wt q ∧ s'.most = 10000 ∧ ¬ bT L g wv' bm ∧ BC w1 W' L g 0 3 e7 wv' x' s' ∧ x'.last = x7.last ∧ x'.wt.length ≤ x7.wt.length ∧ (∀ D, Tidy D → HoldsX D x7.wt → HoldsX (D.del (.int .i64 q)) x'.wt)) := HACK.out w8 e7 wv6 x7 s6 q HC8.out hB8 HN6.out.2 HN6.out.1
        refine HAK.out.mono ?_
        rintro e'' w9 ⟨hB9, hc9, z9, wv9, x9, s9, rfl, hz9, hm9, hnb9, hC9, hl9, hlen9, hdel9⟩
        clear HAK
        have hBw9 : Below w.heap.size w w9 := hB1.trans (hB9.mono hs1)
        have HO9 : Hid (w9.ownsMap Tryd.prog 3 repR bm m7 D7) := own_chgX HO8.out hc9 HN6.out.1
        have HH9 : Hid (HoldsX (D7.del (.int .i64 q)) x9.wt) := hdel9 D7 (HO8.out.tidy keyX) HH7.out
        have HC9 : Hid (BC w1 w9 L g 0 3 e7 wv9 x9 s9) := hC9
        have HF9 : Hid (s9.most = 10000 ∧ ¬ bT L g wv9 bm ∧ x9.last.seq ≤ k + 1 ∧ x9.wt.length ≤ k + 1 ∧ e7 ≤ k + 1 ∧ m7 ≤ k + 1) := ⟨hm9, hnb9, by rw [hl9]; exact HX7.out.1, Nat.le_trans hlen9 HX7.out.2.1, HX7.out.2.2.1, HX7.out.2.2.2⟩
        have cz := HCZ.out w9 hBw9
        have hkq := key_intX q hq12.1 hq12.2
        have HKQ : Hid (keyOf Tryd.prog 3 (.int .i64 q) = some (.int .i64 q)) := hkq
        clear hkq hm9 hnb9 hC9 hl9 hlen9 hdel9 hc9 HO8 HC8 HH7 HX7 hB8
        generalize hasX x7.wt q = HB at *
        cases HB with
        | true =>
          go_wp2_with (at_delete; refine wpList_delete_own _ rfl _ _ 52 3 rfl 23 keyX Tryd.underlying52 repR bm m7 D7 rfl HO9.out _ _ rfl HKQ.out ?_; intro w10 hown10 hturn10)
          have hc10 : Chg (fun p => p = bm) w9 w10 := Chg.of_grown hturn10.grown (fun p e => (Option.some.inj e).symm)
          go_roundw
          case rel => exact ⟨k + 1, hlt, by omega, by go_num, hB9.trans (hc10.below (fun p hp => (by have h9 : p = bm := hp; omega)) hB9.size), e7, wv9, x9, s9, m7, _, HC9.out.chg hc10 (fun p hp e => HF9.out.2.1 (by rw [← hp]; exact e)), HF9.out.2.2.2.2.1, HF9.out.1, HF9.out.2.2.1, HF9.out.2.2.2.1, HF9.out.2.1, hown10, HF9.out.2.2.2.2.2, HH9.out⟩
          case measure => simp [intOf]; omega
        | false =>
          go_wp2_with (at_delete; refine wpList_delete_own _ rfl _ _ 52 3 rfl 23 keyX Tryd.underlying52 repR bm m7 D7 rfl HO9.out _ _ rfl HKQ.out ?_; intro w10 hown10 hturn10)
          have hc10 : Chg (fun p => p = bm) w9 w10 := Chg.of_grown hturn10.grown (fun p e => (Option.some.inj e).symm)
          go_roundw
          case rel => exact ⟨k + 1, hlt, by omega, by go_num, hB9.trans (hc10.below (fun p hp => (by have h9 : p = bm := hp; omega)) hB9.size), e7, wv9, x9, s9, m7, _, HC9.out.chg hc10 (fun p hp e => HF9.out.2.1 (by rw [← hp]; exact e)), HF9.out.2.2.2.2.1, HF9.out.1, HF9.out.2.2.1, HF9.out.2.2.2.1, HF9.out.2.1, hown10, HF9.out.2.2.2.2.2, HH9.out⟩
          case measure => simp [intOf]; omega
      · have hzi : ¬ (k : Int) < (zs.length : Int) := by omega
        go_wp2
        go_roundw
        case rel => exact ⟨k + 1, hlt, by omega, by go_num, hB6, e, wv6, x, s6, m, D, HC7.out, HX7.out.2.2.1, HN6.out.2, HX7.out.1, HX7.out.2.1, HN6.out.1, HOW6.out, HX7.out.2.2.2, HH7.out⟩
        case measure => simp [intOf]; omega
end Go.Proofs.YtgoehohadnkpdaaDoor
