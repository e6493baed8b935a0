/-
  What is proved here: Table.Grant, Renew and End do what a table must.
  Conditions: the table lies in memory as laws hold it.
-/
import Derived.Test.YthlohlomefiebaaLeAdd
import Derived.Lib.MinMax
namespace Go.Proofs.Ythlohlomefiebaa
open Go.RowKit Go.Maps

theorem op_midE {ops : Array Oper} {Q : Exit → Act → World → Prop} {K : Act → World → Prop} {a : Act} {w : World} (i : Nat) (o : Oper) (hi : ops[i]? = some o) (hd : o.dst = none) (hw : Region.wanted o (yielded ops a.tmps) = true) (ty : TypeId) (x y : Operand) (ho : o.op = .store ty x y)
    (g off : Nat) (cells : Array Value) (hx : a.eval x = .pointer (some ⟨g, off, none⟩)) (hy : a.eval y = .agg cells) (hin : (Try.prog.info? ty).map (·.size) = some cells.size) (h1 : cells.all (·.oneCell') = true) (hth : w.there g off cells.size)
    (h : K a (w.setCells g off cells.toList)) : wpOp Try.prog ops Q i K a w := by
  unfold wpOp
  simp only [hi, hw, if_true]
  refine .inl ?_
  refine wp_store_mid ty x y ho g off cells hx hy hth hin h1 ?_
  rw [hd]
  exact h
/-- Something is stored that is none of the table's. -/
theorem LeT.store {w w' : World} {lo G b R : Nat} {v : Value} {l : List LE} (h : LeT w lo G b v l) (hg : w.grownBy w' (some R)) (hR : ¬ LeM G b v R) : LeT w' lo G b v l := h.chg (S := fun q => q = R) (Chg.of_grown hg (fun k e => (Option.some.inj e).symm)) (fun q hq e => hR (by rw [← e]; exact hq))
theorem LeT.fresh {w : World} {lo G b : Nat} {v : Value} {l : List LE} (h : LeT w lo G b v l) {R : Nat} (hR : w.heap.size ≤ R) : ¬ LeM G b v R := fun e => by have := h.lt R e; omega
set_option maxRecDepth 100000 in
set_option maxHeartbeats 4000000 in
theorem grant16_any {w : World} {lo G b : Nat} {v : Value} {l : List LE} (h : LeT w lo G b v l) (hlo : lo ≤ w.heap.size) (d now life : Int) (hd1 : -9223372036854775808 ≤ d) (hd2 : d ≤ 9223372036854775807) : Calls Try.prog 16 #[.pointer (some ⟨G, 0, none⟩), .int .i64 d, .int .i64 now, .int .i64 life] w fun e w' => e = .returned (.tuple #[leV (grantT l d now life).1.1, .int .i64 (grantT l d now life).1.2]) ∧ ∃ v', LeT w' lo G b v' (grantT l d now life).2 ∧ (∀ q, v'.ownBlock = some q → v.ownBlock = some q ∨ w.heap.size ≤ q) ∧ Chg (LeM G b v) w w' := by
  obtain ⟨ao, c, rfl⟩ := h.row.shape
  have hB := below_newE w (.cells #[.int .i64 0, .int .i64 0, .int .i64 0] 43)
  have kR := Blk.new w 43 #[.int .i64 0, .int .i64 0, .int .i64 0]
  have hh := h.after hB (Nat.le_refl _)
  obtain ⟨m, D, hown, hH, _⟩ := hh.map
  have hlk : (Instr.lookup 49 (.map (some b)) (.int .i64 d) true).run Try.prog (w.alloc (.cells #[.int .i64 0, .int .i64 0, .int .i64 0] 43)) = .ok (.tuple #[.int .i64 (numOf l d), .bool (openD l d).isSome]) (w.alloc (.cells #[.int .i64 0, .int .i64 0, .int .i64 0] 43)) := look_okE hown hH d hd1 hd2
  have c0 : (w.alloc (.cells #[.int .i64 0, .int .i64 0, .int .i64 0] 43)).cell? ⟨G, 0, none⟩ = some (.slice ao l.length c) := hh.head.cell (j := 0) rfl
  have c1 : (w.alloc (.cells #[.int .i64 0, .int .i64 0, .int .i64 0] 43)).cell? ⟨G, 1, none⟩ = some (.map (some b)) := hh.head.cell (j := 1) rfl
  have HD := fun W => dev16_any d W
  have HM := fun W => mom16_any now W
  have HL := fun W => life16_any life W
  have hnR : ¬ LeM G b (.slice ao l.length c) w.heap.size := h.fresh (Nat.le_refl _)
  have HB : Hid (∀ w9, (w.alloc (.cells #[.int .i64 0, .int .i64 0, .int .i64 0] 43)).grownBy w9 (some w.heap.size) → LeT w9 lo G b (.slice ao l.length c) l ∧ (∀ q, (Value.slice ao l.length c).ownBlock = some q → (Value.slice ao l.length c).ownBlock = some q ∨ w.heap.size ≤ q) ∧ Chg (LeM G b (.slice ao l.length c)) w w9) := fun w9 hg9 => ⟨hh.store hg9 hnR, fun q e => .inl e, Chg.of_below (low_store hB hg9) (Nat.le_refl _)⟩
  generalize numOf l d = NN at *
  unfold grantT
  by_cases h1 : deT d = false ∨ moT now = false ∨ liT life = false
  · rw [if_pos h1]
    clear hown hH hh h hlo hd1 hd2 hnR
    unfold leV leL noLE
    cases e1 : deT d with
    | false =>
      rw [e1] at HD
      clear e1 h1 HM HL
      go_enter Try.func16, Try.ntmps16
      go_wp2_with (first | (go_at_call 32; refine (HD _).mono ?_; rintro e w' ⟨rfl, rfl⟩) | (go_at_call 33; refine (HM _).mono ?_; rintro e w' ⟨rfl, rfl⟩) | (go_at_call 34; refine (HL _).mono ?_; rintro e w' ⟨rfl, rfl⟩) | (refine store_blk rfl 43 _ _ rfl rfl w.heap.size #[.int .i64 0, .int .i64 0, .int .i64 0] rfl rfl 43 _ (kR) info_le rfl (by simp [Value.oneCell']) ?_; intro w9 kR9 hg9 _))
      refine bodyPost_ret (results_pairE Try.results16 _ _ w.heap.size 43 _ (0, 0) _ _ rfl kR9 Try.underlying43 rfl info_le rfl) rfl ?_
      exact ⟨rfl, _, HB.out w9 hg9⟩
    | true =>
      rw [e1] at HD
      cases e2 : moT now with
      | false =>
        rw [e2] at HM
        clear e1 e2 h1 HL
        go_enter Try.func16, Try.ntmps16
        go_wp2_with (first | (go_at_call 32; refine (HD _).mono ?_; rintro e w' ⟨rfl, rfl⟩) | (go_at_call 33; refine (HM _).mono ?_; rintro e w' ⟨rfl, rfl⟩) | (go_at_call 34; refine (HL _).mono ?_; rintro e w' ⟨rfl, rfl⟩) | (refine store_blk rfl 43 _ _ rfl rfl w.heap.size #[.int .i64 0, .int .i64 0, .int .i64 0] rfl rfl 43 _ (kR) info_le rfl (by simp [Value.oneCell']) ?_; intro w9 kR9 hg9 _))
        refine bodyPost_ret (results_pairE Try.results16 _ _ w.heap.size 43 _ (0, 0) _ _ rfl kR9 Try.underlying43 rfl info_le rfl) rfl ?_
        exact ⟨rfl, _, HB.out w9 hg9⟩
      | true =>
        rw [e2] at HM
        have e3 : liT life = false := by simpa [e1, e2] using h1
        rw [e3] at HL
        clear e1 e2 e3 h1
        go_enter Try.func16, Try.ntmps16
        go_wp2_with (first | (go_at_call 32; refine (HD _).mono ?_; rintro e w' ⟨rfl, rfl⟩) | (go_at_call 33; refine (HM _).mono ?_; rintro e w' ⟨rfl, rfl⟩) | (go_at_call 34; refine (HL _).mono ?_; rintro e w' ⟨rfl, rfl⟩) | (refine store_blk rfl 43 _ _ rfl rfl w.heap.size #[.int .i64 0, .int .i64 0, .int .i64 0] rfl rfl 43 _ (kR) info_le rfl (by simp [Value.oneCell']) ?_; intro w9 kR9 hg9 _))
        refine bodyPost_ret (results_pairE Try.results16 _ _ w.heap.size 43 _ (0, 0) _ _ rfl kR9 Try.underlying43 rfl info_le rfl) rfl ?_
        exact ⟨rfl, _, HB.out w9 hg9⟩
  rw [if_neg h1]
  simp only [not_or, Bool.not_eq_false] at h1
  obtain ⟨e1, e2, e3⟩ := h1
  have g1 : 1 ≤ d ∧ d ≤ 4096 := of_decide_eq_true e1
  have g2 : 0 ≤ now ∧ now ≤ 1099511627776 := of_decide_eq_true e2
  have g3 : 1 ≤ life ∧ life ≤ 1048576 := of_decide_eq_true e3
  rw [e1] at HD
  rw [e2] at HM
  rw [e3] at HL
  clear e1 e2 e3
  cases ho : (openD l d).isSome with
  | true =>
    rw [if_pos rfl]
    rw [ho] at hlk
    clear hown hH hh h hlo hd1 hd2 hnR ho g1 g2 g3
    unfold leV leL noLE
    go_enter Try.func16, Try.ntmps16
    go_wp2_with (first | (go_at_call 32; refine (HD _).mono ?_; rintro e w' ⟨rfl, rfl⟩) | (go_at_call 33; refine (HM _).mono ?_; rintro e w' ⟨rfl, rfl⟩) | (go_at_call 34; refine (HL _).mono ?_; rintro e w' ⟨rfl, rfl⟩) | (refine store_blk rfl 43 _ _ rfl rfl w.heap.size #[.int .i64 0, .int .i64 0, .int .i64 0] rfl rfl 43 _ (kR) info_le rfl (by simp [Value.oneCell']) ?_; intro w9 kR9 hg9 _))
    refine bodyPost_ret (results_pairE Try.results16 _ _ w.heap.size 43 _ (0, 0) _ _ rfl kR9 Try.underlying43 rfl info_le rfl) rfl ?_
    exact ⟨rfl, _, HB.out w9 hg9⟩
  | false =>
    rw [if_neg (by decide)]
    rw [ho] at hlk
    by_cases h20 : l.length = 20000
    · rw [if_pos h20]
      have d20 : ((l.length : Int) == 20000) = true := by rw [h20]; rfl
      clear hown hH hh h hlo hd1 hd2 hnR ho g1 g2 g3 h20
      unfold leV leL noLE
      go_enter Try.func16, Try.ntmps16
      go_wp2_with (first | (go_at_call 32; refine (HD _).mono ?_; rintro e w' ⟨rfl, rfl⟩) | (go_at_call 33; refine (HM _).mono ?_; rintro e w' ⟨rfl, rfl⟩) | (go_at_call 34; refine (HL _).mono ?_; rintro e w' ⟨rfl, rfl⟩) | (refine store_blk rfl 43 _ _ rfl rfl w.heap.size #[.int .i64 0, .int .i64 0, .int .i64 0] rfl rfl 43 _ (kR) info_le rfl (by simp [Value.oneCell']) ?_; intro w9 kR9 hg9 _))
      refine bodyPost_ret (results_pairE Try.results16 _ _ w.heap.size 43 _ (0, 0) _ _ rfl kR9 Try.underlying43 rfl info_le rfl) rfl ?_
      exact ⟨rfl, _, HB.out w9 hg9⟩
    · rw [if_neg h20]
      have d20 : ((l.length : Int) == 20000) = false := beq_eq_false_iff_ne.2 (by omega)
      have hop : openD l d = none := by simpa using ho
      have hok := h.ok.snoc (by have := h.ok.len; omega) d (now + life) g1 (by omega) (fun _ => hop)
      have HN := next16_any hh
      have hB2 := low_new hB (.cells #[.int .i64 ((l.length : Int) + 1), .int .i64 d, .int .i64 (now + life)] 43)
      have hh2 := h.after hB2 (Nat.le_refl _)
      have HA := add16_any hh2 (Nat.le_trans hlo hB2.size) ⟨(l.length : Int) + 1, d, now + life⟩ hok (fun _ => hop)
      have kL := Blk.new (w.alloc (.cells #[.int .i64 0, .int .i64 0, .int .i64 0] 43)) 43 #[.int .i64 ((l.length : Int) + 1), .int .i64 d, .int .i64 (now + life)]
      have kR2 := kR.below (below_newE (w.alloc (.cells #[.int .i64 0, .int .i64 0, .int .i64 0] 43)) (.cells #[.int .i64 ((l.length : Int) + 1), .int .i64 d, .int .i64 (now + life)] 43)) kR.lt
      have hnL : ¬ LeM G b (.slice ao l.length c) (w.alloc (.cells #[.int .i64 0, .int .i64 0, .int .i64 0] 43)).heap.size := h.fresh (by simp)
      have HFIN : Hid (∀ w3 w9 v', LeT w3 lo G b v' (l ++ [⟨(l.length : Int) + 1, d, now + life⟩]) → (∀ q, v'.ownBlock = some q → (Value.slice ao l.length c).ownBlock = some q ∨ ((w.alloc (.cells #[.int .i64 0, .int .i64 0, .int .i64 0] 43)).alloc (.cells #[.int .i64 ((l.length : Int) + 1), .int .i64 d, .int .i64 (now + life)] 43)).heap.size ≤ q) → Chg (LeM G b (.slice ao l.length c)) ((w.alloc (.cells #[.int .i64 0, .int .i64 0, .int .i64 0] 43)).alloc (.cells #[.int .i64 ((l.length : Int) + 1), .int .i64 d, .int .i64 (now + life)] 43)) w3 → w3.grownBy w9 (some w.heap.size) → ∃ v', LeT w9 lo G b v' (l ++ [⟨(l.length : Int) + 1, d, now + life⟩]) ∧ (∀ q, v'.ownBlock = some q → (Value.slice ao l.length c).ownBlock = some q ∨ w.heap.size ≤ q) ∧ Chg (LeM G b (.slice ao l.length c)) w w9) := fun w3 w9 v' q1 q2 q3 q4 => by
        have hs := hB2.size
        have hnv : ¬ LeM G b v' w.heap.size := fun e => by
          rcases e with e | e | e
          · exact hnR (.inl e)
          · exact hnR (.inr (.inl e))
          · rcases q2 _ e with k | k
            · exact hnR (.inr (.inr k))
            · rw [World.size_alloc, World.size_alloc] at k; omega
        refine ⟨v', q1.store q4 hnv, fun q hq => (q2 q hq).imp_right (fun k => by omega), ?_⟩
        refine ⟨((Below.refl 0 w).trans (hB2.mono (Nat.zero_le _))).trans (q3.1.trans (below_grown (Below.refl 0 w3) q4 (Nat.zero_le _) (fun _ _ => Nat.zero_le _))), fun k hk hn => ?_⟩
        rw [q4.block k (Nat.lt_of_lt_of_le (Nat.lt_of_lt_of_le hk hs) q3.size) (fun e => by cases e; omega), q3.2 k (Nat.lt_of_lt_of_le hk hs) hn, hB2.block k hk]
      have HNR : Hid (¬ LeM G b (.slice ao l.length c) w.heap.size) := hnR
      have HNL : Hid (¬ LeM G b (.slice ao l.length c) (w.alloc (.cells #[.int .i64 0, .int .i64 0, .int .i64 0] 43)).heap.size) := hnL
      have hlen := h.ok.len
      clear hown hH hh hh2 h hlo hd1 hd2 hnR hnL ho h20 HB hok hop hB2
      unfold leV leL at *
      dsimp only at *
      go_enter Try.func16, Try.ntmps16
      go_wp2_with (first | (go_at_call 32; refine (HD _).mono ?_; rintro e w' ⟨rfl, rfl⟩) | (go_at_call 33; refine (HM _).mono ?_; rintro e w' ⟨rfl, rfl⟩) | (go_at_call 34; refine (HL _).mono ?_; rintro e w' ⟨rfl, rfl⟩) | (go_at_call 35; refine HN.mono ?_; rintro e w' ⟨rfl, rfl⟩))
      refine HA.mono ?_
      rintro e w3 ⟨rfl, v', q1, q2, q3⟩
      have kR3 := kR2.chg q3 HNR.out
      have kL3 := kL.chg q3 HNL.out
      have l0 : w3.cell? ⟨w.heap.size + 1, 0, none⟩ = some (.int .i64 ((l.length : Int) + 1)) := by have := kL3.cell (j := 0) rfl; rwa [World.size_alloc] at this
      have l1 : w3.cell? ⟨w.heap.size + 1, 1, none⟩ = some (.int .i64 d) := by have := kL3.cell (j := 1) rfl; rwa [World.size_alloc] at this
      have l2 : w3.cell? ⟨w.heap.size + 1, 2, none⟩ = some (.int .i64 (now + life)) := by have := kL3.cell (j := 2) rfl; rwa [World.size_alloc] at this
      go_wp2_with (first | (refine store_blk rfl 43 _ _ rfl rfl w.heap.size #[.int .i64 ((l.length : Int) + 1), .int .i64 d, .int .i64 (now + life)] rfl rfl 43 _ kR3 info_le rfl (by simp [Value.oneCell']) ?_; intro w9 kR9 hg9 _))
      refine bodyPost_ret (results_pairE Try.results16 _ _ w.heap.size 43 _ (0, 0) _ _ rfl kR9 Try.underlying43 rfl info_le rfl) rfl ?_
      exact ⟨rfl, HFIN.out w3 w9 v' q1 q2 q3 hg9⟩
end Go.Proofs.Ythlohlomefiebaa
