/-
  What is proved here: Table.Renew lets a lease last, Table.End ends one.
  Conditions: the table lies in memory as laws hold it.
-/
import Derived.Test.YthlohlomefiebaaLeGrant
namespace Go.Proofs.Ythlohlomefiebaa
open Go.RowKit Go.Maps

set_option maxRecDepth 100000 in
set_option maxHeartbeats 4000000 in
theorem renew16_any {w : World} {lo G b : Nat} {v : Value} {l : List LE} (h : LeT w lo G b v l) (n now life : Int) : Calls Try.prog 17 #[.pointer (some ⟨G, 0, none⟩), .int .i64 n, .int .i64 now, .int .i64 life] w fun e w' => e = .returned (.tuple #[leV (renewT l n now life).1.1, .int .i64 (renewT l n now life).1.2]) ∧ LeT w' lo G b v (renewT l n now life).2 ∧ Chg (LeM G b v) w w' := by
  have hB := below_newE w (.cells #[.int .i64 0, .int .i64 0, .int .i64 0] 43)
  have kR := Blk.new w 43 #[.int .i64 0, .int .i64 0, .int .i64 0]
  have hh := h.after hB (Nat.le_refl _)
  have HM := fun W => mom16_any now W
  have HL := fun W => life16_any life W
  have hnR : ¬ LeM G b v w.heap.size := h.fresh (Nat.le_refl _)
  have HB : Hid (∀ w9, (w.alloc (.cells #[.int .i64 0, .int .i64 0, .int .i64 0] 43)).grownBy w9 (some w.heap.size) → LeT w9 lo G b v l ∧ Chg (LeM G b v) w w9) := fun w9 hg9 => ⟨hh.store hg9 hnR, Chg.of_below (low_store hB hg9) (Nat.le_refl _)⟩
  have HB2 : Hid (∀ w2 w9 o, Below (w.alloc (.cells #[.int .i64 0, .int .i64 0, .int .i64 0] 43)).heap.size (w.alloc (.cells #[.int .i64 0, .int .i64 0, .int .i64 0] 43)) w2 → (w2.alloc o).grownBy w9 (some w.heap.size) → LeT w9 lo G b v l ∧ Chg (LeM G b v) w w9) := fun w2 w9 o hb2 hg9 => by
    have hb3 := low_new (hB.trans (hb2.mono hB.size)) o
    exact ⟨(h.after hb3 (Nat.le_refl _)).store hg9 hnR, Chg.of_below (low_store hb3 hg9) (Nat.le_refl _)⟩
  unfold renewT
  by_cases h1 : moT now = false ∨ liT life = false
  · rw [if_pos h1]
    clear hh h hnR
    unfold leV leL noLE
    cases e2 : moT now with
    | false =>
      rw [e2] at HM
      clear e2 h1 HL
      go_enter Try.func17, Try.ntmps17
      go_wp2_with (first | (go_at_call 33; refine (HM _).mono ?_; rintro e w' ⟨rfl, rfl⟩) | (go_at_call 34; refine (HL _).mono ?_; rintro e w' ⟨rfl, rfl⟩) | (refine store_blk rfl 43 _ _ rfl rfl w.heap.size #[.int .i64 0, .int .i64 0, .int .i64 0] rfl rfl 43 _ (kR) info_le rfl (by simp [Value.oneCell']) ?_; intro w9 kR9 hg9 _))
      refine bodyPost_ret (results_pairE Try.results17 _ _ w.heap.size 43 _ (0, 0) _ _ rfl kR9 Try.underlying43 rfl info_le rfl) rfl ?_
      exact ⟨rfl, HB.out w9 hg9⟩
    | true =>
      rw [e2] at HM
      have e3 : liT life = false := by simpa [e2] using h1
      rw [e3] at HL
      clear e2 e3 h1
      go_enter Try.func17, Try.ntmps17
      go_wp2_with (first | (go_at_call 33; refine (HM _).mono ?_; rintro e w' ⟨rfl, rfl⟩) | (go_at_call 34; refine (HL _).mono ?_; rintro e w' ⟨rfl, rfl⟩) | (refine store_blk rfl 43 _ _ rfl rfl w.heap.size #[.int .i64 0, .int .i64 0, .int .i64 0] rfl rfl 43 _ (kR) info_le rfl (by simp [Value.oneCell']) ?_; intro w9 kR9 hg9 _))
      refine bodyPost_ret (results_pairE Try.results17 _ _ w.heap.size 43 _ (0, 0) _ _ rfl kR9 Try.underlying43 rfl info_le rfl) rfl ?_
      exact ⟨rfl, HB.out w9 hg9⟩
  rw [if_neg h1]
  simp only [not_or, Bool.not_eq_false] at h1
  obtain ⟨e2, e3⟩ := h1
  have g2 : 0 ≤ now ∧ now ≤ 1099511627776 := of_decide_eq_true e2
  have g3 : 1 ≤ life ∧ life ≤ 1048576 := of_decide_eq_true e3
  rw [e2] at HM
  rw [e3] at HL
  clear e2 e3
  have HO := opn16_any hh n
  unfold ansOpn at HO
  cases hop : opnT l n with
  | none =>
    rw [hop] at HO
    clear hop hh h hnR g2 g3
    unfold leV leL noLE at *
    dsimp only at *
    go_enter Try.func17, Try.ntmps17
    go_wp2_with (first | (go_at_call 33; refine (HM _).mono ?_; rintro e w' ⟨rfl, rfl⟩) | (go_at_call 34; refine (HL _).mono ?_; rintro e w' ⟨rfl, rfl⟩))
    refine HO.mono ?_
    rintro e w2 ⟨rfl, hb2⟩
    have kR2 := kR.below hb2 kR.lt
    go_wp2_with (first | (refine store_blk rfl 43 _ _ rfl rfl w.heap.size #[.int .i64 0, .int .i64 0, .int .i64 0] rfl rfl 43 _ (kR2.below (below_newE w2 _) kR2.lt) info_le rfl (by simp [Value.oneCell']) ?_; intro w9 kR9 hg9 _))
    refine bodyPost_ret (results_pairE Try.results17 _ _ w.heap.size 43 _ (0, 0) _ _ rfl kR9 Try.underlying43 rfl info_le rfl) rfl ?_
    exact ⟨rfl, HB2.out w2 w9 _ hb2 hg9⟩
  | some e =>
    rw [hop] at HO
    dsimp only at HO ⊢
    obtain ⟨i, rfl, hi, hu⟩ := opnT_some hop
    have hn := h.ok.num i e hi
    have hil : i < l.length := (List.getElem?_eq_some_iff.1 hi).1
    have hlen := h.ok.len
    have htil := h.ok.til e (List.mem_iff_getElem?.2 ⟨i, hi⟩)
    by_cases hov : e.u ≤ now
    · rw [if_pos hov]
      have dov : decide (e.u ≤ now) = true := decide_eq_true hov
      clear hop hh h hnR g2 g3 hi hu hn hil hlen htil hov
      obtain ⟨en, ed, eu⟩ := e
      unfold leV leL noLE at *
      dsimp only at *
      go_enter Try.func17, Try.ntmps17
      go_wp2_with (first | (go_at_call 33; refine (HM _).mono ?_; rintro e w' ⟨rfl, rfl⟩) | (go_at_call 34; refine (HL _).mono ?_; rintro e w' ⟨rfl, rfl⟩))
      refine HO.mono ?_
      rintro e w2 ⟨rfl, hb2⟩
      have kR2 := kR.below hb2 kR.lt
      go_wp2_with (first | (refine store_blk rfl 43 _ _ rfl rfl w.heap.size #[.int .i64 0, .int .i64 0, .int .i64 0] rfl rfl 43 _ (kR2.below (below_newE w2 _) kR2.lt) info_le rfl (by simp [Value.oneCell']) ?_; intro w9 kR9 hg9 _))
      refine bodyPost_ret (results_pairE Try.results17 _ _ w.heap.size 43 _ (0, 0) _ _ rfl kR9 Try.underlying43 rfl info_le rfl) rfl ?_
      exact ⟨rfl, HB2.out w2 w9 _ hb2 hg9⟩
    · rw [if_neg hov]
      have dov : decide (e.u ≤ now) = false := decide_eq_false hov
      have hokN := renew_ok h.ok ((i : Int) + 1) now life
      have hit : ((i : Int) + 1 - 1).toNat = i := by omega
      obtain ⟨B, c, e1, hBl, hBlo, hcell⟩ := h.row.at hi
      subst e1
      obtain ⟨m, D, hown, hH, hmD⟩ := h.map
      have hokS : OkT (l.set i ⟨e.n, e.d, max e.u (now + life)⟩) := h.ok.set hi _ (by omega) (by omega) (fun _ => hu)
      have HIX : Hid (∀ V, (Instr.indexAt 27 (.slice (some ⟨B, 0, none⟩) l.length c) (.int .i64 (i : Int))).run Try.prog V = .ok (.pointer (some ⟨B, i * 3, none⟩)) V) := fun V => index_le0 B l.length c i V hil
      have HSUB : Hid ((i : Int) + 1 - 1 = (i : Int)) := by show _ = _; omega
      have hGB : G ≠ B := fun e2 => h.nG (by rw [e2]; rfl)
      have hbB : b ≠ B := fun e2 => h.nb (by rw [e2]; rfl)
      have hBl0 := (h.row.lt B rfl).2
      have HW : Hid (∀ w2, Below (w.alloc (.cells #[.int .i64 0, .int .i64 0, .int .i64 0] 43)).heap.size (w.alloc (.cells #[.int .i64 0, .int .i64 0, .int .i64 0] 43)) w2 → LeT (w2.alloc (.cells #[.int .i64 e.n, .int .i64 e.d, .int .i64 (max e.u (now + life))] 43)) lo G b (.slice (some ⟨B, 0, none⟩) l.length c) l ∧ Blk (w2.alloc (.cells #[.int .i64 e.n, .int .i64 e.d, .int .i64 (max e.u (now + life))] 43)) w.heap.size 43 #[.int .i64 0, .int .i64 0, .int .i64 0] ∧ Below w.heap.size w (w2.alloc (.cells #[.int .i64 e.n, .int .i64 e.d, .int .i64 (max e.u (now + life))] 43)) ∧ w.heap.size < w2.heap.size) := fun w2 hb2 => by
        have hb3 := low_new (hB.trans (hb2.mono hB.size)) (.cells #[.int .i64 e.n, .int .i64 e.d, .int .i64 (max e.u (now + life))] 43)
        have kR2 := kR.below hb2 kR.lt
        exact ⟨h.after hb3 (Nat.le_refl _), kR2.below (below_newE w2 _) kR2.lt, hb3, kR2.lt⟩
      have HTH : Hid (∀ w2, Below (w.alloc (.cells #[.int .i64 0, .int .i64 0, .int .i64 0] 43)).heap.size (w.alloc (.cells #[.int .i64 0, .int .i64 0, .int .i64 0] 43)) w2 → (w2.alloc (.cells #[.int .i64 e.n, .int .i64 e.d, .int .i64 (max e.u (now + life))] 43)).drew.there B (i * 3) 3 ∧ (((w2.alloc (.cells #[.int .i64 e.n, .int .i64 e.d, .int .i64 (max e.u (now + life))] 43)).drew.setCells B (i * 3) [.int .i64 e.n, .int .i64 e.d, .int .i64 (max e.u (now + life))]).cell? ⟨G, 0, none⟩ = some (.slice (some ⟨B, 0, none⟩) l.length c) ∧ ((w2.alloc (.cells #[.int .i64 e.n, .int .i64 e.d, .int .i64 (max e.u (now + life))] 43)).drew.setCells B (i * 3) [.int .i64 e.n, .int .i64 e.d, .int .i64 (max e.u (now + life))]).rangeAt w2.heap.size 0 [.int .i64 e.n, .int .i64 e.d, .int .i64 (max e.u (now + life))]) ∧
          ∃ W5, W5 = (w2.alloc (.cells #[.int .i64 e.n, .int .i64 e.d, .int .i64 (max e.u (now + life))] 43)).drew.setCells B (i * 3) [.int .i64 e.n, .int .i64 e.d, .int .i64 (max e.u (now + life))] ∧ Blk W5 w2.heap.size 43 #[.int .i64 e.n, .int .i64 e.d, .int .i64 (max e.u (now + life))] ∧ Blk W5 w.heap.size 43 #[.int .i64 0, .int .i64 0, .int .i64 0] ∧ ∀ w9, W5.grownBy w9 (some w.heap.size) → LeT w9 lo G b (.slice (some ⟨B, 0, none⟩) l.length c) (l.set i ⟨e.n, e.d, max e.u (now + life)⟩) ∧ Chg (LeM G b (.slice (some ⟨B, 0, none⟩) l.length c)) w w9) := fun w2 hb2 => by
        obtain ⟨q1, q2, q3, q4⟩ := HW.out w2 hb2
        have kL := Blk.new w2 43 #[.int .i64 e.n, .int .i64 e.d, .int .i64 (max e.u (now + life))]
        obtain ⟨b', c', cur, f1, _, f3, f4, _, f6, _⟩ := q1.row.blk (by omega)
        cases f1
        have hfit : i * 3 + 3 ≤ cur.size := by rw [f6]; have := Nat.mul_le_mul_right 3 f4; omega
        generalize w2.alloc (.cells #[.int .i64 e.n, .int .i64 e.d, .int .i64 (max e.u (now + life))] 43) = W3 at *
        obtain ⟨gr1, gr2⟩ := grown_setCells B [.int .i64 e.n, .int .i64 e.d, .int .i64 (max e.u (now + life))] (i * 3) W3.drew
        have hc5 : Chg (fun q => q = B) W3 (W3.drew.setCells B (i * 3) [.int .i64 e.n, .int .i64 e.d, .int .i64 (max e.u (now + life))]) := chg_undrew (Chg.of_grown gr1 (fun k e2 => (Option.some.inj e2).symm))
        have hrow5 : LeR (W3.drew.setCells B (i * 3) [.int .i64 e.n, .int .i64 e.d, .int .i64 (max e.u (now + life))]) lo (.slice (some ⟨B, 0, none⟩) l.length c) (l.set i ⟨e.n, e.d, max e.u (now + life)⟩) := LeR.turn (w := W3.drew) q1.row hi _ (fun cur' hcur' => Blk.setCells _ _ _ _ hcur' (by
          have : cur' = cur := by have := hcur'.symm.trans f3; cases this; rfl
          rw [this]; exact hfit))
        have kG5 := q1.head.chg hc5 hGB
        have kL5 := kL.chg hc5 (fun e2 => by omega)
        have kR5 := q2.chg hc5 (fun e2 => by omega)
        obtain ⟨m3, D3, ho3, hH3, hm3⟩ := q1.map
        have ho5 := own_chgE ho3 hc5 hbB
        have hcw : Chg (LeM G b (.slice (some ⟨B, 0, none⟩) l.length c)) w (W3.drew.setCells B (i * 3) [.int .i64 e.n, .int .i64 e.d, .int .i64 (max e.u (now + life))]) := (Chg.of_below q3 (Nat.le_refl _)).trans (S' := fun q => q = B) hc5 (fun q _ e2 => .inr (.inr (by rw [e2]; rfl)))
        refine ⟨fun j hj => ⟨by rw [f3.drew.cell (v := cur[i * 3 + j]'(by omega)) (by simp [show i * 3 + j < cur.size by omega])]; rfl, f3.frozen _⟩, ⟨kG5.cell (j := 0) rfl, kL5.range 0 _ (fun j u hu => by rw [Nat.zero_add]; simpa using hu)⟩, _, rfl, kL5, kR5, fun w9 hg9 => ?_⟩
        have hT5 : LeT (W3.drew.setCells B (i * 3) [.int .i64 e.n, .int .i64 e.d, .int .i64 (max e.u (now + life))]) lo G b (.slice (some ⟨B, 0, none⟩) l.length c) (l.set i ⟨e.n, e.d, max e.u (now + life)⟩) := ⟨kG5, hrow5, ⟨m3, D3, ho5, hH3.turn hi hu _ (by omega), by rw [List.length_set]; exact hm3⟩, hokS, h.gG, h.gb, h.nG, h.nb, h.ne⟩
        refine ⟨hT5.store hg9 hnR, ⟨hcw.1.trans (below_grown (Below.refl 0 _) hg9 (Nat.zero_le _) (fun _ _ => Nat.zero_le _)), fun k hk hn => ?_⟩⟩
        rw [hg9.block k (Nat.lt_of_lt_of_le hk hcw.size) (fun e2 => by cases e2; omega), hcw.2 k hk hn]
      have HS0 : Hid (∀ w2, Below (w.alloc (.cells #[.int .i64 0, .int .i64 0, .int .i64 0] 43)).heap.size (w.alloc (.cells #[.int .i64 0, .int .i64 0, .int .i64 0] 43)) w2 → (w2.alloc (.cells #[.int .i64 e.n, .int .i64 e.d, .int .i64 (max e.u (now + life))] 43)).drew.cell? ⟨G, 0, none⟩ = some (.slice (some ⟨B, 0, none⟩) l.length c) ∧ (w2.alloc (.cells #[.int .i64 e.n, .int .i64 e.d, .int .i64 (max e.u (now + life))] 43)).drew.rangeAt w2.heap.size 0 [.int .i64 e.n, .int .i64 e.d, .int .i64 (max e.u (now + life))]) := fun w2 hb2 => ⟨(HW.out w2 hb2).1.head.cell (j := 0) rfl, (Blk.new w2 43 #[.int .i64 e.n, .int .i64 e.d, .int .i64 (max e.u (now + life))]).drew.range 0 _ (fun j u hu => by rw [Nat.zero_add]; simpa using hu)⟩
      rw [hit]
      clear hokN hit hop hh hnR hown hH hmD hokS hGB hbB hBl0 hBl hBlo hcell hi h hov hn HB HB2 HW
      obtain ⟨en, ed, eu⟩ := e
      unfold leV leL at *
      dsimp only at *
      go_enter Try.func17, Try.ntmps17
      go_wp2_with (first | (go_at_call 33; refine (HM _).mono ?_; rintro e w' ⟨rfl, rfl⟩) | (go_at_call 34; refine (HL _).mono ?_; rintro e w' ⟨rfl, rfl⟩))
      refine HO.mono ?_
      rintro e w2 ⟨rfl, hb2⟩
      have hS0 : (fun V : World => V.cell? ⟨G, 0, none⟩ = some (.slice (some ⟨B, 0, none⟩) l.length c) ∧ V.rangeAt w2.heap.size 0 [.int .i64 en, .int .i64 ed, .int .i64 (max eu (now + life))]) (w2.alloc (.cells #[.int .i64 en, .int .i64 ed, .int .i64 (max eu (now + life))] 43)).drew := HS0.out w2 hb2
      go_wp2_with fail
      refine held_begin (fun V => V.cell? ⟨G, 0, none⟩ = some (.slice (some ⟨B, 0, none⟩) l.length c) ∧ V.rangeAt w2.heap.size 0 [.int .i64 en, .int .i64 ed, .int .i64 (max eu (now + life))]) (by kernel_rfl) ?_
      refine held_take 0 45 _ (.pointer (some ⟨G, 0, none⟩)) rfl rfl (by kernel_rfl) (by kernel_rfl) (by kernel_rfl) rfl hS0 (fun _ _ => rfl) ?_
      simp only [Act.put, List.setIfInBounds_toArray, List.set_cons_succ, List.set_cons_zero]
      refine held_take 1 46 _ (.pointer (some ⟨G, 0, none⟩)) rfl rfl (by kernel_rfl) (by kernel_rfl) (by kernel_rfl) rfl hS0 (fun _ _ => rfl) ?_
      simp only [Act.put, List.setIfInBounds_toArray, List.set_cons_succ, List.set_cons_zero]
      refine held_take 2 47 _ (.pointer (some ⟨G, 0, none⟩)) rfl rfl (by kernel_rfl) (by kernel_rfl) (by kernel_rfl) rfl hS0 (fun _ _ => rfl) ?_
      simp only [Act.put, List.setIfInBounds_toArray, List.set_cons_succ, List.set_cons_zero]
      refine held_take 3 48 _ (.slice (some ⟨B, 0, none⟩) l.length c) rfl rfl (by kernel_rfl) (by kernel_rfl) (by kernel_rfl) rfl hS0 (fun V hV => exec_loadc 27 _ rfl _ _ rfl (load_one 27 (fun _ => by kernel_rfl) V _ _ _ hV.1)) ?_
      simp only [Act.put, List.setIfInBounds_toArray, List.set_cons_succ, List.set_cons_zero]
      refine held_take 4 49 _ (.int .i64 ((i : Int) + 1)) rfl rfl (by kernel_rfl) (by kernel_rfl) (by kernel_rfl) rfl hS0 (fun _ _ => rfl) ?_
      simp only [Act.put, List.setIfInBounds_toArray, List.set_cons_succ, List.set_cons_zero]
      refine held_take 5 50 _ (.int .i64 (i : Int)) rfl rfl (by kernel_rfl) (by kernel_rfl) (by kernel_rfl) rfl hS0 (fun V hV => (exec_subi 3 _ _ rfl ((i : Int) + 1) 1 rfl rfl (by omega) (by omega)).trans (by rw [HSUB.out])) ?_
      simp only [Act.put, List.setIfInBounds_toArray, List.set_cons_succ, List.set_cons_zero]
      refine held_take 6 51 _ (.agg #[.int .i64 en, .int .i64 ed, .int .i64 (max eu (now + life))]) rfl rfl (by kernel_rfl) (by kernel_rfl) (by kernel_rfl) rfl hS0 (fun V hV => exec_load 43 _ rfl w2.heap.size 0 rfl [.int .i64 en, .int .i64 ed, .int .i64 (max eu (now + life))] _ hV.2 Try.underlying43 rfl info_le) ?_
      simp only [Act.put, List.setIfInBounds_toArray, List.set_cons_succ, List.set_cons_zero]
      refine held_take 7 52 _ (.pointer (some ⟨B, i * 3, none⟩)) rfl rfl (by kernel_rfl) (by kernel_rfl) (by kernel_rfl) rfl hS0 (fun V hV => exec_indexat 27 _ _ rfl (.slice (some ⟨B, 0, none⟩) l.length c) (.int .i64 (i : Int)) _ rfl rfl (HIX.out V)) ?_
      simp only [Act.put, List.setIfInBounds_toArray, List.set_cons_succ, List.set_cons_zero]
      obtain ⟨t1, t2, t3⟩ := HTH.out w2 hb2
      refine held_all1 8 (by kernel_rfl) (op_midE 8 _ rfl rfl rfl 43 _ _ rfl B (i * 3) #[.int .i64 en, .int .i64 ed, .int .i64 (max eu (now + life))] rfl rfl info_le (by simp [Value.oneCell']) t1 ⟨t2, ?_⟩)
      refine wpAnyH_done (by kernel_rfl) ?_ _
      refine NoPanic.normal ?_
      obtain ⟨W5, hW5, t4, t5, t6⟩ := t3
      rw [show (#[.int .i64 en, .int .i64 ed, .int .i64 (max eu (now + life))] : Array Value).toList = [.int .i64 en, .int .i64 ed, .int .i64 (max eu (now + life))] from rfl, ← hW5]
      have HT6 : Hid (∀ w9, W5.grownBy w9 (some w.heap.size) → LeT w9 lo G b (.slice (some ⟨B, 0, none⟩) l.length c) (l.set i ⟨en, ed, max eu (now + life)⟩) ∧ Chg (LeM G b (.slice (some ⟨B, 0, none⟩) l.length c)) w w9) := t6
      have l0 : W5.cell? ⟨w2.heap.size, 0, none⟩ = some (.int .i64 en) := t4.cell (j := 0) rfl
      have l1 : W5.cell? ⟨w2.heap.size, 1, none⟩ = some (.int .i64 ed) := t4.cell (j := 1) rfl
      have l2 : W5.cell? ⟨w2.heap.size, 2, none⟩ = some (.int .i64 (max eu (now + life))) := t4.cell (j := 2) rfl
      clear hW5 t1 t2 t6 t4 HTH hS0
      go_wp2_with (first | (refine store_blk rfl 43 _ _ rfl rfl w.heap.size #[.int .i64 en, .int .i64 ed, .int .i64 (max eu (now + life))] rfl rfl 43 _ t5 info_le rfl (by simp [Value.oneCell']) ?_; intro w9 kR9 hg9 _))
      refine bodyPost_ret (results_pairE Try.results17 _ _ w.heap.size 43 _ (0, 0) _ _ rfl kR9 Try.underlying43 rfl info_le rfl) rfl ?_
      exact ⟨rfl, HT6.out w9 hg9⟩
set_option maxRecDepth 100000 in
set_option maxHeartbeats 2000000 in
theorem end16_any {w : World} {lo G b : Nat} {v : Value} {l : List LE} (h : LeT w lo G b v l) (n : Int) : Calls Try.prog 18 #[.pointer (some ⟨G, 0, none⟩), .int .i64 n] w fun e w' => e = .returned (.int .i64 (endT l n).1) ∧ LeT w' lo G b v (endT l n).2 ∧ Chg (LeM G b v) w w' := by
  have HO := opn16_any h n
  unfold ansOpn at HO
  unfold endT
  cases hop : opnT l n with
  | none =>
    rw [hop] at HO
    have HT : Hid (∀ w2 o, Below w.heap.size w w2 → LeT (w2.alloc o) lo G b v l ∧ Chg (LeM G b v) w (w2.alloc o)) := fun w2 o hb2 => ⟨h.after (low_new hb2 o) (Nat.le_refl _), Chg.of_below (low_new hb2 o) (Nat.le_refl _)⟩
    clear hop h
    unfold leV leL noLE at *
    dsimp only at *
    go_enter Try.func18, Try.ntmps18
    go_wp2_with fail
    refine HO.mono ?_
    rintro e w2 ⟨rfl, hb2⟩
    go_wp2
    go_ret
    exact ⟨rfl, HT.out w2 _ hb2⟩
  | some e =>
    rw [hop] at HO
    obtain ⟨i, rfl, hi, hu⟩ := opnT_some hop
    have hit : ((i : Int) + 1 - 1).toNat = i := by omega
    dsimp only at HO ⊢
    rw [hit]
    have HC : Hid (∀ w2, Below w.heap.size w w2 → Calls Try.prog 37 #[.pointer (some ⟨G, 0, none⟩), leV e] (w2.alloc (.cells (leL e).toArray 43)) fun r w' => r = .returned (.tuple #[]) ∧ LeT w' lo G b v (l.set i e.off) ∧ Chg (LeM G b v) w w') := fun w2 hb2 => (close16_any (h.after (low_new hb2 _) (Nat.le_refl _)) hi hu).mono (fun r w' ⟨q1, q2, q3⟩ => ⟨q1, q2, (Chg.of_below (S := LeM G b v) (low_new hb2 (.cells (leL e).toArray 43)) (Nat.le_refl _)).trans (S' := LeM G b v) q3 (fun _ _ e => e)⟩)
    clear hop h hit hi hu
    obtain ⟨en, ed, eu⟩ := e
    unfold leV leL at *
    dsimp only at *
    go_enter Try.func18, Try.ntmps18
    go_wp2_with fail
    refine HO.mono ?_
    rintro e w2 ⟨rfl, hb2⟩
    go_wp2_with fail
    refine (HC.out w2 hb2).mono ?_
    rintro e w3 ⟨rfl, hT3, hc3⟩
    go_wp2
    go_ret
    exact ⟨rfl, hT3, hc3⟩
end Go.Proofs.Ythlohlomefiebaa
