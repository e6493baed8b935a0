/-
  What is proved here: the program's log: Checkpoint and Commit.
  Conditions: the disk and the log lie in memory.
-/
import Derived.Test.YtcfnbmphonkbpaaPWalState
import Derived.Deep.Cut
import Derived.Deep.DeepCutAuto
namespace Go.Proofs.Ytcfnbmphonkbpaa
open Go.RowKit

theorem rowsW_now (first : Nat) (b : List UInt8) : ∀ (n i : Nat) (s : DS), (rowsW first b n i s).2.now.length = s.now.length
  | 0, _, _ => rfl
  | n + 1, i, s => by
    show (if b.length ≤ i * 128 then (0, s) else if (writeS s ((first + i : Nat) : Int) (rowB b i)).1 ≠ 0 then writeS s ((first + i : Nat) : Int) (rowB b i) else rowsW first b n (i + 1) (writeS s ((first + i : Nat) : Int) (rowB b i)).2).2.now.length = _
    split
    · rfl
    · split
      · exact writeS_now _ _ _
      · rw [rowsW_now first b n (i + 1), writeS_now]
theorem syncS_now (s : DS) : (syncS s).2.now.length = s.now.length := by
  have hm : (mayS s).2.now = s.now := by
    unfold mayS
    split
    · rfl
    · split
      · rfl
      · split
        · rfl
        · split <;> rfl
  unfold syncS
  split
  · rw [hm]
  · show (mayS s).2.now.length = _
    rw [hm]
theorem contW_now (first N g M I F : Nat) (b : List UInt8) : ∀ (n k : Nat) (s : DS), (contW first N g M I F b n k s).2.now.length = s.now.length
  | 0, _, _ => rfl
  | n + 1, k, s => by
    have hs : (stepF first N g M I F b k s).2.now.length = s.now.length := by
      unfold stepF
      split
      · exact rowsW_now _ _ _ _ _
      · split
        · exact writeS_now _ _ _
        · exact syncS_now _
    show (if (stepF first N g M I F b k s).1 ≠ 0 then stepF first N g M I F b k s else contW first N g M I F b n (k + 1) (stepF first N g M I F b k s).2).2.now.length = _
    split
    · exact hs
    · rw [contW_now first N g M I F b n (k + 1), hs]
/-- Behind a change the log lies on its disk. -/
theorem settle_pb {w w' : World} {G : Nat} {L : PLay} {C CD : Nat → Prop} {s : DS} {l : LS} {len : Nat} {bg : Bool} {tv : Value} {N g : Nat} {b : List UInt8} {R : Int × DS} (hC : ∀ q, C q → q < w.heap.size) (h2 : ∀ q, CD q → C q) (h5 : C G) (h6 : ¬ CD G) (h7 : ∀ q, tv.ownBlock = some q → C q ∧ ¬ CD q) (hn : R.2.now.length = s.now.length)
    (h : SettleEnd w w' G L CD (sizeS s) l.n l.gen len bg tv N g b R) : Chg C w w' ∧
    ((R.1 ≠ 0 ∧ ∃ CD', OD w' L CD' R.2 ∧ (∀ q, CD' q → Fr C w w' q) ∧ ¬ CD' G ∧ (∀ q, tv.ownBlock = some q → Fr C w w' q ∧ ¬ CD' q) ∧ LogB w' G L.g (sizeS R.2) l.n l.gen len bg true tv) ∨
     (R.1 = 0 ∧ ∃ CD' tv', OD w' L CD' R.2 ∧ (∀ q, CD' q → Fr C w w' q) ∧ ¬ CD' G ∧ (∀ q, tv'.ownBlock = some q → Fr C w w' q ∧ ¬ CD' q) ∧ LogB w' G L.g (sizeS R.2) N g b.length bg false tv' ∧ Own w' 0 tv' (b.drop (b.length / 128 * 128)))) := by
  obtain ⟨CD', k1, k2, k3, k4, k5⟩ := h
  have hz : sizeS R.2 = sizeS s := by unfold sizeS halfS; rw [hn]
  have hGl := hC G h5
  have hsub : ∀ q, CD' q → Fr C w w' q := fun q hq => by
    rcases k2 q hq with e | e
    · exact .inl (h2 q e)
    · exact .inr ⟨e, k1.lt q hq⟩
  refine ⟨k4.weaken (fun q hq => by rcases hq with e | rfl; exact h2 q e; exact h5), ?_⟩
  rcases k5 with ⟨e, hL⟩ | ⟨e, tv', hL, hO, hT⟩
  · exact .inl ⟨e, CD', k1, hsub, k3 G hGl h6, fun q hq => ⟨.inl (h7 q hq).1, k3 q (hC q (h7 q hq).1) (h7 q hq).2⟩, by rw [hz]; exact hL⟩
  · exact .inr ⟨e, CD', tv', k1, hsub, k3 G hGl h6, fun q hq => ⟨.inr (hO.blocks q hq), hT q hq⟩, by rw [hz]; exact hL, hO.mono (Nat.zero_le _)⟩
theorem exec_alloc7 {a : Act} {o : Oper} {w : World} (ho : o.op = .alloc 55) : (execOp a.eval o).run Try.prog w = .ok (.value (.pointer (some ⟨w.heap.size, 0, none⟩))) (w.alloc (.cells #[.int .i64 0, .int .i64 0, .int .i64 0] 55)) := by
  unfold execOp
  simp only [ho]
  simp [go_sem]
theorem inB_next {n g : Nat} (h1 : 1 ≤ g) (h2 : g ≤ 1048576) : inB (n + 1) g = decide (n + 1 ≤ 1073741824) := by
  unfold inB
  rw [decide_eq_true (by omega : 1 ≤ n + 1), decide_eq_true h1, decide_eq_true h2]
  simp
set_option maxRecDepth 100000 in
set_option maxHeartbeats 8000000 in
theorem pb_commit {w : World} {G : Nat} {L : PLay} {C : Nat → Prop} {s : DS} {l : LS} (h : PB w G L C s l) :
    Calls Try.prog 13 #[.pointer (some ⟨G, 0, none⟩)] w fun e w' => e = .returned (.int .i64 (commitW s l).1) ∧ PB w' G L (Fr C w w') (commitW s l).2.1 (commitW s l).2.2 ∧ Chg C w w' := by
  obtain ⟨CD, len, bg, tv, tb, h1, h2, h3, h4, h5, h6, h7, h8, h9, h10⟩ := id h.body
  have HRD : Hid (Calls Try.prog 27 #[.pointer (some ⟨G, 0, none⟩)] w fun e w' => e = .returned (.int .i64 (readyE bg l.broke)) ∧ w' = w) := ready_any h3
  obtain ⟨R, hR⟩ : ∃ R, R = commitW s l := ⟨_, rfl⟩
  rw [← hR]
  unfold commitW at hR
  have hrefl : PB w G L (Fr C w w) s l := h.fr (Below.refl _ _)
  cases hk : l.broke with
  | true =>
    rw [hk, if_pos rfl] at hR
    rw [hk] at HRD
    have HR : Hid (R = (10, s, l)) := hR
    have HRD2 : Hid (Calls Try.prog 27 #[.pointer (some ⟨G, 0, none⟩)] w fun e w' => e = .returned (.int .i64 10) ∧ w' = w) := HRD
    clear hR hk HRD h10 h3
    go_enter Try.func13, Try.ntmps13
    go_wp2_with (go_at_call 27; refine HRD2.out.mono ?_; rintro e w1 ⟨rfl, rfl⟩)
    go_ret
    rw [HR.out]
    exact ⟨rfl, hrefl, Chg.refl _ _⟩
  | false =>
    rw [hk, if_neg (by decide)] at hR
    obtain ⟨e1, e2⟩ := h10 hk
    cases hg : l.begun with
    | false =>
      rw [hg, if_pos rfl] at hR
      rw [hk, e1, hg] at HRD
      have HR : Hid (R = (9, s, l)) := hR
      have HRD2 : Hid (Calls Try.prog 27 #[.pointer (some ⟨G, 0, none⟩)] w fun e w' => e = .returned (.int .i64 9) ∧ w' = w) := HRD
      clear hR hk HRD h10 h3 hg e1 e2
      go_enter Try.func13, Try.ntmps13
      go_wp2_with (go_at_call 27; refine HRD2.out.mono ?_; rintro e w1 ⟨rfl, rfl⟩)
      go_ret
      rw [HR.out]
      exact ⟨rfl, hrefl, Chg.refl _ _⟩
    | true =>
      rw [hg, if_neg (by decide)] at hR
      rw [hk, e1, hg] at HRD
      have HRD2 : Hid (Calls Try.prog 27 #[.pointer (some ⟨G, 0, none⟩)] w fun e w' => e = .returned (.int .i64 0) ∧ w' = w) := HRD
      obtain ⟨e3, e4⟩ := e2 hg
      have hsz := size_lt h1.d.ok h1.d.lay.max
      have hsu := h.sure
      have hbl := h.b
      have hn := h.n
      have hgn := h.gen
      have hg1 := h.one hg
      obtain ⟨ta, tc, rfl⟩ := Seg.shapeD h4.seg
      have htl : tb.length = l.b.length - l.sure / 128 * 128 := by rw [e4, List.length_drop]
      have hfl : len / 128 * 128 + tb.length = l.b.length := by rw [htl, e3]; omega
      have hGl : G < w.heap.size := Blk.lt h3
      have HFI : Hid (∀ W : World, Below w.heap.size w W → Calls Try.prog 31 #[.pointer (some ⟨G, 0, none⟩)] W fun e w' => e = .returned (.int .i64 (l.b.length : Int)) ∧ ∃ k, w' = W.drewN k) := fun W hW => by
        have := filled_any (Blk.below h3 hW hGl) (by omega) (by omega)
        rw [hfl] at this
        exact this
      have HFU : Hid (∀ W : World, Below w.heap.size w W → Calls Try.prog 34 #[.pointer (some ⟨G, 0, none⟩)] W fun e w' => e = .returned (.int .i64 ((l.sure / 128 : Nat) : Int)) ∧ w' = W) := fun W hW => by
        have := full_any (Blk.below h3 hW hGl) (by omega)
        rw [e3] at this
        exact this
      have HLB : Hid (∀ W : World, Below w.heap.size w W → LogB W G L.g (sizeS s) l.n l.gen len bg l.broke (.slice ta tb.length tc)) := fun W hW => Blk.below h3 hW hGl
      have HCL : Hid (∀ W : World, Below w.heap.size w W → W.rangeAt G 2 [.int .i64 (l.n : Int), .int .i64 (l.gen : Int), .int .i64 (len : Int)] ∧ W.cell? ⟨G, 3, none⟩ = some (.int .i64 (l.gen : Int)) ∧ W.cell? ⟨G, 4, none⟩ = some (.int .i64 (len : Int)) ∧ W.cell? ⟨G, 7, none⟩ = some (.slice ta tb.length tc)) := fun W hW => by
        have hb := HLB.out W hW
        exact ⟨Blk.range hb 2 _ (fun j v hv => by
          match j, hv with
          | 0, hv => exact hv
          | 1, hv => exact hv
          | 2, hv => exact hv
          | (k + 3), hv => simp at hv), hb.cell (j := 3) rfl, hb.cell (j := 4) rfl, hb.cell (j := 7) rfl⟩
      have hgs : G ≠ w.heap.size := by omega
      have HSE : Hid (∀ W : World, Below w.heap.size w W → ∀ gb, Blk W gb 55 #[.int .i64 ((l.n + 1 : Nat) : Int), .int .i64 (l.gen : Int), .int .i64 (l.b.length : Int)] → w.heap.size ≤ gb → Calls Try.prog 33 #[.pointer (some ⟨G, 0, none⟩), headV (l.n + 1) l.gen l.b.length, .int .i64 ((l.sure / 128 : Nat) : Int), .slice ta tb.length tc] W fun e w' => e = .returned (.int .i64 (writeW s l.n l.gen l.sure l.b).1) ∧ SettleEnd W w' G L CD (sizeS s) l.n l.gen len bg (.slice ta tb.length tc) (l.n + 1) l.gen l.b (writeW s l.n l.gen l.sure l.b)) := fun W hW gb _ _ => by
        rw [writeW_steps s l.n l.gen l.sure (l.b.length + 1) l.b (by omega)]
        have hh : sizeS s / 128 = halfS s := by unfold sizeS; omega
        rw [← hh]
        have hL' : LogB W G L.g (sizeS s) l.n l.gen len bg false (.slice ta tb.length tc) := by have := HLB.out W hW; rw [hk] at this; exact this
        refine settle_any (l.n + 1) l.gen (l.sure / 128) _ hL' (h1.after hW) h6 l.b (by omega) ⟨by rw [← e4]; exact (h4.below hW (Nat.le_refl _)).seg, fun _ q hq => (h7 q hq).2⟩ (fun _ q hq e => ?_) (by omega) (by omega) (by omega) (l.b.length + 1) (by omega) (by omega) (by omega)
        obtain ⟨c', f', hcf⟩ := own_cells h4 hq
        rw [e, show _ = _ from h3] at hcf
        cases hcf
      have HIB : Hid (inB (l.n + 1) l.gen = decide (l.n + 1 ≤ 1073741824)) := inB_next hg1 hgn
      have HNW : Hid ((writeW s l.n l.gen l.sure l.b).2.now.length = s.now.length) := by
        show _ = _
        rw [writeW_steps s l.n l.gen l.sure (l.b.length + 1) l.b (by omega)]
        exact contW_now _ _ _ _ _ _ _ _ _ _
      have HBG : Hid (bg = true ∧ l.broke = false ∧ len = l.sure) := ⟨e1.trans hg, hk, e3⟩
      have hneq : (l.sure = l.b.length) ↔ ((l.b.length : Int) == (len : Int)) = true := by rw [e3, beq_iff_eq]; omega
      clear HRD h10 e1 e2 e4 htl hfl
      go_enter Try.func13, Try.ntmps13
      go_wp2_with fail
      refine HRD2.out.mono ?_
      rintro e w1 ⟨rfl, hw1⟩
      obtain rfl := hw1.symm
      clear hw1 HRD2
      go_wp2_with fail
      have hS0 := HCL.out w.drew ((Below.refl _ _).drew)
      refine Code.wp_mono (Q := fun e a' W' => e = .normal ∧ ∃ gb, a' = { tmps := #[.pointer (some ⟨G, 0, none⟩), undef, .int .i64 0, .int .i64 0, .pointer (some ⟨gb, 0, none⟩), .pointer (some ⟨G, 0, none⟩), .int .i64 0, .int .i64 0, .bool false, undef, .pointer (some ⟨G, 0, none⟩), .pointer (some ⟨G, 0, none⟩), .pointer (some ⟨G, 2, none⟩), headV l.n l.gen len, .pointer (some ⟨G, 0, none⟩), .pointer (some ⟨G, 0, none⟩), .pointer (some ⟨G, 2, none⟩), .pointer (some ⟨G, 3, none⟩), .int .i64 (l.gen : Int), .pointer (some ⟨G, 0, none⟩), .int .i64 (l.b.length : Int), headV (l.n + 1) l.gen l.b.length, undef, undef, undef, undef, undef, undef, undef, undef, undef, undef, undef, undef, undef, undef, undef, undef, undef, undef, undef, undef], defers := [] } ∧ w.heap.size ≤ gb ∧ Blk W' gb 55 #[.int .i64 ((l.n + 1 : Nat) : Int), .int .i64 (l.gen : Int), .int .i64 (l.b.length : Int)] ∧ Below w.heap.size w W') ?_ ?_
      rotate_left
      · refine held_begin (fun V => V.rangeAt G 2 [.int .i64 (l.n : Int), .int .i64 (l.gen : Int), .int .i64 (len : Int)] ∧ V.cell? ⟨G, 3, none⟩ = some (.int .i64 (l.gen : Int)) ∧ V.cell? ⟨G, 4, none⟩ = some (.int .i64 (len : Int)) ∧ V.cell? ⟨G, 7, none⟩ = some (.slice ta tb.length tc)) (by kernel_rfl) ?_
        refine held_take 0 10 _ (.pointer (some ⟨G, 0, none⟩)) rfl rfl (by kernel_rfl) (by kernel_rfl) (by kernel_rfl) rfl hS0 (fun _ _ => rfl) ?_
        simp only [Act.put, List.setIfInBounds_toArray, List.set_cons_succ, List.set_cons_zero]
        refine held_take 1 11 _ (.pointer (some ⟨G, 0, none⟩)) rfl rfl (by kernel_rfl) (by kernel_rfl) (by kernel_rfl) rfl hS0 (fun _ _ => rfl) ?_
        simp only [Act.put, List.setIfInBounds_toArray, List.set_cons_succ, List.set_cons_zero]
        refine held_take 2 12 _ (.pointer (some ⟨G, 2, none⟩)) rfl rfl (by kernel_rfl) (by kernel_rfl) (by kernel_rfl) rfl hS0 (fun _ _ => rfl) ?_
        simp only [Act.put, List.setIfInBounds_toArray, List.set_cons_succ, List.set_cons_zero]
        refine held_take 3 13 _ (headV l.n l.gen len) rfl rfl (by kernel_rfl) (by kernel_rfl) (by kernel_rfl) rfl hS0 (fun V hV => exec_load 55 _ rfl G 2 rfl [.int .i64 (l.n : Int), .int .i64 (l.gen : Int), .int .i64 (len : Int)] _ hV.1 Try.underlying55 rfl Try.info55s) ?_
        simp only [Act.put, List.setIfInBounds_toArray, List.set_cons_succ, List.set_cons_zero]
        refine held_take 4 14 _ (.pointer (some ⟨G, 0, none⟩)) rfl rfl (by kernel_rfl) (by kernel_rfl) (by kernel_rfl) rfl hS0 (fun _ _ => rfl) ?_
        simp only [Act.put, List.setIfInBounds_toArray, List.set_cons_succ, List.set_cons_zero]
        refine held_take 5 15 _ (.pointer (some ⟨G, 0, none⟩)) rfl rfl (by kernel_rfl) (by kernel_rfl) (by kernel_rfl) rfl hS0 (fun _ _ => rfl) ?_
        simp only [Act.put, List.setIfInBounds_toArray, List.set_cons_succ, List.set_cons_zero]
        refine held_take 6 16 _ (.pointer (some ⟨G, 2, none⟩)) rfl rfl (by kernel_rfl) (by kernel_rfl) (by kernel_rfl) rfl hS0 (fun _ _ => rfl) ?_
        simp only [Act.put, List.setIfInBounds_toArray, List.set_cons_succ, List.set_cons_zero]
        refine held_take 7 17 _ (.pointer (some ⟨G, 3, none⟩)) rfl rfl (by kernel_rfl) (by kernel_rfl) (by kernel_rfl) rfl hS0 (fun _ _ => rfl) ?_
        simp only [Act.put, List.setIfInBounds_toArray, List.set_cons_succ, List.set_cons_zero]
        refine held_take 8 18 _ (.int .i64 (l.gen : Int)) rfl rfl (by kernel_rfl) (by kernel_rfl) (by kernel_rfl) rfl hS0 (fun V hV => exec_loadc 3 _ rfl _ _ rfl (load_one 3 (fun _ => by kernel_rfl) V _ _ _ hV.2.1)) ?_
        simp only [Act.put, List.setIfInBounds_toArray, List.set_cons_succ, List.set_cons_zero]
        refine held_take 9 19 _ (.pointer (some ⟨G, 0, none⟩)) rfl rfl (by kernel_rfl) (by kernel_rfl) (by kernel_rfl) rfl hS0 (fun _ _ => rfl) ?_
        simp only [Act.put, List.setIfInBounds_toArray, List.set_cons_succ, List.set_cons_zero]
        refine held_all2 10 12 (by kernel_rfl) ?_ ?_
        · refine op_call 10 20 _ 31 #[.pointer (some ⟨G, 0, none⟩)] rfl rfl rfl (exec_one 31 _ _ rfl _ rfl Try.call31) ((HFI.out _ ((Below.refl w.heap.size w).drew)).mono ?_)
          rintro e W1 ⟨rfl, k1, rfl⟩
          have hx0 := Below.drewN (Below.refl (w.drew).heap.size w.drew) k1
          refine ⟨_, rfl, HCL.out _ (Below.drewN ((Below.refl w.heap.size w).drew) k1), ?_⟩
          simp only [Act.put, List.setIfInBounds_toArray, List.set_cons_succ, List.set_cons_zero]
          refine held_all2 11 12 (by kernel_rfl) ?_ ?_
          · refine op_call 11 21 _ 30 #[headV l.n l.gen len, .int .i64 (l.gen : Int), .int .i64 (l.b.length : Int)] rfl rfl rfl (exec_three8 30 _ _ _ _ rfl _ _ _ rfl rfl rfl Try.call30) ((follow_any l.n l.gen len l.gen l.b.length _ (by omega)).mono ?_)
            rintro e W2 ⟨rfl, hx1⟩
            refine ⟨_, rfl, HCL.out _ ((Below.drewN ((Below.refl w.heap.size w).drew) k1).trans (hx1.mono (Below.drewN ((Below.refl w.heap.size w).drew) k1).size)), ?_⟩
            simp only [Act.put, List.setIfInBounds_toArray, List.set_cons_succ, List.set_cons_zero]
            have hkA : Blk (W2.alloc (.cells #[.int .i64 0, .int .i64 0, .int .i64 0] 55)) W2.heap.size 55 #[.int .i64 0, .int .i64 0, .int .i64 0] := Blk.new _ _ _
            have hlA : w.heap.size ≤ W2.heap.size := ((Below.drewN ((Below.refl w.heap.size w).drew) k1).trans (hx1.mono (Below.drewN ((Below.refl w.heap.size w).drew) k1).size)).size
            refine held_all1 12 (by kernel_rfl) (op_value 12 4 _ (.pointer (some ⟨W2.heap.size, 0, none⟩)) _ rfl rfl rfl (exec_alloc7 rfl) ⟨HCL.out _ (((Below.drewN ((Below.refl w.heap.size w).drew) k1).trans (hx1.mono (Below.drewN ((Below.refl w.heap.size w).drew) k1).size)).alloc ((Below.drewN ((Below.refl w.heap.size w).drew) k1).trans (hx1.mono (Below.drewN ((Below.refl w.heap.size w).drew) k1).size)).size _), ?_⟩)
            simp only [Act.put, List.setIfInBounds_toArray, List.set_cons_succ, List.set_cons_zero]
            refine held_all1 13 (by kernel_rfl) (op_row 13 _ rfl rfl rfl 55 _ _ rfl _ #[.int .i64 ((l.n + 1 : Nat) : Int), .int .i64 (l.gen : Int), .int .i64 (l.b.length : Int)] rfl rfl 55 _ (hkA) Try.info55s rfl (by simp [Value.oneCell']) ?_)
            intro W9 hb9 hg9 hs9
            have hB9 : Below w.heap.size w W9 := below_grown (((Below.drewN ((Below.refl w.heap.size w).drew) k1).trans (hx1.mono (Below.drewN ((Below.refl w.heap.size w).drew) k1).size)).alloc ((Below.drewN ((Below.refl w.heap.size w).drew) k1).trans (hx1.mono (Below.drewN ((Below.refl w.heap.size w).drew) k1).size)).size _) hg9 (((Below.drewN ((Below.refl w.heap.size w).drew) k1).trans (hx1.mono (Below.drewN ((Below.refl w.heap.size w).drew) k1).size)).alloc ((Below.drewN ((Below.refl w.heap.size w).drew) k1).trans (hx1.mono (Below.drewN ((Below.refl w.heap.size w).drew) k1).size)).size _).size (fun q hq => by cases hq; exact hlA)
            refine ⟨HCL.out W9 hB9, ?_⟩
            refine wpAnyH_done (by kernel_rfl) ?_ _
            refine NoPanic.normal ?_
            exact ⟨rfl, _, rfl, hlA, hb9, hB9⟩
          · have hkA : Blk ((w.drew.drewN k1).alloc (.cells #[.int .i64 0, .int .i64 0, .int .i64 0] 55)) (w.drew.drewN k1).heap.size 55 #[.int .i64 0, .int .i64 0, .int .i64 0] := Blk.new _ _ _
            have hlA : w.heap.size ≤ (w.drew.drewN k1).heap.size := (Below.drewN ((Below.refl w.heap.size w).drew) k1).size
            refine op_value 12 4 _ (.pointer (some ⟨(w.drew.drewN k1).heap.size, 0, none⟩)) _ rfl rfl rfl (exec_alloc7 rfl) ⟨HCL.out _ ((Below.drewN ((Below.refl w.heap.size w).drew) k1).alloc (Below.drewN ((Below.refl w.heap.size w).drew) k1).size _), ?_⟩
            simp only [Act.put, List.setIfInBounds_toArray, List.set_cons_succ, List.set_cons_zero]
            refine held_all1 11 (by kernel_rfl) (op_call 11 21 _ 30 #[headV l.n l.gen len, .int .i64 (l.gen : Int), .int .i64 (l.b.length : Int)] rfl rfl rfl (exec_three8 30 _ _ _ _ rfl _ _ _ rfl rfl rfl Try.call30) ((follow_any l.n l.gen len l.gen l.b.length _ (by omega)).mono ?_))
            rintro e W2 ⟨rfl, hx1⟩
            refine ⟨_, rfl, HCL.out _ (((Below.drewN ((Below.refl w.heap.size w).drew) k1).alloc (Below.drewN ((Below.refl w.heap.size w).drew) k1).size _).trans (hx1.mono ((Below.drewN ((Below.refl w.heap.size w).drew) k1).alloc (Below.drewN ((Below.refl w.heap.size w).drew) k1).size _).size)), ?_⟩
            simp only [Act.put, List.setIfInBounds_toArray, List.set_cons_succ, List.set_cons_zero]
            refine held_all1 13 (by kernel_rfl) (op_row 13 _ rfl rfl rfl 55 _ _ rfl _ #[.int .i64 ((l.n + 1 : Nat) : Int), .int .i64 (l.gen : Int), .int .i64 (l.b.length : Int)] rfl rfl 55 _ (hkA.below hx1 hkA.lt) Try.info55s rfl (by simp [Value.oneCell']) ?_)
            intro W9 hb9 hg9 hs9
            have hB9 : Below w.heap.size w W9 := below_grown (((Below.drewN ((Below.refl w.heap.size w).drew) k1).alloc (Below.drewN ((Below.refl w.heap.size w).drew) k1).size _).trans (hx1.mono ((Below.drewN ((Below.refl w.heap.size w).drew) k1).alloc (Below.drewN ((Below.refl w.heap.size w).drew) k1).size _).size)) hg9 (((Below.drewN ((Below.refl w.heap.size w).drew) k1).alloc (Below.drewN ((Below.refl w.heap.size w).drew) k1).size _).trans (hx1.mono ((Below.drewN ((Below.refl w.heap.size w).drew) k1).alloc (Below.drewN ((Below.refl w.heap.size w).drew) k1).size _).size)).size (fun q hq => by cases hq; exact hlA)
            refine ⟨HCL.out W9 hB9, ?_⟩
            refine wpAnyH_done (by kernel_rfl) ?_ _
            refine NoPanic.normal ?_
            exact ⟨rfl, _, rfl, hlA, hb9, hB9⟩
        · have hkA : Blk (w.drew.alloc (.cells #[.int .i64 0, .int .i64 0, .int .i64 0] 55)) w.drew.heap.size 55 #[.int .i64 0, .int .i64 0, .int .i64 0] := Blk.new _ _ _
          have hlA : w.heap.size ≤ w.drew.heap.size := ((Below.refl w.heap.size w).drew).size
          refine op_value 12 4 _ (.pointer (some ⟨w.drew.heap.size, 0, none⟩)) _ rfl rfl rfl (exec_alloc7 rfl) ⟨HCL.out _ (((Below.refl w.heap.size w).drew).alloc ((Below.refl w.heap.size w).drew).size _), ?_⟩
          simp only [Act.put, List.setIfInBounds_toArray, List.set_cons_succ, List.set_cons_zero]
          refine held_all1 10 (by kernel_rfl) (op_call 10 20 _ 31 #[.pointer (some ⟨G, 0, none⟩)] rfl rfl rfl (exec_one 31 _ _ rfl _ rfl Try.call31) ((HFI.out _ (((Below.refl w.heap.size w).drew).alloc ((Below.refl w.heap.size w).drew).size _)).mono ?_))
          rintro e W1 ⟨rfl, k1, rfl⟩
          have hx0 := Below.drewN (Below.refl ((w.drew.alloc (.cells #[.int .i64 0, .int .i64 0, .int .i64 0] 55))).heap.size (w.drew.alloc (.cells #[.int .i64 0, .int .i64 0, .int .i64 0] 55))) k1
          refine ⟨_, rfl, HCL.out _ (Below.drewN (((Below.refl w.heap.size w).drew).alloc ((Below.refl w.heap.size w).drew).size _) k1), ?_⟩
          simp only [Act.put, List.setIfInBounds_toArray, List.set_cons_succ, List.set_cons_zero]
          refine held_all1 11 (by kernel_rfl) (op_call 11 21 _ 30 #[headV l.n l.gen len, .int .i64 (l.gen : Int), .int .i64 (l.b.length : Int)] rfl rfl rfl (exec_three8 30 _ _ _ _ rfl _ _ _ rfl rfl rfl Try.call30) ((follow_any l.n l.gen len l.gen l.b.length _ (by omega)).mono ?_))
          rintro e W2 ⟨rfl, hx1⟩
          refine ⟨_, rfl, HCL.out _ ((Below.drewN (((Below.refl w.heap.size w).drew).alloc ((Below.refl w.heap.size w).drew).size _) k1).trans (hx1.mono (Below.drewN (((Below.refl w.heap.size w).drew).alloc ((Below.refl w.heap.size w).drew).size _) k1).size)), ?_⟩
          simp only [Act.put, List.setIfInBounds_toArray, List.set_cons_succ, List.set_cons_zero]
          refine held_all1 13 (by kernel_rfl) (op_row 13 _ rfl rfl rfl 55 _ _ rfl _ #[.int .i64 ((l.n + 1 : Nat) : Int), .int .i64 (l.gen : Int), .int .i64 (l.b.length : Int)] rfl rfl 55 _ ((hkA.below hx0 hkA.lt).below hx1 (hkA.below hx0 hkA.lt).lt) Try.info55s rfl (by simp [Value.oneCell']) ?_)
          intro W9 hb9 hg9 hs9
          have hB9 : Below w.heap.size w W9 := below_grown ((Below.drewN (((Below.refl w.heap.size w).drew).alloc ((Below.refl w.heap.size w).drew).size _) k1).trans (hx1.mono (Below.drewN (((Below.refl w.heap.size w).drew).alloc ((Below.refl w.heap.size w).drew).size _) k1).size)) hg9 ((Below.drewN (((Below.refl w.heap.size w).drew).alloc ((Below.refl w.heap.size w).drew).size _) k1).trans (hx1.mono (Below.drewN (((Below.refl w.heap.size w).drew).alloc ((Below.refl w.heap.size w).drew).size _) k1).size)).size (fun q hq => by cases hq; exact hlA)
          refine ⟨HCL.out W9 hB9, ?_⟩
          refine wpAnyH_done (by kernel_rfl) ?_ _
          refine NoPanic.normal ?_
          exact ⟨rfl, _, rfl, hlA, hb9, hB9⟩
      rintro e a' W4 ⟨rfl, gb, rfl, hgb, hkb, hB4⟩
      have hK2 : W4.cell? ⟨gb, 2, none⟩ = some (.int .i64 (l.b.length : Int)) := hkb.cell (j := 2) rfl
      have hK4 := (HCL.out W4 hB4).2.2.1
      have hS5 : W4.drew.cell? ⟨gb, 2, none⟩ = some (.int .i64 (l.b.length : Int)) ∧ W4.drew.cell? ⟨G, 4, none⟩ = some (.int .i64 (len : Int)) := ⟨hK2, hK4⟩
      have hB5 : Below w.heap.size w W4.drew := hB4.drew
      have hkr : W4.drew.rangeAt gb 0 [.int .i64 ((l.n + 1 : Nat) : Int), .int .i64 (l.gen : Int), .int .i64 (l.b.length : Int)] := Blk.range (w := W4.drew) hkb 0 _ (fun j v hv => by
          match j, hv with
          | 0, hv => exact hv
          | 1, hv => exact hv
          | 2, hv => exact hv
          | (k + 3), hv => simp at hv)
      go_wp2_with fail
      by_cases heq : l.sure = l.b.length
      · have H5 : ((l.b.length : Int) == (len : Int)) = true := hneq.1 heq
        rw [if_pos heq] at hR
        have HR : Hid (R = (0, s, l)) := hR
        clear hR hneq
        refine held_begin (fun V => V.cell? ⟨gb, 2, none⟩ = some (.int .i64 (l.b.length : Int)) ∧ V.cell? ⟨G, 4, none⟩ = some (.int .i64 (len : Int))) (by kernel_rfl) ?_
        refine held_take 0 22 _ (.pointer (some ⟨gb, 2, none⟩)) rfl rfl (by kernel_rfl) (by kernel_rfl) (by kernel_rfl) rfl hS5 (fun _ _ => rfl) ?_
        simp only [Act.put, List.setIfInBounds_toArray, List.set_cons_succ, List.set_cons_zero]
        refine held_take 1 23 _ (.int .i64 (l.b.length : Int)) rfl rfl (by kernel_rfl) (by kernel_rfl) (by kernel_rfl) rfl hS5 (fun V hV => exec_loadc 3 _ rfl _ _ rfl (load_one 3 (fun _ => by kernel_rfl) V _ _ _ hV.1)) ?_
        simp only [Act.put, List.setIfInBounds_toArray, List.set_cons_succ, List.set_cons_zero]
        refine held_take 2 24 _ (.pointer (some ⟨G, 0, none⟩)) rfl rfl (by kernel_rfl) (by kernel_rfl) (by kernel_rfl) rfl hS5 (fun _ _ => rfl) ?_
        simp only [Act.put, List.setIfInBounds_toArray, List.set_cons_succ, List.set_cons_zero]
        refine held_take 3 25 _ (.pointer (some ⟨G, 0, none⟩)) rfl rfl (by kernel_rfl) (by kernel_rfl) (by kernel_rfl) rfl hS5 (fun _ _ => rfl) ?_
        simp only [Act.put, List.setIfInBounds_toArray, List.set_cons_succ, List.set_cons_zero]
        refine held_take 4 26 _ (.pointer (some ⟨G, 2, none⟩)) rfl rfl (by kernel_rfl) (by kernel_rfl) (by kernel_rfl) rfl hS5 (fun _ _ => rfl) ?_
        simp only [Act.put, List.setIfInBounds_toArray, List.set_cons_succ, List.set_cons_zero]
        refine held_take 5 27 _ (.pointer (some ⟨G, 4, none⟩)) rfl rfl (by kernel_rfl) (by kernel_rfl) (by kernel_rfl) rfl hS5 (fun _ _ => rfl) ?_
        simp only [Act.put, List.setIfInBounds_toArray, List.set_cons_succ, List.set_cons_zero]
        refine held_take 6 28 _ (.int .i64 (len : Int)) rfl rfl (by kernel_rfl) (by kernel_rfl) (by kernel_rfl) rfl hS5 (fun V hV => exec_loadc 3 _ rfl _ _ rfl (load_one 3 (fun _ => by kernel_rfl) V _ _ _ hV.2)) ?_
        simp only [Act.put, List.setIfInBounds_toArray, List.set_cons_succ, List.set_cons_zero]
        refine held_take 7 29 _ (.bool true) rfl rfl (by kernel_rfl) (by kernel_rfl) (by kernel_rfl) rfl hS5 (fun V _ => exec_eql7 _ _ _ rfl _ _ _ rfl rfl (fun _ => rfl) H5) ?_
        simp only [Act.put, List.setIfInBounds_toArray, List.set_cons_succ, List.set_cons_zero]
        refine wpAnyH_done (by kernel_rfl) ?_ _
        refine NoPanic.normal ?_
        go_wp2_with fail
        go_ret
        rw [HR.out]
        exact ⟨rfl, h.fr hB5, Chg.of_below hB5 (Nat.le_refl _)⟩
      have H5 : ((l.b.length : Int) == (len : Int)) = false := by
        rw [Bool.eq_false_iff]
        exact fun e => heq (hneq.2 e)
      rw [if_neg heq] at hR
      refine held_begin (fun V => V.cell? ⟨gb, 2, none⟩ = some (.int .i64 (l.b.length : Int)) ∧ V.cell? ⟨G, 4, none⟩ = some (.int .i64 (len : Int))) (by kernel_rfl) ?_
      refine held_take 0 22 _ (.pointer (some ⟨gb, 2, none⟩)) rfl rfl (by kernel_rfl) (by kernel_rfl) (by kernel_rfl) rfl hS5 (fun _ _ => rfl) ?_
      simp only [Act.put, List.setIfInBounds_toArray, List.set_cons_succ, List.set_cons_zero]
      refine held_take 1 23 _ (.int .i64 (l.b.length : Int)) rfl rfl (by kernel_rfl) (by kernel_rfl) (by kernel_rfl) rfl hS5 (fun V hV => exec_loadc 3 _ rfl _ _ rfl (load_one 3 (fun _ => by kernel_rfl) V _ _ _ hV.1)) ?_
      simp only [Act.put, List.setIfInBounds_toArray, List.set_cons_succ, List.set_cons_zero]
      refine held_take 2 24 _ (.pointer (some ⟨G, 0, none⟩)) rfl rfl (by kernel_rfl) (by kernel_rfl) (by kernel_rfl) rfl hS5 (fun _ _ => rfl) ?_
      simp only [Act.put, List.setIfInBounds_toArray, List.set_cons_succ, List.set_cons_zero]
      refine held_take 3 25 _ (.pointer (some ⟨G, 0, none⟩)) rfl rfl (by kernel_rfl) (by kernel_rfl) (by kernel_rfl) rfl hS5 (fun _ _ => rfl) ?_
      simp only [Act.put, List.setIfInBounds_toArray, List.set_cons_succ, List.set_cons_zero]
      refine held_take 4 26 _ (.pointer (some ⟨G, 2, none⟩)) rfl rfl (by kernel_rfl) (by kernel_rfl) (by kernel_rfl) rfl hS5 (fun _ _ => rfl) ?_
      simp only [Act.put, List.setIfInBounds_toArray, List.set_cons_succ, List.set_cons_zero]
      refine held_take 5 27 _ (.pointer (some ⟨G, 4, none⟩)) rfl rfl (by kernel_rfl) (by kernel_rfl) (by kernel_rfl) rfl hS5 (fun _ _ => rfl) ?_
      simp only [Act.put, List.setIfInBounds_toArray, List.set_cons_succ, List.set_cons_zero]
      refine held_take 6 28 _ (.int .i64 (len : Int)) rfl rfl (by kernel_rfl) (by kernel_rfl) (by kernel_rfl) rfl hS5 (fun V hV => exec_loadc 3 _ rfl _ _ rfl (load_one 3 (fun _ => by kernel_rfl) V _ _ _ hV.2)) ?_
      simp only [Act.put, List.setIfInBounds_toArray, List.set_cons_succ, List.set_cons_zero]
      refine held_take 7 29 _ (.bool false) rfl rfl (by kernel_rfl) (by kernel_rfl) (by kernel_rfl) rfl hS5 (fun V _ => exec_eql7 _ _ _ rfl _ _ _ rfl rfl (fun _ => rfl) H5) ?_
      simp only [Act.put, List.setIfInBounds_toArray, List.set_cons_succ, List.set_cons_zero]
      refine wpAnyH_done (by kernel_rfl) ?_ _
      refine NoPanic.normal ?_
      have HIN : Hid (Calls Try.prog 32 #[headV (l.n + 1) l.gen l.b.length] W4.drew fun e w' => e = .returned (.bool (inB (l.n + 1) l.gen)) ∧ Below W4.drew.heap.size W4.drew w') := inB_any _ _ _ _
      rw [HIB.out] at HIN
      have hk0 : W4.drew.cell? ⟨gb, 0, none⟩ = some (.int .i64 ((l.n + 1 : Nat) : Int)) := Blk.cell (w := W4.drew) (j := 0) hkb rfl
      have hk1 : W4.drew.cell? ⟨gb, 1, none⟩ = some (.int .i64 (l.gen : Int)) := Blk.cell (w := W4.drew) (j := 1) hkb rfl
      have hk2 : W4.drew.cell? ⟨gb, 2, none⟩ = some (.int .i64 (l.b.length : Int)) := hS5.1
      by_cases hmx : 1073741824 ≤ l.n
      · rw [if_pos hmx] at hR
        have HR : Hid (R = (3, s, l)) := hR
        rw [decide_eq_false (by omega)] at HIN
        unfold headV at HIN
        clear hR hneq
        go_wp2_with fail
        refine HIN.out.mono ?_
        rintro e W7 ⟨rfl, hB7⟩
        have hB8 : Below w.heap.size w W7 := hB5.trans (hB7.mono hB5.size)
        go_wp2_with fail
        go_ret
        rw [HR.out]
        exact ⟨rfl, h.fr hB8, Chg.of_below hB8 (Nat.le_refl _)⟩
      rw [if_neg hmx] at hR
      rw [decide_eq_true (by omega)] at HIN
      unfold headV at HIN
      clear hneq
      go_wp2_with fail
      refine HIN.out.mono ?_
      rintro e W7 ⟨rfl, hB7⟩
      have hB8 : Below w.heap.size w W7 := hB5.trans (hB7.mono hB5.size)
      have hbD : Below w.heap.size w W7.drew := hB8.drew
      have hkD : Blk W7.drew gb 55 #[.int .i64 ((l.n + 1 : Nat) : Int), .int .i64 (l.gen : Int), .int .i64 (l.b.length : Int)] := Blk.drew (Blk.below (w := W4.drew) hkb hB7 (Blk.lt hkb))
      have hT : ∀ W : World, Blk W gb 55 #[.int .i64 ((l.n + 1 : Nat) : Int), .int .i64 (l.gen : Int), .int .i64 (l.b.length : Int)] → W.rangeAt gb 0 [.int .i64 ((l.n + 1 : Nat) : Int), .int .i64 (l.gen : Int), .int .i64 (l.b.length : Int)] := fun W hW => Blk.range hW 0 _ (fun j v hv => by
          match j, hv with
          | 0, hv => exact hv
          | 1, hv => exact hv
          | 2, hv => exact hv
          | (k + 3), hv => simp at hv)
      have hT0 := hT _ hkD
      obtain ⟨Y, hY⟩ : ∃ Y, Y = writeW s l.n l.gen l.sure l.b := ⟨_, rfl⟩
      have HST : Hid (Calls Try.prog 33 #[.pointer (some ⟨G, 0, none⟩), headV (l.n + 1) l.gen l.b.length, .int .i64 ((l.sure / 128 : Nat) : Int), .slice ta tb.length tc] W7.drew fun e w' => e = .returned (.int .i64 Y.1) ∧ SettleEnd W7.drew w' G L CD (sizeS s) l.n l.gen len bg (.slice ta tb.length tc) (l.n + 1) l.gen l.b Y) := by
        rw [hY]
        exact HSE.out W7.drew hbD gb hkD hgb
      rw [← hY] at HNW hR
      have hCDl : ∀ q, CD q → q < w.heap.size := fun q hq => h.lt q (h2 q hq)
      have HT8 : Hid (∀ W8, SettleEnd W7.drew W8 G L CD (sizeS s) l.n l.gen len bg (.slice ta tb.length tc) (l.n + 1) l.gen l.b Y → W8.rangeAt gb 0 [.int .i64 ((l.n + 1 : Nat) : Int), .int .i64 (l.gen : Int), .int .i64 (l.b.length : Int)]) := fun W8 hse => by
        obtain ⟨CD', k1, k2, k3, k4, k5⟩ := hse
        refine hT _ (Blk.chg hkD k4 ?_)
        rintro (e | e)
        · have := hCDl _ e
          omega
        · omega
      have HFIN : Hid (∀ W8, SettleEnd W7.drew W8 G L CD (sizeS s) l.n l.gen len bg (.slice ta tb.length tc) (l.n + 1) l.gen l.b Y → R.1 = Y.1 ∧ PB W8 G L (Fr C w W8) R.2.1 R.2.2 ∧ Chg C w W8) := fun W8 hse => by
        obtain ⟨hc, hh⟩ := settle_pb (C := C) (fun q hq => Nat.lt_of_lt_of_le (h.lt q hq) hbD.size) h2 h5 h6 h7 HNW.out hse
        obtain ⟨_, _, _, _, k4, _⟩ := hse
        have hcw : Chg C w W8 := (Chg.of_below hbD (Nat.le_refl _)).trans hc (fun _ _ => id)
        have hFr : ∀ q, Fr C W7.drew W8 q → Fr C w W8 q := fun q hq => hq.imp_right fun e => ⟨Nat.le_trans hbD.size e.1, e.2⟩
        have hlt8 : ∀ q, Fr C w W8 q → q < W8.heap.size := fr_lt h.lt hcw.size
        have h4' : Own W8 0 (.slice ta tb.length tc) tb := (h4.below hbD (Nat.le_refl _)).chg k4 (fun q hq e => by
          rcases e with e | e
          · exact (h7 q hq).2 e
          · obtain ⟨c', f', hcf⟩ := own_cells h4 hq
            rw [e, show _ = _ from h3] at hcf
            cases hcf)
        rcases hh with ⟨e0, CD', k1, k2, k3, k5, k6⟩ | ⟨e0, CD', tv', k1, k2, k3, k5, k6, k7⟩
        · rw [if_pos e0] at hR
          rw [hR]
          exact ⟨rfl, ⟨⟨CD', len, bg, _, tb, k1, fun q hq => hFr q (k2 q hq), k6, h4', .inl h5, k3, fun q hq => ⟨hFr q (k5 q hq).1, (k5 q hq).2⟩, h8, h9, fun e => by cases e⟩, hlt8, h.n, h.gen, h.b, h.sure, fun _ => hg1⟩, hcw⟩
        · rw [if_neg (by rw [e0]; simp)] at hR
          rw [hR]
          exact ⟨e0.symm, ⟨⟨CD', l.b.length, bg, tv', _, k1, fun q hq => hFr q (k2 q hq), k6, k7, .inl h5, k3, fun q hq => ⟨hFr q (k5 q hq).1, (k5 q hq).2⟩, h.b, by rw [List.length_drop]; have := h.b; omega, fun _ => ⟨HBG.out.1, fun _ => ⟨rfl, rfl⟩⟩⟩, hlt8, by show l.n + 1 ≤ _; omega, h.gen, h.b, Nat.le_refl _, fun _ => hg1⟩, hcw⟩
      clear hR
      go_wp2_with fail
      refine held_begin (fun V => V.rangeAt gb 0 [.int .i64 ((l.n + 1 : Nat) : Int), .int .i64 (l.gen : Int), .int .i64 (l.b.length : Int)]) (by kernel_rfl) ?_
      refine held_take 0 33 _ (.pointer (some ⟨G, 0, none⟩)) rfl rfl (by kernel_rfl) (by kernel_rfl) (by kernel_rfl) rfl hT0 (fun _ _ => rfl) ?_
      simp only [Act.put, List.setIfInBounds_toArray, List.set_cons_succ, List.set_cons_zero]
      refine held_take 1 34 _ (headV (l.n + 1) l.gen l.b.length) rfl rfl (by kernel_rfl) (by kernel_rfl) (by kernel_rfl) rfl hT0 (fun V hV => exec_load 55 _ rfl gb 0 rfl [.int .i64 ((l.n + 1 : Nat) : Int), .int .i64 (l.gen : Int), .int .i64 (l.b.length : Int)] _ hV Try.underlying55 rfl Try.info55s) ?_
      simp only [Act.put, List.setIfInBounds_toArray, List.set_cons_succ, List.set_cons_zero]
      refine held_take 2 35 _ (.pointer (some ⟨G, 0, none⟩)) rfl rfl (by kernel_rfl) (by kernel_rfl) (by kernel_rfl) rfl hT0 (fun _ _ => rfl) ?_
      simp only [Act.put, List.setIfInBounds_toArray, List.set_cons_succ, List.set_cons_zero]
      refine held_take 4 37 _ (.pointer (some ⟨G, 0, none⟩)) rfl rfl (by kernel_rfl) (by kernel_rfl) (by kernel_rfl) rfl hT0 (fun _ _ => rfl) ?_
      simp only [Act.put, List.setIfInBounds_toArray, List.set_cons_succ, List.set_cons_zero]
      refine held_take 5 38 _ (.pointer (some ⟨G, 0, none⟩)) rfl rfl (by kernel_rfl) (by kernel_rfl) (by kernel_rfl) rfl hT0 (fun _ _ => rfl) ?_
      simp only [Act.put, List.setIfInBounds_toArray, List.set_cons_succ, List.set_cons_zero]
      refine held_take 6 39 _ (.pointer (some ⟨G, 7, none⟩)) rfl rfl (by kernel_rfl) (by kernel_rfl) (by kernel_rfl) rfl hT0 (fun _ _ => rfl) ?_
      simp only [Act.put, List.setIfInBounds_toArray, List.set_cons_succ, List.set_cons_zero]
      refine held_all2 3 7 (by kernel_rfl) ?_ ?_
      · refine op_call 3 36 _ 34 #[.pointer (some ⟨G, 0, none⟩)] rfl rfl rfl (exec_one 34 _ _ rfl _ rfl Try.call34) ((HFU.out W7.drew hbD).mono ?_)
        rintro e W8 ⟨rfl, hw8⟩
        obtain rfl := hw8.symm
        clear hw8
        refine ⟨_, rfl, hT0, ?_⟩
        simp only [Act.put, List.setIfInBounds_toArray, List.set_cons_succ, List.set_cons_zero]
        refine held_all1 7 (by kernel_rfl) (op_value 7 40 _ (.slice ta tb.length tc) W7.drew rfl rfl rfl (exec_loadc 30 _ rfl _ _ rfl (load_one 30 (fun _ => by kernel_rfl) _ _ _ _ (HCL.out W7.drew hbD).2.2.2)) ⟨hT0, ?_⟩)
        simp only [Act.put, List.setIfInBounds_toArray, List.set_cons_succ, List.set_cons_zero]
        refine held_all1 8 (by kernel_rfl) (op_call 8 41 _ 33 #[.pointer (some ⟨G, 0, none⟩), headV (l.n + 1) l.gen l.b.length, .int .i64 ((l.sure / 128 : Nat) : Int), .slice ta tb.length tc] rfl rfl rfl (exec_four8 33 _ _ _ _ _ rfl _ _ _ _ rfl rfl rfl rfl Try.call33) (HST.out.mono ?_))
        rintro e W8 ⟨rfl, hse⟩
        have hT8 := HT8.out W8 hse
        refine ⟨_, rfl, hT8, ?_⟩
        simp only [Act.put, List.setIfInBounds_toArray, List.set_cons_succ, List.set_cons_zero]
        refine held_all1 9 (by kernel_rfl) (op_value 9 2 _ (.int .i64 Y.1) W8 rfl rfl rfl rfl ⟨hT8, ?_⟩)
        simp only [Act.put, List.setIfInBounds_toArray, List.set_cons_succ, List.set_cons_zero]
        refine wpAnyH_done (by kernel_rfl) ?_ _
        refine NoPanic.normal ?_
        obtain ⟨f1, f2, f3⟩ := HFIN.out W8 hse
        go_wp2_with fail
        go_ret
        rw [f1]
        exact ⟨rfl, f2, f3⟩
      · refine op_value 7 40 _ (.slice ta tb.length tc) W7.drew rfl rfl rfl (exec_loadc 30 _ rfl _ _ rfl (load_one 30 (fun _ => by kernel_rfl) _ _ _ _ (HCL.out W7.drew hbD).2.2.2)) ⟨hT0, ?_⟩
        simp only [Act.put, List.setIfInBounds_toArray, List.set_cons_succ, List.set_cons_zero]
        refine held_all1 3 (by kernel_rfl) (op_call 3 36 _ 34 #[.pointer (some ⟨G, 0, none⟩)] rfl rfl rfl (exec_one 34 _ _ rfl _ rfl Try.call34) ((HFU.out W7.drew hbD).mono ?_))
        rintro e W8 ⟨rfl, hw8⟩
        obtain rfl := hw8.symm
        clear hw8
        refine ⟨_, rfl, hT0, ?_⟩
        simp only [Act.put, List.setIfInBounds_toArray, List.set_cons_succ, List.set_cons_zero]
        refine held_all1 8 (by kernel_rfl) (op_call 8 41 _ 33 #[.pointer (some ⟨G, 0, none⟩), headV (l.n + 1) l.gen l.b.length, .int .i64 ((l.sure / 128 : Nat) : Int), .slice ta tb.length tc] rfl rfl rfl (exec_four8 33 _ _ _ _ _ rfl _ _ _ _ rfl rfl rfl rfl Try.call33) (HST.out.mono ?_))
        rintro e W8 ⟨rfl, hse⟩
        have hT8 := HT8.out W8 hse
        refine ⟨_, rfl, hT8, ?_⟩
        simp only [Act.put, List.setIfInBounds_toArray, List.set_cons_succ, List.set_cons_zero]
        refine held_all1 9 (by kernel_rfl) (op_value 9 2 _ (.int .i64 Y.1) W8 rfl rfl rfl rfl ⟨hT8, ?_⟩)
        simp only [Act.put, List.setIfInBounds_toArray, List.set_cons_succ, List.set_cons_zero]
        refine wpAnyH_done (by kernel_rfl) ?_ _
        refine NoPanic.normal ?_
        obtain ⟨f1, f2, f3⟩ := HFIN.out W8 hse
        go_wp2_with fail
        go_ret
        rw [f1]
        exact ⟨rfl, f2, f3⟩
end Go.Proofs.Ytcfnbmphonkbpaa
