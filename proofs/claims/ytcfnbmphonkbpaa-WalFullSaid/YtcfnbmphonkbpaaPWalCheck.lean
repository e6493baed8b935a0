/-
  What is proved here: the program's log: Checkpoint.
  Conditions: the disk and the log lie in memory.
-/
import Derived.Test.YtcfnbmphonkbpaaPWalSay
namespace Go.Proofs.Ytcfnbmphonkbpaa
open Go.RowKit

theorem exec_add8 {a : Act} {o : Oper} {w : World} (t : TypeId) (x y : Operand) (ho : o.op = .binOp .add t x y t) (m n r : Int) (hx : a.eval x = .int .i64 m) (hy : a.eval y = .int .i64 n) (h : IntKind.i64.wrap (m + n) = r) : (execOp a.eval o).run Try.prog w = .ok (.value (.int .i64 r)) w := by
  unfold execOp
  simp [ho, hx, hy]
  rw [← h]
  rfl
theorem inB_both {n g : Nat} : inB (n + 1) (g + 1) = decide (¬ (1048576 < g + 1 ∨ 1073741824 ≤ n)) := by
  unfold inB
  rw [decide_eq_true (by omega : 1 ≤ n + 1), decide_eq_true (by omega : 1 ≤ g + 1)]
  rw [Bool.eq_iff_iff]
  simp
  omega
set_option maxRecDepth 100000 in
set_option maxHeartbeats 8000000 in
theorem pb_check {w : World} {G : Nat} {L : PLay} {C : Nat → Prop} {s : DS} {l : LS} (h : PB w G L C s l) (x : Value) (st : List UInt8) (hS : Seg w x st) (hm : st.length ≤ 1000000) :
    Calls Try.prog 15 #[.pointer (some ⟨G, 0, none⟩), x] w fun e w' => e = .returned (.int .i64 (checkW s l st).1) ∧ PB w' G L (Fr C w w') (checkW s l st).2.1 (checkW s l st).2.2 ∧ Chg C w w' := by
  obtain ⟨CD, len, bg, tv, tb, h1, h2, h3, h4, h5, h6, h7, h8, h9, h10⟩ := id h.body
  obtain ⟨ax, cx, rfl⟩ := Seg.shapeD hS
  obtain ⟨R, hR⟩ : ∃ R, R = checkW s l st := ⟨_, rfl⟩
  rw [← hR]
  unfold checkW at hR
  have hrefl : PB w G L (Fr C w w) s l := h.fr (Below.refl _ _)
  have hb6 : w.cell? ⟨G, 6, none⟩ = some (.bool l.broke) := h3.cell (j := 6) rfl
  cases hk : l.broke with
  | true =>
    rw [hk] at hb6
    rw [hk, if_pos rfl] at hR
    have HR : Hid (R = (10, s, l)) := hR
    clear hR hk h10 h3
    go_enter Try.func15, Try.ntmps15
    go_wp2_with fail
    go_ret
    rw [HR.out]
    exact ⟨rfl, hrefl, Chg.refl _ _⟩
  | false =>
    rw [hk] at hb6
    rw [hk, if_neg (by decide)] at hR
    have hsz := size_lt h1.d.ok h1.d.lay.max
    have hn := h.n
    have hgn := h.gen
    obtain ⟨ta, tc, rfl⟩ := Seg.shapeD h4.seg
    have hGl : G < w.heap.size := Blk.lt h3
    have hsl : (stateB st).length ≤ 1100000 := by rw [stateB_len]; omega
    have hsb : ∀ W : World, Below w.heap.size w W → Seg W (.slice ax st.length cx) st := fun W hW => hS.below hW (Nat.le_refl _)
    have HSZ : Hid (∀ W : World, Below w.heap.size w W → Calls Try.prog 35 #[.slice ax st.length cx] W fun e w' => e = .returned (.int .i64 ((stateB st).length : Int)) ∧ w' = W) := fun W hW => stateSz_any _ st W (hsb W hW) (by omega)
    have HSP : Hid (∀ W : World, Below w.heap.size w W → Calls Try.prog 36 #[.slice ax st.length cx] W fun e w' => ∃ v, e = .returned v ∧ Own w' W.heap.size v (stateB st) ∧ Below W.heap.size W w') := fun W hW => stateP_any _ st W (hsb W hW) hm
    obtain ⟨SB, hSB⟩ : ∃ SB, SB = stateB st := ⟨_, rfl⟩
    rw [← hSB] at HSZ HSP hsl hR
    have HLB : Hid (∀ W : World, Below w.heap.size w W → LogB W G L.g (sizeS s) l.n l.gen len bg false (.slice ta tb.length tc)) := fun W hW => by
      have := Blk.below h3 hW hGl
      rw [hk] at this
      exact this
    have HCL : Hid (∀ W : World, Below w.heap.size w W → W.rangeAt G 2 [.int .i64 (l.n : Int), .int .i64 (l.gen : Int), .int .i64 (len : Int)] ∧ W.cell? ⟨G, 3, none⟩ = some (.int .i64 (l.gen : Int)) ∧ W.cell? ⟨G, 1, none⟩ = some (.int .i64 (sizeS s : Int))) := fun W hW => by
      have hb := HLB.out W hW
      exact ⟨Blk.range hb 2 _ (fun j v hv => by
          match j, hv with
          | 0, hv => exact hv
          | 1, hv => exact hv
          | 2, hv => exact hv
          | (k + 3), hv => simp at hv), hb.cell (j := 3) rfl, hb.cell (j := 1) rfl⟩
    have hgs : G ≠ w.heap.size := by omega
    have hwr : IntKind.i64.wrap ((l.gen : Int) + 1) = ((l.gen + 1 : Nat) : Int) := by rw [IntKind.wrap_i64]; omega
    have HGT : Hid (∀ q, (Value.slice ta tb.length tc).ownBlock = some q → q ≠ G) := fun q hq e => by
      obtain ⟨c', f', hcf⟩ := own_cells h4 hq
      rw [e, show _ = _ from h3] at hcf
      cases hcf
    clear hrefl h10
    go_enter Try.func15, Try.ntmps15
    go_wp2_with fail
    have hS0 := HCL.out w.drew ((Below.refl _ _).drew)
    refine Code.wp_mono (Q := fun e a' W' => e = .normal ∧ ∃ gb, a' = { tmps := #[.pointer (some ⟨G, 0, none⟩), .slice ax st.length cx, undef, undef, .int .i64 0, .pointer (some ⟨gb, 0, none⟩), undef, .pointer (some ⟨G, 0, none⟩), .pointer (some ⟨G, 0, none⟩), .pointer (some ⟨G, 6, none⟩), .bool false, .pointer (some ⟨G, 0, none⟩), .pointer (some ⟨G, 0, none⟩), .pointer (some ⟨G, 2, none⟩), headV l.n l.gen len, .pointer (some ⟨G, 0, none⟩), .pointer (some ⟨G, 0, none⟩), .pointer (some ⟨G, 2, none⟩), .pointer (some ⟨G, 3, none⟩), .int .i64 (l.gen : Int), .int .i64 ((l.gen + 1 : Nat) : Int), .slice ax st.length cx, .int .i64 (SB.length : Int), headV (l.n + 1) (l.gen + 1) SB.length, undef, undef, undef, undef, undef, undef, undef, undef, undef, undef, undef, undef, undef, undef, undef, undef, undef, undef, undef, undef, undef, undef, undef], defers := [] } ∧ w.heap.size ≤ gb ∧ Blk W' gb 55 #[.int .i64 ((l.n + 1 : Nat) : Int), .int .i64 ((l.gen + 1 : Nat) : Int), .int .i64 (SB.length : Int)] ∧ Below w.heap.size w W') ?_ ?_
    rotate_left
    · refine held_begin (fun V => V.rangeAt G 2 [.int .i64 (l.n : Int), .int .i64 (l.gen : Int), .int .i64 (len : Int)] ∧ V.cell? ⟨G, 3, none⟩ = some (.int .i64 (l.gen : Int)) ∧ V.cell? ⟨G, 1, none⟩ = some (.int .i64 (sizeS s : Int))) (by kernel_rfl) ?_
      refine held_take 0 11 _ (.pointer (some ⟨G, 0, none⟩)) rfl rfl (by kernel_rfl) (by kernel_rfl) (by kernel_rfl) rfl hS0 (fun _ _ => rfl) ?_
      simp only [Act.put, List.setIfInBounds_toArray, List.set_cons_succ, List.set_cons_zero]
      refine held_take 1 12 _ (.pointer (some ⟨G, 0, none⟩)) rfl rfl (by kernel_rfl) (by kernel_rfl) (by kernel_rfl) rfl hS0 (fun _ _ => rfl) ?_
      simp only [Act.put, List.setIfInBounds_toArray, List.set_cons_succ, List.set_cons_zero]
      refine held_take 2 13 _ (.pointer (some ⟨G, 2, none⟩)) rfl rfl (by kernel_rfl) (by kernel_rfl) (by kernel_rfl) rfl hS0 (fun _ _ => rfl) ?_
      simp only [Act.put, List.setIfInBounds_toArray, List.set_cons_succ, List.set_cons_zero]
      refine held_take 3 14 _ (headV l.n l.gen len) rfl rfl (by kernel_rfl) (by kernel_rfl) (by kernel_rfl) rfl hS0 (fun V hV => exec_load 55 _ rfl G 2 rfl [.int .i64 (l.n : Int), .int .i64 (l.gen : Int), .int .i64 (len : Int)] _ hV.1 Try.underlying55 rfl Try.info55s) ?_
      simp only [Act.put, List.setIfInBounds_toArray, List.set_cons_succ, List.set_cons_zero]
      refine held_take 4 15 _ (.pointer (some ⟨G, 0, none⟩)) rfl rfl (by kernel_rfl) (by kernel_rfl) (by kernel_rfl) rfl hS0 (fun _ _ => rfl) ?_
      simp only [Act.put, List.setIfInBounds_toArray, List.set_cons_succ, List.set_cons_zero]
      refine held_take 5 16 _ (.pointer (some ⟨G, 0, none⟩)) rfl rfl (by kernel_rfl) (by kernel_rfl) (by kernel_rfl) rfl hS0 (fun _ _ => rfl) ?_
      simp only [Act.put, List.setIfInBounds_toArray, List.set_cons_succ, List.set_cons_zero]
      refine held_take 6 17 _ (.pointer (some ⟨G, 2, none⟩)) rfl rfl (by kernel_rfl) (by kernel_rfl) (by kernel_rfl) rfl hS0 (fun _ _ => rfl) ?_
      simp only [Act.put, List.setIfInBounds_toArray, List.set_cons_succ, List.set_cons_zero]
      refine held_take 7 18 _ (.pointer (some ⟨G, 3, none⟩)) rfl rfl (by kernel_rfl) (by kernel_rfl) (by kernel_rfl) rfl hS0 (fun _ _ => rfl) ?_
      simp only [Act.put, List.setIfInBounds_toArray, List.set_cons_succ, List.set_cons_zero]
      refine held_take 8 19 _ (.int .i64 (l.gen : Int)) rfl rfl (by kernel_rfl) (by kernel_rfl) (by kernel_rfl) rfl hS0 (fun V hV => exec_loadc 3 _ rfl _ _ rfl (load_one 3 (fun _ => by kernel_rfl) V _ _ _ hV.2.1)) ?_
      simp only [Act.put, List.setIfInBounds_toArray, List.set_cons_succ, List.set_cons_zero]
      refine held_take 9 20 _ (.int .i64 ((l.gen + 1 : Nat) : Int)) rfl rfl (by kernel_rfl) (by kernel_rfl) (by kernel_rfl) rfl hS0 (fun V _ => exec_add8 _ _ _ rfl _ _ _ rfl rfl hwr) ?_
      simp only [Act.put, List.setIfInBounds_toArray, List.set_cons_succ, List.set_cons_zero]
      refine held_take 10 21 _ (.slice ax st.length cx) rfl rfl (by kernel_rfl) (by kernel_rfl) (by kernel_rfl) rfl hS0 (fun _ _ => rfl) ?_
      simp only [Act.put, List.setIfInBounds_toArray, List.set_cons_succ, List.set_cons_zero]
      refine held_all2 11 13 (by kernel_rfl) ?_ ?_
      · refine op_call 11 22 _ 35 #[.slice ax st.length cx] rfl rfl rfl (exec_one 35 _ _ rfl _ rfl Try.call35) ((HSZ.out _ ((Below.refl w.heap.size w).drew)).mono ?_)
        rintro e W1 ⟨rfl, hw1⟩
        obtain rfl := hw1.symm
        clear hw1
        have hx0 := Below.refl (w.drew).heap.size w.drew
        refine ⟨_, rfl, HCL.out _ ((Below.refl w.heap.size w).drew), ?_⟩
        simp only [Act.put, List.setIfInBounds_toArray, List.set_cons_succ, List.set_cons_zero]
        refine held_all2 12 13 (by kernel_rfl) ?_ ?_
        · refine op_call 12 23 _ 30 #[headV l.n l.gen len, .int .i64 ((l.gen + 1 : Nat) : Int), .int .i64 (SB.length : Int)] rfl rfl rfl (exec_three8 30 _ _ _ _ rfl _ _ _ rfl rfl rfl Try.call30) ((follow_any l.n l.gen len (l.gen + 1) SB.length _ (by omega)).mono ?_)
          rintro e W2 ⟨rfl, hx1⟩
          refine ⟨_, rfl, HCL.out _ (((Below.refl w.heap.size w).drew).trans (hx1.mono ((Below.refl w.heap.size w).drew).size)), ?_⟩
          simp only [Act.put, List.setIfInBounds_toArray, List.set_cons_succ, List.set_cons_zero]
          have hkA : Blk (W2.alloc (.cells #[.int .i64 0, .int .i64 0, .int .i64 0] 55)) W2.heap.size 55 #[.int .i64 0, .int .i64 0, .int .i64 0] := Blk.new _ _ _
          have hlA : w.heap.size ≤ W2.heap.size := (((Below.refl w.heap.size w).drew).trans (hx1.mono ((Below.refl w.heap.size w).drew).size)).size
          refine held_all1 13 (by kernel_rfl) (op_value 13 5 _ (.pointer (some ⟨W2.heap.size, 0, none⟩)) _ rfl rfl rfl (exec_alloc7 rfl) ⟨HCL.out _ ((((Below.refl w.heap.size w).drew).trans (hx1.mono ((Below.refl w.heap.size w).drew).size)).alloc (((Below.refl w.heap.size w).drew).trans (hx1.mono ((Below.refl w.heap.size w).drew).size)).size _), ?_⟩)
          simp only [Act.put, List.setIfInBounds_toArray, List.set_cons_succ, List.set_cons_zero]
          refine held_all1 14 (by kernel_rfl) (op_row 14 _ rfl rfl rfl 55 _ _ rfl _ #[.int .i64 ((l.n + 1 : Nat) : Int), .int .i64 ((l.gen + 1 : Nat) : Int), .int .i64 (SB.length : Int)] rfl rfl 55 _ (hkA) Try.info55s rfl (by simp [Value.oneCell']) ?_)
          intro W9 hb9 hg9 hs9
          have hB9 : Below w.heap.size w W9 := below_grown ((((Below.refl w.heap.size w).drew).trans (hx1.mono ((Below.refl w.heap.size w).drew).size)).alloc (((Below.refl w.heap.size w).drew).trans (hx1.mono ((Below.refl w.heap.size w).drew).size)).size _) hg9 ((((Below.refl w.heap.size w).drew).trans (hx1.mono ((Below.refl w.heap.size w).drew).size)).alloc (((Below.refl w.heap.size w).drew).trans (hx1.mono ((Below.refl w.heap.size w).drew).size)).size _).size (fun q hq => by cases hq; exact hlA)
          refine ⟨HCL.out W9 hB9, ?_⟩
          refine wpAnyH_done (by kernel_rfl) ?_ _
          refine NoPanic.normal ?_
          exact ⟨rfl, _, rfl, hlA, hb9, hB9⟩
        · have hkA : Blk (w.drew.alloc (.cells #[.int .i64 0, .int .i64 0, .int .i64 0] 55)) w.drew.heap.size 55 #[.int .i64 0, .int .i64 0, .int .i64 0] := Blk.new _ _ _
          have hlA : w.heap.size ≤ w.drew.heap.size := ((Below.refl w.heap.size w).drew).size
          refine op_value 13 5 _ (.pointer (some ⟨w.drew.heap.size, 0, none⟩)) _ rfl rfl rfl (exec_alloc7 rfl) ⟨HCL.out _ (((Below.refl w.heap.size w).drew).alloc ((Below.refl w.heap.size w).drew).size _), ?_⟩
          simp only [Act.put, List.setIfInBounds_toArray, List.set_cons_succ, List.set_cons_zero]
          refine held_all1 12 (by kernel_rfl) (op_call 12 23 _ 30 #[headV l.n l.gen len, .int .i64 ((l.gen + 1 : Nat) : Int), .int .i64 (SB.length : Int)] rfl rfl rfl (exec_three8 30 _ _ _ _ rfl _ _ _ rfl rfl rfl Try.call30) ((follow_any l.n l.gen len (l.gen + 1) SB.length _ (by omega)).mono ?_))
          rintro e W2 ⟨rfl, hx1⟩
          refine ⟨_, rfl, HCL.out _ ((((Below.refl w.heap.size w).drew).alloc ((Below.refl w.heap.size w).drew).size _).trans (hx1.mono (((Below.refl w.heap.size w).drew).alloc ((Below.refl w.heap.size w).drew).size _).size)), ?_⟩
          simp only [Act.put, List.setIfInBounds_toArray, List.set_cons_succ, List.set_cons_zero]
          refine held_all1 14 (by kernel_rfl) (op_row 14 _ rfl rfl rfl 55 _ _ rfl _ #[.int .i64 ((l.n + 1 : Nat) : Int), .int .i64 ((l.gen + 1 : Nat) : Int), .int .i64 (SB.length : Int)] rfl rfl 55 _ (hkA.below hx1 hkA.lt) Try.info55s rfl (by simp [Value.oneCell']) ?_)
          intro W9 hb9 hg9 hs9
          have hB9 : Below w.heap.size w W9 := below_grown ((((Below.refl w.heap.size w).drew).alloc ((Below.refl w.heap.size w).drew).size _).trans (hx1.mono (((Below.refl w.heap.size w).drew).alloc ((Below.refl w.heap.size w).drew).size _).size)) hg9 ((((Below.refl w.heap.size w).drew).alloc ((Below.refl w.heap.size w).drew).size _).trans (hx1.mono (((Below.refl w.heap.size w).drew).alloc ((Below.refl w.heap.size w).drew).size _).size)).size (fun q hq => by cases hq; exact hlA)
          refine ⟨HCL.out W9 hB9, ?_⟩
          refine wpAnyH_done (by kernel_rfl) ?_ _
          refine NoPanic.normal ?_
          exact ⟨rfl, _, rfl, hlA, hb9, hB9⟩
      · have hkA : Blk (w.drew.alloc (.cells #[.int .i64 0, .int .i64 0, .int .i64 0] 55)) w.drew.heap.size 55 #[.int .i64 0, .int .i64 0, .int .i64 0] := Blk.new _ _ _
        have hlA : w.heap.size ≤ w.drew.heap.size := ((Below.refl w.heap.size w).drew).size
        refine op_value 13 5 _ (.pointer (some ⟨w.drew.heap.size, 0, none⟩)) _ rfl rfl rfl (exec_alloc7 rfl) ⟨HCL.out _ (((Below.refl w.heap.size w).drew).alloc ((Below.refl w.heap.size w).drew).size _), ?_⟩
        simp only [Act.put, List.setIfInBounds_toArray, List.set_cons_succ, List.set_cons_zero]
        refine held_all1 11 (by kernel_rfl) (op_call 11 22 _ 35 #[.slice ax st.length cx] rfl rfl rfl (exec_one 35 _ _ rfl _ rfl Try.call35) ((HSZ.out _ (((Below.refl w.heap.size w).drew).alloc ((Below.refl w.heap.size w).drew).size _)).mono ?_))
        rintro e W1 ⟨rfl, hw1⟩
        obtain rfl := hw1.symm
        clear hw1
        have hx0 := Below.refl ((w.drew.alloc (.cells #[.int .i64 0, .int .i64 0, .int .i64 0] 55))).heap.size (w.drew.alloc (.cells #[.int .i64 0, .int .i64 0, .int .i64 0] 55))
        refine ⟨_, rfl, HCL.out _ (((Below.refl w.heap.size w).drew).alloc ((Below.refl w.heap.size w).drew).size _), ?_⟩
        simp only [Act.put, List.setIfInBounds_toArray, List.set_cons_succ, List.set_cons_zero]
        refine held_all1 12 (by kernel_rfl) (op_call 12 23 _ 30 #[headV l.n l.gen len, .int .i64 ((l.gen + 1 : Nat) : Int), .int .i64 (SB.length : Int)] rfl rfl rfl (exec_three8 30 _ _ _ _ rfl _ _ _ rfl rfl rfl Try.call30) ((follow_any l.n l.gen len (l.gen + 1) SB.length _ (by omega)).mono ?_))
        rintro e W2 ⟨rfl, hx1⟩
        refine ⟨_, rfl, HCL.out _ ((((Below.refl w.heap.size w).drew).alloc ((Below.refl w.heap.size w).drew).size _).trans (hx1.mono (((Below.refl w.heap.size w).drew).alloc ((Below.refl w.heap.size w).drew).size _).size)), ?_⟩
        simp only [Act.put, List.setIfInBounds_toArray, List.set_cons_succ, List.set_cons_zero]
        refine held_all1 14 (by kernel_rfl) (op_row 14 _ rfl rfl rfl 55 _ _ rfl _ #[.int .i64 ((l.n + 1 : Nat) : Int), .int .i64 ((l.gen + 1 : Nat) : Int), .int .i64 (SB.length : Int)] rfl rfl 55 _ ((hkA.below hx0 hkA.lt).below hx1 (hkA.below hx0 hkA.lt).lt) Try.info55s rfl (by simp [Value.oneCell']) ?_)
        intro W9 hb9 hg9 hs9
        have hB9 : Below w.heap.size w W9 := below_grown ((((Below.refl w.heap.size w).drew).alloc ((Below.refl w.heap.size w).drew).size _).trans (hx1.mono (((Below.refl w.heap.size w).drew).alloc ((Below.refl w.heap.size w).drew).size _).size)) hg9 ((((Below.refl w.heap.size w).drew).alloc ((Below.refl w.heap.size w).drew).size _).trans (hx1.mono (((Below.refl w.heap.size w).drew).alloc ((Below.refl w.heap.size w).drew).size _).size)).size (fun q hq => by cases hq; exact hlA)
        refine ⟨HCL.out W9 hB9, ?_⟩
        refine wpAnyH_done (by kernel_rfl) ?_ _
        refine NoPanic.normal ?_
        exact ⟨rfl, _, rfl, hlA, hb9, hB9⟩
    rintro e a' W4 ⟨rfl, gb, rfl, hgb, hkb, hB4⟩
    have hB5 : Below w.heap.size w W4.drew := hB4.drew
    have hT : ∀ W : World, Blk W gb 55 #[.int .i64 ((l.n + 1 : Nat) : Int), .int .i64 ((l.gen + 1 : Nat) : Int), .int .i64 (SB.length : Int)] → W.rangeAt gb 0 [.int .i64 ((l.n + 1 : Nat) : Int), .int .i64 ((l.gen + 1 : Nat) : Int), .int .i64 (SB.length : Int)] := fun W hW => Blk.range hW 0 _ (fun j v hv => by
          match j, hv with
          | 0, hv => exact hv
          | 1, hv => exact hv
          | 2, hv => exact hv
          | (k + 3), hv => simp at hv)
    have hS5 : W4.drew.cell? ⟨gb, 2, none⟩ = some (.int .i64 (SB.length : Int)) ∧ W4.drew.cell? ⟨G, 1, none⟩ = some (.int .i64 (sizeS s : Int)) ∧ W4.drew.rangeAt gb 0 [.int .i64 ((l.n + 1 : Nat) : Int), .int .i64 ((l.gen + 1 : Nat) : Int), .int .i64 (SB.length : Int)] := ⟨Blk.cell (w := W4.drew) (j := 2) hkb rfl, (HCL.out _ hB5).2.2, hT W4.drew hkb⟩
    go_wp2_with fail
    by_cases c1 : sizeS s < SB.length
    · have H5 : decide ((sizeS s : Int) < (SB.length : Int)) = true := decide_eq_true (by omega)
      rw [if_pos (.inl c1)] at hR
      have HR : Hid (R = (3, s, l)) := hR
      clear hR
      refine held_begin (fun V => V.cell? ⟨gb, 2, none⟩ = some (.int .i64 (SB.length : Int)) ∧ V.cell? ⟨G, 1, none⟩ = some (.int .i64 (sizeS s : Int)) ∧ V.rangeAt gb 0 [.int .i64 ((l.n + 1 : Nat) : Int), .int .i64 ((l.gen + 1 : Nat) : Int), .int .i64 (SB.length : Int)]) (by kernel_rfl) ?_
      refine held_take 0 24 _ (.pointer (some ⟨gb, 2, none⟩)) rfl rfl (by kernel_rfl) (by kernel_rfl) (by kernel_rfl) rfl hS5 (fun _ _ => rfl) ?_
      simp only [Act.put, List.setIfInBounds_toArray, List.set_cons_succ, List.set_cons_zero]
      refine held_take 1 25 _ (.int .i64 (SB.length : Int)) rfl rfl (by kernel_rfl) (by kernel_rfl) (by kernel_rfl) rfl hS5 (fun V hV => exec_loadc 3 _ rfl _ _ rfl (load_one 3 (fun _ => by kernel_rfl) V _ _ _ hV.1)) ?_
      simp only [Act.put, List.setIfInBounds_toArray, List.set_cons_succ, List.set_cons_zero]
      refine held_take 2 26 _ (.pointer (some ⟨G, 0, none⟩)) rfl rfl (by kernel_rfl) (by kernel_rfl) (by kernel_rfl) rfl hS5 (fun _ _ => rfl) ?_
      simp only [Act.put, List.setIfInBounds_toArray, List.set_cons_succ, List.set_cons_zero]
      refine held_take 3 27 _ (.pointer (some ⟨G, 0, none⟩)) rfl rfl (by kernel_rfl) (by kernel_rfl) (by kernel_rfl) rfl hS5 (fun _ _ => rfl) ?_
      simp only [Act.put, List.setIfInBounds_toArray, List.set_cons_succ, List.set_cons_zero]
      refine held_take 4 28 _ (.pointer (some ⟨G, 1, none⟩)) rfl rfl (by kernel_rfl) (by kernel_rfl) (by kernel_rfl) rfl hS5 (fun _ _ => rfl) ?_
      simp only [Act.put, List.setIfInBounds_toArray, List.set_cons_succ, List.set_cons_zero]
      refine held_take 5 29 _ (.int .i64 (sizeS s : Int)) rfl rfl (by kernel_rfl) (by kernel_rfl) (by kernel_rfl) rfl hS5 (fun V hV => exec_loadc 3 _ rfl _ _ rfl (load_one 3 (fun _ => by kernel_rfl) V _ _ _ hV.2.1)) ?_
      simp only [Act.put, List.setIfInBounds_toArray, List.set_cons_succ, List.set_cons_zero]
      refine held_take 6 30 _ (.bool true) rfl rfl (by kernel_rfl) (by kernel_rfl) (by kernel_rfl) rfl hS5 (fun V _ => exec_gtr7 _ _ _ rfl _ _ _ rfl rfl H5) ?_
      simp only [Act.put, List.setIfInBounds_toArray, List.set_cons_succ, List.set_cons_zero]
      refine held_take 7 31 _ (.bool true) rfl rfl (by kernel_rfl) (by kernel_rfl) (by kernel_rfl) rfl hS5 (fun _ _ => rfl) ?_
      simp only [Act.put, List.setIfInBounds_toArray, List.set_cons_succ, List.set_cons_zero]
      refine held_pass 8 32 _ rfl rfl (by kernel_rfl) (by kernel_rfl) (by kernel_rfl) rfl hS5 ?_
      simp only [Act.put, List.setIfInBounds_toArray, List.set_cons_succ, List.set_cons_zero]
      refine held_pass 9 33 _ rfl rfl (by kernel_rfl) (by kernel_rfl) (by kernel_rfl) rfl hS5 ?_
      simp only [Act.put, List.setIfInBounds_toArray, List.set_cons_succ, List.set_cons_zero]
      refine held_pass 10 34 _ rfl rfl (by kernel_rfl) (by kernel_rfl) (by kernel_rfl) rfl hS5 ?_
      simp only [Act.put, List.setIfInBounds_toArray, List.set_cons_succ, List.set_cons_zero]
      refine held_take 11 35 _ (.bool true) rfl rfl (by kernel_rfl) (by kernel_rfl) (by kernel_rfl) rfl hS5 (fun _ _ => rfl) ?_
      simp only [Act.put, List.setIfInBounds_toArray, List.set_cons_succ, List.set_cons_zero]
      refine wpAnyH_done (by kernel_rfl) ?_ _
      refine NoPanic.normal ?_
      go_wp2_with fail
      go_ret
      rw [HR.out]
      exact ⟨rfl, h.fr hB5, Chg.of_below hB5 (Nat.le_refl _)⟩
    have H5 : decide ((sizeS s : Int) < (SB.length : Int)) = false := decide_eq_false (by omega)
    have HIN : Hid (Calls Try.prog 32 #[headV (l.n + 1) (l.gen + 1) SB.length] W4.drew fun e w' => e = .returned (.bool (inB (l.n + 1) (l.gen + 1))) ∧ Below W4.drew.heap.size W4.drew w') := inB_any _ _ _ _
    have HS7 : Hid (∀ W7, Below W4.drew.heap.size W4.drew W7 → W7.cell? ⟨gb, 2, none⟩ = some (.int .i64 (SB.length : Int)) ∧ W7.cell? ⟨G, 1, none⟩ = some (.int .i64 (sizeS s : Int)) ∧ W7.rangeAt gb 0 [.int .i64 ((l.n + 1 : Nat) : Int), .int .i64 ((l.gen + 1 : Nat) : Int), .int .i64 (SB.length : Int)]) := fun W7 hW => by
      have hk7 := Blk.below (w := W4.drew) hkb hW (Blk.lt hkb)
      exact ⟨hk7.cell (j := 2) rfl, (HCL.out _ (hB5.trans (hW.mono hB5.size))).2.2, hT _ hk7⟩
    rw [inB_both] at HIN
    by_cases c2 : 1048576 < l.gen + 1 ∨ 1073741824 ≤ l.n
    · rw [if_pos (.inr c2)] at hR
      have HR : Hid (R = (3, s, l)) := hR
      rw [decide_eq_false (not_not_intro c2)] at HIN
      clear hR
      refine held_begin (fun V => V.cell? ⟨gb, 2, none⟩ = some (.int .i64 (SB.length : Int)) ∧ V.cell? ⟨G, 1, none⟩ = some (.int .i64 (sizeS s : Int)) ∧ V.rangeAt gb 0 [.int .i64 ((l.n + 1 : Nat) : Int), .int .i64 ((l.gen + 1 : Nat) : Int), .int .i64 (SB.length : Int)]) (by kernel_rfl) ?_
      refine held_take 0 24 _ (.pointer (some ⟨gb, 2, none⟩)) rfl rfl (by kernel_rfl) (by kernel_rfl) (by kernel_rfl) rfl hS5 (fun _ _ => rfl) ?_
      simp only [Act.put, List.setIfInBounds_toArray, List.set_cons_succ, List.set_cons_zero]
      refine held_take 1 25 _ (.int .i64 (SB.length : Int)) rfl rfl (by kernel_rfl) (by kernel_rfl) (by kernel_rfl) rfl hS5 (fun V hV => exec_loadc 3 _ rfl _ _ rfl (load_one 3 (fun _ => by kernel_rfl) V _ _ _ hV.1)) ?_
      simp only [Act.put, List.setIfInBounds_toArray, List.set_cons_succ, List.set_cons_zero]
      refine held_take 2 26 _ (.pointer (some ⟨G, 0, none⟩)) rfl rfl (by kernel_rfl) (by kernel_rfl) (by kernel_rfl) rfl hS5 (fun _ _ => rfl) ?_
      simp only [Act.put, List.setIfInBounds_toArray, List.set_cons_succ, List.set_cons_zero]
      refine held_take 3 27 _ (.pointer (some ⟨G, 0, none⟩)) rfl rfl (by kernel_rfl) (by kernel_rfl) (by kernel_rfl) rfl hS5 (fun _ _ => rfl) ?_
      simp only [Act.put, List.setIfInBounds_toArray, List.set_cons_succ, List.set_cons_zero]
      refine held_take 4 28 _ (.pointer (some ⟨G, 1, none⟩)) rfl rfl (by kernel_rfl) (by kernel_rfl) (by kernel_rfl) rfl hS5 (fun _ _ => rfl) ?_
      simp only [Act.put, List.setIfInBounds_toArray, List.set_cons_succ, List.set_cons_zero]
      refine held_take 5 29 _ (.int .i64 (sizeS s : Int)) rfl rfl (by kernel_rfl) (by kernel_rfl) (by kernel_rfl) rfl hS5 (fun V hV => exec_loadc 3 _ rfl _ _ rfl (load_one 3 (fun _ => by kernel_rfl) V _ _ _ hV.2.1)) ?_
      simp only [Act.put, List.setIfInBounds_toArray, List.set_cons_succ, List.set_cons_zero]
      refine held_take 6 30 _ (.bool false) rfl rfl (by kernel_rfl) (by kernel_rfl) (by kernel_rfl) rfl hS5 (fun V _ => exec_gtr7 _ _ _ rfl _ _ _ rfl rfl H5) ?_
      simp only [Act.put, List.setIfInBounds_toArray, List.set_cons_succ, List.set_cons_zero]
      refine held_take 7 31 _ (.bool false) rfl rfl (by kernel_rfl) (by kernel_rfl) (by kernel_rfl) rfl hS5 (fun _ _ => rfl) ?_
      simp only [Act.put, List.setIfInBounds_toArray, List.set_cons_succ, List.set_cons_zero]
      refine held_take 8 32 _ (headV (l.n + 1) (l.gen + 1) SB.length) rfl rfl (by kernel_rfl) (by kernel_rfl) (by kernel_rfl) rfl hS5 (fun V hV => exec_load 55 _ rfl gb 0 rfl [.int .i64 ((l.n + 1 : Nat) : Int), .int .i64 ((l.gen + 1 : Nat) : Int), .int .i64 (SB.length : Int)] _ hV.2.2 Try.underlying55 rfl Try.info55s) ?_
      simp only [Act.put, List.setIfInBounds_toArray, List.set_cons_succ, List.set_cons_zero]
      refine held_all1 9 (by kernel_rfl) (op_call 9 33 _ 32 #[headV (l.n + 1) (l.gen + 1) SB.length] rfl rfl rfl (exec_one 32 _ _ rfl _ rfl Try.call32) (HIN.out.mono ?_))
      rintro e W7 ⟨rfl, hB7⟩
      have hS7 := HS7.out W7 hB7
      refine ⟨_, rfl, hS7, ?_⟩
      simp only [Act.put, List.setIfInBounds_toArray, List.set_cons_succ, List.set_cons_zero]
      refine held_take 10 34 _ (.bool true) rfl rfl (by kernel_rfl) (by kernel_rfl) (by kernel_rfl) rfl hS7 (fun _ _ => rfl) ?_
      simp only [Act.put, List.setIfInBounds_toArray, List.set_cons_succ, List.set_cons_zero]
      refine held_take 11 35 _ (.bool true) rfl rfl (by kernel_rfl) (by kernel_rfl) (by kernel_rfl) rfl hS7 (fun _ _ => rfl) ?_
      simp only [Act.put, List.setIfInBounds_toArray, List.set_cons_succ, List.set_cons_zero]
      refine wpAnyH_done (by kernel_rfl) ?_ _
      refine NoPanic.normal ?_
      have hB8 : Below w.heap.size w W7 := hB5.trans (hB7.mono hB5.size)
      go_wp2_with fail
      go_ret
      rw [HR.out]
      exact ⟨rfl, h.fr hB8, Chg.of_below hB8 (Nat.le_refl _)⟩
    rw [if_neg (by rintro (e | e); exact c1 e; exact c2 e)] at hR
    rw [decide_eq_true c2] at HIN
    refine held_begin (fun V => V.cell? ⟨gb, 2, none⟩ = some (.int .i64 (SB.length : Int)) ∧ V.cell? ⟨G, 1, none⟩ = some (.int .i64 (sizeS s : Int)) ∧ V.rangeAt gb 0 [.int .i64 ((l.n + 1 : Nat) : Int), .int .i64 ((l.gen + 1 : Nat) : Int), .int .i64 (SB.length : Int)]) (by kernel_rfl) ?_
    refine held_take 0 24 _ (.pointer (some ⟨gb, 2, none⟩)) rfl rfl (by kernel_rfl) (by kernel_rfl) (by kernel_rfl) rfl hS5 (fun _ _ => rfl) ?_
    simp only [Act.put, List.setIfInBounds_toArray, List.set_cons_succ, List.set_cons_zero]
    refine held_take 1 25 _ (.int .i64 (SB.length : Int)) rfl rfl (by kernel_rfl) (by kernel_rfl) (by kernel_rfl) rfl hS5 (fun V hV => exec_loadc 3 _ rfl _ _ rfl (load_one 3 (fun _ => by kernel_rfl) V _ _ _ hV.1)) ?_
    simp only [Act.put, List.setIfInBounds_toArray, List.set_cons_succ, List.set_cons_zero]
    refine held_take 2 26 _ (.pointer (some ⟨G, 0, none⟩)) rfl rfl (by kernel_rfl) (by kernel_rfl) (by kernel_rfl) rfl hS5 (fun _ _ => rfl) ?_
    simp only [Act.put, List.setIfInBounds_toArray, List.set_cons_succ, List.set_cons_zero]
    refine held_take 3 27 _ (.pointer (some ⟨G, 0, none⟩)) rfl rfl (by kernel_rfl) (by kernel_rfl) (by kernel_rfl) rfl hS5 (fun _ _ => rfl) ?_
    simp only [Act.put, List.setIfInBounds_toArray, List.set_cons_succ, List.set_cons_zero]
    refine held_take 4 28 _ (.pointer (some ⟨G, 1, none⟩)) rfl rfl (by kernel_rfl) (by kernel_rfl) (by kernel_rfl) rfl hS5 (fun _ _ => rfl) ?_
    simp only [Act.put, List.setIfInBounds_toArray, List.set_cons_succ, List.set_cons_zero]
    refine held_take 5 29 _ (.int .i64 (sizeS s : Int)) rfl rfl (by kernel_rfl) (by kernel_rfl) (by kernel_rfl) rfl hS5 (fun V hV => exec_loadc 3 _ rfl _ _ rfl (load_one 3 (fun _ => by kernel_rfl) V _ _ _ hV.2.1)) ?_
    simp only [Act.put, List.setIfInBounds_toArray, List.set_cons_succ, List.set_cons_zero]
    refine held_take 6 30 _ (.bool false) rfl rfl (by kernel_rfl) (by kernel_rfl) (by kernel_rfl) rfl hS5 (fun V _ => exec_gtr7 _ _ _ rfl _ _ _ rfl rfl H5) ?_
    simp only [Act.put, List.setIfInBounds_toArray, List.set_cons_succ, List.set_cons_zero]
    refine held_take 7 31 _ (.bool false) rfl rfl (by kernel_rfl) (by kernel_rfl) (by kernel_rfl) rfl hS5 (fun _ _ => rfl) ?_
    simp only [Act.put, List.setIfInBounds_toArray, List.set_cons_succ, List.set_cons_zero]
    refine held_take 8 32 _ (headV (l.n + 1) (l.gen + 1) SB.length) rfl rfl (by kernel_rfl) (by kernel_rfl) (by kernel_rfl) rfl hS5 (fun V hV => exec_load 55 _ rfl gb 0 rfl [.int .i64 ((l.n + 1 : Nat) : Int), .int .i64 ((l.gen + 1 : Nat) : Int), .int .i64 (SB.length : Int)] _ hV.2.2 Try.underlying55 rfl Try.info55s) ?_
    simp only [Act.put, List.setIfInBounds_toArray, List.set_cons_succ, List.set_cons_zero]
    refine held_all1 9 (by kernel_rfl) (op_call 9 33 _ 32 #[headV (l.n + 1) (l.gen + 1) SB.length] rfl rfl rfl (exec_one 32 _ _ rfl _ rfl Try.call32) (HIN.out.mono ?_))
    rintro e W7 ⟨rfl, hB7⟩
    have hS7 := HS7.out W7 hB7
    refine ⟨_, rfl, hS7, ?_⟩
    simp only [Act.put, List.setIfInBounds_toArray, List.set_cons_succ, List.set_cons_zero]
    refine held_take 10 34 _ (.bool false) rfl rfl (by kernel_rfl) (by kernel_rfl) (by kernel_rfl) rfl hS7 (fun _ _ => rfl) ?_
    simp only [Act.put, List.setIfInBounds_toArray, List.set_cons_succ, List.set_cons_zero]
    refine held_take 11 35 _ (.bool false) rfl rfl (by kernel_rfl) (by kernel_rfl) (by kernel_rfl) rfl hS7 (fun _ _ => rfl) ?_
    simp only [Act.put, List.setIfInBounds_toArray, List.set_cons_succ, List.set_cons_zero]
    refine wpAnyH_done (by kernel_rfl) ?_ _
    refine NoPanic.normal ?_
    have hB8 : Below w.heap.size w W7 := hB5.trans (hB7.mono hB5.size)
    have hbD : Below w.heap.size w W7.drew := hB8.drew
    have hkD : Blk W7.drew gb 55 #[.int .i64 ((l.n + 1 : Nat) : Int), .int .i64 ((l.gen + 1 : Nat) : Int), .int .i64 (SB.length : Int)] := Blk.drew (Blk.below (w := W4.drew) hkb hB7 (Blk.lt hkb))
    have hT0 := hT _ hkD
    obtain ⟨Y, hY⟩ : ∃ Y, Y = writeW s l.n (l.gen + 1) 0 SB := ⟨_, rfl⟩
    have hYs := writeW_steps s l.n (l.gen + 1) 0 (SB.length + 1) SB (by omega)
    rw [Nat.zero_div] at hYs
    have hCDl : ∀ q, CD q → q < w.heap.size := fun q hq => h.lt q (h2 q hq)
    have HST : Hid (∀ W8 v, Own W8 W7.drew.heap.size v SB → Below W7.drew.heap.size W7.drew W8 → Calls Try.prog 33 #[.pointer (some ⟨G, 0, none⟩), headV (l.n + 1) (l.gen + 1) SB.length, .int .i64 0, v] W8 fun e w' => e = .returned (.int .i64 Y.1) ∧ SettleEnd W8 w' G L CD (sizeS s) l.n l.gen len bg (.slice ta tb.length tc) (l.n + 1) (l.gen + 1) SB Y) := fun W8 v hv hW => by
      rw [hY, hYs]
      have hh : sizeS s / 128 = halfS s := by unfold sizeS; omega
      rw [← hh]
      have hW8 : Below w.heap.size w W8 := hbD.trans (hW.mono hbD.size)
      refine settle_any (l.n + 1) (l.gen + 1) 0 _ (HLB.out W8 hW8) (h1.after hW8) h6 SB (by omega) ⟨by rw [Nat.zero_mul, List.drop_zero]; exact hv.seg, fun _ q hq e => ?_⟩ (fun _ q hq e => ?_) (by omega) (by omega) (by omega) (SB.length + 1) (by omega) (by omega) (by omega)
      · have := hv.blocks q hq
        have := hCDl q e
        have := hbD.size
        omega
      · have := hv.blocks q hq
        have := hbD.size
        omega
    have HNW : Hid (Y.2.now.length = s.now.length) := by
      show _ = _
      rw [hY, hYs]
      exact contW_now _ _ _ _ _ _ _ _ _ _
    rw [← hY] at hR
    have HT9 : Hid (∀ W8 W9, Below W7.drew.heap.size W7.drew W8 → SettleEnd W8 W9 G L CD (sizeS s) l.n l.gen len bg (.slice ta tb.length tc) (l.n + 1) (l.gen + 1) SB Y → W9.rangeAt gb 0 [.int .i64 ((l.n + 1 : Nat) : Int), .int .i64 ((l.gen + 1 : Nat) : Int), .int .i64 (SB.length : Int)]) := fun W8 W9 hW hse => by
      obtain ⟨CD', k1, k2, k3, k4, k5⟩ := hse
      refine hT _ (Blk.chg (Blk.below hkD hW (Blk.lt hkD)) k4 ?_)
      rintro (e | e)
      · have := hCDl _ e
        omega
      · omega
    have HC5 : Hid (∀ W8 W9, SettleEnd W8 W9 G L CD (sizeS s) l.n l.gen len bg (.slice ta tb.length tc) (l.n + 1) (l.gen + 1) SB Y → ∃ n' g' len' bk tv', LogB W9 G L.g (sizeS s) n' g' len' bg bk tv') := fun W8 W9 hse => by
      obtain ⟨CD', k1, k2, k3, k4, k5⟩ := hse
      rcases k5 with ⟨_, k⟩ | ⟨_, tv', k, _⟩
      · exact ⟨_, _, _, _, _, k⟩
      · exact ⟨_, _, _, _, _, k⟩
    have HFIN : Hid (∀ W8 W9, Below W7.drew.heap.size W7.drew W8 → SettleEnd W8 W9 G L CD (sizeS s) l.n l.gen len bg (.slice ta tb.length tc) (l.n + 1) (l.gen + 1) SB Y → R.1 = Y.1 ∧ PB (W9.setCell ⟨G, 5, none⟩ (.bool (Y.1 == 0))) G L (Fr C w (W9.setCell ⟨G, 5, none⟩ (.bool (Y.1 == 0)))) R.2.1 R.2.2 ∧ Chg C w (W9.setCell ⟨G, 5, none⟩ (.bool (Y.1 == 0)))) := fun W8 W9 hW hse => by
      have hW8 : Below w.heap.size w W8 := hbD.trans (hW.mono hbD.size)
      obtain ⟨hc, hh⟩ := settle_pb (C := C) (fun q hq => Nat.lt_of_lt_of_le (h.lt q hq) hW8.size) h2 h5 h6 h7 HNW.out hse
      obtain ⟨_, _, _, _, k4, _⟩ := hse
      have hcG : Chg (fun q => q = G) W9 (W9.setCell ⟨G, 5, none⟩ (.bool (Y.1 == 0))) := (Chg.refl (fun q => q = G) W9).setCell G 5 _ (fun _ => rfl)
      have hsz9 := hcG.size
      have hcw : Chg C w (W9.setCell ⟨G, 5, none⟩ (.bool (Y.1 == 0))) := ((Chg.of_below hW8 (Nat.le_refl _)).trans hc (fun _ _ => id)).trans hcG (fun q _ e => by rw [e]; exact h5)
      have hFr : ∀ q, Fr C W8 W9 q → Fr C w (W9.setCell ⟨G, 5, none⟩ (.bool (Y.1 == 0))) q := fun q hq => hq.imp_right fun e => ⟨Nat.le_trans hW8.size e.1, Nat.lt_of_lt_of_le e.2 hsz9⟩
      have hlt8 := fr_lt h.lt hcw.size
      have h4' : Own (W9.setCell ⟨G, 5, none⟩ (.bool (Y.1 == 0))) 0 (.slice ta tb.length tc) tb := ((h4.below hW8 (Nat.le_refl _)).chg k4 (fun q hq e => by
          rcases e with e | e
          · exact (h7 q hq).2 e
          · exact HGT.out q hq e)).chg hcG (fun q hq e => HGT.out q hq e)
      rcases hh with ⟨e0, CD', k1, k2, k3, k5, k6⟩ | ⟨e0, CD', tv', k1, k2, k3, k5, k6, k7⟩
      · rw [if_pos e0] at hR
        rw [hR]
        exact ⟨rfl, ⟨⟨CD', len, _, _, tb, k1.chg hcG (fun q hq e => k3 (e ▸ hq)), fun q hq => hFr q (k2 q hq), (Blk.set k6 5 _).of_eq rfl, h4', .inl h5, k3, fun q hq => ⟨hFr q (k5 q hq).1, (k5 q hq).2⟩, h8, h9, fun e => by cases e⟩, hlt8, h.n, h.gen, h.b, h.sure, h.one⟩, hcw⟩
      · rw [if_neg (by rw [e0]; simp)] at hR
        rw [hR]
        have hTG : ∀ q, tv'.ownBlock = some q → q ≠ G := fun q hq e => by
          obtain ⟨c', f', hcf⟩ := own_cells k7 hq
          rw [e, show _ = _ from k6] at hcf
          cases hcf
        rw [e0] at hcw hlt8 hFr hcG ⊢
        refine ⟨rfl, ⟨⟨CD', SB.length, true, tv', _, k1.chg hcG (fun q hq e => k3 (e ▸ hq)), fun q hq => hFr q (k2 q hq), (Blk.set k6 5 _).of_eq rfl, k7.chg hcG (fun q hq e => hTG q hq e), .inl h5, k3, fun q hq => ⟨hFr q (k5 q hq).1, (k5 q hq).2⟩, by omega, by rw [List.length_drop]; omega, fun _ => ⟨rfl, fun _ => ⟨rfl, rfl⟩⟩⟩, hlt8, ?_, ?_, ?_, Nat.le_refl _, fun _ => Nat.succ_le_succ (Nat.zero_le _)⟩, hcw⟩
        · show l.n + 1 ≤ _
          omega
        · show l.gen + 1 ≤ _
          omega
        · show SB.length ≤ _
          omega
    clear hR hYs hY
    go_wp2_with fail
    refine held_begin (fun V => V.rangeAt gb 0 [.int .i64 ((l.n + 1 : Nat) : Int), .int .i64 ((l.gen + 1 : Nat) : Int), .int .i64 (SB.length : Int)]) (by kernel_rfl) ?_
    refine held_take 0 36 _ (.pointer (some ⟨G, 0, none⟩)) rfl rfl (by kernel_rfl) (by kernel_rfl) (by kernel_rfl) rfl hT0 (fun _ _ => rfl) ?_
    simp only [Act.put, List.setIfInBounds_toArray, List.set_cons_succ, List.set_cons_zero]
    refine held_take 1 37 _ (headV (l.n + 1) (l.gen + 1) SB.length) rfl rfl (by kernel_rfl) (by kernel_rfl) (by kernel_rfl) rfl hT0 (fun V hV => exec_load 55 _ rfl gb 0 rfl [.int .i64 ((l.n + 1 : Nat) : Int), .int .i64 ((l.gen + 1 : Nat) : Int), .int .i64 (SB.length : Int)] _ hV Try.underlying55 rfl Try.info55s) ?_
    simp only [Act.put, List.setIfInBounds_toArray, List.set_cons_succ, List.set_cons_zero]
    refine held_take 2 38 _ (.slice ax st.length cx) rfl rfl (by kernel_rfl) (by kernel_rfl) (by kernel_rfl) rfl hT0 (fun _ _ => rfl) ?_
    simp only [Act.put, List.setIfInBounds_toArray, List.set_cons_succ, List.set_cons_zero]
    refine held_all1 3 (by kernel_rfl) (op_call 3 39 _ 36 #[.slice ax st.length cx] rfl rfl rfl (exec_one 36 _ _ rfl _ rfl Try.call36) ((HSP.out W7.drew hbD).mono ?_))
    rintro e W8 ⟨v, rfl, hOv, hB9⟩
    have hS8 := hT _ (Blk.below hkD hB9 (Blk.lt hkD))
    refine ⟨_, rfl, hS8, ?_⟩
    simp only [Act.put, List.setIfInBounds_toArray, List.set_cons_succ, List.set_cons_zero]
    refine held_all1 4 (by kernel_rfl) (op_call 4 40 _ 33 #[.pointer (some ⟨G, 0, none⟩), headV (l.n + 1) (l.gen + 1) SB.length, .int .i64 0, v] rfl rfl rfl (exec_four8 33 _ _ _ _ _ rfl _ _ _ _ rfl rfl rfl rfl Try.call33) ((HST.out W8 v hOv hB9).mono ?_))
    rintro e W9 ⟨rfl, hse⟩
    have hS9 := HT9.out W8 W9 hB9 hse
    refine ⟨_, rfl, hS9, ?_⟩
    simp only [Act.put, List.setIfInBounds_toArray, List.set_cons_succ, List.set_cons_zero]
    refine held_all1 5 (by kernel_rfl) (op_value 5 6 _ (.int .i64 Y.1) W9 rfl rfl rfl (rfl) ⟨hS9, ?_⟩)
    simp only [Act.put, List.setIfInBounds_toArray, List.set_cons_succ, List.set_cons_zero]
    refine wpAnyH_done (by kernel_rfl) ?_ _
    refine NoPanic.normal ?_
    obtain ⟨n', g', len', bk', tv', hL9⟩ := HC5.out W8 W9 hse
    have hc5 : W9.cell? ⟨G, 5, none⟩ = some (.bool bg) := Blk.cell (j := 5) hL9 rfl
    have f5 := Blk.frozen hL9 5
    obtain ⟨f1, f2, f3⟩ := HFIN.out W8 W9 hB9 hse
    clear hL9
    go_wp2_with fail
    go_ret
    rw [f1]
    exact ⟨rfl, f2, f3⟩
end Go.Proofs.Ytcfnbmphonkbpaa
