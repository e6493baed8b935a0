/-
  What is proved here: of all numbers and bytes, the statement WalEnds answers true.
  Conditions: none.
-/
import Derived.Test.YtcfnbmphonkbpabWalPut
import Derived.Test.YtcfnbmphonkbpabRefWal
import Derived.Test.YtcfnbmphonkbpabHeldMore
namespace Go.Proofs.Ytcfnbmphonkbpab
open Go.RowKit

theorem exec_and8 {a : Act} {o : Oper} {w : World} (t : TypeId) (x y : Operand) (ho : o.op = .binOp .and t x y t) (m n r : Int) (hx : a.eval x = .int .i64 m) (hy : a.eval y = .int .i64 n) (h : bits .and .i64 m n = r) : (execOp a.eval o).run Try.prog w = .ok (.value (.int .i64 r)) w := by
  unfold execOp
  simp [ho, hx, hy]
  rw [← h]
  rfl
theorem and_nat (n : Nat) (hn : n < 4294967296) : bits .and .i64 (n : Int) 1 = ((n % 2 : Nat) : Int) := by
  have h : bits .and .i64 (n : Int) 1 = IntKind.i64.wrap ((BitVec.ofInt 64 (n : Int) &&& BitVec.ofInt 64 1).toNat : Int) := rfl
  have h2 : (BitVec.ofInt 64 (n : Int)).toNat = n := by
    rw [BitVec.toNat_ofInt]
    omega
  rw [h, BitVec.toNat_and, show (BitVec.ofInt 64 1).toNat = 2 ^ 1 - 1 from rfl, Nat.and_two_pow_sub_one_eq_mod, IntKind.wrap_i64, h2]
  omega
theorem Own.off {B : Nat} {w w' : World} {base : Nat} {v : Value} {bs : List UInt8} (h : Own w base v bs) (hc : Chg (Off B (OwnOf v)) w w') : Own w' base v bs := h.chg hc (fun _ hk e => e.2 hk)
theorem index_arr2 (b k : Nat) (hk : k < 2) (V : World) : (Instr.indexAt 22 (.pointer (some ⟨b, 0, none⟩)) (.int .i64 (k : Int))).run Try.prog V = .ok (.pointer (some ⟨b, k, none⟩)) V := by
  rcases (show k = 0 ∨ k = 1 by omega) with rfl | rfl
  · first | kernel_rfl | simp [Instr.indexAt, asIntOf, run_underlying Try.underlying22, Addr.add_mid]
  · first | kernel_rfl | simp [Instr.indexAt, asIntOf, run_underlying Try.underlying22, Addr.add_mid]
theorem x_open {B : Nat} {w : World} {L : PLay} {s : DS} (h : DiskAt B w L s) (he : openE s = 0) :
    Calls Try.prog 12 #[.pointer (some ⟨L.g, 0, none⟩)] w fun e w' => ∃ G sv rv vs, e = .returned (.tuple #[.pointer (some ⟨G, 0, none⟩), sv, rv, .int .i64 0]) ∧ LogX B (OwnOf sv) w' G L s (openL s) ∧ Own w' w.heap.size sv (foundS s).1 ∧ Gat w' w.heap.size rv vs (foundS s).2 ∧ Below w.heap.size w w' := by
  obtain ⟨C, h1, h2, h3⟩ := h
  refine (open_any L C s w h1 he).mono ?_
  rintro e w' ⟨G, sv, rv, vs, rfl, hP, hG, hO, hA, hb⟩
  refine ⟨G, sv, rv, vs, rfl, ⟨_, hP, fun q hq => ?_, fun q hq => (hO.blocks q hq).2, Nat.le_trans h3 hb.size⟩, hO, hA, hb⟩
  rcases hq with e | rfl
  · exact ⟨h2 q e, fun d => by have := (hO.blocks q d).1; have := h1.lt q e; omega⟩
  · refine ⟨Nat.le_trans h3 hG, fun d => ?_⟩
    obtain ⟨CD, len, bg, tv, tb, k1, k2, k3, -⟩ := hP.body
    obtain ⟨c', f', hcf⟩ := own_cells hO d
    rw [show _ = _ from k3] at hcf
    cases hcf
theorem LogX.also {B : Nat} {D : Nat → Prop} {w w' : World} {G : Nat} {L : PLay} {s : DS} {l : LS} {v : Value} {bs : List UInt8} (h : LogX B D w G L s l) (hb : Below w.heap.size w w') (hO : Own w' w.heap.size v bs) : LogX B (fun q => D q ∨ OwnOf v q) w' G L s l := by
  obtain ⟨C, h1, h2, h3, h4⟩ := h
  refine ⟨C, h1.after hb, fun q hq => ⟨(h2 q hq).1, fun e => ?_⟩, fun q hq => ?_, Nat.le_trans h4 hb.size⟩
  · rcases e with e | e
    · exact (h2 q hq).2 e
    · have := (hO.blocks q e).1
      have := h1.lt q hq
      omega
  · rcases hq with e | e
    · exact Nat.lt_of_lt_of_le (h3 q e) hb.size
    · exact (hO.blocks q e).2
theorem LogX.at' {B : Nat} {D : Nat → Prop} {w : World} {G : Nat} {L : PLay} {s : DS} {l : LS} (h : LogX B D w G L s l) : LogAt B w G L s l := by
  obtain ⟨C, h1, h2, _, h4⟩ := h
  exact ⟨C, h1, fun q hq => (h2 q hq).1, h4⟩
theorem Own.offD {B : Nat} {D : Nat → Prop} {w w' : World} {base : Nat} {v : Value} {bs : List UInt8} (h : Own w base v bs) (hc : Chg (Off B D) w w') (hD : ∀ q, OwnOf v q → D q) : Own w' base v bs := h.chg hc (fun _ hk e => e.2 (hD _ hk))
set_option maxRecDepth 100000 in
set_option maxHeartbeats 16000000 in
theorem walEnds_any (y z : Int) (x : Value) (st : List UInt8) (u : Value) (nx : List UInt8) (w : World) (hm : st.length ≤ maxLen) (hS : Seg w x st) (hmn : nx.length ≤ maxLen) (hU : Seg w u nx) :
    Calls Try.prog 3 #[.agg #[.int .i64 y, .int .i64 z], x, u] w fun e w' => e = .returned (.bool true) ∧ Below w.heap.size w w' := by
  obtain ⟨ax, cx, rfl⟩ := Seg.shapeD hS
  have hUx : 0 < nx.length → ∀ q, u.ownBlock = some q → q < w.heap.size + 1 := fun h0 q hq => Nat.lt_succ_of_lt (hU.own_lt h0 q hq)
  obtain ⟨au, cu, rfl⟩ := Seg.shapeD hU
  unfold maxLen at hm hmn
  go_enter Try.func3, Try.ntmps3
  go_wp2_with fail
  have hb0 := (Below.refl w.heap.size w).alloc (Nat.le_refl _) (.cells #[.int .i64 y, .int .i64 z] 22)
  have hbx : Blk (w.alloc (.cells #[.int .i64 y, .int .i64 z] 22)) w.heap.size 22 #[.int .i64 y, .int .i64 z] := Blk.new w 22 _
  have hsz0 : (w.alloc (.cells #[.int .i64 y, .int .i64 z] 22)).heap.size = w.heap.size + 1 := by show (w.heap.push _).size = _; rw [Array.size_push]
  generalize w.alloc (.cells #[.int .i64 y, .int .i64 z] 22) = w0 at *
  have hxl : w.heap.size < w0.heap.size := by omega
  have hS0 := hS.below hb0 (Nat.le_refl _)
  have hU0 := hU.below hb0 (Nat.le_refl _)
  rw [← hsz0] at hUx
  have HB : Hid (∀ W, Below w0.heap.size w0 W → Below w.heap.size w W) := fun W hW => hb0.trans (hW.mono hb0.size)
  have HC : Hid (∀ W : World, Below w0.heap.size w0 W → W.cell? ⟨w.heap.size, 0, none⟩ = some (.int .i64 y) ∧ W.cell? ⟨w.heap.size, 1, none⟩ = some (.int .i64 z)) := fun W hW => ⟨(Blk.below hbx hW hxl).cell (j := 0) rfl, (Blk.below hbx hW hxl).cell (j := 1) rfl⟩
  clear hbx hb0 hS hU hsz0
  refine (awake7_any w0).mono ?_
  rintro e w1 ⟨rfl, hB1⟩
  go_wp2_with fail
  refine (at_new w0.heap.size 20 w1 (by decide) (by decide) hB1.size).mono ?_
  rintro e w2 ⟨L, rfl, hD, hb2, hLn⟩
  have hB2 := blift hB1 hb2 hB1.size
  obtain ⟨c0, c1⟩ := HC.out w2 hB2
  clear hB1 hb2 hLn
  by_cases h1 : y < 1
  · go_wp2_with fail
    go_ret
    exact ⟨rfl, HB.out _ hB2⟩
  by_cases h2 : 2147483648 < y
  · go_wp2_with fail
    go_ret
    exact ⟨rfl, HB.out _ hB2⟩
  by_cases h3 : z < 1
  · go_wp2_with fail
    go_ret
    exact ⟨rfl, HB.out _ hB2⟩
  by_cases h4 : 2097152 < z
  · go_wp2_with fail
    go_ret
    exact ⟨rfl, HB.out _ hB2⟩
  by_cases h5 : 100 < st.length
  · have j5 : (100 : Int) < (st.length : Int) := by omega
    go_wp2_with fail
    go_ret
    exact ⟨rfl, HB.out _ hB2⟩
  have j5 : ¬ (100 : Int) < (st.length : Int) := by omega
  by_cases h6 : 100 < nx.length
  · have j6 : (100 : Int) < (nx.length : Int) := by omega
    go_wp2_with fail
    go_ret
    exact ⟨rfl, HB.out _ hB2⟩
  have j6 : ¬ (100 : Int) < (nx.length : Int) := by omega
  obtain ⟨n, rfl⟩ : ∃ n : Nat, y = (n : Int) := ⟨y.toNat, by omega⟩
  obtain ⟨g, rfl⟩ : ∃ g : Nat, z = (g : Int) := ⟨z.toNat, by omega⟩
  go_wp2_with fail
  refine (piece7_any 2 _ st w2 (by decide) (hS0.below hB2 (Nat.le_refl _)) (by omega)).mono ?_
  rintro e w3 ⟨v10, rfl, hO, hb3⟩
  have hX3 := hD.x hb3 hO
  have hB3 := blift hB2 hb3 hB2.size
  obtain ⟨P, hP⟩ : ∃ P, P = pieceB 2 st := ⟨_, rfl⟩
  rw [← hP] at hO
  have HP : Hid (P = pieceB 2 st) := hP
  have HPl : Hid (P.length = st.length + 5) := by show _ = _; rw [hP, pieceB_len]
  have hPm : P.length ≤ 105 := by rw [HPl.out]; omega
  clear hP hD hb3 hB2 c0 c1
  obtain ⟨a10, c10, rfl⟩ := Seg.shapeD hO.seg
  have hB3d : Below w0.heap.size w0 w3.drew := hB3.drew
  have hS6 := HC.out w3.drew hB3d
  have hX3d : DiskX w0.heap.size (OwnOf (.slice a10 P.length c10)) w3.drew L (newS 20) := hX3.after (Below.refl _ w3).drew
  have hO3d : Own w3.drew w2.heap.size (.slice a10 P.length c10) P := hO.below (Below.refl w3.heap.size w3).drew (Nat.le_refl _)
  have hAnd : bits .and .i64 (n : Int) 1 = ((n % 2 : Nat) : Int) := and_nat n (by omega)
  have hHl : (headB n g P.length).length ≤ 128 := by rw [headB_len]; decide
  obtain ⟨e1, e2, e3⟩ := two_write (p := n % 2) (q := 2 + 9 * (g % 2)) (H := headB n g P.length) (P := P) (by omega) (by omega) hHl (by omega)
  have HHD : Hid (Calls Try.prog 10 #[.int .i64 (n : Int), .int .i64 (g : Int), .int .i64 (P.length : Int)] w3.drew fun e w' => ∃ v, e = .returned v ∧ Own w' w3.drew.heap.size v (headB n g P.length) ∧ Below w3.drew.heap.size w3.drew w') := head7_any n g P.length w3.drew (by omega) (by omega) (by omega)
  have HWR : Hid (∀ W v, Below w3.drew.heap.size w3.drew W → Own W w3.drew.heap.size v (headB n g P.length) → Calls Try.prog 9 #[.pointer (some ⟨L.g, 0, none⟩), .int .i64 ((n % 2 : Nat) : Int), v] W fun e w' => e = .returned (.int .i64 0) ∧ DiskX w0.heap.size (OwnOf (.slice a10 P.length c10)) w' L (putS (newS 20) (n % 2) (headB n g P.length)) ∧ Chg (Off w0.heap.size (OwnOf (.slice a10 P.length c10))) W w') := fun W v hW hv => by
    have := x_write hX3d hW ((n % 2 : Nat) : Int) v _ hv
    rw [e1] at this
    exact this
  clear hX3 hX3d e1 hO
  go_wp2_with fail
  refine held_begin (fun V => V.cell? ⟨w.heap.size, 0, none⟩ = some (.int .i64 (n : Int)) ∧ V.cell? ⟨w.heap.size, 1, none⟩ = some (.int .i64 (g : Int))) (by kernel_rfl) ?_
  refine held_take 0 75 _ (.pointer (some ⟨L.g, 0, none⟩)) rfl rfl (by kernel_rfl) (by kernel_rfl) (by kernel_rfl) rfl hS6 (fun _ _ => rfl) ?_
  simp only [Act.put, List.setIfInBounds_toArray, List.set_cons_succ, List.set_cons_zero]
  refine held_take 1 76 _ (.pointer (some ⟨w.heap.size, 0, none⟩)) rfl rfl (by kernel_rfl) (by kernel_rfl) (by kernel_rfl) rfl hS6 (fun V _ => exec_indexat 22 _ _ rfl (.pointer (some ⟨w.heap.size, 0, none⟩)) (.int .i64 ((0 : Nat) : Int)) _ rfl rfl (index_arr2 w.heap.size 0 (by decide) V)) ?_
  simp only [Act.put, List.setIfInBounds_toArray, List.set_cons_succ, List.set_cons_zero]
  refine held_take 2 77 _ (.int .i64 (n : Int)) rfl rfl (by kernel_rfl) (by kernel_rfl) (by kernel_rfl) rfl hS6 (fun V hV => exec_loadc 3 _ rfl _ _ rfl (load_one 3 (fun _ => by kernel_rfl) V _ _ _ hV.1)) ?_
  simp only [Act.put, List.setIfInBounds_toArray, List.set_cons_succ, List.set_cons_zero]
  refine held_take 3 78 _ (.int .i64 ((n % 2 : Nat) : Int)) rfl rfl (by kernel_rfl) (by kernel_rfl) (by kernel_rfl) rfl hS6 (fun V _ => exec_and8 _ _ _ rfl _ _ _ rfl rfl hAnd) ?_
  simp only [Act.put, List.setIfInBounds_toArray, List.set_cons_succ, List.set_cons_zero]
  refine held_take 4 79 _ (.pointer (some ⟨w.heap.size, 0, none⟩)) rfl rfl (by kernel_rfl) (by kernel_rfl) (by kernel_rfl) rfl hS6 (fun V _ => exec_indexat 22 _ _ rfl (.pointer (some ⟨w.heap.size, 0, none⟩)) (.int .i64 ((0 : Nat) : Int)) _ rfl rfl (index_arr2 w.heap.size 0 (by decide) V)) ?_
  simp only [Act.put, List.setIfInBounds_toArray, List.set_cons_succ, List.set_cons_zero]
  refine held_take 5 80 _ (.int .i64 (n : Int)) rfl rfl (by kernel_rfl) (by kernel_rfl) (by kernel_rfl) rfl hS6 (fun V hV => exec_loadc 3 _ rfl _ _ rfl (load_one 3 (fun _ => by kernel_rfl) V _ _ _ hV.1)) ?_
  simp only [Act.put, List.setIfInBounds_toArray, List.set_cons_succ, List.set_cons_zero]
  refine held_take 6 81 _ (.pointer (some ⟨w.heap.size, 1, none⟩)) rfl rfl (by kernel_rfl) (by kernel_rfl) (by kernel_rfl) rfl hS6 (fun V _ => exec_indexat 22 _ _ rfl (.pointer (some ⟨w.heap.size, 0, none⟩)) (.int .i64 ((1 : Nat) : Int)) _ rfl rfl (index_arr2 w.heap.size 1 (by decide) V)) ?_
  simp only [Act.put, List.setIfInBounds_toArray, List.set_cons_succ, List.set_cons_zero]
  refine held_take 7 82 _ (.int .i64 (g : Int)) rfl rfl (by kernel_rfl) (by kernel_rfl) (by kernel_rfl) rfl hS6 (fun V hV => exec_loadc 3 _ rfl _ _ rfl (load_one 3 (fun _ => by kernel_rfl) V _ _ _ hV.2)) ?_
  simp only [Act.put, List.setIfInBounds_toArray, List.set_cons_succ, List.set_cons_zero]
  refine held_take 8 83 _ (.slice a10 P.length c10) rfl rfl (by kernel_rfl) (by kernel_rfl) (by kernel_rfl) rfl hS6 (fun _ _ => rfl) ?_
  simp only [Act.put, List.setIfInBounds_toArray, List.set_cons_succ, List.set_cons_zero]
  refine held_take 9 84 _ (.int .i64 (P.length : Int)) rfl rfl (by kernel_rfl) (by kernel_rfl) (by kernel_rfl) rfl hS6 (fun V _ => exec_len _ rfl _ _ _ rfl) ?_
  simp only [Act.put, List.setIfInBounds_toArray, List.set_cons_succ, List.set_cons_zero]
  refine held_all1 10 (by kernel_rfl) (op_call 10 85 _ 10 #[.int .i64 (n : Int), .int .i64 (g : Int), .int .i64 (P.length : Int)] rfl rfl rfl (exec_three8 10 _ _ _ _ rfl _ _ _ rfl rfl rfl Try.call10) (HHD.out.mono ?_))
  rintro e w4 ⟨vh, rfl, hOh, hb4⟩
  have hB4 := blift hB3d hb4 hB3d.size
  have hS4 := HC.out w4 hB4
  refine ⟨_, rfl, hS4, ?_⟩
  simp only [Act.put, List.setIfInBounds_toArray, List.set_cons_succ, List.set_cons_zero]
  refine held_all1 11 (by kernel_rfl) (op_call 11 86 _ 9 #[.pointer (some ⟨L.g, 0, none⟩), .int .i64 ((n % 2 : Nat) : Int), vh] rfl rfl rfl (exec_three8 9 _ _ _ _ rfl _ _ _ rfl rfl rfl Try.call9) ((HWR.out w4 vh hb4 hOh).mono ?_))
  rintro e w5 ⟨rfl, hX5, hc5⟩
  have hS5 := HC.out w5 (hB4.trans (off_below hc5 hB4.size))
  refine ⟨_, rfl, hS5, ?_⟩
  simp only [Act.put, List.setIfInBounds_toArray, List.set_cons_succ, List.set_cons_zero]
  refine wpAnyH_done (by kernel_rfl) ?_ _
  refine NoPanic.normal ?_
  have hO5 := (hO3d.below hb4 (Nat.le_refl _)).off hc5
  have hB5 := hB4.trans (off_below hc5 hB4.size)
  obtain ⟨c0, c1⟩ := HC.out w5 hB5
  have hAnd2 : bits .and .i64 (g : Int) 1 = ((g % 2 : Nat) : Int) := and_nat g (by omega)
  clear HHD HWR hb4 hB4 hc5 hO3d hB3d hS6 hB3
  go_wp2_with fail
  have hk9 : (2 : Int) + 9 * ((g : Int) % 2) = ((2 + 9 * (g % 2) : Nat) : Int) := by omega
  rw [hk9]
  have HW2 := x_writeD hX5 ((2 + 9 * (g % 2) : Nat) : Int) P hO5.seg
  rw [e2] at HW2
  refine HW2.mono ?_
  rintro e w6 ⟨rfl, hX6, hc6⟩
  have hB6 := hB5.trans (off_below hc6 hB5.size)
  clear HW2 hX5 hc6 hB5 hO5 e2 hk9 hAnd hAnd2 c0 c1
  go_wp2_with fail
  have HSY := x_sync hX6
  rw [e3] at HSY
  refine HSY.mono ?_
  rintro e w7 ⟨rfl, hX7, hc7⟩
  have hB7 := hB6.trans (off_below hc7 hB6.size)
  have hD7 := hX7.d
  clear HSY hX6 hc7 hB6 e3 hX7
  obtain ⟨S, hSS⟩ : ∃ S, S = twoS (n % 2) (headB n g P.length) (2 + 9 * (g % 2)) P := ⟨_, rfl⟩
  rw [← hSS] at hD7
  have hoE : openE S = 0 := by rw [hSS]; exact openE_two ..
  have HSS : Hid (S = twoS (n % 2) (headB n g P.length) (2 + 9 * (g % 2)) P) := hSS
  clear hSS
  go_wp2_with fail
  refine (x_open hD7 hoE).mono ?_
  rintro e w8 ⟨G, sv, rv, vs, rfl, hX8, hOs, hA, hb8⟩
  have hB8 := blift hB7 hb8 hB7.size
  obtain ⟨c0, c1⟩ := HC.out w8 hB8
  clear hD7 hB7 hb8
  obtain ⟨ga, gc, hgv⟩ := hA.sl
  by_cases hgood : n ≤ 1073741824 ∧ g ≤ 1048576
  · have hth : thereS S = (n, g, P.length) := by rw [HSS.out]; exact two_there (by omega) (by omega) hgood.1 (by omega) hgood.2 (by omega)
    have hfo : foundS S = (st, []) := by
      rw [HSS.out, HP.out] at hth ⊢
      exact two_found (by omega) (by rw [headB_len]; decide) hth (by omega)
    have hol := openL_two hth
    have hok : S.ok 20 := by rw [HSS.out]; exact two_ok hHl (by omega)
    have hcal : calmS S := by rw [HSS.out]; exact two_calm ..
    have hssz : sizeS S = 1152 := by rw [HSS.out]; exact two_size ..
    rw [hfo] at hOs hA hgv
    rw [hol] at hX8
    subst hgv
    have i1 : ¬ (1073741824 : Int) < (n : Int) := by omega
    have i2 : ¬ (1048576 : Int) < (g : Int) := by omega
    clear hol
    by_cases hend : n = 1073741824 ∨ g = 1048576
    · go_wp2_with fail
      have HCK := x_check hX8 _ nx (hU0.below hB8 (Nat.le_refl _)) (by omega)
      rw [check_end rfl (by show 1048576 < g + 1 ∨ 1073741824 ≤ n; omega)] at HCK
      refine HCK.mono ?_
      rintro e w9 ⟨rfl, hX9, hc9⟩
      have hB9 := hB8.trans (off_below hc9 hX8.le)
      have hO9 := hOs.off hc9
      clear HCK hX8 hc9 hB8 hOs hA c0 c1
      go_wp2_with fail
      refine (at_open hX9.disk.d hoE).mono ?_
      rintro e w10 ⟨G2, sv2, rv2, vs2, rfl, -, hO2, -, hb10⟩
      rw [hfo] at hO2
      have hX10 := hX9.after hb10
      have hB10 := blift hB9 hb10 hB9.size
      obtain ⟨c0, c1⟩ := HC.out w10 hB10
      have k1 := seg_stringD (hO9.below hb10 (Nat.le_refl _)).seg 9 Try.underlying9
      have k2 := seg_stringD hO2.seg 9 Try.underlying9
      have k3 := seg_stringD (hS0.below hB10 (Nat.le_refl _)) 9 Try.underlying9
      clear hX9 hB9 hO9 hO2 hb10 hfo hth
      generalize (⟨st.toArray⟩ : ByteArray) = BX at k1 k2 k3
      by_cases hn0 : n = 1073741824
      · have q1 : ((n : Int) == 1073741824) = true := by simp; omega
        go_wp2_with fail
        refine (at_broken hX10.at').mono ?_
        rintro e w11 ⟨rfl, hw11⟩
        obtain rfl := hw11.symm
        clear hw11
        go_wp2_with fail
        go_ret
        exact ⟨rfl, HB.out _ hB10⟩
      · have q1 : ((n : Int) == 1073741824) = false := by rw [beq_eq_false_iff_ne]; omega
        have q2 : ((g : Int) == 1048576) = true := by simp; omega
        go_wp2_with fail
        refine (at_broken hX10.at').mono ?_
        rintro e w11 ⟨rfl, hw11⟩
        obtain rfl := hw11.symm
        clear hw11
        go_wp2_with fail
        go_ret
        exact ⟨rfl, HB.out _ hB10⟩
    · obtain ⟨t, ht, hst, hft, hsz⟩ := check_calm (st := nx) (l := ⟨n, g, [], 0, false, false⟩) hcal hok (by decide) (by rw [hssz]; decide) rfl (by rw [hth]) (by show n < _; omega) (by show g < _; omega) (by rw [hssz, stateB_len]; omega)
      rw [hssz] at hsz
      go_wp2_with fail
      have HCK := x_check hX8 _ nx (hU0.below hB8 (Nat.le_refl _)) (by omega)
      rw [ht] at HCK
      refine HCK.mono ?_
      rintro e w9 ⟨rfl, hX9, hc9⟩
      have hB9 := hB8.trans (off_below hc9 hX8.le)
      have hO9 := hOs.off hc9
      have hoT := open_stand hst (by rw [hsz]; decide)
      obtain ⟨la, hla⟩ : ∃ la : LS, la = ⟨n + 1, g + 1, stateB nx, (stateB nx).length, true, false⟩ := ⟨_, rfl⟩
      have hX9 : LogX w0.heap.size (OwnOf sv) w9 G L t la := by rw [hla]; exact hX9
      have hst : Stand t 20 la := by rw [hla]; exact hst
      have hlan : la.n = n + 1 := by rw [hla]
      have hlab : la.b.length = nx.length + 5 := by rw [hla]; show (stateB nx).length = _; rw [stateB_len]; omega
      have hlas : la.sure = nx.length + 5 := by rw [hla]; show (stateB nx).length = _; rw [stateB_len]; omega
      clear hla HCK hX8 hc9 hB8 hOs hA c0 c1 ht
      go_wp2_with fail
      refine (at_open hX9.disk.d hoT).mono ?_
      rintro e w10 ⟨G2, sv2, rv2, vs2, rfl, -, hO2, -, hb10⟩
      rw [hft] at hO2
      have hX10 := hX9.also hb10 hO2
      have hB10 := blift hB9 hb10 hB9.size
      have hO10 := hO9.below hb10 (Nat.le_refl _)
      obtain ⟨c0, c1⟩ := HC.out w10 hB10
      have q1 : ((n : Int) == 1073741824) = false := by rw [beq_eq_false_iff_ne]; omega
      have q2 : ((g : Int) == 1048576) = false := by rw [beq_eq_false_iff_ne]; omega
      clear hX9 hB9 hO9 hb10 hfo hth
      go_wp2_with fail
      refine (x_append hX10 _ nx (hU0.below hB10 (Nat.le_refl _)) (by omega) hUx).mono ?_
      rintro e w11 ⟨rfl, hX11, hc11⟩
      rw [append_calm hst nx (by omega) (by rw [hsz]; omega)] at hX11 ⊢
      have hst11 := append_stand hst nx (by rw [hsz]; omega)
      have hB11 := hB10.trans (off_below hc11 hX10.le)
      have hO11 := hO10.offD hc11 (fun _ h => .inl h)
      have hP11 := hO2.offD hc11 (fun _ h => .inr h)
      obtain ⟨lb, hlb⟩ : ∃ lb : LS, lb = { la with b := la.b ++ pieceB 3 nx } := ⟨_, rfl⟩
      have hX11 : LogX w0.heap.size (fun q => OwnOf sv q ∨ OwnOf sv2 q) w11 G L t lb := by rw [hlb]; exact hX11
      have hst11 : Stand t 20 lb := by rw [hlb]; exact hst11
      have hlbn : lb.n = n + 1 := by rw [hlb]; exact hlan
      have hlbs : lb.sure ≠ lb.b.length := by
        rw [hlb]
        show la.sure ≠ (la.b ++ pieceB 3 nx).length
        rw [List.length_append, pieceB_len]
        omega
      clear hlb hX10 hc11 hB10 hO10 hO2 hst hlan hlab hlas c0 c1
      go_wp2_with fail
      refine (x_commit hX11).mono ?_
      rintro e w12 ⟨rfl, hX12, hc12⟩
      have hB12 := hB11.trans (off_below hc12 hX11.le)
      have k1 := seg_stringD (hO11.offD hc12 (fun _ h => .inl h)).seg 9 Try.underlying9
      have k2 := seg_stringD (hP11.offD hc12 (fun _ h => .inr h)).seg 9 Try.underlying9
      have k3 := seg_stringD (hS0.below hB12 (Nat.le_refl _)) 9 Try.underlying9
      have k4 := seg_stringD (hU0.below hB12 (Nat.le_refl _)) 9 Try.underlying9
      obtain ⟨c0, c1⟩ := HC.out w12 hB12
      generalize (⟨st.toArray⟩ : ByteArray) = BX at k1 k3
      generalize (⟨nx.toArray⟩ : ByteArray) = BY at k2 k4
      clear hX12
      by_cases hn2 : n + 1 = 1073741824
      · rw [commit_end hst11.broke hst11.begun hlbs (by omega)]
        have q3 : ((n : Int) + 1 == 1073741824) = true := by simp; omega
        clear hst11 hlbs hO11 hP11 hX11 hB11 hc12
        go_wp2_with fail
        go_ret
        exact ⟨rfl, HB.out _ hB12⟩
      · obtain ⟨t', l', hcw, -⟩ := commit_calm hst11 (by decide) (by rw [hsz]; decide) (.inr (by omega))
        rw [hcw]
        have q3 : ((n : Int) + 1 == 1073741824) = false := by rw [beq_eq_false_iff_ne]; omega
        clear hst11 hlbs hO11 hP11 hX11 hB11 hc12 hcw
        go_wp2_with fail
        go_ret
        exact ⟨rfl, HB.out _ hB12⟩
  · have hth : thereS S = (0, 0, 0) := by rw [HSS.out]; exact two_none (by omega) (by omega) (by omega) (by omega) (by omega)
    have hfo : foundS S = ([], []) := by unfold foundS; rw [hth]; rfl
    rw [hfo] at hOs hA hgv
    subst hgv
    obtain ⟨sa, sc, rfl⟩ := Seg.shapeD hOs.seg
    clear hfo hth hX8 hOs hA
    by_cases hn0 : n ≤ 1073741824
    · have i1 : ¬ (1073741824 : Int) < (n : Int) := by omega
      have i2 : (1048576 : Int) < (g : Int) := by omega
      go_wp2_with fail
      go_ret
      exact ⟨rfl, HB.out _ hB8⟩
    · have i1 : (1073741824 : Int) < (n : Int) := by omega
      go_wp2_with fail
      go_ret
      exact ⟨rfl, HB.out _ hB8⟩
end Go.Proofs.Ytcfnbmphonkbpab
