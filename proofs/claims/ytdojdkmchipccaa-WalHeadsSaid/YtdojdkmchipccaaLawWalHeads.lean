/-
  What is proved here: of all numbers and bytes, the statement WalHeads answers true.
  Conditions: none.
-/
import Derived.Test.YtdojdkmchipccaaWalTorn
import Derived.Test.YtdojdkmchipccaaRefWal
import Derived.Test.YtdojdkmchipccaaHeldMore
namespace Go.Proofs.Ytdojdkmchipccaa
open Go.RowKit

theorem exec_and8 {a : Act} {o : Oper} {w : World} (t : TypeId) (x y : Operand) (ho : o.op = .binOp .and t x y t) (m n r : Int) (hx : a.eval x = .int .i64 m) (hy : a.eval y = .int .i64 n) (h : bits .and .i64 m n = r) : (execOp a.eval o).run Try.prog w = .ok (.value (.int .i64 r)) w := by
  unfold execOp
  simp [ho, hx, hy]
  rw [← h]
  rfl
theorem and_nat (n : Nat) (hn : n < 4294967296) : bits .and .i64 (n : Int) 1 = ((n % 2 : Nat) : Int) := by
  have h : bits .and .i64 (n : Int) 1 = IntKind.i64.wrap ((BitVec.ofInt 64 (n : Int) &&& BitVec.ofInt 64 1).toNat : Int) := rfl
  have h2 : (BitVec.ofInt 64 (n : Int)).toNat = n := by
    rw [BitVec.toNat_ofInt]
    omega
  rw [h, BitVec.toNat_and, show (BitVec.ofInt 64 1).toNat = 2 ^ 1 - 1 from rfl, Nat.and_two_pow_sub_one_eq_mod, IntKind.wrap_i64, h2]
  omega
theorem Own.off {B : Nat} {w w' : World} {base : Nat} {v : Value} {bs : List UInt8} (h : Own w base v bs) (hc : Chg (Off B (OwnOf v)) w w') : Own w' base v bs := h.chg hc (fun _ hk e => e.2 hk)
theorem x_open {B : Nat} {w : World} {L : PLay} {s : DS} (h : DiskAt B w L s) (he : openE s = 0) :
    Calls Try.prog 11 #[.pointer (some ⟨L.g, 0, none⟩)] w fun e w' => ∃ G sv rv vs, e = .returned (.tuple #[.pointer (some ⟨G, 0, none⟩), sv, rv, .int .i64 0]) ∧ LogX B (OwnOf sv) w' G L s (openL s) ∧ Own w' w.heap.size sv (foundS s).1 ∧ Gat w' w.heap.size rv vs (foundS s).2 ∧ Below w.heap.size w w' := by
  obtain ⟨C, h1, h2, h3⟩ := h
  refine (open_any L C s w h1 he).mono ?_
  rintro e w' ⟨G, sv, rv, vs, rfl, hP, hG, hO, hA, hb⟩
  refine ⟨G, sv, rv, vs, rfl, ⟨_, hP, fun q hq => ?_, fun q hq => (hO.blocks q hq).2, Nat.le_trans h3 hb.size⟩, hO, hA, hb⟩
  rcases hq with e | rfl
  · exact ⟨h2 q e, fun d => by have := (hO.blocks q d).1; have := h1.lt q e; omega⟩
  · refine ⟨Nat.le_trans h3 hG, fun d => ?_⟩
    obtain ⟨CD, len, bg, tv, tb, k1, k2, k3, -⟩ := hP.body
    obtain ⟨c', f', hcf⟩ := own_cells hO d
    rw [show _ = _ from k3] at hcf
    cases hcf
theorem LogX.also {B : Nat} {D : Nat → Prop} {w w' : World} {G : Nat} {L : PLay} {s : DS} {l : LS} {v : Value} {bs : List UInt8} (h : LogX B D w G L s l) (hb : Below w.heap.size w w') (hO : Own w' w.heap.size v bs) : LogX B (fun q => D q ∨ OwnOf v q) w' G L s l := by
  obtain ⟨C, h1, h2, h3, h4⟩ := h
  refine ⟨C, h1.after hb, fun q hq => ⟨(h2 q hq).1, fun e => ?_⟩, fun q hq => ?_, Nat.le_trans h4 hb.size⟩
  · rcases e with e | e
    · exact (h2 q hq).2 e
    · have := (hO.blocks q e).1
      have := h1.lt q hq
      omega
  · rcases hq with e | e
    · exact Nat.lt_of_lt_of_le (h3 q e) hb.size
    · exact (hO.blocks q e).2
theorem LogX.at' {B : Nat} {D : Nat → Prop} {w : World} {G : Nat} {L : PLay} {s : DS} {l : LS} (h : LogX B D w G L s l) : LogAt B w G L s l := by
  obtain ⟨C, h1, h2, _, h4⟩ := h
  exact ⟨C, h1, fun q hq => (h2 q hq).1, h4⟩
theorem Own.offD {B : Nat} {D : Nat → Prop} {w w' : World} {base : Nat} {v : Value} {bs : List UInt8} (h : Own w base v bs) (hc : Chg (Off B D) w w') (hD : ∀ q, OwnOf v q → D q) : Own w' base v bs := h.chg hc (fun _ hk e => e.2 (hD _ hk))
theorem index_arr3 (b k : Nat) (hk : k < 3) (V : World) : (Instr.indexAt 47 (.pointer (some ⟨b, 0, none⟩)) (.int .i64 (k : Int))).run Try.prog V = .ok (.pointer (some ⟨b, k, none⟩)) V := by
  rcases (show k = 0 ∨ k = 1 ∨ k = 2 by omega) with rfl | rfl | rfl
  · kernel_rfl
  · kernel_rfl
  · kernel_rfl
theorem DiskX.also {B : Nat} {D : Nat → Prop} {w w' : World} {L : PLay} {s : DS} {v : Value} {bs : List UInt8} (h : DiskX B D w L s) (hb : Below w.heap.size w w') (hO : Own w' w.heap.size v bs) : DiskX B (fun q => D q ∨ OwnOf v q) w' L s := by
  obtain ⟨C, h1, h2, h3, h4⟩ := h
  refine ⟨C, h1.after hb, fun q hq => ⟨(h2 q hq).1, fun e => ?_⟩, fun q hq => ?_, Nat.le_trans h4 hb.size⟩
  · rcases e with e | e
    · exact (h2 q hq).2 e
    · have := (hO.blocks q e).1
      have := h1.lt q hq
      omega
  · rcases hq with e | e
    · exact Nat.lt_of_lt_of_le (h3 q e) hb.size
    · exact (hO.blocks q e).2
theorem x_writeK {B : Nat} {D : Nat → Prop} {w : World} {L : PLay} {s : DS} {v : Value} (h : DiskX B D w L s) (k : Int) (bs : List UInt8) (hS : Seg w v bs) (hD : ∀ q, OwnOf v q → D q) :
    Calls Try.prog 9 #[.pointer (some ⟨L.g, 0, none⟩), .int .i64 k, v] w fun e w' => e = .returned (.int .i64 (writeS s k bs).1) ∧ DiskX B D w' L (writeS s k bs).2 ∧ Chg (Off B D) w w' := by
  obtain ⟨C, h1, h2, h3, h4⟩ := h
  refine (od_write L C s k v bs w h1 hS (fun _ q hq e => (h2 q e).2 (hD q hq))).mono ?_
  rintro e w' ⟨rfl, hP, hc⟩
  exact ⟨rfl, ⟨_, hP, x_fr h2 h3 h4, fun q hq => Nat.lt_of_lt_of_le (h3 q hq) hc.size, Nat.le_trans h4 hc.size⟩, hc.weaken h2⟩
theorem headB_twice (n g m : Nat) : (headB n g m).take 12 = (headB n g m).drop 12 := rfl
theorem torn_found {n g K : Nat} {st nx : List UInt8} (hn1 : 1 ≤ n) (hn : n ≤ 536870912) (hg1 : 1 ≤ g) (hg : g < 1048576) (hK : K ≤ 24) (hst : st.length ≤ 100) (hnx : nx.length ≤ 100) : ∃ u, foundS (threeS (n % 2) ((headB (n + 2) (g + 1) (pieceB 2 nx).length).take K ++ (headB n g (pieceB 2 st).length).drop K) (2 + 9 * (g % 2)) (pieceB 2 st) (2 + 9 * (1 - g % 2)) (pieceB 2 nx)) = (u, []) ∧ (u = st ∨ u = nx ∨ u = []) ∧ (K = 0 → u = st) ∧ (K = 24 → u = nx) := by
  have hp : n % 2 < 2 := Nat.mod_lt _ (by decide)
  have hq : g % 2 < 2 := Nat.mod_lt _ (by decide)
  have hPl : (pieceB 2 st).length ≤ 105 := by rw [pieceB_len]; omega
  have hQl : (pieceB 2 nx).length ≤ 105 := by rw [pieceB_len]; omega
  have hA : (headB (n + 2) (g + 1) (pieceB 2 nx).length).length = 24 := headB_len ..
  have hB : (headB n g (pieceB 2 st).length).length = 24 := headB_len ..
  have hT : ((headB (n + 2) (g + 1) (pieceB 2 nx).length).take K ++ (headB n g (pieceB 2 st).length).drop K).length = 24 := by rw [List.length_append, List.length_take, List.length_drop, hA, hB]; omega
  have old : ∀ T, T = headB n g (pieceB 2 st).length → foundS (threeS (n % 2) T (2 + 9 * (g % 2)) (pieceB 2 st) (2 + 9 * (1 - g % 2)) (pieceB 2 nx)) = (st, []) := fun T e => by
    subst e
    refine found_bank hst (three_ok (by omega) (by omega) (by omega)) (three_half ..) (three_q _ _ _ (by omega) (by omega)) (n := n) (there_head (three_size ..) (three_p _ _ _ hp (by omega) (by omega)) (three_o _ _ _ hp (by omega) (by omega)) hn1 (by omega) hg1 (by omega) (by omega)) hn1
  have new : ∀ T, T = headB (n + 2) (g + 1) (pieceB 2 nx).length → foundS (threeS (n % 2) T (2 + 9 * (g % 2)) (pieceB 2 st) (2 + 9 * (1 - g % 2)) (pieceB 2 nx)) = (nx, []) := fun T e => by
    subst e
    have e1 : (n + 2) % 2 = n % 2 := by omega
    have e2 : 2 + 9 * ((g + 1) % 2) = 2 + 9 * (1 - g % 2) := by omega
    refine found_bank (n := n + 2) (g := g + 1) hnx (three_ok (by omega) (by omega) (by omega)) (three_half ..) ?_ (there_head (three_size ..) ?_ ?_ (by omega) (by omega) (by omega) (by omega) (by omega)) (by omega)
    · rw [e2]; exact three_r _ _ _ (by omega)
    · rw [e1]; exact three_p _ _ _ hp (by omega) (by omega)
    · rw [e1]; exact three_o _ _ _ hp (by omega) (by omega)
  rcases Nat.eq_zero_or_pos K with rfl | hK0
  · exact ⟨st, old _ (by simp), .inl rfl, fun _ => rfl, fun h => by cases h⟩
  by_cases hK24 : K = 24
  · subst hK24
    exact ⟨nx, new _ (by rw [List.take_of_length_le (by omega), List.drop_of_length_le (by omega), List.append_nil]), .inr (.inl rfl), (fun h => by omega), fun _ => rfl⟩
  by_cases hs : (padS ((headB (n + 2) (g + 1) (pieceB 2 nx).length).take K ++ (headB n g (pieceB 2 st).length).drop K)).take 12 = ((padS ((headB (n + 2) (g + 1) (pieceB 2 nx).length).take K ++ (headB n g (pieceB 2 st).length).drop K)).drop 12).take 12
  · rcases torn_stand hA hB (headB_twice ..) (headB_twice ..) hK _ hs with e | e
    · exact ⟨nx, new _ e, .inr (.inl rfl), fun h => by omega, fun h => by omega⟩
    · exact ⟨st, old _ e, .inl rfl, fun h => by omega, fun h => by omega⟩
  · refine ⟨[], ?_, .inr (.inr rfl), fun h => by omega, fun h => by omega⟩
    unfold foundS
    rw [there_not hp (three_p _ _ _ hp (by omega) (by omega)) (three_o _ _ _ hp (by omega) (by omega)) hs]
    rfl
set_option maxRecDepth 100000 in
set_option maxHeartbeats 16000000 in
theorem walHeads_any (y z k : Int) (x : Value) (st : List UInt8) (u : Value) (nx : List UInt8) (w : World) (hm : st.length ≤ maxLen) (hS : Seg w x st) (hmn : nx.length ≤ maxLen) (hU : Seg w u nx) :
    Calls Try.prog 4 #[.agg #[.int .i64 y, .int .i64 z, .int .i64 k], x, u] w fun e w' => e = .returned (.bool true) ∧ Below w.heap.size w w' := by
  obtain ⟨ax, cx, rfl⟩ := Seg.shapeD hS
  obtain ⟨au, cu, rfl⟩ := Seg.shapeD hU
  unfold maxLen at hm hmn
  go_enter Try.func4, Try.ntmps4
  go_wp2_with fail
  have hb0 := (Below.refl w.heap.size w).alloc (Nat.le_refl _) (.cells #[.int .i64 y, .int .i64 z, .int .i64 k] 47)
  have hbx : Blk (w.alloc (.cells #[.int .i64 y, .int .i64 z, .int .i64 k] 47)) w.heap.size 47 #[.int .i64 y, .int .i64 z, .int .i64 k] := Blk.new w 47 _
  have hsz0 : (w.alloc (.cells #[.int .i64 y, .int .i64 z, .int .i64 k] 47)).heap.size = w.heap.size + 1 := by show (w.heap.push _).size = _; rw [Array.size_push]
  generalize w.alloc (.cells #[.int .i64 y, .int .i64 z, .int .i64 k] 47) = w0 at *
  have hxl : w.heap.size < w0.heap.size := by omega
  have hS0 := hS.below hb0 (Nat.le_refl _)
  have hU0 := hU.below hb0 (Nat.le_refl _)
  have HB : Hid (∀ W, Below w0.heap.size w0 W → Below w.heap.size w W) := fun W hW => hb0.trans (hW.mono hb0.size)
  have HC : Hid (∀ W : World, Below w0.heap.size w0 W → W.cell? ⟨w.heap.size, 0, none⟩ = some (.int .i64 y) ∧ W.cell? ⟨w.heap.size, 1, none⟩ = some (.int .i64 z) ∧ W.cell? ⟨w.heap.size, 2, none⟩ = some (.int .i64 k)) := fun W hW => ⟨(Blk.below hbx hW hxl).cell (j := 0) rfl, (Blk.below hbx hW hxl).cell (j := 1) rfl, (Blk.below hbx hW hxl).cell (j := 2) rfl⟩
  clear hbx hb0 hS hU hsz0
  refine (awake7_any w0).mono ?_
  rintro e w1 ⟨rfl, hB1⟩
  go_wp2_with fail
  refine (at_new w0.heap.size 20 w1 (by decide) (by decide) hB1.size).mono ?_
  rintro e w2 ⟨L, rfl, hD, hb2, hLn⟩
  have hB2 := blift hB1 hb2 hB1.size
  obtain ⟨c0, c1, c2⟩ := HC.out w2 hB2
  clear hB1 hb2 hLn
  by_cases h5 : 100 < st.length
  · have j5 : (100 : Int) < (st.length : Int) := by omega
    go_wp2_with fail
    go_ret
    exact ⟨rfl, HB.out _ hB2⟩
  have j5 : ¬ (100 : Int) < (st.length : Int) := by omega
  by_cases h6 : 100 < nx.length
  · have j6 : (100 : Int) < (nx.length : Int) := by omega
    go_wp2_with fail
    go_ret
    exact ⟨rfl, HB.out _ hB2⟩
  have j6 : ¬ (100 : Int) < (nx.length : Int) := by omega
  by_cases h1 : y < 1
  · go_wp2_with fail
    go_ret
    exact ⟨rfl, HB.out _ hB2⟩
  by_cases h2 : 536870912 < y
  · go_wp2_with fail
    go_ret
    exact ⟨rfl, HB.out _ hB2⟩
  by_cases h3 : z < 1
  · go_wp2_with fail
    go_ret
    exact ⟨rfl, HB.out _ hB2⟩
  by_cases h4 : 1048576 ≤ z
  · go_wp2_with fail
    go_ret
    exact ⟨rfl, HB.out _ hB2⟩
  by_cases h7 : k < 0
  · go_wp2_with fail
    go_ret
    exact ⟨rfl, HB.out _ hB2⟩
  by_cases h8 : 24 < k
  · go_wp2_with fail
    go_ret
    exact ⟨rfl, HB.out _ hB2⟩
  go_wp2_with fail
  obtain ⟨n, rfl⟩ : ∃ n : Nat, y = (n : Int) := ⟨y.toNat, by omega⟩
  obtain ⟨g, rfl⟩ : ∃ g : Nat, z = (g : Int) := ⟨z.toNat, by omega⟩
  obtain ⟨K, rfl⟩ : ∃ K : Nat, k = (K : Int) := ⟨k.toNat, by omega⟩
  have HN : Hid ((1 ≤ n ∧ n ≤ 536870912) ∧ (1 ≤ g ∧ g < 1048576) ∧ K ≤ 24) := ⟨by omega, by omega, by omega⟩
  clear h1 h2 h3 h4 h7 h8
  refine (piece7_any 2 _ st w2 (by decide) (hS0.below hB2 (Nat.le_refl _)) (by omega)).mono ?_
  rintro e w3 ⟨v10, rfl, hO, hb3⟩
  have hX3 := hD.x hb3 hO
  have hB3 := blift hB2 hb3 hB2.size
  clear hD hb3 hB2 c0 c1 c2
  go_wp2_with fail
  refine (piece7_any 2 _ nx w3 (by decide) (hU0.below hB3 (Nat.le_refl _)) (by omega)).mono ?_
  rintro e w4 ⟨v11, rfl, hQ, hb4⟩
  have hX4 := hX3.also hb4 hQ
  have hO4 := hO.below hb4 (Nat.le_refl _)
  have hB4 := blift hB3 hb4 hB3.size
  clear hX3 hO hb4 hB3
  obtain ⟨P, hP⟩ : ∃ P, P = pieceB 2 st := ⟨_, rfl⟩
  obtain ⟨Q, hQ0⟩ : ∃ Q, Q = pieceB 2 nx := ⟨_, rfl⟩
  rw [← hP] at hO4
  rw [← hQ0] at hQ
  have HP : Hid (P = pieceB 2 st) := hP
  have HQ : Hid (Q = pieceB 2 nx) := hQ0
  have hPm : P.length ≤ 105 := by rw [hP, pieceB_len]; omega
  have hQm : Q.length ≤ 105 := by rw [hQ0, pieceB_len]; omega
  clear hP hQ0
  obtain ⟨a10, c10, rfl⟩ := Seg.shapeD hO4.seg
  obtain ⟨a11, c11, rfl⟩ := Seg.shapeD hQ.seg
  obtain ⟨c0, c1, c2⟩ := HC.out w4 hB4
  go_wp2_with fail
  refine (head7_any n g P.length w4 (by have := HN.out; omega) (by have := HN.out; omega) (by omega)).mono ?_
  rintro e w5 ⟨v12, rfl, hA, hb5⟩
  have hX5 := hX4.after hb5
  have hO5 := hO4.below hb5 (Nat.le_refl _)
  have hQ5 := hQ.below hb5 (Nat.le_refl _)
  have hB5 := blift hB4 hb5 hB4.size
  clear hX4 hO4 hQ hb5 hB4 c0 c1 c2
  obtain ⟨c0, c1, c2⟩ := HC.out w5 hB5
  go_wp2_with fail
  rw [show ((n : Int) + 2) = ((n + 2 : Nat) : Int) by omega, show ((g : Int) + 1) = ((g + 1 : Nat) : Int) by omega]
  refine (head7_any (n + 2) (g + 1) Q.length w5 (by have := HN.out; omega) (by have := HN.out; omega) (by omega)).mono ?_
  rintro e w6 ⟨v13, rfl, hF, hb6⟩
  have hX6 := hX5.after hb6
  have hO6 := hO5.below hb6 (Nat.le_refl _)
  have hQ6 := hQ5.below hb6 (Nat.le_refl _)
  have hA6 := hA.below hb6 (Nat.le_refl _)
  have hB6 := blift hB5 hb6 hB5.size
  clear hX5 hO5 hQ5 hA hb6 hB5 c0 c1 c2
  obtain ⟨H1, hH1⟩ : ∃ H, H = headB n g P.length := ⟨_, rfl⟩
  obtain ⟨H2, hH2⟩ : ∃ H, H = headB (n + 2) (g + 1) Q.length := ⟨_, rfl⟩
  rw [← hH1] at hA6
  rw [← hH2] at hF
  have HH1 : Hid (H1 = headB n g P.length) := hH1
  have HH2 : Hid (H2 = headB (n + 2) (g + 1) Q.length) := hH2
  have hl1 : H1.length = 24 := by rw [hH1, headB_len]
  have hl2 : H2.length = 24 := by rw [hH2, headB_len]
  clear hH1 hH2
  have hK24 : K ≤ 24 := HN.out.2.2
  have hT : (H2.take K ++ H1.drop K).length = 24 := by rw [List.length_append, List.length_take, List.length_drop]; omega
  have hp : n % 2 < 2 := Nat.mod_lt _ (by decide)
  have hq : g % 2 < 2 := Nat.mod_lt _ (by decide)
  obtain ⟨e1, e2, e3, e4⟩ := three_write (p := n % 2) (q := 2 + 9 * (g % 2)) (r := 2 + 9 * (1 - g % 2)) (H := H2.take K ++ H1.drop K) (P := P) (R := Q) (by omega) (by omega) (by omega) (by omega) (by omega) (by omega)
  obtain ⟨a12, c12, rfl⟩ := Seg.shapeD hA6.seg
  obtain ⟨a13, c13, rfl⟩ := Seg.shapeD hF.seg
  rw [hl1] at hA6 ⊢
  rw [hl2] at hF ⊢
  have hs13 := hF.seg.takesD K hK24
  have hs12 := hA6.seg.dropsD K hK24
  have hAnd : bits .and .i64 (n : Int) 1 = ((n % 2 : Nat) : Int) := and_nat n (by have := HN.out; omega)
  have hAnd2 : bits .and .i64 (g : Int) 1 = ((g % 2 : Nat) : Int) := and_nat g (by have := HN.out; omega)
  have hX6d : DiskX w0.heap.size (fun q => OwnOf (.slice a10 P.length c10) q ∨ OwnOf (.slice a11 Q.length c11) q) w6.drew L (newS 20) := hX6.after (Below.refl _ _).drew
  have HWR : Hid (∀ W v, Below w6.drew.heap.size w6.drew W → Own W w6.drew.heap.size v (H2.take K ++ H1.drop K) → Calls Try.prog 9 #[.pointer (some ⟨L.g, 0, none⟩), .int .i64 ((n % 2 : Nat) : Int), v] W fun e w' => e = .returned (.int .i64 0) ∧ DiskX w0.heap.size (fun q => OwnOf (.slice a10 P.length c10) q ∨ OwnOf (.slice a11 Q.length c11) q) w' L (putS (newS 20) (n % 2) (H2.take K ++ H1.drop K)) ∧ Chg (Off w0.heap.size (fun q => OwnOf (.slice a10 P.length c10) q ∨ OwnOf (.slice a11 Q.length c11) q)) W w') := fun W v hW hv => by
    have := x_write hX6d hW ((n % 2 : Nat) : Int) v _ hv
    rw [e1] at this
    exact this
  have hB6d : Below w0.heap.size w0 w6.drew := hB6.drew
  have hO6d : Own w6.drew w2.heap.size (.slice a10 P.length c10) P := hO6.below (Below.refl _ _).drew (Nat.le_refl _)
  have hQ6d : Own w6.drew w3.heap.size (.slice a11 Q.length c11) Q := hQ6.below (Below.refl _ _).drew (Nat.le_refl _)
  have hs13d : Seg w6.drew (.slice a13 K c13) (H2.take K) := hs13.1.below (Below.refl _ _).drew (Nat.le_refl _)
  have hs12d : Seg w6.drew (.slice (restD a12 c12 K) (24 - K) (c12 - K)) (H1.drop K) := hs12.below (Below.refl _ _).drew (Nat.le_refl _)
  have hK13 : K ≤ c13 := hs13.2
  clear hX6 hX6d e1 hs13 hs12 hA6 hF hO6 hQ6
  obtain ⟨c0, c1, c2⟩ := HC.out _ hB6
  go_wp2_with fail
  refine held_begin (fun V => Below w0.heap.size w0 V) (by kernel_rfl) ?_
  refine held_take 0 99 _ (.pointer (some ⟨L.g, 0, none⟩)) rfl rfl (by kernel_rfl) (by kernel_rfl) (by kernel_rfl) rfl hB6d (fun _ _ => rfl) ?_
  simp only [Act.put, List.setIfInBounds_toArray, List.set_cons_succ, List.set_cons_zero]
  refine held_take 1 100 _ (.pointer (some ⟨w.heap.size, 0, none⟩)) rfl rfl (by kernel_rfl) (by kernel_rfl) (by kernel_rfl) rfl hB6d (fun V _ => exec_indexat 47 _ _ rfl (.pointer (some ⟨w.heap.size, 0, none⟩)) (.int .i64 ((0 : Nat) : Int)) _ rfl rfl (index_arr3 w.heap.size 0 (by decide) V)) ?_
  simp only [Act.put, List.setIfInBounds_toArray, List.set_cons_succ, List.set_cons_zero]
  refine held_take 2 101 _ (.int .i64 (n : Int)) rfl rfl (by kernel_rfl) (by kernel_rfl) (by kernel_rfl) rfl hB6d (fun V hV => exec_loadc 3 _ rfl _ _ rfl (load_one 3 (fun _ => by kernel_rfl) V _ _ _ (HC.out V hV).1)) ?_
  simp only [Act.put, List.setIfInBounds_toArray, List.set_cons_succ, List.set_cons_zero]
  refine held_take 3 102 _ (.int .i64 ((n % 2 : Nat) : Int)) rfl rfl (by kernel_rfl) (by kernel_rfl) (by kernel_rfl) rfl hB6d (fun V _ => exec_and8 _ _ _ rfl _ _ _ rfl rfl hAnd) ?_
  simp only [Act.put, List.setIfInBounds_toArray, List.set_cons_succ, List.set_cons_zero]
  refine held_take 5 104 _ (.slice a13 24 c13) rfl rfl (by kernel_rfl) (by kernel_rfl) (by kernel_rfl) rfl hB6d (fun _ _ => rfl) ?_
  simp only [Act.put, List.setIfInBounds_toArray, List.set_cons_succ, List.set_cons_zero]
  refine held_take 6 105 _ (.pointer (some ⟨w.heap.size, 2, none⟩)) rfl rfl (by kernel_rfl) (by kernel_rfl) (by kernel_rfl) rfl hB6d (fun V _ => exec_indexat 47 _ _ rfl (.pointer (some ⟨w.heap.size, 0, none⟩)) (.int .i64 ((2 : Nat) : Int)) _ rfl rfl (index_arr3 w.heap.size 2 (by decide) V)) ?_
  simp only [Act.put, List.setIfInBounds_toArray, List.set_cons_succ, List.set_cons_zero]
  refine held_take 7 106 _ (.int .i64 (K : Int)) rfl rfl (by kernel_rfl) (by kernel_rfl) (by kernel_rfl) rfl hB6d (fun V hV => exec_loadc 3 _ rfl _ _ rfl (load_one 3 (fun _ => by kernel_rfl) V _ _ _ (HC.out V hV).2.2)) ?_
  simp only [Act.put, List.setIfInBounds_toArray, List.set_cons_succ, List.set_cons_zero]
  refine held_take 8 107 _ (.slice a13 K c13) rfl rfl (by kernel_rfl) (by kernel_rfl) (by kernel_rfl) rfl hB6d (fun V _ => exec_slice7 _ none (some _) none rfl (.slice a13 24 c13) _ none (some (.int .i64 (K : Int))) none rfl rfl rfl rfl (slice_toD a13 24 c13 K hK13 V)) ?_
  simp only [Act.put, List.setIfInBounds_toArray, List.set_cons_succ, List.set_cons_zero]
  refine held_take 10 109 _ (.slice a12 24 c12) rfl rfl (by kernel_rfl) (by kernel_rfl) (by kernel_rfl) rfl hB6d (fun _ _ => rfl) ?_
  simp only [Act.put, List.setIfInBounds_toArray, List.set_cons_succ, List.set_cons_zero]
  refine held_take 11 110 _ (.pointer (some ⟨w.heap.size, 2, none⟩)) rfl rfl (by kernel_rfl) (by kernel_rfl) (by kernel_rfl) rfl hB6d (fun V _ => exec_indexat 47 _ _ rfl (.pointer (some ⟨w.heap.size, 0, none⟩)) (.int .i64 ((2 : Nat) : Int)) _ rfl rfl (index_arr3 w.heap.size 2 (by decide) V)) ?_
  simp only [Act.put, List.setIfInBounds_toArray, List.set_cons_succ, List.set_cons_zero]
  refine held_take 12 111 _ (.int .i64 (K : Int)) rfl rfl (by kernel_rfl) (by kernel_rfl) (by kernel_rfl) rfl hB6d (fun V hV => exec_loadc 3 _ rfl _ _ rfl (load_one 3 (fun _ => by kernel_rfl) V _ _ _ (HC.out V hV).2.2)) ?_
  simp only [Act.put, List.setIfInBounds_toArray, List.set_cons_succ, List.set_cons_zero]
  refine held_take 13 112 _ (.slice (restD a12 c12 K) (24 - K) (c12 - K)) rfl rfl (by kernel_rfl) (by kernel_rfl) (by kernel_rfl) rfl hB6d (fun V _ => exec_slice7 _ (some _) none none rfl (.slice a12 24 c12) _ (some (.int .i64 (K : Int))) none none rfl rfl rfl rfl (slice_restD a12 24 c12 K hK24 V)) ?_
  simp only [Act.put, List.setIfInBounds_toArray, List.set_cons_succ, List.set_cons_zero]
  have hO7 := own_emptyD w6.drew w6.drew.heap.size _ rfl (Nat.le_refl _)
  have hb7 := (Below.refl w6.drew.heap.size w6.drew).alloc (Nat.le_refl _) (.cells #[] 5)
  refine held_all1 4 (by kernel_rfl) (op_value 4 103 _ (.slice (some ⟨w6.drew.heap.size, 0, none⟩) 0 0) _ rfl rfl rfl (exec_empty rfl) ⟨(blift hB6d hb7 hB6d.size), ?_⟩)
  simp only [Act.put, List.setIfInBounds_toArray, List.set_cons_succ, List.set_cons_zero]
  obtain ⟨v8', w8, hr8, hO8, hg8, -⟩ := app_bytes _ w6.drew.heap.size _ _ hO7 (.slice a13 K c13) _ (hs13d.below hb7 (Nat.le_refl _)) (by rw [List.length_take]; show 0 + _ ≤ _; omega) hb7.size
  have hb8 := below_grown hb7 hg8 hb7.size (fun q hq => (hO7.blocks q hq).1)
  refine held_all1 9 (by kernel_rfl) (op_value 9 108 _ (v8') w8 rfl rfl rfl (exec_app _ _ _ _ rfl _ _ _ rfl rfl hr8) ⟨(blift hB6d hb8 hB6d.size), ?_⟩)
  simp only [Act.put, List.setIfInBounds_toArray, List.set_cons_succ, List.set_cons_zero]
  obtain ⟨v9', w9, hr9, hO9, hg9, -⟩ := app_bytes _ w6.drew.heap.size _ _ hO8 (.slice (restD a12 c12 K) (24 - K) (c12 - K)) _ (hs12d.below hb8 (Nat.le_refl _)) (by rw [List.nil_append, List.length_take, List.length_drop]; omega) hb8.size
  have hbb := below_grown hb8 hg9 hb8.size (fun q hq => (hO8.blocks q hq).1)
  have hB9 := blift hB6d hbb hB6d.size
  have hS9 := hB9
  rw [List.nil_append] at hO9
  refine held_all1 14 (by kernel_rfl) (op_value 14 113 _ (v9') w9 rfl rfl rfl (exec_app _ _ _ _ rfl _ _ _ rfl rfl hr9) ⟨hS9, ?_⟩)
  simp only [Act.put, List.setIfInBounds_toArray, List.set_cons_succ, List.set_cons_zero]
  refine held_all1 15 (by kernel_rfl) (op_call 15 114 _ 9 #[.pointer (some ⟨L.g, 0, none⟩), .int .i64 ((n % 2 : Nat) : Int), v9'] rfl rfl rfl (exec_three8 9 _ _ _ _ rfl _ _ _ rfl rfl rfl Try.call9) ((HWR.out w9 v9' hbb hO9).mono ?_))
  rintro e w10 ⟨rfl, hX10, hc10⟩
  have hS10 := hB9.trans (off_below hc10 hB9.size)
  refine ⟨_, rfl, hS10, ?_⟩
  simp only [Act.put, List.setIfInBounds_toArray, List.set_cons_succ, List.set_cons_zero]
  refine wpAnyH_done (by kernel_rfl) ?_ _
  refine NoPanic.normal ?_
  have hB10 := hB9.trans (off_below hc10 hB9.size)
  have hb9 := hbb
  have hO10 := (hO6d.below hb9 (Nat.le_refl _)).offD hc10 (fun _ h => .inl h)
  have hQ10 := (hQ6d.below hb9 (Nat.le_refl _)).offD hc10 (fun _ h => .inr h)
  obtain ⟨c0, c1, c2⟩ := HC.out w10 hB10
  clear HWR hb9 hbb hB9 hc10 hO6d hQ6d hB6d hB6 hAnd hS9 hO9 hr9 hg9 hg8 hr8 hO8 hO7 hs12d hs13d
  go_wp2_with fail
  rw [show (2 : Int) + 9 * ((g : Int) % 2) = ((2 + 9 * (g % 2) : Nat) : Int) by omega]
  have HW2 := x_writeK hX10 ((2 + 9 * (g % 2) : Nat) : Int) P hO10.seg (fun _ h => .inl h)
  rw [e2] at HW2
  refine HW2.mono ?_
  rintro e w11 ⟨rfl, hX11, hc11⟩
  have hB11 := hB10.trans (off_below hc11 hB10.size)
  have hQ11 := hQ10.offD hc11 (fun _ h => .inr h)
  clear HW2 hX10 hc11 hB10 hO10 hQ10 e2 c0 c1 c2
  obtain ⟨c0, c1, c2⟩ := HC.out w11 hB11
  go_wp2_with fail
  rw [show (2 : Int) + 9 * (1 - (g : Int) % 2) = ((2 + 9 * (1 - g % 2) : Nat) : Int) by omega]
  have HW3 := x_writeK hX11 ((2 + 9 * (1 - g % 2) : Nat) : Int) Q hQ11.seg (fun _ h => .inr h)
  rw [e3] at HW3
  refine HW3.mono ?_
  rintro e w12 ⟨rfl, hX12, hc12⟩
  have hB12 := hB11.trans (off_below hc12 hB11.size)
  clear HW3 hX11 hc12 hB11 hQ11 e3 c0 c1 c2 hAnd2
  go_wp2_with fail
  have HSY := x_sync hX12
  rw [e4] at HSY
  refine HSY.mono ?_
  rintro e w13 ⟨rfl, hX13, hc13⟩
  have hB13 := hB12.trans (off_below hc13 hB12.size)
  have hD13 := hX13.d
  clear HSY hX12 hc13 hB12 e4 hX13
  obtain ⟨S, hSS⟩ : ∃ S, S = threeS (n % 2) (H2.take K ++ H1.drop K) (2 + 9 * (g % 2)) P (2 + 9 * (1 - g % 2)) Q := ⟨_, rfl⟩
  rw [← hSS] at hD13
  have hoE : openE S = 0 := by rw [hSS]; exact openE_three ..
  have hfo : ∃ u, foundS S = (u, []) ∧ (u = st ∨ u = nx ∨ u = []) ∧ (K = 0 → u = st) ∧ (K = 24 → u = nx) := by
    rw [hSS, HH1.out, HH2.out, HP.out, HQ.out]
    exact torn_found (by have := HN.out; omega) (by have := HN.out; omega) (by have := HN.out; omega) (by have := HN.out; omega) hK24 (by omega) (by omega)
  obtain ⟨uu, hfo, hu1, hu2, hu3⟩ := hfo
  clear hSS
  go_wp2_with fail
  refine (x_open hD13 hoE).mono ?_
  rintro e w14 ⟨G, sv, rv, vs, rfl, -, hOs, hA, hb14⟩
  have hB14 := blift hB13 hb14 hB13.size
  obtain ⟨c0, c1, c2⟩ := HC.out w14 hB14
  obtain ⟨ga, gc, hgv⟩ := hA.sl
  rw [hfo] at hOs hA hgv
  subst hgv
  obtain ⟨sa, sc, rfl⟩ := Seg.shapeD hOs.seg
  have k1 := seg_stringD hOs.seg 9 Try.underlying9
  have k2 := seg_stringD (hS0.below hB14 (Nat.le_refl _)) 9 Try.underlying9
  have k3 := seg_stringD (hU0.below hB14 (Nat.le_refl _)) 9 Try.underlying9
  clear hD13 hB13 hb14 hOs hA hoE hfo hT hp hq hl1 hl2 HP HQ HH1 HH2 hS0 hU0
  have HZ : Hid (Below w.heap.size w w14) := HB.out _ hB14
  clear hB14 HB HC
  rcases Nat.eq_zero_or_pos K with rfl | hK0
  · obtain rfl := hu2 rfl
    clear hu1 hu2 hu3 hK24 HN
    generalize (⟨uu.toArray⟩ : ByteArray) = BX at k1 k2
    go_wp2_with fail
    go_ret
    exact ⟨rfl, HZ.out⟩
  have i0 : (0 : Int) < (K : Int) := by omega
  by_cases hK2 : K = 24
  · subst hK2
    obtain rfl := hu3 rfl
    have k4 := str_beq uu st
    generalize (⟨uu.toArray⟩ : ByteArray) = BX at k1 k3 k4
    generalize (⟨st.toArray⟩ : ByteArray) = BY at k2 k4
    clear hu1 hu2 hu3 hK24 HN hK0 i0
    cases hc : decide (uu = st) with
    | true =>
      rw [hc] at k4
      clear hc
      go_wp2_with fail
      go_ret
      exact ⟨rfl, HZ.out⟩
    | false =>
      rw [hc] at k4
      clear hc
      go_wp2_with fail
      go_ret
      exact ⟨rfl, HZ.out⟩
  have i1 : (K : Int) < 24 := by omega
  clear hu2 hu3 hK24 HN hK0 hK2
  rcases hu1 with rfl | rfl | rfl
  · generalize (⟨uu.toArray⟩ : ByteArray) = BX at k1 k2
    go_wp2_with fail
    go_ret
    exact ⟨rfl, HZ.out⟩
  · have k4 := str_beq uu st
    generalize (⟨uu.toArray⟩ : ByteArray) = BX at k1 k3 k4
    generalize (⟨st.toArray⟩ : ByteArray) = BY at k2 k4
    cases hc : decide (uu = st) with
    | true =>
      rw [hc] at k4
      clear hc
      go_wp2_with fail
      go_ret
      exact ⟨rfl, HZ.out⟩
    | false =>
      rw [hc] at k4
      clear hc
      go_wp2_with fail
      go_ret
      exact ⟨rfl, HZ.out⟩
  · have k4 := str_beq [] st
    have k5 := str_beq [] nx
    rw [List.length_nil] at k1 ⊢
    generalize (⟨([] : List UInt8).toArray⟩ : ByteArray) = BX at k1 k4 k5
    generalize (⟨st.toArray⟩ : ByteArray) = BY at k2 k4
    generalize (⟨nx.toArray⟩ : ByteArray) = BZ at k3 k5
    cases hc : decide ([] = st) with
    | true =>
      rw [hc] at k4
      clear hc k5
      go_wp2_with fail
      go_ret
      exact ⟨rfl, HZ.out⟩
    | false =>
      rw [hc] at k4
      clear hc
      cases hd : decide ([] = nx) with
      | true =>
        rw [hd] at k5
        clear hd
        go_wp2_with fail
        go_ret
        exact ⟨rfl, HZ.out⟩
      | false =>
        rw [hd] at k5
        clear hd
        go_wp2_with fail
        go_ret
        exact ⟨rfl, HZ.out⟩
end Go.Proofs.Ytdojdkmchipccaa
