/-
  What is proved here: TopHash: an image that is taken in chunk by chunk, its hash put down and taken up between, is whole just if it has the image's hash; and so it has, if each chunk is the one that it was.
  Conditions: the variables fourBits, firstWords and roundWords hold their words.
-/
import Derived.Test.YtenolcfmbdndgabDoorTopHashP
import Derived.Test.YtenolcfmbdndgabDoorManChunk
import Derived.Test.YtenolcfmbdndgabDoorShaBack
import Derived.Test.YtenolcfmbdndgabDoorRefSum
namespace Go.Proofs.YtenolcfmbdndgabDoor
open Go.RowKit

theorem nil_first : (shaOf []).getD 0 0 = 227 := by decide +kernel
theorem nil_last : (shaOf []).getD 31 0 = 85 := by decide +kernel
theorem byte_wrap (z : Int) : ∃ t : UInt8, IntKind.u8.wrap z = n8 t := by
  refine ⟨UInt8.ofNat (z % 256).toNat, ?_⟩
  rw [IntKind.wrap_u8]
  unfold n8
  have : (UInt8.ofNat (z % 256).toNat).toNat = (z % 256).toNat % 256 := by simp
  rw [this]
  omega

theorem still_value {ops : Array Oper} {w : World} {Q : Act → Prop} {a : Act} {o : Oper} {rest : List Oper} (hgd : o.guard = none) (v : Value) (hrun : (execOp a.eval o).run Tryd.prog w = .ok (.value v) w) (h : wpStill Tryd.prog ops w Q rest (a.put o.dst v)) : wpStill Tryd.prog ops w Q (o :: rest) a := by
  refine wpStill_step fun K hK => ?_
  rw [if_pos (by simp [Region.wanted, hgd])]
  unfold Oper.still
  simp only [hrun, Oper.stillUpon]
  exact ⟨trivial, hK _ h⟩
set_option maxRecDepth 100000 in
theorem exec_remT {a : Act} {o : Oper} {w : World} (t : TypeId) (ht : t = 3) (x y : Operand) (ho : o.op = .binOp .rem t x y t) (m n k : Nat) (hx : a.eval x = .int .i64 (m : Int)) (hy : a.eval y = .int .i64 (n : Int)) (hn : 0 < n) (hk : m % n = k) : (execOp a.eval o).run Tryd.prog w = .ok (.value (.int .i64 (k : Int))) w := by
  subst ht
  subst hk
  have hn0 : ¬ n = 0 := by omega
  have ht : Int.tmod (m : Int) (n : Int) = ((m % n : Nat) : Int) := by simp [Int.tmod]
  unfold execOp
  simp only [ho, hx, hy]
  simp [go_sem, hn0, ht]
theorem store_byteT {w : World} {ops : Array Oper} {rest : List Oper} {o : Oper} {a : Act} {Q : Exit → Act → World → Prop} (hgd : o.guard = none) (x y : Operand) (ho : o.op = .store 5 x y) (hd : o.dst = none) (g i : Nat) (z : Int) (u : Value) (hx : a.eval x = .pointer (some ⟨g, i, none⟩)) (hy : a.eval y = .int .u8 z) (hc : w.cell? ⟨g, i, none⟩ = some u) (hf : w.frozen? ⟨g, i, none⟩ = false)
    (hK : ∀ w', w' = w.setCell ⟨g, i, none⟩ (.int .u8 z) → wpList Tryd.prog ops Q rest a w') : wpList Tryd.prog ops Q (o :: rest) a w := by
  have hrun : (execOp a.eval o).run Tryd.prog w = .ok .skip (w.setCell ⟨g, i, none⟩ (.int .u8 z)) := by
    unfold execOp
    simp only [ho, hx, hy]
    simp [go_sem, hc, hf]
  refine wpList_plain hgd fun K hK' => ?_
  unfold Oper.wp
  rw [hrun, Oper.upon_skip, hd]
  exact hK' _ _ (hK _ rfl)
theorem isWhole_topT {v : Int} {bs : List UInt8} {c : Int} (h : numsOk (numsM v bs c)) (b : List UInt8) (hl : b.length = bs.length) : isWhole (makeM v bs c) b = (shaOf b == shaOf bs) := by
  unfold isWhole
  have h1 := makeM_ok h
  have h2 : (b.length : Int) = (makeM v bs c).s := by rw [hl]; rfl
  have h3 : (makeM v bs c).h = shaOf bs := rfl
  rw [h3]
  by_cases he : shaOf b = shaOf bs <;> simp [he, h1, h2]
theorem count_covers {v : Int} {bs : List UInt8} {C : Nat} (h : numsOk (numsM v bs C)) : (bs.length : Int) ≤ (C : Int) * countM (numsM v bs C) := by
  have hc : 16 ≤ (C : Int) := h.2.2.1.1
  show (bs.length : Int) ≤ (C : Int) * (((bs.length : Int) + (C : Int) - 1) / (C : Int))
  have h1 := Int.mul_ediv_add_emod ((bs.length : Int) + (C : Int) - 1) (C : Int)
  have h2 := Int.emod_lt_of_pos ((bs.length : Int) + (C : Int) - 1) (show 0 < (C : Int) by omega)
  omega
theorem seg_grownT {w w' : World} {g n c : Nat} {bs : List UInt8} {row : Option Nat} (h : Seg w (.slice (some ⟨g, 0, none⟩) n c) bs) (hg : w.grownBy w' row) (hr : some g ≠ row) : Seg w' (.slice (some ⟨g, 0, none⟩) n c) bs := by
  rcases h with h | ⟨b, off, c', h1, h2, h3, h4⟩
  · exact .inl h
  · cases h1
    exact .inr ⟨_, _, _, rfl, h2, h3.grown hg hr, Nat.lt_of_lt_of_le h4 hg.size⟩

set_option maxRecDepth 100000 in
set_option maxHeartbeats 8000000 in
theorem topHash_any (x : Value) (bs : List UInt8) (ao : Option Addr) (len cp : Nat) (ch : Int) (x0 x1 x2 : Int) (w : World) (hx : x = .slice ao len cp) (hl : bs.length = len) (hm : len ≤ maxLen) (hseg : Seg w x bs) (L : Laid10 w) :
    Calls Tryd.prog 4 #[x, .int .i64 ch, .agg #[.int .i64 x0, .int .i64 x1, .int .i64 x2]] w fun e w' => e = .returned (.bool true) ∧ Below w.heap.size w w' := by
  subst hx
  unfold maxLen at hm
  have hBb := (Below.refl w.heap.size w).alloc (Nat.le_refl _) (.cells #[.int .i64 x0, .int .i64 x1, .int .i64 x2] 23)
  have k5 := Blk.new w 23 #[.int .i64 x0, .int .i64 x1, .int .i64 x2]
  by_cases hbig : 40000 < len
  · clear k5 L hseg
    go_enter Tryd.func4, Tryd.ntmps4
    go_wp2
    go_ret
    exact ⟨rfl, hBb⟩
  · have hbl : bs.length ≤ 1000000000 := by omega
    have hb2' : ¬ (40000 : Int) < (len : Int) := by omega
    have HSN : Hid (Calls Tryd.prog 10 #[.slice none 0 0] (w.alloc (.cells #[.int .i64 x0, .int .i64 x1, .int .i64 x2] 23)) fun e w' => e = .returned (.agg ((shaOf []).map v8).toArray) ∧ Below (w.alloc (.cells #[.int .i64 x0, .int .i64 x1, .int .i64 x2] 23)).heap.size (w.alloc (.cells #[.int .i64 x0, .int .i64 x1, .int .i64 x2] 23)) w') := sum_any _ [] _ (seg_nil _) (by decide) (L.below hBb).gf (L.below hBb).ff (L.below hBb).gk (L.below hBb).fk
    have HMK : Hid (∀ V, Below w.heap.size w V → Calls Tryd.prog 6 #[.int .i64 1, .slice ao len cp, .int .i64 ch] V fun e w' => ∃ (M : MM) (su : Value) (er : Int), e = .returned (.tuple #[manV M su, .int .i64 er]) ∧ M.h.length = 32 ∧ M.u.length ≤ 128 ∧ Wds w' su M.u ∧ ((er = 0 ∧ numsOk (numsM 1 bs ch) ∧ M = makeM 1 bs ch) ∨ (er = 1 ∧ ¬ numsOk (numsM 1 bs ch) ∧ M = zeroM)) ∧ Below V.heap.size V w') := fun V hV => make_gen 1 _ bs ch V hbl (hseg.below hV (Nat.le_refl _)) (L.below hV)
    have HLD : Hid (∀ V, Below w.heap.size w V → Laid10 V) := fun V hV => L.below hV
    have HSG : Hid (∀ V, Below w.heap.size w V → Seg V (.slice ao len cp) bs) := fun V hV => hseg.below hV (Nat.le_refl _)
    have hcap := seg_cap hseg
    have hz := zeroMan
    have h0 := nil_first
    have h31 := nil_last
    have hnl : (shaOf []).length = 32 := wbytes_len _
    generalize shaOf [] = SM at HSN h0 h31 hnl
    have hi24 : (Tryd.prog.info? 25).map (·.size) = some (SM.map v8).toArray.size := by rw [List.size_toArray, List.length_map, hnl]; kernel_rfl
    have hone := one8 SM
    have a0 := at8 SM 0 (by omega)
    have a31 := at8 SM 31 (by omega)
    rw [h0] at a0
    rw [h31] at a31
    have HST : Hid ((upTo 32 0 (fun _ => Value.int .u8 0) (.int .u8 0)).size = (SM.map v8).toArray.size) := by show _ = _; rw [upTo_size, List.size_toArray, List.length_map, hnl]
    clear h0 h31 hnl hseg L hbig
    generalize (SM.map v8).toArray = AR at HSN hi24 hone a0 a31 HST
    go_enter Tryd.func4, Tryd.ntmps4
    go_wp2_with fail
    refine HSN.out.mono ?_
    rintro e w1 ⟨rfl, hb1⟩
    have m5 := k5.below hb1 k5.lt
    have hB1 : Below w.heap.size w w1 := hBb.trans (hb1.mono hBb.size)
    clear HSN k5 hb1 hBb
    go_wp2_with (refine store_blk rfl 25 _ _ rfl rfl w1.heap.size AR rfl rfl 25 _ (by exact Blk.new _ _ _) hi24 (by exact HST.out) hone ?_; intro w2 hb2 hg2 hs2; clear hs2; have c0 := hb2.cell (j := 0) a0; have c31 := hb2.cell (j := 31) a31)
    have hf2 := fresh_below hg2
    have m52 := m5.below hf2 m5.lt
    have hB2 : Below w.heap.size w w2 := hB1.trans (hf2.mono hB1.size)
    clear c0 c31 hb2 hg2 hf2 m5 hB1 hi24 hone a0 a31 HST
    refine (HMK.out _ hB2).mono ?_
    rintro e w3 ⟨M1, s1, e1, rfl, hh1, hl1, hu1, hc1, hb3⟩
    have m53 := m52.below hb3 m52.lt
    have hB3 : Below w.heap.size w w3 := hB2.trans (hb3.mono hB2.size)
    clear m52 hb3 hB2 HMK
    have hi1 := manC_info M1 s1 hh1
    have ho1 := manC_one M1 s1 hu1.one
    have HS1 : Hid ((manC zeroM (.slice none 0 0)).size = (manC M1 s1).size) := size_zeroMan M1 s1 hh1
    obtain ⟨MC, hMC1⟩ : ∃ MC1, MC1 = manC M1 s1 := ⟨_, rfl⟩
    have HM1 : Hid (MC = manC M1 s1) := hMC1
    have HC1 : Hid ((e1 = 0 ∧ numsOk (numsM 1 bs ch) ∧ M1 = makeM 1 bs ch) ∨ (e1 = 1 ∧ ¬ numsOk (numsM 1 bs ch) ∧ M1 = zeroM)) := hc1
    unfold manV
    rw [← hMC1] at hi1 ho1 HS1 ⊢
    clear hMC1 hc1
    generalize manC zeroM (.slice none 0 0) = Z at *
    rcases HC1.out with ⟨rfl, hn1, rfl⟩ | ⟨rfl, _⟩
    · clear HC1
      obtain ⟨C, rfl⟩ : ∃ C : Nat, ch = C := ⟨ch.toNat, (Int.toNat_of_nonneg (by have := hn1.2.2.1.1; simp only [numsM] at this; omega)).symm⟩
      obtain ⟨N, hN⟩ : ∃ N : Nat, (N : Int) = countM (numsM 1 bs C) := ⟨(countM (numsM 1 bs C)).toNat, by have := countM_pos hn1; omega⟩
      have hN128 : N ≤ 128 := by have := hn1.2.2.2; omega
      go_wp2_with (refine store_blk rfl 28 _ _ rfl rfl w3.heap.size MC rfl rfl 28 Z (by exact Blk.new _ _ _) hi1 HS1.out ho1 ?_; intro W9 k8 hg9 hs9; clear hs9)
      have hf9 := fresh_below hg9
      have k59 := m53.below hf9 m53.lt
      have hB9 : Below w.heap.size w W9 := hB3.trans (hf9.mono hB3.size)
      have hu9 := hu1.below hf9 (Nat.le_refl _)
      obtain ⟨B8, hB8⟩ : ∃ B8, B8 = w3.heap.size := ⟨_, rfl⟩
      rw [← hB8] at k8 ⊢
      obtain ⟨B5, hB5⟩ : ∃ B5, B5 = w.heap.size := ⟨_, rfl⟩
      rw [← hB5] at k59 ⊢
      clear hB8 hB5 hf9 hg9 m53 hB3 hu1 ho1 HS1 hz
      refine (new_hash _ (HLD.out _ hB9).ff).mono ?_
      rintro e w4 ⟨rfl, hH4, hb4⟩
      have hgl := hH4.lt
      obtain ⟨G0, hG0⟩ : ∃ G0, G0 = W9.heap.size := ⟨_, rfl⟩
      rw [← hG0] at hH4 ⊢
      have HG0 : Hid (W9.heap.size ≤ G0) := Nat.le_of_eq hG0.symm
      clear hG0
      go_wp2_with fail
      obtain ⟨t, ht⟩ := byte_wrap x2
      obtain ⟨T, hT⟩ : ∃ T, T = topT bs C N x0 x1 t := ⟨_, rfl⟩
      have hTl : T.length = len := by rw [hT, topT_len, hl]
      have hok1 := makeM_ok hn1
      have hce : countE (makeM 1 bs C) = (N : Int) := by rw [hN]; exact if_pos hok1
      have HBW : Hid (∀ V, Below W9.heap.size W9 V → Below w.heap.size w V) := fun V hV => hB9.trans (hV.mono hB9.size)
      have HCN : Hid (∀ V, Below W9.heap.size W9 V → Calls Tryd.prog 12 #[.agg MC] V fun e w' => e = .returned (.int .i64 (N : Int)) ∧ Below V.heap.size V w') := fun V hV => by
        have := count_any (makeM 1 bs C) s1 V hh1 (by omega) (hu9.below hV (Nat.le_refl _))
        rw [hce] at this
        unfold manV at this
        rw [← HM1.out] at this
        exact this
      have HSN : Hid (∀ (I : Nat) V, I < N → Below W9.heap.size W9 V → Calls Tryd.prog 7 #[.agg MC, .int .i64 (I : Int)] V fun e w' => e = .returned (.tuple #[.int .i64 ((C * I : Nat) : Int), .int .i64 ((chunkB bs C I).length : Int), .int .i64 0]) ∧ Below V.heap.size V w') := fun I V hI hV => by
        have h5 := span_any (makeM 1 bs C) s1 I V hh1 (by omega) (hu9.below hV (Nat.le_refl _))
        rw [(make_span hn1 I (by omega)).1] at h5
        unfold manV tup3 at h5
        rw [← HM1.out] at h5
        simpa using h5
      have HSB : Hid (∀ (I : Nat), I < N → C * I + (chunkB bs C I).length ≤ len ∧ 0 < (chunkB bs C I).length ∧ (chunkB bs C I).length ≤ 1024) := fun I hI => by
        have h5 := make_span hn1 I (by omega)
        simp only [Int.toNat_natCast] at h5
        omega
      have HTC : Hid (∀ I : Nat, (chunkB T C I).length = (chunkB bs C I).length) := fun I => by rw [hT]; exact chunk_len _ _ _ _ (topT_len _ _ _ _ _ _)
      have HCH : Hid (∀ (I : Nat) bv V, I < N → Below W9.heap.size W9 V → Seg V bv (chunkB T C I) → Calls Tryd.prog 8 #[.agg MC, .int .i64 (I : Int), bv] V fun e w' => e = .returned (.bool (decide (chunkB T C I = chunkB bs C I))) ∧ Below V.heap.size V w') := fun I bv V hI hV hs => by
        have h9 := mchunk_any (makeM 1 bs C) s1 I bv (chunkB T C I) V hh1 (by omega) (hu9.below hV (Nat.le_refl _)) (by rw [HTC.out]; have := HSB.out I hI; omega) hs (HLD.out V (HBW.out V hV)).g4 (HLD.out V (HBW.out V hV)).f4
        rw [hT, topT_is hn1 hN x0 x1 t I hI, ← hT] at h9
        unfold manV at h9
        rw [← HM1.out] at h9
        exact h9
      have HWH : Hid (∀ bv V, Below W9.heap.size W9 V → Seg V bv T → Calls Tryd.prog 17 #[.agg MC, bv] V fun e w' => e = .returned (.bool (shaOf T == shaOf bs)) ∧ Below V.heap.size V w') := fun bv V hV hs => by
        have h9 := whole_any (makeM 1 bs C) s1 bv T V hh1 (by omega) (hu9.below hV (Nat.le_refl _)) (by omega) hs (HLD.out V (HBW.out V hV)).gf (HLD.out V (HBW.out V hV)).ff (HLD.out V (HBW.out V hV)).gk (HLD.out V (HBW.out V hV)).fk
        rw [isWhole_topT hn1 T (by omega)] at h9
        unfold manV at h9
        rw [← HM1.out] at h9
        exact h9
      have HIN : Hid (∀ I : Nat, I < N → x0 = I → 0 ≤ x1 → chunkB T C I = (chunkB bs C I).set (x1.toNat % (chunkB bs C I).length) ((chunkB bs C I).getD (x1.toNat % (chunkB bs C I).length) 0 ^^^ t) ∧ x1.toNat % (chunkB bs C I).length < (chunkB bs C I).length) := fun I hI h0 h1 => by rw [hT]; exact topT_in hn1 hN x0 x1 t I hI h0 h1
      have HOUT : Hid (∀ I : Nat, ¬ (x0 = I ∧ 0 ≤ x1) → chunkB T C I = chunkB bs C I) := fun I h0 => by rw [hT]; exact topT_out hn1 hN x0 x1 t I h0
      have HCNL : Hid (len ≤ C * N) := by
        have h5 := count_covers hn1
        rw [← hN] at h5
        show len ≤ C * N
        rw [← hl]
        omega
      have HHR : Hid (∀ V B, Blk V B 28 MC → V.rangeAt B 3 ((shaOf bs).map v8)) := fun V B h => by rw [HM1.out] at h; exact man_range _ _ B V h
      have HB4 : Hid (Below W9.heap.size W9 w4) := hb4
      have HRD : Hid (∀ V, Below W9.heap.size W9 V → 1 < V.heap.size ∧ Tab V 1 (kWords.map v32)) := fun V hV => ⟨(HLD.out V (HBW.out V hV)).gk, (HLD.out V (HBW.out V hV)).fk⟩
      have hgk9 : 1 < W9.heap.size := (HLD.out W9 hB9).gk
      have HSG9 : Hid (∀ V, Below W9.heap.size W9 V → Seg V (.slice ao len cp) bs) := fun V hV => HSG.out V (HBW.out V hV)
      have s9 : w.heap.size ≤ W9.heap.size := hB9.size
      have l8 : B8 < W9.heap.size := k8.lt
      have l5 : B5 < W9.heap.size := k59.lt
      have HWB : Hid (∀ V, Below W9.heap.size W9 V → Below w.heap.size w V) := HBW
      clear HLD HSG HBW hok1 hce hT hh1 hl1 hu9 HM1 hn1 hN hB9 hb4 hbl hgl
      go_loopw [10, 11, 12, 13] (fun h al fi i wr => ∃ (I gh : Nat) (F : Bool), I ≤ N ∧ i = .int .i64 (I : Int) ∧ h = .pointer (some ⟨gh, 0, none⟩) ∧ fi = .bool F ∧ Hid (F = decide (T.take (C * I) = bs.take (C * I))) ∧ HashAt wr gh St.start (T.take (C * I)) (T.take (C * I)).length ∧ W9.heap.size ≤ gh ∧ Own wr W9.heap.size al (T.take (C * I)) ∧ al.ownBlock ≠ some gh ∧ Below W9.heap.size W9 wr) (fun _ _ _ i _ => N - (intOf i).toNat)
      case atStart => exact ⟨0, G0, true, Nat.zero_le _, rfl, rfl, rfl, by simp [Hid], by simpa using hH4, HG0.out, by simpa using (show Own w4 W9.heap.size (.slice none 0 0) [] from ⟨rfl, .inl ⟨rfl, rfl⟩⟩), by simp [Value.ownBlock], HB4.out⟩
      case round =>
        clear hH4 HG0 HB4
        obtain ⟨I, gh, F, hI, rfl, rfl, rfl, HF, hH, hgw, hO, hne, hB⟩ := hrel
        obtain ⟨aal, cal, rfl⟩ := hO.seg.shapeD
        have k8r := k8.below hB l8
        have sB := hB.size
        have hDl : (T.take (C * I)).length ≤ 40000 := by simp; omega
        by_cases hlt : I < N
        · have HSI : Hid (∀ V, Below W9.heap.size W9 V → Calls Tryd.prog 7 #[.agg MC, .int .i64 (I : Int)] V fun e w' => e = .returned (.tuple #[.int .i64 ((C * I : Nat) : Int), .int .i64 ((chunkB bs C I).length : Int), .int .i64 0]) ∧ Below V.heap.size V w') := fun V => HSN.out I V hlt
          have HCK : Hid (∀ bv V, Below W9.heap.size W9 V → Seg V bv (chunkB T C I) → Calls Tryd.prog 8 #[.agg MC, .int .i64 (I : Int), bv] V fun e w' => e = .returned (.bool (decide (chunkB T C I = chunkB bs C I))) ∧ Below V.heap.size V w') := fun bv V => HCH.out I bv V hlt
          obtain ⟨hbd, hl0, hl1⟩ := HSB.out I hlt
          have hQl := HTC.out I
          have HIN' := HIN.out I hlt
          have HOU' := HOUT.out I
          have HQ : Hid (∀ V, Below W9.heap.size W9 V → Seg V (.slice (restD ao cp (C * I)) (chunkB bs C I).length (cp - C * I)) (chunkB bs C I)) := fun V hV => by
            have h8 := seg_mid (HSG9.out V hV) (C * I) (chunkB bs C I).length hbd
            rw [← chunkB_take] at h8
            exact h8
          have HTK : Hid (T.take (C * (I + 1)) = T.take (C * I) ++ chunkB T C I) := take_chunk T C I
          have HFT : Hid (F = true → decide (T.take (C * (I + 1)) = bs.take (C * (I + 1))) = decide (chunkB T C I = chunkB bs C I)) := fun hf => by
            have h1 : T.take (C * I) = bs.take (C * I) := by have := HF.out; rw [hf] at this; exact of_decide_eq_true this.symm
            refine decide_eq_decide.2 ?_
            rw [take_chunk, take_chunk, h1]
            exact ⟨fun h => List.append_cancel_left h, fun h => by rw [h]⟩
          have HFF : Hid (F = false → decide (T.take (C * (I + 1)) = bs.take (C * (I + 1))) = false) := fun hf => decide_eq_false fun h => by
            have h1 : ¬ T.take (C * I) = bs.take (C * I) := by have := HF.out; rw [hf] at this; exact of_decide_eq_false this.symm
            apply h1
            have h2 := congrArg (List.take (C * I)) h
            rw [List.take_take, List.take_take] at h2
            have h3 : min (C * I) (C * (I + 1)) = C * I := by rw [Nat.mul_add]; omega
            rwa [h3] at h2
          have HLD' : Hid ((T.take (C * I) ++ chunkB T C I).length = (T.take (C * I)).length + (chunkB T C I).length) := List.length_append
          clear HSN HCH HSB HWH HHR HTC HIN HOUT HSG9 HF HCNL
          obtain ⟨HIN2, HOU2⟩ : Hid (x0 = I → 0 ≤ x1 → chunkB T C I = (chunkB bs C I).set (x1.toNat % (chunkB bs C I).length) ((chunkB bs C I).getD (x1.toNat % (chunkB bs C I).length) 0 ^^^ t) ∧ x1.toNat % (chunkB bs C I).length < (chunkB bs C I).length) ∧ Hid (¬ (x0 = I ∧ 0 ≤ x1) → chunkB T C I = chunkB bs C I) := ⟨HIN', HOU'⟩
          clear HIN' HOU'
          obtain ⟨NF, hNF⟩ : ∃ NF, NF = decide (T.take (C * (I + 1)) = bs.take (C * (I + 1))) := ⟨_, rfl⟩
          rw [← hNF] at HFT HFF
          have HNF : Hid (NF = decide (T.take (C * (I + 1)) = bs.take (C * (I + 1)))) := hNF
          obtain ⟨DN, hDN⟩ : ∃ DN, DN = T.take (C * (I + 1)) := ⟨_, rfl⟩
          rw [← hDN] at HTK
          have HDN : Hid (DN = T.take (C * (I + 1))) := hDN
          clear hNF hDN
          generalize T.take (C * I) = D at *
          generalize decide (chunkB T C I = chunkB bs C I) = E at *
          generalize chunkB T C I = QT at *
          generalize chunkB bs C I = Q at *
          generalize C * I = AT at *
          generalize hLN : Q.length = LN at *
          have i1 : (I : Int) < (N : Int) := by omega
          have hgt : ¬ (len : Int) < (AT : Int) + (LN : Int) := by omega
          have hsl : ∀ V, (Instr.slice 22 (.slice ao len cp) (some (.int .i64 (AT : Int))) (some (.int .i64 ((AT : Int) + (LN : Int)))) none).run Tryd.prog V = .ok (.slice (restD ao cp AT) LN (cp - AT)) V := fun V => by
            have := slice_midM ao len cp AT (AT + LN) (by omega) (by omega) V
            rw [show AT + LN - AT = LN by omega, show ((AT + LN : Nat) : Int) = (AT : Int) + (LN : Int) by omega] at this
            exact this
          generalize hDL : D.length = DL at *
          have HDL : Hid (D.length = DL) := hDL
          have HLN : Hid (Q.length = LN) := hLN
          have HQL : Hid (QT.length = LN) := hQl
          clear hDL hLN hQl
          go_wp2_with (refine wpList_load_row rfl 28 _ rfl B8 rfl 28 _ (0, 0) _ k8r Tryd.underlying28 rfl hi1 ?_)
          refine (HCN.out _ hB).mono ?_
          rintro e w1 ⟨rfl, hb1⟩
          have k81 := k8r.below hb1 k8r.lt
          have hB1 : Below W9.heap.size W9 w1 := hB.trans (hb1.mono sB)
          have hH1 := hH.below hb1 hH.lt
          have hO1 := hO.below hb1 (Nat.le_refl _)
          clear k8r hb1 hB hH hO sB
          go_wp2_with (refine wpList_load_row rfl 28 _ rfl B8 rfl 28 _ (0, 0) _ k81 Tryd.underlying28 rfl hi1 ?_)
          refine (HSI.out _ hB1).mono ?_
          rintro e w2 ⟨rfl, hb2⟩
          have k82 := k81.below hb2 k81.lt
          have hB2 : Below W9.heap.size W9 w2 := hB1.trans (hb2.mono hB1.size)
          have hH2 := hH1.below hb2 hH1.lt
          have hO2 := hO1.below hb2 (Nat.le_refl _)
          have hgl2 := hH2.lt
          have sB2 := hB2.size
          have hq2 := HQ.out w2 hB2
          have HOB : Hid (∀ q, (Value.slice aal DL cal).ownBlock = some q → q < w2.heap.size) := fun q hq => (hO2.blocks q hq).2
          clear k81 hb2 hB1 hH1 hO1 HSI HQ
          by_cases ht1 : x0 = I ∧ 0 ≤ x1
          · obtain ⟨rfl, hx10⟩ := ht1
            obtain ⟨hQT, hkl⟩ := HIN2.out rfl hx10
            obtain ⟨X1, rfl⟩ := Int.eq_ofNat_of_zero_le hx10
            rw [Int.toNat_natCast] at hQT hkl
            obtain ⟨K, hK⟩ : ∃ K, K = X1 % LN := ⟨_, rfl⟩
            rw [← hK] at hQT hkl
            have HK : Hid (X1 % LN = K) := hK.symm
            obtain ⟨z, hz⟩ : ∃ z, z = Q.getD K 0 := ⟨_, rfl⟩
            rw [← hz] at hQT
            have hxr : bits .xor .u8 (n8 z) (n8 t) = n8 (z ^^^ t) := xor8 _ _
            have HZC : Hid (∀ V g, Row V g 0 Q → V.cell? ⟨g, K, none⟩ = some (.int .u8 (n8 z))) := fun V g hr => by
              have hKQ : K < Q.length := by rw [HLN.out]; exact hkl
              have := hr K hKQ
              rw [Nat.zero_add] at this
              rw [this, hz, List.getD_eq_getElem?_getD, List.getElem?_eq_getElem hKQ, Option.getD_some]
            have HQT : Hid (QT = Q.set K (z ^^^ t)) := hQT
            clear hQT hK hz HIN2 HOU2
            cases F with
            | true =>
              go_wp2_with (at_builtin; refine app_own _ rfl (.tmp 67) (.tmp 73) rfl w2.heap.size _ [] rfl (by exact own_empty _ _ _ rfl (Nat.le_refl _)) _ Q rfl (by exact hq2.alloc _) (by have := HLN.out; simp; omega) (by simp) ?_; intro v3 w3 ho3 hg3 hv3; rw [List.nil_append] at ho3; have hf3 := fresh_below (show (w2.alloc (.cells #[] 5)).grownBy w3 (some w2.heap.size) from hg3); obtain ⟨g3, c3, rfl, hg3b, hg3l, hc3, hr3⟩ := ho3.form (by have := HLN.out; omega); have hBw3 : Below W9.heap.size W9 w3 := hB2.trans (hf3.mono sB2); have c50 : w3.cell? ⟨B5, 0, none⟩ = some (.int .i64 (I : Int)) := (k59.below hBw3 l5).cell (j := 0) rfl; have c51 : w3.cell? ⟨B5, 1, none⟩ = some (.int .i64 (X1 : Int)) := (k59.below hBw3 l5).cell (j := 1) rfl; have c52 : w3.cell? ⟨B5, 2, none⟩ = some (.int .i64 x2) := (k59.below hBw3 l5).cell (j := 2) rfl; have hHw3 := hH2.below hf3 hH2.lt; have hOw3 := hO2.below hf3 (Nat.le_refl _); have kw3 := k82.below hf3 k82.lt; have hg3g : g3 ≠ gh := (by omega); have hng3 : (Value.slice aal DL cal).ownBlock ≠ some g3 := (fun h => by have := HOB.out g3 h; omega); have cK := HZC.out _ _ hr3; have fK := (ho3.set K (z ^^^ t)).2; have hr5 := (ho3.set K (z ^^^ t)).1; clear hf3)
              have d51 : w3.drew.cell? ⟨B5, 1, none⟩ = some (.int .i64 (X1 : Int)) := c51
              have d52 : w3.drew.cell? ⟨B5, 2, none⟩ = some (.int .i64 x2) := c52
              have dK : w3.drew.cell? ⟨g3, K, none⟩ = some (.int .u8 (n8 z)) := cK
              have dF : w3.drew.frozen? ⟨g3, K, none⟩ = false := fK
              have i2 : (K : Int) < (Q.length : Int) := by have := HLN.out; omega
              have i3 : ((LN : Int) == 0) = false := by simp; omega
              clear c51 c52 cK fK c50
              refine region_tail 12 (by kernel_rfl) (by kernel_rfl) ?_
              simp only [List.take_succ_cons, List.take_zero, List.drop_succ_cons, List.drop_zero]
              repeat still_step
              refine still_value rfl (.int .i64 (K : Int)) (exec_remT _ rfl _ _ rfl X1 LN K rfl rfl (by omega) HK.out) ?_
              repeat still_step
              refine wpStill_nil ?_
              refine store_byteT rfl _ _ rfl rfl g3 K (n8 (z ^^^ t)) _ rfl rfl dK dF ?_
              intro w5 hw5
              have hrow5 : Row w5 g3 0 (Q.set K (z ^^^ t)) := by rw [hw5]; exact hr5
              have hg35 : g3 < w5.heap.size := by rw [hw5]; simpa using hg3l
              have hBw5 : Below W9.heap.size W9 w5 := by rw [hw5]; exact hBw3.drew.setCell (p := ⟨g3, K, none⟩) (show W9.heap.size ≤ g3 by omega) _
              have hHw5 : HashAt w5 gh St.start D DL := by rw [hw5]; exact (Blk.drew hHw3).setOther ⟨g3, K, none⟩ _ (fun e => hg3g e.symm)
              have hOw5 : Own w5 W9.heap.size (.slice aal DL cal) D := by rw [hw5]; exact hOw3.drew.grown (grown_setCellM w3.drew g3 K _) (.inr hng3)
              have kw5 : Blk w5 B8 28 MC := by rw [hw5]; exact kw3.drew.setOther ⟨g3, K, none⟩ _ (show B8 ≠ g3 by omega)
              have hs5 : Seg w5 (.slice (some ⟨g3, 0, none⟩) Q.length c3) QT := by rw [HQT.out]; exact Seg.of_row hrow5 (by simp) hc3 hg35
              clear hw5 hrow5 hg35 hr5 hBw3 hHw3 hOw3 kw3 d51 d52 dK dF ho3 hg3 hv3 hr3 hq2 hH2 hO2 k82 hB2 hsl hxr HZC
              have sB5 := hBw5.size
              go_wp2_with (refine load_guarded rfl 28 _ rfl B8 rfl 28 _ (0, 0) _ kw5 Tryd.underlying28 rfl hi1 ?_)
              refine (HCK.out _ _ hBw5 hs5).mono ?_
              rintro e w6 ⟨rfl, hb6⟩
              have hB6 : Below W9.heap.size W9 w6 := hBw5.trans (hb6.mono hBw5.size)
              have hH6 := hHw5.below hb6 hHw5.lt
              have hO6 := hOw5.below hb6 (Nat.le_refl _)
              have hs6 := hs5.below hb6 (Nat.le_refl _)
              have sB6 := hB6.size
              clear hb6 hBw5 hHw5 hOw5 hs5 kw5
              go_wp2_with (at_builtin; refine app_own _ rfl (.tmp 103) (.tmp 104) rfl W9.heap.size _ D rfl hO6 _ QT rfl hs6 (by have := HDL.out; have := HQL.out; omega) sB6 ?_; intro v7 w7 ho7 hg7 hv7)
              have hB7 : Below W9.heap.size W9 w7 := below_grown hB6 hg7 sB6 (fun q hq => (hO6.blocks q hq).1)
              have hH7 : HashAt w7 gh St.start D DL := Blk.grown hH6 hg7 (fun h => hne h.symm)
              have hs7 : Seg w7 (.slice (some ⟨g3, 0, none⟩) Q.length c3) QT := seg_grownT hs6 hg7 (fun h => hng3 h.symm)
              have hgl7 := hH7.lt
              have hne7 : v7.ownBlock ≠ some gh := by
                rcases hv7 with h | h
                · rw [h]; exact hne
                · rw [h]; intro h2; have := Option.some.inj h2; have := hH6.lt; omega
              have sB7 := hB7.size
              obtain ⟨a7, c7, hv7e⟩ := ho7.seg.shapeD
              subst hv7e
              clear hg7 hv7 hH6 hO6 hs6 hB6 sB6
              refine (write_any gh St.start D DL _ QT w7 hH7 (by rw [HDL.out]) hs7 (fun b off c n h _ => by cases h; exact hg3g) (by have := HQL.out; omega) (by omega) (HRD.out w7 hB7).2).mono ?_
              rintro e w8 ⟨rfl, hH8, hg8⟩
              have hB8w : Below W9.heap.size W9 w8 := below_grown hB7 hg8 sB7 (fun q hq => by cases hq; exact hgw)
              have hO8 := ho7.grown hg8 (.inr hne7)
              have hL8 : (D ++ QT).length = DL + QT.length := HLD'.out
              rw [← hL8] at hH8
              have hEl : (D ++ QT).length ≤ 50000 := by rw [hL8]; have := HQL.out; omega
              have sB8 := hB8w.size
              clear hH7 ho7 hB7 hg8 hs7 hgl7 sB7 hL8 hDl
              obtain ⟨EE, hEE⟩ : ∃ EE, EE = D ++ QT := ⟨_, rfl⟩
              rw [← hEE] at hH8 hO8 hEl hne7 HTK ⊢
              clear hEE HLD'
              obtain ⟨EL, hEL⟩ : ∃ EL, EE.length = EL := ⟨_, rfl⟩
              rw [hEL] at hH8 hO8 hEl hne7 ⊢
              have HEL : Hid (EE.length = EL) := hEL
              clear hEL
              go_wp2_with fail
              refine (hsave_any gh St.start EE EL w8 hH8 (by rw [HEL.out]) (by omega)).mono ?_
              rintro e w9 ⟨v9, rfl, ho9, hb9⟩
              have hB9' : Below W9.heap.size W9 w9 := hB8w.trans (hb9.mono sB8)
              have hO9 := hO8.below hb9 (Nat.le_refl _)
              have sB9 := hB9'.size
              clear hH8 hO8 hB8w hb9
              go_wp2_with fail
              refine (load_save v9 St.start EE EL w9 ho9.seg (by omega) (by rw [HEL.out])).mono ?_
              rintro e w10 ⟨gx, rfl, hgx, hX, hb10⟩
              have hB10 : Below W9.heap.size W9 w10 := hB9'.trans (hb10.mono sB9)
              have hO10 := hO9.below hb10 (Nat.le_refl _)
              have hnx : (Value.slice a7 EL c7).ownBlock ≠ some gx := fun h => by have := (hO9.blocks _ h).2; omega
              have hgx9 : W9.heap.size ≤ gx := by omega
              clear ho9 hb10 hO9 hB9'
              go_wp2
              go_roundw
              case rel => exact ⟨I + 1, gx, NF, hlt, by go_num, rfl, by rw [HFT.out (by trivial)], HNF.out, by rw [← HDN.out, HTK.out, HEL.out]; exact hX, hgx9, by rw [← HDN.out, HTK.out]; exact hO10, hnx, hB10⟩
              case measure => simp [intOf]; omega
            | false =>
              go_wp2_with (at_builtin; refine app_own _ rfl (.tmp 67) (.tmp 73) rfl w2.heap.size _ [] rfl (by exact own_empty _ _ _ rfl (Nat.le_refl _)) _ Q rfl (by exact hq2.alloc _) (by have := HLN.out; simp; omega) (by simp) ?_; intro v3 w3 ho3 hg3 hv3; rw [List.nil_append] at ho3; have hf3 := fresh_below (show (w2.alloc (.cells #[] 5)).grownBy w3 (some w2.heap.size) from hg3); obtain ⟨g3, c3, rfl, hg3b, hg3l, hc3, hr3⟩ := ho3.form (by have := HLN.out; omega); have hBw3 : Below W9.heap.size W9 w3 := hB2.trans (hf3.mono sB2); have c50 : w3.cell? ⟨B5, 0, none⟩ = some (.int .i64 (I : Int)) := (k59.below hBw3 l5).cell (j := 0) rfl; have c51 : w3.cell? ⟨B5, 1, none⟩ = some (.int .i64 (X1 : Int)) := (k59.below hBw3 l5).cell (j := 1) rfl; have c52 : w3.cell? ⟨B5, 2, none⟩ = some (.int .i64 x2) := (k59.below hBw3 l5).cell (j := 2) rfl; have hHw3 := hH2.below hf3 hH2.lt; have hOw3 := hO2.below hf3 (Nat.le_refl _); have kw3 := k82.below hf3 k82.lt; have hg3g : g3 ≠ gh := (by omega); have hng3 : (Value.slice aal DL cal).ownBlock ≠ some g3 := (fun h => by have := HOB.out g3 h; omega); have cK := HZC.out _ _ hr3; have fK := (ho3.set K (z ^^^ t)).2; have hr5 := (ho3.set K (z ^^^ t)).1; clear hf3)
              have d51 : w3.drew.cell? ⟨B5, 1, none⟩ = some (.int .i64 (X1 : Int)) := c51
              have d52 : w3.drew.cell? ⟨B5, 2, none⟩ = some (.int .i64 x2) := c52
              have dK : w3.drew.cell? ⟨g3, K, none⟩ = some (.int .u8 (n8 z)) := cK
              have dF : w3.drew.frozen? ⟨g3, K, none⟩ = false := fK
              have i2 : (K : Int) < (Q.length : Int) := by have := HLN.out; omega
              have i3 : ((LN : Int) == 0) = false := by simp; omega
              clear c51 c52 cK fK c50
              refine region_tail 12 (by kernel_rfl) (by kernel_rfl) ?_
              simp only [List.take_succ_cons, List.take_zero, List.drop_succ_cons, List.drop_zero]
              repeat still_step
              refine still_value rfl (.int .i64 (K : Int)) (exec_remT _ rfl _ _ rfl X1 LN K rfl rfl (by omega) HK.out) ?_
              repeat still_step
              refine wpStill_nil ?_
              refine store_byteT rfl _ _ rfl rfl g3 K (n8 (z ^^^ t)) _ rfl rfl dK dF ?_
              intro w5 hw5
              have hrow5 : Row w5 g3 0 (Q.set K (z ^^^ t)) := by rw [hw5]; exact hr5
              have hg35 : g3 < w5.heap.size := by rw [hw5]; simpa using hg3l
              have hBw5 : Below W9.heap.size W9 w5 := by rw [hw5]; exact hBw3.drew.setCell (p := ⟨g3, K, none⟩) (show W9.heap.size ≤ g3 by omega) _
              have hHw5 : HashAt w5 gh St.start D DL := by rw [hw5]; exact (Blk.drew hHw3).setOther ⟨g3, K, none⟩ _ (fun e => hg3g e.symm)
              have hOw5 : Own w5 W9.heap.size (.slice aal DL cal) D := by rw [hw5]; exact hOw3.drew.grown (grown_setCellM w3.drew g3 K _) (.inr hng3)
              have kw5 : Blk w5 B8 28 MC := by rw [hw5]; exact kw3.drew.setOther ⟨g3, K, none⟩ _ (show B8 ≠ g3 by omega)
              have hs5 : Seg w5 (.slice (some ⟨g3, 0, none⟩) Q.length c3) QT := by rw [HQT.out]; exact Seg.of_row hrow5 (by simp) hc3 hg35
              clear hw5 hrow5 hg35 hr5 hBw3 hHw3 hOw3 kw3 d51 d52 dK dF ho3 hg3 hv3 hr3 hq2 hH2 hO2 k82 hB2 hsl hxr HZC
              have sB5 := hBw5.size
              go_wp2_with (at_builtin; refine app_own _ rfl (.tmp 103) (.tmp 104) rfl W9.heap.size _ D rfl hOw5 _ QT rfl hs5 (by have := HDL.out; have := HQL.out; omega) sB5 ?_; intro v7 w7 ho7 hg7 hv7)
              have hB6 := hBw5
              have hH6 := hHw5
              have hO6 := hOw5
              have hs6 := hs5
              have sB6 := hB6.size
              clear hBw5 hHw5 hOw5 hs5 kw5
              have hB7 : Below W9.heap.size W9 w7 := below_grown hB6 hg7 sB6 (fun q hq => (hO6.blocks q hq).1)
              have hH7 : HashAt w7 gh St.start D DL := Blk.grown hH6 hg7 (fun h => hne h.symm)
              have hs7 : Seg w7 (.slice (some ⟨g3, 0, none⟩) Q.length c3) QT := seg_grownT hs6 hg7 (fun h => hng3 h.symm)
              have hgl7 := hH7.lt
              have hne7 : v7.ownBlock ≠ some gh := by
                rcases hv7 with h | h
                · rw [h]; exact hne
                · rw [h]; intro h2; have := Option.some.inj h2; have := hH6.lt; omega
              have sB7 := hB7.size
              obtain ⟨a7, c7, hv7e⟩ := ho7.seg.shapeD
              subst hv7e
              clear hg7 hv7 hH6 hO6 hs6 hB6 sB6
              refine (write_any gh St.start D DL _ QT w7 hH7 (by rw [HDL.out]) hs7 (fun b off c n h _ => by cases h; exact hg3g) (by have := HQL.out; omega) (by omega) (HRD.out w7 hB7).2).mono ?_
              rintro e w8 ⟨rfl, hH8, hg8⟩
              have hB8w : Below W9.heap.size W9 w8 := below_grown hB7 hg8 sB7 (fun q hq => by cases hq; exact hgw)
              have hO8 := ho7.grown hg8 (.inr hne7)
              have hL8 : (D ++ QT).length = DL + QT.length := HLD'.out
              rw [← hL8] at hH8
              have hEl : (D ++ QT).length ≤ 50000 := by rw [hL8]; have := HQL.out; omega
              have sB8 := hB8w.size
              clear hH7 ho7 hB7 hg8 hs7 hgl7 sB7 hL8 hDl
              obtain ⟨EE, hEE⟩ : ∃ EE, EE = D ++ QT := ⟨_, rfl⟩
              rw [← hEE] at hH8 hO8 hEl hne7 HTK ⊢
              clear hEE HLD'
              obtain ⟨EL, hEL⟩ : ∃ EL, EE.length = EL := ⟨_, rfl⟩
              rw [hEL] at hH8 hO8 hEl hne7 ⊢
              have HEL : Hid (EE.length = EL) := hEL
              clear hEL
              go_wp2_with fail
              refine (hsave_any gh St.start EE EL w8 hH8 (by rw [HEL.out]) (by omega)).mono ?_
              rintro e w9 ⟨v9, rfl, ho9, hb9⟩
              have hB9' : Below W9.heap.size W9 w9 := hB8w.trans (hb9.mono sB8)
              have hO9 := hO8.below hb9 (Nat.le_refl _)
              have sB9 := hB9'.size
              clear hH8 hO8 hB8w hb9
              go_wp2_with fail
              refine (load_save v9 St.start EE EL w9 ho9.seg (by omega) (by rw [HEL.out])).mono ?_
              rintro e w10 ⟨gx, rfl, hgx, hX, hb10⟩
              have hB10 : Below W9.heap.size W9 w10 := hB9'.trans (hb10.mono sB9)
              have hO10 := hO9.below hb10 (Nat.le_refl _)
              have hnx : (Value.slice a7 EL c7).ownBlock ≠ some gx := fun h => by have := (hO9.blocks _ h).2; omega
              have hgx9 : W9.heap.size ≤ gx := by omega
              clear ho9 hb10 hO9 hB9'
              go_wp2
              go_roundw
              case rel => exact ⟨I + 1, gx, NF, hlt, by go_num, rfl, by rw [HFF.out (by trivial)], HNF.out, by rw [← HDN.out, HTK.out, HEL.out]; exact hX, hgx9, by rw [← HDN.out, HTK.out]; exact hO10, hnx, hB10⟩
              case measure => simp [intOf]; omega
          · have hQT := HOU2.out ht1
            have HQT : Hid (QT = Q) := hQT
            clear hQT HIN2 HOU2
            by_cases hx : x0 = I
            · subst hx
              have hx1 : ¬ 0 ≤ x1 := fun h => ht1 ⟨rfl, h⟩
              clear ht1
              cases F with
              | true =>
                go_wp2_with (first | (at_builtin; refine app_own _ rfl (.tmp 67) (.tmp 73) rfl w2.heap.size _ [] rfl (by exact own_empty _ _ _ rfl (Nat.le_refl _)) _ Q rfl (by exact hq2.alloc _) (by have := HLN.out; simp; omega) (by simp) ?_; intro v3 w5 ho3 hg3 hv3; rw [List.nil_append] at ho3; have hf3 := fresh_below (show (w2.alloc (.cells #[] 5)).grownBy w5 (some w2.heap.size) from hg3); obtain ⟨g3, c3, rfl, hg3b, hg3l, hc3, hr3⟩ := ho3.form (by have := HLN.out; omega); have hBw5 : Below W9.heap.size W9 w5 := hB2.trans (hf3.mono sB2); have c50 : w5.cell? ⟨B5, 0, none⟩ = some (.int .i64 (I : Int)) := (k59.below hBw5 l5).cell (j := 0) rfl; have c51 : w5.cell? ⟨B5, 1, none⟩ = some (.int .i64 x1) := (k59.below hBw5 l5).cell (j := 1) rfl; have c52 : w5.cell? ⟨B5, 2, none⟩ = some (.int .i64 x2) := (k59.below hBw5 l5).cell (j := 2) rfl; have hHw5 := hH2.below hf3 hH2.lt; have hOw5 := hO2.below hf3 (Nat.le_refl _); have kw5 := k82.below hf3 k82.lt; have hg3g : g3 ≠ gh := (by omega); have hng3 : (Value.slice aal DL cal).ownBlock ≠ some g3 := (fun h => by have := HOB.out g3 h; omega); have hs5 : Seg w5 (.slice (some ⟨g3, 0, none⟩) Q.length c3) QT := (by rw [HQT.out]; exact ho3.seg); have sB5 := hBw5.size; clear hf3) | (refine load_guarded rfl 28 _ rfl B8 rfl 28 _ (0, 0) _ kw5 Tryd.underlying28 rfl hi1 ?_))
                clear ho3 hg3 hv3 hq2 hr3 hH2 hO2 k82 hB2 c50 c51 c52 hsl
                refine (HCK.out _ _ hBw5 hs5).mono ?_
                rintro e w6 ⟨rfl, hb6⟩
                have hB6 : Below W9.heap.size W9 w6 := hBw5.trans (hb6.mono hBw5.size)
                have hH6 := hHw5.below hb6 hHw5.lt
                have hO6 := hOw5.below hb6 (Nat.le_refl _)
                have hs6 := hs5.below hb6 (Nat.le_refl _)
                have sB6 := hB6.size
                clear hb6 hBw5 hHw5 hOw5 hs5 kw5
                go_wp2_with (at_builtin; refine app_own _ rfl (.tmp 103) (.tmp 104) rfl W9.heap.size _ D rfl hO6 _ QT rfl hs6 (by have := HDL.out; have := HQL.out; omega) sB6 ?_; intro v7 w7 ho7 hg7 hv7)
                have hB7 : Below W9.heap.size W9 w7 := below_grown hB6 hg7 sB6 (fun q hq => (hO6.blocks q hq).1)
                have hH7 : HashAt w7 gh St.start D DL := Blk.grown hH6 hg7 (fun h => hne h.symm)
                have hs7 : Seg w7 (.slice (some ⟨g3, 0, none⟩) Q.length c3) QT := seg_grownT hs6 hg7 (fun h => hng3 h.symm)
                have hgl7 := hH7.lt
                have hne7 : v7.ownBlock ≠ some gh := by
                  rcases hv7 with h | h
                  · rw [h]; exact hne
                  · rw [h]; intro h2; have := Option.some.inj h2; have := hH6.lt; omega
                have sB7 := hB7.size
                obtain ⟨a7, c7, hv7e⟩ := ho7.seg.shapeD
                subst hv7e
                clear hg7 hv7 hH6 hO6 hs6 hB6 sB6
                refine (write_any gh St.start D DL _ QT w7 hH7 (by rw [HDL.out]) hs7 (fun b off c n h _ => by cases h; exact hg3g) (by have := HQL.out; omega) (by omega) (HRD.out w7 hB7).2).mono ?_
                rintro e w8 ⟨rfl, hH8, hg8⟩
                have hB8w : Below W9.heap.size W9 w8 := below_grown hB7 hg8 sB7 (fun q hq => by cases hq; exact hgw)
                have hO8 := ho7.grown hg8 (.inr hne7)
                have hL8 : (D ++ QT).length = DL + QT.length := HLD'.out
                rw [← hL8] at hH8
                have hEl : (D ++ QT).length ≤ 50000 := by rw [hL8]; have := HQL.out; omega
                have sB8 := hB8w.size
                clear hH7 ho7 hB7 hg8 hs7 hgl7 sB7 hL8 hDl
                obtain ⟨EE, hEE⟩ : ∃ EE, EE = D ++ QT := ⟨_, rfl⟩
                rw [← hEE] at hH8 hO8 hEl hne7 HTK ⊢
                clear hEE HLD'
                obtain ⟨EL, hEL⟩ : ∃ EL, EE.length = EL := ⟨_, rfl⟩
                rw [hEL] at hH8 hO8 hEl hne7 ⊢
                have HEL : Hid (EE.length = EL) := hEL
                clear hEL
                go_wp2_with fail
                refine (hsave_any gh St.start EE EL w8 hH8 (by rw [HEL.out]) (by omega)).mono ?_
                rintro e w9 ⟨v9, rfl, ho9, hb9⟩
                have hB9' : Below W9.heap.size W9 w9 := hB8w.trans (hb9.mono sB8)
                have hO9 := hO8.below hb9 (Nat.le_refl _)
                have sB9 := hB9'.size
                clear hH8 hO8 hB8w hb9
                go_wp2_with fail
                refine (load_save v9 St.start EE EL w9 ho9.seg (by omega) (by rw [HEL.out])).mono ?_
                rintro e w10 ⟨gx, rfl, hgx, hX, hb10⟩
                have hB10 : Below W9.heap.size W9 w10 := hB9'.trans (hb10.mono sB9)
                have hO10 := hO9.below hb10 (Nat.le_refl _)
                have hnx : (Value.slice a7 EL c7).ownBlock ≠ some gx := fun h => by have := (hO9.blocks _ h).2; omega
                have hgx9 : W9.heap.size ≤ gx := by omega
                clear ho9 hb10 hO9 hB9'
                go_wp2
                go_roundw
                case rel => exact ⟨I + 1, gx, NF, hlt, by go_num, rfl, by rw [HFT.out (by trivial)], HNF.out, by rw [← HDN.out, HTK.out, HEL.out]; exact hX, hgx9, by rw [← HDN.out, HTK.out]; exact hO10, hnx, hB10⟩
                case measure => simp [intOf]; omega
              | false =>
                go_wp2_with (first | (at_builtin; refine app_own _ rfl (.tmp 67) (.tmp 73) rfl w2.heap.size _ [] rfl (by exact own_empty _ _ _ rfl (Nat.le_refl _)) _ Q rfl (by exact hq2.alloc _) (by have := HLN.out; simp; omega) (by simp) ?_; intro v3 w5 ho3 hg3 hv3; rw [List.nil_append] at ho3; have hf3 := fresh_below (show (w2.alloc (.cells #[] 5)).grownBy w5 (some w2.heap.size) from hg3); obtain ⟨g3, c3, rfl, hg3b, hg3l, hc3, hr3⟩ := ho3.form (by have := HLN.out; omega); have hBw5 : Below W9.heap.size W9 w5 := hB2.trans (hf3.mono sB2); have c50 : w5.cell? ⟨B5, 0, none⟩ = some (.int .i64 (I : Int)) := (k59.below hBw5 l5).cell (j := 0) rfl; have c51 : w5.cell? ⟨B5, 1, none⟩ = some (.int .i64 x1) := (k59.below hBw5 l5).cell (j := 1) rfl; have c52 : w5.cell? ⟨B5, 2, none⟩ = some (.int .i64 x2) := (k59.below hBw5 l5).cell (j := 2) rfl; have hHw5 := hH2.below hf3 hH2.lt; have hOw5 := hO2.below hf3 (Nat.le_refl _); have kw5 := k82.below hf3 k82.lt; have hg3g : g3 ≠ gh := (by omega); have hng3 : (Value.slice aal DL cal).ownBlock ≠ some g3 := (fun h => by have := HOB.out g3 h; omega); have hs5 : Seg w5 (.slice (some ⟨g3, 0, none⟩) Q.length c3) QT := (by rw [HQT.out]; exact ho3.seg); have sB5 := hBw5.size; clear hf3) | (at_builtin; refine app_own _ rfl (.tmp 103) (.tmp 104) rfl W9.heap.size _ D rfl hOw5 _ QT rfl hs5 (by have := HDL.out; have := HQL.out; omega) sB5 ?_; intro v7 w7 ho7 hg7 hv7))
                clear ho3 hg3 hv3 hq2 hr3 hH2 hO2 k82 hB2 c50 c51 c52 hsl
                have hB6 := hBw5
                have hH6 := hHw5
                have hO6 := hOw5
                have hs6 := hs5
                have sB6 := hB6.size
                clear hBw5 hHw5 hOw5 hs5 kw5
                have hB7 : Below W9.heap.size W9 w7 := below_grown hB6 hg7 sB6 (fun q hq => (hO6.blocks q hq).1)
                have hH7 : HashAt w7 gh St.start D DL := Blk.grown hH6 hg7 (fun h => hne h.symm)
                have hs7 : Seg w7 (.slice (some ⟨g3, 0, none⟩) Q.length c3) QT := seg_grownT hs6 hg7 (fun h => hng3 h.symm)
                have hgl7 := hH7.lt
                have hne7 : v7.ownBlock ≠ some gh := by
                  rcases hv7 with h | h
                  · rw [h]; exact hne
                  · rw [h]; intro h2; have := Option.some.inj h2; have := hH6.lt; omega
                have sB7 := hB7.size
                obtain ⟨a7, c7, hv7e⟩ := ho7.seg.shapeD
                subst hv7e
                clear hg7 hv7 hH6 hO6 hs6 hB6 sB6
                refine (write_any gh St.start D DL _ QT w7 hH7 (by rw [HDL.out]) hs7 (fun b off c n h _ => by cases h; exact hg3g) (by have := HQL.out; omega) (by omega) (HRD.out w7 hB7).2).mono ?_
                rintro e w8 ⟨rfl, hH8, hg8⟩
                have hB8w : Below W9.heap.size W9 w8 := below_grown hB7 hg8 sB7 (fun q hq => by cases hq; exact hgw)
                have hO8 := ho7.grown hg8 (.inr hne7)
                have hL8 : (D ++ QT).length = DL + QT.length := HLD'.out
                rw [← hL8] at hH8
                have hEl : (D ++ QT).length ≤ 50000 := by rw [hL8]; have := HQL.out; omega
                have sB8 := hB8w.size
                clear hH7 ho7 hB7 hg8 hs7 hgl7 sB7 hL8 hDl
                obtain ⟨EE, hEE⟩ : ∃ EE, EE = D ++ QT := ⟨_, rfl⟩
                rw [← hEE] at hH8 hO8 hEl hne7 HTK ⊢
                clear hEE HLD'
                obtain ⟨EL, hEL⟩ : ∃ EL, EE.length = EL := ⟨_, rfl⟩
                rw [hEL] at hH8 hO8 hEl hne7 ⊢
                have HEL : Hid (EE.length = EL) := hEL
                clear hEL
                go_wp2_with fail
                refine (hsave_any gh St.start EE EL w8 hH8 (by rw [HEL.out]) (by omega)).mono ?_
                rintro e w9 ⟨v9, rfl, ho9, hb9⟩
                have hB9' : Below W9.heap.size W9 w9 := hB8w.trans (hb9.mono sB8)
                have hO9 := hO8.below hb9 (Nat.le_refl _)
                have sB9 := hB9'.size
                clear hH8 hO8 hB8w hb9
                go_wp2_with fail
                refine (load_save v9 St.start EE EL w9 ho9.seg (by omega) (by rw [HEL.out])).mono ?_
                rintro e w10 ⟨gx, rfl, hgx, hX, hb10⟩
                have hB10 : Below W9.heap.size W9 w10 := hB9'.trans (hb10.mono sB9)
                have hO10 := hO9.below hb10 (Nat.le_refl _)
                have hnx : (Value.slice a7 EL c7).ownBlock ≠ some gx := fun h => by have := (hO9.blocks _ h).2; omega
                have hgx9 : W9.heap.size ≤ gx := by omega
                clear ho9 hb10 hO9 hB9'
                go_wp2
                go_roundw
                case rel => exact ⟨I + 1, gx, NF, hlt, by go_num, rfl, by rw [HFF.out (by trivial)], HNF.out, by rw [← HDN.out, HTK.out, HEL.out]; exact hX, hgx9, by rw [← HDN.out, HTK.out]; exact hO10, hnx, hB10⟩
                case measure => simp [intOf]; omega
            · have hxe : ((I : Int) == x0) = false := by simp; omega
              clear ht1 hx
              cases F with
              | true =>
                go_wp2_with (first | (at_builtin; refine app_own _ rfl (.tmp 67) (.tmp 73) rfl w2.heap.size _ [] rfl (by exact own_empty _ _ _ rfl (Nat.le_refl _)) _ Q rfl (by exact hq2.alloc _) (by have := HLN.out; simp; omega) (by simp) ?_; intro v3 w5 ho3 hg3 hv3; rw [List.nil_append] at ho3; have hf3 := fresh_below (show (w2.alloc (.cells #[] 5)).grownBy w5 (some w2.heap.size) from hg3); obtain ⟨g3, c3, rfl, hg3b, hg3l, hc3, hr3⟩ := ho3.form (by have := HLN.out; omega); have hBw5 : Below W9.heap.size W9 w5 := hB2.trans (hf3.mono sB2); have c50 : w5.cell? ⟨B5, 0, none⟩ = some (.int .i64 x0) := (k59.below hBw5 l5).cell (j := 0) rfl; have c51 : w5.cell? ⟨B5, 1, none⟩ = some (.int .i64 x1) := (k59.below hBw5 l5).cell (j := 1) rfl; have c52 : w5.cell? ⟨B5, 2, none⟩ = some (.int .i64 x2) := (k59.below hBw5 l5).cell (j := 2) rfl; have hHw5 := hH2.below hf3 hH2.lt; have hOw5 := hO2.below hf3 (Nat.le_refl _); have kw5 := k82.below hf3 k82.lt; have hg3g : g3 ≠ gh := (by omega); have hng3 : (Value.slice aal DL cal).ownBlock ≠ some g3 := (fun h => by have := HOB.out g3 h; omega); have hs5 : Seg w5 (.slice (some ⟨g3, 0, none⟩) Q.length c3) QT := (by rw [HQT.out]; exact ho3.seg); have sB5 := hBw5.size; clear hf3) | (refine load_guarded rfl 28 _ rfl B8 rfl 28 _ (0, 0) _ kw5 Tryd.underlying28 rfl hi1 ?_))
                clear ho3 hg3 hv3 hq2 hr3 hH2 hO2 k82 hB2 c50 c51 c52 hsl
                refine (HCK.out _ _ hBw5 hs5).mono ?_
                rintro e w6 ⟨rfl, hb6⟩
                have hB6 : Below W9.heap.size W9 w6 := hBw5.trans (hb6.mono hBw5.size)
                have hH6 := hHw5.below hb6 hHw5.lt
                have hO6 := hOw5.below hb6 (Nat.le_refl _)
                have hs6 := hs5.below hb6 (Nat.le_refl _)
                have sB6 := hB6.size
                clear hb6 hBw5 hHw5 hOw5 hs5 kw5
                go_wp2_with (at_builtin; refine app_own _ rfl (.tmp 103) (.tmp 104) rfl W9.heap.size _ D rfl hO6 _ QT rfl hs6 (by have := HDL.out; have := HQL.out; omega) sB6 ?_; intro v7 w7 ho7 hg7 hv7)
                have hB7 : Below W9.heap.size W9 w7 := below_grown hB6 hg7 sB6 (fun q hq => (hO6.blocks q hq).1)
                have hH7 : HashAt w7 gh St.start D DL := Blk.grown hH6 hg7 (fun h => hne h.symm)
                have hs7 : Seg w7 (.slice (some ⟨g3, 0, none⟩) Q.length c3) QT := seg_grownT hs6 hg7 (fun h => hng3 h.symm)
                have hgl7 := hH7.lt
                have hne7 : v7.ownBlock ≠ some gh := by
                  rcases hv7 with h | h
                  · rw [h]; exact hne
                  · rw [h]; intro h2; have := Option.some.inj h2; have := hH6.lt; omega
                have sB7 := hB7.size
                obtain ⟨a7, c7, hv7e⟩ := ho7.seg.shapeD
                subst hv7e
                clear hg7 hv7 hH6 hO6 hs6 hB6 sB6
                refine (write_any gh St.start D DL _ QT w7 hH7 (by rw [HDL.out]) hs7 (fun b off c n h _ => by cases h; exact hg3g) (by have := HQL.out; omega) (by omega) (HRD.out w7 hB7).2).mono ?_
                rintro e w8 ⟨rfl, hH8, hg8⟩
                have hB8w : Below W9.heap.size W9 w8 := below_grown hB7 hg8 sB7 (fun q hq => by cases hq; exact hgw)
                have hO8 := ho7.grown hg8 (.inr hne7)
                have hL8 : (D ++ QT).length = DL + QT.length := HLD'.out
                rw [← hL8] at hH8
                have hEl : (D ++ QT).length ≤ 50000 := by rw [hL8]; have := HQL.out; omega
                have sB8 := hB8w.size
                clear hH7 ho7 hB7 hg8 hs7 hgl7 sB7 hL8 hDl
                obtain ⟨EE, hEE⟩ : ∃ EE, EE = D ++ QT := ⟨_, rfl⟩
                rw [← hEE] at hH8 hO8 hEl hne7 HTK ⊢
                clear hEE HLD'
                obtain ⟨EL, hEL⟩ : ∃ EL, EE.length = EL := ⟨_, rfl⟩
                rw [hEL] at hH8 hO8 hEl hne7 ⊢
                have HEL : Hid (EE.length = EL) := hEL
                clear hEL
                go_wp2_with fail
                refine (hsave_any gh St.start EE EL w8 hH8 (by rw [HEL.out]) (by omega)).mono ?_
                rintro e w9 ⟨v9, rfl, ho9, hb9⟩
                have hB9' : Below W9.heap.size W9 w9 := hB8w.trans (hb9.mono sB8)
                have hO9 := hO8.below hb9 (Nat.le_refl _)
                have sB9 := hB9'.size
                clear hH8 hO8 hB8w hb9
                go_wp2_with fail
                refine (load_save v9 St.start EE EL w9 ho9.seg (by omega) (by rw [HEL.out])).mono ?_
                rintro e w10 ⟨gx, rfl, hgx, hX, hb10⟩
                have hB10 : Below W9.heap.size W9 w10 := hB9'.trans (hb10.mono sB9)
                have hO10 := hO9.below hb10 (Nat.le_refl _)
                have hnx : (Value.slice a7 EL c7).ownBlock ≠ some gx := fun h => by have := (hO9.blocks _ h).2; omega
                have hgx9 : W9.heap.size ≤ gx := by omega
                clear ho9 hb10 hO9 hB9'
                go_wp2
                go_roundw
                case rel => exact ⟨I + 1, gx, NF, hlt, by go_num, rfl, by rw [HFT.out (by trivial)], HNF.out, by rw [← HDN.out, HTK.out, HEL.out]; exact hX, hgx9, by rw [← HDN.out, HTK.out]; exact hO10, hnx, hB10⟩
                case measure => simp [intOf]; omega
              | false =>
                go_wp2_with (first | (at_builtin; refine app_own _ rfl (.tmp 67) (.tmp 73) rfl w2.heap.size _ [] rfl (by exact own_empty _ _ _ rfl (Nat.le_refl _)) _ Q rfl (by exact hq2.alloc _) (by have := HLN.out; simp; omega) (by simp) ?_; intro v3 w5 ho3 hg3 hv3; rw [List.nil_append] at ho3; have hf3 := fresh_below (show (w2.alloc (.cells #[] 5)).grownBy w5 (some w2.heap.size) from hg3); obtain ⟨g3, c3, rfl, hg3b, hg3l, hc3, hr3⟩ := ho3.form (by have := HLN.out; omega); have hBw5 : Below W9.heap.size W9 w5 := hB2.trans (hf3.mono sB2); have c50 : w5.cell? ⟨B5, 0, none⟩ = some (.int .i64 x0) := (k59.below hBw5 l5).cell (j := 0) rfl; have c51 : w5.cell? ⟨B5, 1, none⟩ = some (.int .i64 x1) := (k59.below hBw5 l5).cell (j := 1) rfl; have c52 : w5.cell? ⟨B5, 2, none⟩ = some (.int .i64 x2) := (k59.below hBw5 l5).cell (j := 2) rfl; have hHw5 := hH2.below hf3 hH2.lt; have hOw5 := hO2.below hf3 (Nat.le_refl _); have kw5 := k82.below hf3 k82.lt; have hg3g : g3 ≠ gh := (by omega); have hng3 : (Value.slice aal DL cal).ownBlock ≠ some g3 := (fun h => by have := HOB.out g3 h; omega); have hs5 : Seg w5 (.slice (some ⟨g3, 0, none⟩) Q.length c3) QT := (by rw [HQT.out]; exact ho3.seg); have sB5 := hBw5.size; clear hf3) | (at_builtin; refine app_own _ rfl (.tmp 103) (.tmp 104) rfl W9.heap.size _ D rfl hOw5 _ QT rfl hs5 (by have := HDL.out; have := HQL.out; omega) sB5 ?_; intro v7 w7 ho7 hg7 hv7))
                clear ho3 hg3 hv3 hq2 hr3 hH2 hO2 k82 hB2 c50 c51 c52 hsl
                have hB6 := hBw5
                have hH6 := hHw5
                have hO6 := hOw5
                have hs6 := hs5
                have sB6 := hB6.size
                clear hBw5 hHw5 hOw5 hs5 kw5
                have hB7 : Below W9.heap.size W9 w7 := below_grown hB6 hg7 sB6 (fun q hq => (hO6.blocks q hq).1)
                have hH7 : HashAt w7 gh St.start D DL := Blk.grown hH6 hg7 (fun h => hne h.symm)
                have hs7 : Seg w7 (.slice (some ⟨g3, 0, none⟩) Q.length c3) QT := seg_grownT hs6 hg7 (fun h => hng3 h.symm)
                have hgl7 := hH7.lt
                have hne7 : v7.ownBlock ≠ some gh := by
                  rcases hv7 with h | h
                  · rw [h]; exact hne
                  · rw [h]; intro h2; have := Option.some.inj h2; have := hH6.lt; omega
                have sB7 := hB7.size
                obtain ⟨a7, c7, hv7e⟩ := ho7.seg.shapeD
                subst hv7e
                clear hg7 hv7 hH6 hO6 hs6 hB6 sB6
                refine (write_any gh St.start D DL _ QT w7 hH7 (by rw [HDL.out]) hs7 (fun b off c n h _ => by cases h; exact hg3g) (by have := HQL.out; omega) (by omega) (HRD.out w7 hB7).2).mono ?_
                rintro e w8 ⟨rfl, hH8, hg8⟩
                have hB8w : Below W9.heap.size W9 w8 := below_grown hB7 hg8 sB7 (fun q hq => by cases hq; exact hgw)
                have hO8 := ho7.grown hg8 (.inr hne7)
                have hL8 : (D ++ QT).length = DL + QT.length := HLD'.out
                rw [← hL8] at hH8
                have hEl : (D ++ QT).length ≤ 50000 := by rw [hL8]; have := HQL.out; omega
                have sB8 := hB8w.size
                clear hH7 ho7 hB7 hg8 hs7 hgl7 sB7 hL8 hDl
                obtain ⟨EE, hEE⟩ : ∃ EE, EE = D ++ QT := ⟨_, rfl⟩
                rw [← hEE] at hH8 hO8 hEl hne7 HTK ⊢
                clear hEE HLD'
                obtain ⟨EL, hEL⟩ : ∃ EL, EE.length = EL := ⟨_, rfl⟩
                rw [hEL] at hH8 hO8 hEl hne7 ⊢
                have HEL : Hid (EE.length = EL) := hEL
                clear hEL
                go_wp2_with fail
                refine (hsave_any gh St.start EE EL w8 hH8 (by rw [HEL.out]) (by omega)).mono ?_
                rintro e w9 ⟨v9, rfl, ho9, hb9⟩
                have hB9' : Below W9.heap.size W9 w9 := hB8w.trans (hb9.mono sB8)
                have hO9 := hO8.below hb9 (Nat.le_refl _)
                have sB9 := hB9'.size
                clear hH8 hO8 hB8w hb9
                go_wp2_with fail
                refine (load_save v9 St.start EE EL w9 ho9.seg (by omega) (by rw [HEL.out])).mono ?_
                rintro e w10 ⟨gx, rfl, hgx, hX, hb10⟩
                have hB10 : Below W9.heap.size W9 w10 := hB9'.trans (hb10.mono sB9)
                have hO10 := hO9.below hb10 (Nat.le_refl _)
                have hnx : (Value.slice a7 EL c7).ownBlock ≠ some gx := fun h => by have := (hO9.blocks _ h).2; omega
                have hgx9 : W9.heap.size ≤ gx := by omega
                clear ho9 hb10 hO9 hB9'
                go_wp2
                go_roundw
                case rel => exact ⟨I + 1, gx, NF, hlt, by go_num, rfl, by rw [HFF.out (by trivial)], HNF.out, by rw [← HDN.out, HTK.out, HEL.out]; exact hX, hgx9, by rw [← HDN.out, HTK.out]; exact hO10, hnx, hB10⟩
                case measure => simp [intOf]; omega
        · have hIN : I = N := by omega
          subst hIN
          have e1 : T.take (C * I) = T := List.take_of_length_le (by have := HCNL.out; omega)
          have e2 : bs.take (C * I) = bs := List.take_of_length_le (by have := HCNL.out; omega)
          rw [e1, e2] at HF
          rw [e1] at hH hO hne hDl ⊢
          rw [hTl] at hH hO hne ⊢
          have hHT : sumOf St.start T len = shaOf T := by unfold shaOf; rw [hTl]
          have i1 : ¬ (I : Int) < (I : Int) := by omega
          have HRT : Hid (∀ V, Below wr.heap.size wr V → Calls Tryd.prog 16 #[.slice aal len cal] V fun e w' => e = .returned (.agg ((shaOf T).map v8).toArray) ∧ Below V.heap.size V w') := fun V hV => refSum_any _ T V (hO.seg.below hV (Nat.le_refl _)) (by omega)
          have HRB : Hid (∀ V, Below wr.heap.size wr V → Calls Tryd.prog 16 #[.slice ao len cp] V fun e w' => e = .returned (.agg ((shaOf bs).map v8).toArray) ∧ Below V.heap.size V w') := fun V hV => refSum_any _ bs V (HSG9.out V (hB.trans (hV.mono hB.size))) (by omega)
          have HWW : Hid (∀ V, Below wr.heap.size wr V → Calls Tryd.prog 17 #[.agg MC, .slice aal len cal] V fun e w' => e = .returned (.bool (shaOf T == shaOf bs)) ∧ Below V.heap.size V w') := fun V hV => HWH.out _ V (hB.trans (hV.mono hB.size)) (hO.seg.below hV (Nat.le_refl _))
          have HSS : Hid (∀ V, Below wr.heap.size wr V → Calls Tryd.prog 18 #[.pointer (some ⟨gh, 0, none⟩)] V fun e w' => e = .returned (.agg ((shaOf T).map v8).toArray) ∧ Below V.heap.size V w') := fun V hV => by
            have h5 := hsum_any gh St.start T len V (Blk.below hH hV hH.lt) (by rw [hTl]) (by omega) (HRD.out V (hB.trans (hV.mono hB.size))).1 (HRD.out V (hB.trans (hV.mono hB.size))).2
            rw [hHT] at h5
            exact h5
          have HEB : Hid (∀ V, (binOp .eql 25 (.agg ((shaOf T).map v8).toArray) (.agg ((shaOf bs).map v8).toArray)).run Tryd.prog V = .ok (.bool (shaOf T == shaOf bs)) V) := fun V => eql_sums _ _ (wbytes_len _) (wbytes_len _) V
          have HEI : Hid (∀ V, (Op.equalIn 10000 25 (.agg ((shaOf T).map v8).toArray) (.agg ((shaOf bs).map v8).toArray)).run Tryd.prog V = .ok (shaOf T == shaOf bs) V) := fun V => run_equalIn_bytes (P := Tryd.prog) V 9998 25 5 32 Tryd.underlying25 Tryd.underlying5 (fun w => by kernel_rfl) _ _ (wbytes_len _) (wbytes_len _)
          have HFS : Hid (F = true → (shaOf T == shaOf bs) = true) := fun hf => by
            have h5 := HF.out
            rw [hf] at h5
            rw [of_decide_eq_true h5.symm]
            simp
          have HFN : Hid (decide (T = bs) = F) := HF.out.symm
          have HSA0 : Hid (∀ V, Below wr.heap.size wr V → Seg V (.slice aal len cal) T) := fun V hV => hO.seg.below hV (Nat.le_refl _)
          have HSI0 : Hid (∀ V, Below wr.heap.size wr V → Seg V (.slice ao len cp) bs) := fun V hV => HSG9.out V (hB.trans (hV.mono hB.size))
          have HRG0 : Hid (∀ V, Below wr.heap.size wr V → V.rangeAt B8 3 ((shaOf bs).map v8)) := fun V hV => HHR.out V B8 (k8r.below hV k8r.lt)
          have hil : (Tryd.prog.info? 25).map (·.size) = some ((shaOf bs).map v8).length := by rw [List.length_map, show (shaOf bs).length = 32 from wbytes_len _]; kernel_rfl
          have HW9 : Hid (Below w.heap.size w wr) := HWB.out wr hB
          clear HSN HCH HSB HTC HIN HOUT HWH HHR HSG9 HCNL HF hHT e1 e2 HRD HWB hne hDl hH hO
          generalize (shaOf T == shaOf bs) = SE at *
          generalize ((shaOf T).map v8).toArray = ST at *
          generalize hHL : (shaOf bs).map v8 = HL at *
          clear hHL
          obtain ⟨HA, hHA⟩ : ∃ HA, HL.toArray = HA := ⟨_, rfl⟩
          rw [hHA] at HEB HEI HRB
          have HHA : Hid (HL.toArray = HA) := hHA
          clear hHA
          go_wp2_with (refine wpList_load_row rfl 28 _ rfl B8 rfl 28 _ (0, 0) _ k8r Tryd.underlying28 rfl hi1 ?_)
          refine (HCN.out _ hB).mono ?_
          rintro e w1 ⟨rfl, hb1⟩
          go_wp2_with fail
          refine (HRT.out _ hb1).mono ?_
          rintro e w2 ⟨rfl, hb2⟩
          have hY2 : Below wr.heap.size wr w2 := hb1.trans (hb2.mono hb1.size)
          go_wp2_with fail
          refine (HRB.out _ hY2).mono ?_
          rintro e W3 ⟨rfl, hb3⟩
          have hY3 : Below wr.heap.size wr W3 := hY2.trans (hb3.mono hY2.size)
          have k83 := k8r.below hY3 k8r.lt
          have HT3 : Hid (∀ V, Below W3.heap.size W3 V → Below wr.heap.size wr V) := fun V hV => hY3.trans (hV.mono hY3.size)
          have HW1 : Hid (∀ V, Below W3.heap.size W3 V → Calls Tryd.prog 17 #[.agg MC, .slice aal len cal] V fun e w' => e = .returned (.bool SE) ∧ Below V.heap.size V w') := fun V hV => HWW.out V (HT3.out V hV)
          have HS1 : Hid (∀ V, Below W3.heap.size W3 V → Calls Tryd.prog 18 #[.pointer (some ⟨gh, 0, none⟩)] V fun e w' => e = .returned (.agg ST) ∧ Below V.heap.size V w') := fun V hV => HSS.out V (HT3.out V hV)
          have HSA : Hid (∀ V, Below W3.heap.size W3 V → Seg V (.slice aal len cal) T) := fun V hV => HSA0.out V (HT3.out V hV)
          have HSI : Hid (∀ V, Below W3.heap.size W3 V → Seg V (.slice ao len cp) bs) := fun V hV => HSI0.out V (HT3.out V hV)
          have HRG : Hid (∀ V, Below W3.heap.size W3 V → V.rangeAt B8 3 HL) := fun V hV => HRG0.out V (HT3.out V hV)
          have HB3 : Hid (Below w.heap.size w W3) := HW9.out.trans (hY3.mono HW9.out.size)
          clear HRT HRB HCN hb1 hb2 hb3 hY2 k8r
          have hei := HEI.out
          clear HEI
          cases SE with
          | true =>
            clear HFS
            obtain ⟨FN, hFN⟩ : ∃ FN, FN = F := ⟨_, rfl⟩
            subst hFN
            go_wp2_with fail
            have hHA := HHA.out
            have hX0 : Below W3.heap.size W3 W3.drew := (Below.refl _ _).drew
            refine held_begin (fun V => Below W3.heap.size W3 V) (by kernel_rfl) ?_
            refine held_take 0 127 _ (.agg MC) rfl rfl (by kernel_rfl) (by kernel_rfl) (by kernel_rfl) rfl hX0 (fun V hV => exec_loadM _ rfl _ rfl (k83.below hV k83.lt) hi1) ?_
            simp only [Act.put, List.setIfInBounds_toArray, List.set_cons_succ, List.set_cons_zero]
            refine held_take 1 128 _ (.slice aal len cal) rfl rfl (by kernel_rfl) (by kernel_rfl) (by kernel_rfl) rfl hX0 (fun _ _ => rfl) ?_
            simp only [Act.put, List.setIfInBounds_toArray, List.set_cons_succ, List.set_cons_zero]
            refine held_take 3 130 _ (.bool true) rfl rfl (by kernel_rfl) (by kernel_rfl) (by kernel_rfl) rfl hX0 (fun _ _ => rfl) ?_
            simp only [Act.put, List.setIfInBounds_toArray, List.set_cons_succ, List.set_cons_zero]
            refine held_all1 2 (by kernel_rfl) (op_call 2 129 _ 17 #[.agg MC, .slice aal len cal] rfl rfl rfl (exec_two8 17 _ _ _ rfl _ _ rfl rfl Tryd.call17) ((HW1.out _ hX0).mono ?_))
            rintro e v1 ⟨rfl, hc1⟩
            have hX1 : Below W3.heap.size W3 v1 := Below.trans hX0 (hc1.mono (Below.size hX0))
            refine ⟨_, rfl, hX1, ?_⟩
            simp only [Act.put, List.setIfInBounds_toArray, List.set_cons_succ, List.set_cons_zero]
            refine held_take 4 131 _ (.bool true) rfl rfl (by kernel_rfl) (by kernel_rfl) (by kernel_rfl) rfl hX1 (fun V _ => exec_cmp .eql 4 4 _ _ rfl (.inr rfl) (.bool true) (.bool true) (.bool true) rfl rfl (by kernel_rfl) (by kernel_rfl)) ?_
            simp only [Act.put, List.setIfInBounds_toArray, List.set_cons_succ, List.set_cons_zero]
            refine held_take 5 132 _ (.bool true) rfl rfl (by kernel_rfl) (by kernel_rfl) (by kernel_rfl) rfl hX1 (fun _ _ => rfl) ?_
            simp only [Act.put, List.setIfInBounds_toArray, List.set_cons_succ, List.set_cons_zero]
            refine held_take 6 133 _ (.pointer (some ⟨gh, 0, none⟩)) rfl rfl (by kernel_rfl) (by kernel_rfl) (by kernel_rfl) rfl hX1 (fun _ _ => rfl) ?_
            simp only [Act.put, List.setIfInBounds_toArray, List.set_cons_succ, List.set_cons_zero]
            refine held_take 8 135 _ (.pointer (some ⟨B8, 3, none⟩)) rfl rfl (by kernel_rfl) (by kernel_rfl) (by kernel_rfl) rfl hX1 (fun _ _ => rfl) ?_
            simp only [Act.put, List.setIfInBounds_toArray, List.set_cons_succ, List.set_cons_zero]
            refine held_take 9 136 _ (.agg HA) rfl rfl (by kernel_rfl) (by kernel_rfl) (by kernel_rfl) rfl hX1 (fun V hV => exec_loadsM 25 _ rfl B8 3 rfl HL HA hHA _ (HRG.out V hV) Tryd.underlying25 rfl hil) ?_
            simp only [Act.put, List.setIfInBounds_toArray, List.set_cons_succ, List.set_cons_zero]
            refine held_take 11 138 _ (.bool true) rfl rfl (by kernel_rfl) (by kernel_rfl) (by kernel_rfl) rfl hX1 (fun _ _ => rfl) ?_
            simp only [Act.put, List.setIfInBounds_toArray, List.set_cons_succ, List.set_cons_zero]
            refine held_all1 7 (by kernel_rfl) (op_call 7 134 _ 18 #[.pointer (some ⟨gh, 0, none⟩)] rfl rfl rfl (exec_one 18 _ _ rfl _ rfl Tryd.call18) ((HS1.out _ hX1).mono ?_))
            rintro e v2 ⟨rfl, hc2⟩
            have hX2 : Below W3.heap.size W3 v2 := Below.trans hX1 (hc2.mono (Below.size hX1))
            refine ⟨_, rfl, hX2, ?_⟩
            simp only [Act.put, List.setIfInBounds_toArray, List.set_cons_succ, List.set_cons_zero]
            refine held_take 10 137 _ (.bool true) rfl rfl (by kernel_rfl) (by kernel_rfl) (by kernel_rfl) rfl hX2 (fun V _ => exec_cmp .eql 25 25 _ _ rfl (.inr rfl) (.agg ST) (.agg HA) _ rfl rfl (run_eqGuard_agg V .eql 25 _ _ _ _ (by kernel_rfl)) (HEB.out V)) ?_
            simp only [Act.put, List.setIfInBounds_toArray, List.set_cons_succ, List.set_cons_zero]
            refine held_take 12 139 _ (.bool true) rfl rfl (by kernel_rfl) (by kernel_rfl) (by kernel_rfl) rfl hX2 (fun V _ => exec_cmp .eql 4 4 _ _ rfl (.inr rfl) (.bool true) (.bool true) (.bool true) rfl rfl (by kernel_rfl) (by kernel_rfl)) ?_
            simp only [Act.put, List.setIfInBounds_toArray, List.set_cons_succ, List.set_cons_zero]
            refine held_take 13 140 _ (.bool true) rfl rfl (by kernel_rfl) (by kernel_rfl) (by kernel_rfl) rfl hX2 (fun _ _ => rfl) ?_
            simp only [Act.put, List.setIfInBounds_toArray, List.set_cons_succ, List.set_cons_zero]
            refine held_take 14 141 _ (.bool true) rfl rfl (by kernel_rfl) (by kernel_rfl) (by kernel_rfl) rfl hX2 (fun _ _ => rfl) ?_
            simp only [Act.put, List.setIfInBounds_toArray, List.set_cons_succ, List.set_cons_zero]
            refine held_take 15 142 _ (.bool true) rfl rfl (by kernel_rfl) (by kernel_rfl) (by kernel_rfl) rfl hX2 (fun _ _ => rfl) ?_
            simp only [Act.put, List.setIfInBounds_toArray, List.set_cons_succ, List.set_cons_zero]
            refine held_take 16 143 _ (.bool true) rfl rfl (by kernel_rfl) (by kernel_rfl) (by kernel_rfl) rfl hX2 (fun _ _ => rfl) ?_
            simp only [Act.put, List.setIfInBounds_toArray, List.set_cons_succ, List.set_cons_zero]
            refine held_pass 17 144 _ rfl rfl (by kernel_rfl) (by kernel_rfl) (by kernel_rfl) rfl hX2 ?_
            simp only [Act.put, List.setIfInBounds_toArray, List.set_cons_succ, List.set_cons_zero]
            refine held_pass 18 145 _ rfl rfl (by kernel_rfl) (by kernel_rfl) (by kernel_rfl) rfl hX2 ?_
            simp only [Act.put, List.setIfInBounds_toArray, List.set_cons_succ, List.set_cons_zero]
            refine held_take 19 146 _ (.bool true) rfl rfl (by kernel_rfl) (by kernel_rfl) (by kernel_rfl) rfl hX2 (fun _ _ => rfl) ?_
            simp only [Act.put, List.setIfInBounds_toArray, List.set_cons_succ, List.set_cons_zero]
            refine held_take 20 147 _ (.bool true) rfl rfl (by kernel_rfl) (by kernel_rfl) (by kernel_rfl) rfl hX2 (fun _ _ => rfl) ?_
            simp only [Act.put, List.setIfInBounds_toArray, List.set_cons_succ, List.set_cons_zero]
            refine held_take 21 148 _ (.bool true) rfl rfl (by kernel_rfl) (by kernel_rfl) (by kernel_rfl) rfl hX2 (fun _ _ => rfl) ?_
            simp only [Act.put, List.setIfInBounds_toArray, List.set_cons_succ, List.set_cons_zero]
            refine held_take 22 149 _ (.bool FN) rfl rfl (by kernel_rfl) (by kernel_rfl) (by kernel_rfl) rfl hX2 (fun _ _ => rfl) ?_
            simp only [Act.put, List.setIfInBounds_toArray, List.set_cons_succ, List.set_cons_zero]
            refine held_take 23 150 _ (.slice aal len cal) rfl rfl (by kernel_rfl) (by kernel_rfl) (by kernel_rfl) rfl hX2 (fun _ _ => rfl) ?_
            simp only [Act.put, List.setIfInBounds_toArray, List.set_cons_succ, List.set_cons_zero]
            refine held_take 24 151 _ (.string ⟨T.toArray⟩) rfl rfl (by kernel_rfl) (by kernel_rfl) (by kernel_rfl) rfl hX2 (fun V hV => exec_conv 22 9 _ rfl (.slice aal len cal) _ rfl (seg_string (HSA.out V hV) 9 Tryd.underlying9)) ?_
            simp only [Act.put, List.setIfInBounds_toArray, List.set_cons_succ, List.set_cons_zero]
            refine held_take 25 152 _ (.slice ao len cp) rfl rfl (by kernel_rfl) (by kernel_rfl) (by kernel_rfl) rfl hX2 (fun _ _ => rfl) ?_
            simp only [Act.put, List.setIfInBounds_toArray, List.set_cons_succ, List.set_cons_zero]
            refine held_take 26 153 _ (.string ⟨bs.toArray⟩) rfl rfl (by kernel_rfl) (by kernel_rfl) (by kernel_rfl) rfl hX2 (fun V hV => exec_conv 22 9 _ rfl (.slice ao len cp) _ rfl (seg_string (HSI.out V hV) 9 Tryd.underlying9)) ?_
            simp only [Act.put, List.setIfInBounds_toArray, List.set_cons_succ, List.set_cons_zero]
            refine held_take 27 154 _ (.bool FN) rfl rfl (by kernel_rfl) (by kernel_rfl) (by kernel_rfl) rfl hX2 (fun V _ => exec_cmp .eql 9 9 _ _ rfl (.inr rfl) (.string ⟨T.toArray⟩) (.string ⟨bs.toArray⟩) _ rfl rfl (by kernel_rfl) ((eql_string V T bs).trans (by rw [HFN.out]))) ?_
            simp only [Act.put, List.setIfInBounds_toArray, List.set_cons_succ, List.set_cons_zero]
            refine held_take 28 155 _ (.bool true) rfl rfl (by kernel_rfl) (by kernel_rfl) (by kernel_rfl) rfl hX2 (fun V _ => exec_cmp .eql 4 4 _ _ rfl (.inr rfl) (.bool FN) (.bool FN) (.bool true) rfl rfl (by cases FN <;> kernel_rfl) (by cases FN <;> kernel_rfl)) ?_
            simp only [Act.put, List.setIfInBounds_toArray, List.set_cons_succ, List.set_cons_zero]
            refine held_take 29 156 _ (.bool true) rfl rfl (by kernel_rfl) (by kernel_rfl) (by kernel_rfl) rfl hX2 (fun _ _ => rfl) ?_
            simp only [Act.put, List.setIfInBounds_toArray, List.set_cons_succ, List.set_cons_zero]
            refine held_take 30 6 _ (.bool true) rfl rfl (by kernel_rfl) (by kernel_rfl) (by kernel_rfl) rfl hX2 (fun _ _ => rfl) ?_
            simp only [Act.put, List.setIfInBounds_toArray, List.set_cons_succ, List.set_cons_zero]
            refine wpAnyH_done (by kernel_rfl) ?_ _
            refine NoPanic.normal ?_
            clear hHA hei
            go_wp2
            go_ret
            exact ⟨rfl, HB3.out.trans (Below.mono hX2 HB3.out.size)⟩
          | false =>
            have hF : F = false := by
              cases F with
              | false => rfl
              | true => exact (HFS.out rfl).symm ▸ rfl
            subst hF
            clear HFS
            go_wp2_with fail
            have hHA := HHA.out
            have hX0 : Below W3.heap.size W3 W3.drew := (Below.refl _ _).drew
            refine held_begin (fun V => Below W3.heap.size W3 V) (by kernel_rfl) ?_
            refine held_take 0 127 _ (.agg MC) rfl rfl (by kernel_rfl) (by kernel_rfl) (by kernel_rfl) rfl hX0 (fun V hV => exec_loadM _ rfl _ rfl (k83.below hV k83.lt) hi1) ?_
            simp only [Act.put, List.setIfInBounds_toArray, List.set_cons_succ, List.set_cons_zero]
            refine held_take 1 128 _ (.slice aal len cal) rfl rfl (by kernel_rfl) (by kernel_rfl) (by kernel_rfl) rfl hX0 (fun _ _ => rfl) ?_
            simp only [Act.put, List.setIfInBounds_toArray, List.set_cons_succ, List.set_cons_zero]
            refine held_take 3 130 _ (.bool false) rfl rfl (by kernel_rfl) (by kernel_rfl) (by kernel_rfl) rfl hX0 (fun _ _ => rfl) ?_
            simp only [Act.put, List.setIfInBounds_toArray, List.set_cons_succ, List.set_cons_zero]
            refine held_all1 2 (by kernel_rfl) (op_call 2 129 _ 17 #[.agg MC, .slice aal len cal] rfl rfl rfl (exec_two8 17 _ _ _ rfl _ _ rfl rfl Tryd.call17) ((HW1.out _ hX0).mono ?_))
            rintro e v1 ⟨rfl, hc1⟩
            have hX1 : Below W3.heap.size W3 v1 := Below.trans hX0 (hc1.mono (Below.size hX0))
            refine ⟨_, rfl, hX1, ?_⟩
            simp only [Act.put, List.setIfInBounds_toArray, List.set_cons_succ, List.set_cons_zero]
            refine held_take 4 131 _ (.bool true) rfl rfl (by kernel_rfl) (by kernel_rfl) (by kernel_rfl) rfl hX1 (fun V _ => exec_cmp .eql 4 4 _ _ rfl (.inr rfl) (.bool false) (.bool false) (.bool true) rfl rfl (by kernel_rfl) (by kernel_rfl)) ?_
            simp only [Act.put, List.setIfInBounds_toArray, List.set_cons_succ, List.set_cons_zero]
            refine held_take 5 132 _ (.bool true) rfl rfl (by kernel_rfl) (by kernel_rfl) (by kernel_rfl) rfl hX1 (fun _ _ => rfl) ?_
            simp only [Act.put, List.setIfInBounds_toArray, List.set_cons_succ, List.set_cons_zero]
            refine held_take 6 133 _ (.pointer (some ⟨gh, 0, none⟩)) rfl rfl (by kernel_rfl) (by kernel_rfl) (by kernel_rfl) rfl hX1 (fun _ _ => rfl) ?_
            simp only [Act.put, List.setIfInBounds_toArray, List.set_cons_succ, List.set_cons_zero]
            refine held_take 8 135 _ (.pointer (some ⟨B8, 3, none⟩)) rfl rfl (by kernel_rfl) (by kernel_rfl) (by kernel_rfl) rfl hX1 (fun _ _ => rfl) ?_
            simp only [Act.put, List.setIfInBounds_toArray, List.set_cons_succ, List.set_cons_zero]
            refine held_take 9 136 _ (.agg HA) rfl rfl (by kernel_rfl) (by kernel_rfl) (by kernel_rfl) rfl hX1 (fun V hV => exec_loadsM 25 _ rfl B8 3 rfl HL HA hHA _ (HRG.out V hV) Tryd.underlying25 rfl hil) ?_
            simp only [Act.put, List.setIfInBounds_toArray, List.set_cons_succ, List.set_cons_zero]
            refine held_take 11 138 _ (.bool false) rfl rfl (by kernel_rfl) (by kernel_rfl) (by kernel_rfl) rfl hX1 (fun _ _ => rfl) ?_
            simp only [Act.put, List.setIfInBounds_toArray, List.set_cons_succ, List.set_cons_zero]
            refine held_all1 7 (by kernel_rfl) (op_call 7 134 _ 18 #[.pointer (some ⟨gh, 0, none⟩)] rfl rfl rfl (exec_one 18 _ _ rfl _ rfl Tryd.call18) ((HS1.out _ hX1).mono ?_))
            rintro e v2 ⟨rfl, hc2⟩
            have hX2 : Below W3.heap.size W3 v2 := Below.trans hX1 (hc2.mono (Below.size hX1))
            refine ⟨_, rfl, hX2, ?_⟩
            simp only [Act.put, List.setIfInBounds_toArray, List.set_cons_succ, List.set_cons_zero]
            refine held_take 10 137 _ (.bool false) rfl rfl (by kernel_rfl) (by kernel_rfl) (by kernel_rfl) rfl hX2 (fun V _ => exec_cmp .eql 25 25 _ _ rfl (.inr rfl) (.agg ST) (.agg HA) _ rfl rfl (run_eqGuard_agg V .eql 25 _ _ _ _ (by kernel_rfl)) (HEB.out V)) ?_
            simp only [Act.put, List.setIfInBounds_toArray, List.set_cons_succ, List.set_cons_zero]
            refine held_take 12 139 _ (.bool true) rfl rfl (by kernel_rfl) (by kernel_rfl) (by kernel_rfl) rfl hX2 (fun V _ => exec_cmp .eql 4 4 _ _ rfl (.inr rfl) (.bool false) (.bool false) (.bool true) rfl rfl (by kernel_rfl) (by kernel_rfl)) ?_
            simp only [Act.put, List.setIfInBounds_toArray, List.set_cons_succ, List.set_cons_zero]
            refine held_take 13 140 _ (.bool true) rfl rfl (by kernel_rfl) (by kernel_rfl) (by kernel_rfl) rfl hX2 (fun _ _ => rfl) ?_
            simp only [Act.put, List.setIfInBounds_toArray, List.set_cons_succ, List.set_cons_zero]
            refine held_take 14 141 _ (.bool true) rfl rfl (by kernel_rfl) (by kernel_rfl) (by kernel_rfl) rfl hX2 (fun _ _ => rfl) ?_
            simp only [Act.put, List.setIfInBounds_toArray, List.set_cons_succ, List.set_cons_zero]
            refine held_take 15 142 _ (.bool false) rfl rfl (by kernel_rfl) (by kernel_rfl) (by kernel_rfl) rfl hX2 (fun _ _ => rfl) ?_
            simp only [Act.put, List.setIfInBounds_toArray, List.set_cons_succ, List.set_cons_zero]
            refine held_take 16 143 _ (.bool false) rfl rfl (by kernel_rfl) (by kernel_rfl) (by kernel_rfl) rfl hX2 (fun _ _ => rfl) ?_
            simp only [Act.put, List.setIfInBounds_toArray, List.set_cons_succ, List.set_cons_zero]
            refine held_take 17 144 _ (.bool false) rfl rfl (by kernel_rfl) (by kernel_rfl) (by kernel_rfl) rfl hX2 (fun _ _ => rfl) ?_
            simp only [Act.put, List.setIfInBounds_toArray, List.set_cons_succ, List.set_cons_zero]
            refine held_take 18 145 _ (.bool true) rfl rfl (by kernel_rfl) (by kernel_rfl) (by kernel_rfl) rfl hX2 (fun V _ => exec_notM _ _ rfl _ _ rfl rfl) ?_
            simp only [Act.put, List.setIfInBounds_toArray, List.set_cons_succ, List.set_cons_zero]
            refine held_take 19 146 _ (.bool true) rfl rfl (by kernel_rfl) (by kernel_rfl) (by kernel_rfl) rfl hX2 (fun _ _ => rfl) ?_
            simp only [Act.put, List.setIfInBounds_toArray, List.set_cons_succ, List.set_cons_zero]
            refine held_take 20 147 _ (.bool true) rfl rfl (by kernel_rfl) (by kernel_rfl) (by kernel_rfl) rfl hX2 (fun _ _ => rfl) ?_
            simp only [Act.put, List.setIfInBounds_toArray, List.set_cons_succ, List.set_cons_zero]
            refine held_take 21 148 _ (.bool true) rfl rfl (by kernel_rfl) (by kernel_rfl) (by kernel_rfl) rfl hX2 (fun _ _ => rfl) ?_
            simp only [Act.put, List.setIfInBounds_toArray, List.set_cons_succ, List.set_cons_zero]
            refine held_take 22 149 _ (.bool false) rfl rfl (by kernel_rfl) (by kernel_rfl) (by kernel_rfl) rfl hX2 (fun _ _ => rfl) ?_
            simp only [Act.put, List.setIfInBounds_toArray, List.set_cons_succ, List.set_cons_zero]
            refine held_take 23 150 _ (.slice aal len cal) rfl rfl (by kernel_rfl) (by kernel_rfl) (by kernel_rfl) rfl hX2 (fun _ _ => rfl) ?_
            simp only [Act.put, List.setIfInBounds_toArray, List.set_cons_succ, List.set_cons_zero]
            refine held_take 24 151 _ (.string ⟨T.toArray⟩) rfl rfl (by kernel_rfl) (by kernel_rfl) (by kernel_rfl) rfl hX2 (fun V hV => exec_conv 22 9 _ rfl (.slice aal len cal) _ rfl (seg_string (HSA.out V hV) 9 Tryd.underlying9)) ?_
            simp only [Act.put, List.setIfInBounds_toArray, List.set_cons_succ, List.set_cons_zero]
            refine held_take 25 152 _ (.slice ao len cp) rfl rfl (by kernel_rfl) (by kernel_rfl) (by kernel_rfl) rfl hX2 (fun _ _ => rfl) ?_
            simp only [Act.put, List.setIfInBounds_toArray, List.set_cons_succ, List.set_cons_zero]
            refine held_take 26 153 _ (.string ⟨bs.toArray⟩) rfl rfl (by kernel_rfl) (by kernel_rfl) (by kernel_rfl) rfl hX2 (fun V hV => exec_conv 22 9 _ rfl (.slice ao len cp) _ rfl (seg_string (HSI.out V hV) 9 Tryd.underlying9)) ?_
            simp only [Act.put, List.setIfInBounds_toArray, List.set_cons_succ, List.set_cons_zero]
            refine held_take 27 154 _ (.bool false) rfl rfl (by kernel_rfl) (by kernel_rfl) (by kernel_rfl) rfl hX2 (fun V _ => exec_cmp .eql 9 9 _ _ rfl (.inr rfl) (.string ⟨T.toArray⟩) (.string ⟨bs.toArray⟩) _ rfl rfl (by kernel_rfl) ((eql_string V T bs).trans (by rw [HFN.out]))) ?_
            simp only [Act.put, List.setIfInBounds_toArray, List.set_cons_succ, List.set_cons_zero]
            refine held_take 28 155 _ (.bool true) rfl rfl (by kernel_rfl) (by kernel_rfl) (by kernel_rfl) rfl hX2 (fun V _ => exec_cmp .eql 4 4 _ _ rfl (.inr rfl) (.bool false) (.bool false) (.bool true) rfl rfl (by kernel_rfl) (by kernel_rfl)) ?_
            simp only [Act.put, List.setIfInBounds_toArray, List.set_cons_succ, List.set_cons_zero]
            refine held_take 29 156 _ (.bool true) rfl rfl (by kernel_rfl) (by kernel_rfl) (by kernel_rfl) rfl hX2 (fun _ _ => rfl) ?_
            simp only [Act.put, List.setIfInBounds_toArray, List.set_cons_succ, List.set_cons_zero]
            refine held_take 30 6 _ (.bool true) rfl rfl (by kernel_rfl) (by kernel_rfl) (by kernel_rfl) rfl hX2 (fun _ _ => rfl) ?_
            simp only [Act.put, List.setIfInBounds_toArray, List.set_cons_succ, List.set_cons_zero]
            refine wpAnyH_done (by kernel_rfl) ?_ _
            refine NoPanic.normal ?_
            clear hHA hei
            go_wp2
            go_ret
            exact ⟨rfl, HB3.out.trans (Below.mono hX2 HB3.out.size)⟩
    · clear HC1 HLD HSG
      go_wp2_with (refine store_blk rfl 28 _ _ rfl rfl w3.heap.size MC rfl rfl 28 Z (by exact Blk.new _ _ _) hi1 HS1.out ho1 ?_; intro W9 k8 hg9 hs9; have hf9 := fresh_below hg9; have hB9 : Below w.heap.size w W9 := hB3.trans (hf9.mono hB3.size))
      go_ret
      exact ⟨rfl, hB9⟩
end Go.Proofs.YtenolcfmbdndgabDoor
