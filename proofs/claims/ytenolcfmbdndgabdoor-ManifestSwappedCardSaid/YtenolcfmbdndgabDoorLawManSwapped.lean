/-
  What is proved here: ManifestSwapped: a chunk at another place is none, unless it is the chunk that stands there.
  Conditions: the variables fourBits, firstWords and roundWords hold their words.
-/
import Derived.Test.YtenolcfmbdndgabDoorManMore
import Derived.Test.YtenolcfmbdndgabDoorManChunk
import Derived.Test.YtenolcfmbdndgabDoorRefAdd
namespace Go.Proofs.YtenolcfmbdndgabDoor
open Go.RowKit

theorem swapped_is {v : Int} {bs : List UInt8} {c : Int} (h : numsOk (numsM v bs c)) (i j : Nat) (_hi : (i : Int) < countM (numsM v bs c)) (hj : (j : Int) < countM (numsM v bs c)) :
    isChunk (makeM v bs c) j (chunkB bs c.toNat i) = ((((chunkB bs c.toNat i).length : Int) == ((chunkB bs c.toNat j).length : Int)) && (n32 (crcOf (chunkB bs c.toNat i)) == n32 (crcOf (chunkB bs c.toNat j)))) := by
  have hs := make_span h j hj
  have hu := make_sum h j hj
  unfold isChunk
  rw [hs.1, Int.toNat_natCast, hu, n32_beq, Bool.eq_iff_iff, decide_eq_true_iff, Bool.and_eq_true, beq_iff_eq, decide_eq_true_iff]
  refine ⟨fun ⟨_, h2, h3⟩ => ⟨h2, (Option.some.inj h3).symm⟩, fun ⟨h2, h3⟩ => ⟨rfl, h2, by rw [h3]⟩⟩

set_option maxRecDepth 100000 in
set_option maxHeartbeats 4000000 in
theorem manifestSwapped_any (x : Value) (bs : List UInt8) (ao : Option Addr) (len cp : Nat) (x0 x1 x2 : Int) (w : World) (hx : x = .slice ao len cp) (hl : bs.length = len) (hm : len ≤ maxLen) (hseg : Seg w x bs) (L : Laid10 w) :
    Calls Tryd.prog 3 #[x, .agg #[.int .i64 x0, .int .i64 x1, .int .i64 x2]] w fun e w' => e = .returned (.bool true) ∧ Below w.heap.size w w' := by
  subst hx
  unfold maxLen at hm
  have hBb : Below w.heap.size w (w.alloc (.cells #[.int .i64 x0, .int .i64 x1, .int .i64 x2] 23)) := (Below.refl _ _).alloc (Nat.le_refl _) _
  have k3 := Blk.new w 23 #[.int .i64 x0, .int .i64 x1, .int .i64 x2]
  have HA : Hid (Calls Tryd.prog 5 #[] (w.alloc (.cells #[.int .i64 x0, .int .i64 x1, .int .i64 x2] 23)) fun e w' => e = .returned (.bool true) ∧ Below (w.alloc (.cells #[.int .i64 x0, .int .i64 x1, .int .i64 x2] 23)).heap.size (w.alloc (.cells #[.int .i64 x0, .int .i64 x1, .int .i64 x2] 23)) w') := awake10_any _ (L.below hBb)
  have hz := zeroMan
  by_cases hbig : 20000 < len
  · clear k3 L hseg hz
    go_enter Tryd.func3, Tryd.ntmps3
    go_wp2_with fail
    refine HA.out.mono ?_
    rintro e w1 ⟨rfl, hb1⟩
    go_wp2
    go_ret
    exact ⟨rfl, hBb.trans (hb1.mono hBb.size)⟩
  · have hbl : bs.length ≤ 1000000000 := by omega
    have hb2 : len ≤ 20000 := by omega
    have hb2' : ¬ (20000 : Int) < (len : Int) := by omega
    have HMK : Hid (∀ v c V, Below w.heap.size w V → Calls Tryd.prog 6 #[.int .i64 v, .slice ao len cp, .int .i64 c] V fun e w' => ∃ (M : MM) (su : Value) (er : Int), e = .returned (.tuple #[manV M su, .int .i64 er]) ∧ M.h.length = 32 ∧ M.u.length ≤ 128 ∧ Wds w' su M.u ∧ ((er = 0 ∧ numsOk (numsM v bs c) ∧ M = makeM v bs c) ∨ (er = 1 ∧ ¬ numsOk (numsM v bs c) ∧ M = zeroM)) ∧ Below V.heap.size V w') := fun v c V hV => make_gen v _ bs c V hbl (hseg.below hV (Nat.le_refl _)) (L.below hV)
    have HLD : Hid (∀ V, Below w.heap.size w V → Laid10 V) := fun V hV => L.below hV
    have HSG : Hid (∀ V, Below w.heap.size w V → Seg V (.slice ao len cp) bs) := fun V hV => hseg.below hV (Nat.le_refl _)
    have hcap := seg_cap hseg
    clear hseg L hbig
    go_enter Tryd.func3, Tryd.ntmps3
    go_wp2_with fail
    refine HA.out.mono ?_
    rintro e w1 ⟨rfl, hb1⟩
    have m3 := k3.below hb1 k3.lt
    have hB1 : Below w.heap.size w w1 := hBb.trans (hb1.mono hBb.size)
    clear HA k3 hb1 hBb
    have c32 : w1.cell? ⟨w.heap.size, 2, none⟩ = some (.int .i64 x2) := m3.cell (j := 2) rfl
    go_wp2_with fail
    refine (HMK.out _ _ _ hB1).mono ?_
    rintro e w2 ⟨M1, s1, e1, rfl, hh1, hl1, hu1, hc1, hb2⟩
    clear c32
    have p3 := m3.below hb2 m3.lt
    have hB2 : Below w.heap.size w w2 := hB1.trans (hb2.mono hB1.size)
    clear m3 hb2 hB1 HMK
    have hi1 := manC_info M1 s1 hh1
    have ho1 := manC_one M1 s1 hu1.one
    have HS1 : Hid ((manC zeroM (.slice none 0 0)).size = (manC M1 s1).size) := size_zeroMan M1 s1 hh1
    obtain ⟨MC, hMC1⟩ : ∃ MC1, MC1 = manC M1 s1 := ⟨_, rfl⟩
    have HM1 : Hid (MC = manC M1 s1) := hMC1
    have HC1 : Hid ((e1 = 0 ∧ numsOk (numsM 1 bs x2) ∧ M1 = makeM 1 bs x2) ∨ (e1 = 1 ∧ ¬ numsOk (numsM 1 bs x2) ∧ M1 = zeroM)) := hc1
    unfold manV
    rw [← hMC1] at hi1 ho1 HS1 ⊢
    clear hMC1 hc1
    generalize manC zeroM (.slice none 0 0) = Z at *
    rcases HC1.out with ⟨rfl, hn1, rfl⟩ | ⟨rfl, _⟩
    · clear HC1
      have HSP : Hid (∀ i V, Below w.heap.size w V → Wds V s1 (makeM 1 bs x2).u → Calls Tryd.prog 7 #[.agg MC, .int .i64 i] V fun e w' => e = .returned (tup3 (spanE (makeM 1 bs x2) i)) ∧ Below V.heap.size V w') := fun i V _ hu => by
        have h5 := span_any (makeM 1 bs x2) s1 i V hh1 (by omega) hu
        unfold manV at h5
        rw [← HM1.out] at h5
        exact h5
      go_wp2_with (first | (refine store_blk rfl 28 _ _ rfl rfl w2.heap.size MC rfl rfl 28 Z (by exact Blk.new _ _ _) hi1 HS1.out ho1 ?_; intro W3 k6 hg3 hs3; clear hs3; have hb3 := fresh_below hg3; have hB3 : Below w.heap.size w W3 := hB2.trans (hb3.mono hB2.size); have k33 := p3.below hb3 p3.lt; have c30 : W3.cell? ⟨w.heap.size, 0, none⟩ = some (.int .i64 x0) := k33.cell (j := 0) rfl) | (refine wpList_load_row rfl 28 _ rfl w2.heap.size rfl 28 MC (0, 0) _ k6 Tryd.underlying28 rfl hi1 ?_))
      have hu3 := hu1.below hb3 (Nat.le_refl _)
      obtain ⟨B6, hB6⟩ : ∃ B6, B6 = w2.heap.size := ⟨_, rfl⟩
      rw [← hB6] at k6 ⊢
      obtain ⟨B3, hB3'⟩ : ∃ B3, B3 = w.heap.size := ⟨_, rfl⟩
      rw [← hB3'] at k33 ⊢
      clear hB6 hB3' hg3 hb3 p3 hB2 hu1 c30 ho1 HS1 hz
      refine (HSP.out _ _ hB3 hu3).mono ?_
      rintro e w4 ⟨rfl, hb4⟩
      have k64 := k6.below hb4 k6.lt
      have k34 := k33.below hb4 k33.lt
      have hB4 : Below w.heap.size w w4 := hB3.trans (hb4.mono hB3.size)
      have hu4 := hu3.below hb4 (Nat.le_refl _)
      clear k6 k33 hB3 hu3 hb4
      have c31 : w4.cell? ⟨B3, 1, none⟩ = some (.int .i64 x1) := k34.cell (j := 1) rfl
      unfold tup3
      obtain ⟨SI, hSI⟩ : ∃ SI, SI = spanE (makeM 1 bs x2) x0 := ⟨_, rfl⟩
      have HSI : Hid (SI = spanE (makeM 1 bs x2) x0) := hSI
      rw [← hSI]
      clear hSI
      go_wp2_with (refine wpList_load_row rfl 28 _ rfl B6 rfl 28 MC (0, 0) _ k64 Tryd.underlying28 rfl hi1 ?_)
      refine (HSP.out _ _ hB4 hu4).mono ?_
      rintro e w5 ⟨rfl, hb5⟩
      have k65 := k64.below hb5 k64.lt
      have k35 := k34.below hb5 k34.lt
      have hB5 : Below w.heap.size w w5 := hB4.trans (hb5.mono hB4.size)
      have hu5 := hu4.below hb5 (Nat.le_refl _)
      clear k64 k34 hB4 hu4 hb5 c31 HSP
      unfold tup3
      obtain ⟨SJ, hSJ⟩ : ∃ SJ, SJ = spanE (makeM 1 bs x2) x1 := ⟨_, rfl⟩
      have HSJ : Hid (SJ = spanE (makeM 1 bs x2) x1) := hSJ
      rw [← hSJ]
      clear hSJ
      by_cases hok : SI.2.2 = 0 ∧ SJ.2.2 = 0
      · have hin : ∀ i, (spanE (makeM 1 bs x2) i).2.2 = 0 → 0 ≤ i ∧ i < countM (numsM 1 bs x2) := fun i h => by
          have h9 := Classical.byContradiction (p := 0 ≤ i ∧ okM (makeM 1 bs x2) ∧ i < countM (makeM 1 bs x2)) fun hn => by
            rw [show spanE (makeM 1 bs x2) i = (0, 0, 1) from if_neg hn] at h; cases h
          exact ⟨h9.1, h9.2.2⟩
        have hi0 := hin x0 (by rw [← HSI.out]; exact hok.1)
        have hj0 := hin x1 (by rw [← HSJ.out]; exact hok.2)
        clear hin
        obtain ⟨I, rfl⟩ := Int.eq_ofNat_of_zero_le hi0.1
        obtain ⟨J, rfl⟩ := Int.eq_ofNat_of_zero_le hj0.1
        obtain ⟨C, rfl⟩ : ∃ C : Nat, x2 = C := ⟨x2.toNat, (Int.toNat_of_nonneg (by have := hn1.2.2.1.1; simp only [numsM] at this; omega)).symm⟩
        have hsi := make_span hn1 I hi0.2
        have hsj := make_span hn1 J hj0.2
        have hsw := swapped_is hn1 I J hi0.2 hj0.2
        simp only [Int.toNat_natCast] at hsi hsj hsw
        have eI := HSI.out.trans hsi.1
        have eJ := HSJ.out.trans hsj.1
        subst eI
        subst eJ
        have HCK : Hid (∀ V, Below w5.heap.size w5 V → Calls Tryd.prog 8 #[.agg MC, .int .i64 (J : Int), .slice (restD ao cp (C * I)) (chunkB bs C I).length (cp - C * I)] V fun e w' => e = .returned (.bool (((((chunkB bs C I).length : Int) == ((chunkB bs C J).length : Int)) && (n32 (crcOf (chunkB bs C I)) == n32 (crcOf (chunkB bs C J)))))) ∧ Below V.heap.size V w') := fun V hV => by
          have hV5 : Below w.heap.size w V := hB5.trans (hV.mono hB5.size)
          have h8 := seg_mid (HSG.out V hV5) (C * I) (chunkB bs C I).length (by omega)
          rw [← chunkB_take] at h8
          have h9 := mchunk_any (makeM 1 bs C) s1 J _ (chunkB bs C I) V hh1 (by omega) (hu5.below hV (Nat.le_refl _)) (by omega) h8 (HLD.out V hV5).g4 (HLD.out V hV5).f4
          rw [hsw] at h9
          unfold manV at h9
          rw [← HM1.out] at h9
          exact h9
        have HRI : Hid (∀ V, Below w.heap.size w V → Calls Tryd.prog 9 #[.slice (restD ao cp (C * I)) (chunkB bs C I).length (cp - C * I)] V fun e w' => e = .returned (v32 (crcOf (chunkB bs C I))) ∧ w' = V) := fun V hV => by
          have h8 := seg_mid (HSG.out V hV) (C * I) (chunkB bs C I).length (by omega)
          rw [← chunkB_take] at h8
          exact refCsum_any _ _ V (by omega) h8
        have HRJ : Hid (∀ V, Below w.heap.size w V → Calls Tryd.prog 9 #[.slice (restD ao cp (C * J)) (chunkB bs C J).length (cp - C * J)] V fun e w' => e = .returned (v32 (crcOf (chunkB bs C J))) ∧ w' = V) := fun V hV => by
          have h8 := seg_mid (HSG.out V hV) (C * J) (chunkB bs C J).length (by omega)
          rw [← chunkB_take] at h8
          exact refCsum_any _ _ V (by omega) h8
        have bI : C * I + (chunkB bs C I).length ≤ len := by omega
        have bJ : C * J + (chunkB bs C J).length ≤ len := by omega
        clear hsi hsj hsw hok hi0 hj0 hn1 HLD HSG HM1 hh1 hl1 hu5 HSI HSJ
        generalize crcOf (chunkB bs C I) = CI at *
        generalize crcOf (chunkB bs C J) = CJ at *
        generalize (chunkB bs C I).length = LI at *
        generalize (chunkB bs C J).length = LJ at *
        generalize C * I = AI at *
        generalize C * J = AJ at *
        have hmid : ∀ (A Ln : Nat), A + Ln ≤ len → ∀ V, (Instr.slice 22 (.slice ao len cp) (some (.int .i64 (A : Int))) (some (.int .i64 ((A : Int) + (Ln : Int)))) none).run Tryd.prog V = .ok (.slice (restD ao cp A) Ln (cp - A)) V := fun A Ln hA V => by
          have := slice_midM ao len cp A (A + Ln) (by omega) (by omega) V
          rw [show A + Ln - A = Ln by omega, show ((A + Ln : Nat) : Int) = (A : Int) + (Ln : Int) by omega] at this
          exact this
        have hslI := hmid AI LI bI
        have hslJ := hmid AJ LJ bJ
        clear hmid
        have HIJ : Hid (∀ V, (Instr.slice 22 (.slice ao len cp) (some (.int .i64 (AJ : Int))) (some (.int .i64 ((AJ : Int) + (LJ : Int)))) none).run Tryd.prog V = .ok (.slice (restD ao cp AJ) LJ (cp - AJ)) V) := hslJ
        obtain ⟨ISC, hISC⟩ : ∃ ISC, ISC = (((LI : Int) == (LJ : Int)) && (n32 CI == n32 CJ)) := ⟨_, rfl⟩
        rw [← hISC] at HCK
        have HIS : Hid (ISC = (((LI : Int) == (LJ : Int)) && (n32 CI == n32 CJ))) := hISC
        clear hISC hslJ
        go_wp2_with fail
        have hS0 : Blk w5.drew B6 28 MC ∧ Blk w5.drew B3 23 #[.int .i64 (I : Int), .int .i64 (J : Int), .int .i64 (C : Int)] := ⟨k65.drew, k35.drew⟩
        refine held_begin (fun V => Blk V B6 28 MC ∧ Blk V B3 23 #[.int .i64 (I : Int), .int .i64 (J : Int), .int .i64 (C : Int)]) (by kernel_rfl) ?_
        refine held_take 0 58 _ (.agg MC) rfl rfl (by kernel_rfl) (by kernel_rfl) (by kernel_rfl) rfl hS0 (fun V hV => exec_loadM _ rfl _ rfl hV.1 hi1) ?_
        simp only [Act.put, List.setIfInBounds_toArray, List.set_cons_succ, List.set_cons_zero]
        refine held_take 1 59 _ (.pointer (some ⟨B3, 1, none⟩)) rfl rfl (by kernel_rfl) (by kernel_rfl) (by kernel_rfl) rfl hS0 (fun _ _ => rfl) ?_
        simp only [Act.put, List.setIfInBounds_toArray, List.set_cons_succ, List.set_cons_zero]
        refine held_take 2 60 _ (.int .i64 (J : Int)) rfl rfl (by kernel_rfl) (by kernel_rfl) (by kernel_rfl) rfl hS0 (fun V hV => exec_loadc 3 _ rfl _ _ rfl (load_one 3 (fun _ => by kernel_rfl) V _ _ _ (hV.2.cell (j := 1) rfl))) ?_
        simp only [Act.put, List.setIfInBounds_toArray, List.set_cons_succ, List.set_cons_zero]
        refine held_take 3 61 _ (.slice ao len cp) rfl rfl (by kernel_rfl) (by kernel_rfl) (by kernel_rfl) rfl hS0 (fun _ _ => rfl) ?_
        simp only [Act.put, List.setIfInBounds_toArray, List.set_cons_succ, List.set_cons_zero]
        refine held_take 4 62 _ (.int .i64 (AI : Int)) rfl rfl (by kernel_rfl) (by kernel_rfl) (by kernel_rfl) rfl hS0 (fun _ _ => rfl) ?_
        simp only [Act.put, List.setIfInBounds_toArray, List.set_cons_succ, List.set_cons_zero]
        refine held_take 5 63 _ (.int .i64 (AI : Int)) rfl rfl (by kernel_rfl) (by kernel_rfl) (by kernel_rfl) rfl hS0 (fun _ _ => rfl) ?_
        simp only [Act.put, List.setIfInBounds_toArray, List.set_cons_succ, List.set_cons_zero]
        refine held_take 6 64 _ (.int .i64 (LI : Int)) rfl rfl (by kernel_rfl) (by kernel_rfl) (by kernel_rfl) rfl hS0 (fun _ _ => rfl) ?_
        simp only [Act.put, List.setIfInBounds_toArray, List.set_cons_succ, List.set_cons_zero]
        refine held_take 7 65 _ (.int .i64 ((AI : Int) + (LI : Int))) rfl rfl (by kernel_rfl) (by kernel_rfl) (by kernel_rfl) rfl hS0 (fun V _ => exec_addM _ _ _ rfl _ _ rfl rfl (by omega) (by omega)) ?_
        simp only [Act.put, List.setIfInBounds_toArray, List.set_cons_succ, List.set_cons_zero]
        refine held_take 8 66 _ (.slice (restD ao cp AI) LI (cp - AI)) rfl rfl (by kernel_rfl) (by kernel_rfl) (by kernel_rfl) rfl hS0 (fun V _ => exec_slice7 _ _ _ _ rfl (.slice ao len cp) _ (some (.int .i64 (AI : Int))) (some (.int .i64 ((AI : Int) + (LI : Int)))) none rfl rfl rfl rfl (hslI V)) ?_
        simp only [Act.put, List.setIfInBounds_toArray, List.set_cons_succ, List.set_cons_zero]
        refine held_all1 9 (by kernel_rfl) (op_call 9 67 _ 8 #[.agg MC, .int .i64 (J : Int), .slice (restD ao cp AI) LI (cp - AI)] rfl rfl rfl (exec_three8 8 _ _ _ _ rfl _ _ _ rfl rfl rfl Tryd.call8) ((HCK.out w5.drew (Below.refl _ _).drew).mono ?_))
        rintro e w6 ⟨rfl, hb6⟩
        have hS6 : Blk w6 B6 28 MC ∧ Blk w6 B3 23 #[.int .i64 (I : Int), .int .i64 (J : Int), .int .i64 (C : Int)] := ⟨hS0.1.below hb6 hS0.1.lt, hS0.2.below hb6 hS0.2.lt⟩
        have hB6 : Below w.heap.size w w6 := hB5.drew.trans (hb6.mono hB5.size)
        refine ⟨_, rfl, hS6, ?_⟩
        simp only [Act.put, List.setIfInBounds_toArray, List.set_cons_succ, List.set_cons_zero]
        refine held_take 10 14 _ (.bool ISC) rfl rfl (by kernel_rfl) (by kernel_rfl) (by kernel_rfl) rfl hS6 (fun _ _ => rfl) ?_
        simp only [Act.put, List.setIfInBounds_toArray, List.set_cons_succ, List.set_cons_zero]
        refine wpAnyH_done (by kernel_rfl) ?_ _
        refine NoPanic.normal ?_
        clear hS0 hS6 k65 k35 hi1 HCK
        have hslJ := HIJ.out
        have K1 := fun n => HRI.out (w6.drewN n) (Below.drewN hB6 n)
        have K2 := fun n => HRJ.out (w6.drewN n) (Below.drewN hB6 n)
        have HK1 : Hid (∀ n, Calls Tryd.prog 9 #[.slice (restD ao cp AI) LI (cp - AI)] (w6.drewN n) fun e w' => e = .returned (v32 CI) ∧ w' = w6.drewN n) := K1
        have HK2 : Hid (∀ n, Calls Tryd.prog 9 #[.slice (restD ao cp AJ) LJ (cp - AJ)] (w6.drewN n) fun e w' => e = .returned (v32 CJ) ∧ w' = w6.drewN n) := K2
        clear K1 K2 HRI HRJ HIJ
        cases hq : ((LI : Int) == (LJ : Int)) with
        | true =>
          have HI2 : Hid (ISC = (n32 CI == n32 CJ)) := by show _ = _; rw [HIS.out, hq]; rfl
          clear HIS
          go_wp2_with fail
          go_quiet (first | (go_at_call 9; refine Calls.quiet_of_same (HK1.out _)) | (go_at_call 9; refine Calls.quiet_of_same (HK2.out _)))
          rw [HI2.out]
          generalize (n32 CI == n32 CJ) = E at *
          clear hslI hslJ
          cases E
          all_goals
            go_wp2
            go_ret
            exact ⟨rfl, Below.drewN hB6 _⟩
        | false =>
          obtain rfl : ISC = false := by rw [HIS.out, hq]; rfl
          clear HIS
          go_wp2_with fail
          go_quiet (fail)
          clear hslI hslJ
          go_wp2
          go_ret
          exact ⟨rfl, Below.drewN hB6 _⟩
      · have h01 : ∀ i, (spanE (makeM 1 bs x2) i).2.2 = 0 ∨ (spanE (makeM 1 bs x2) i).2.2 = 1 := fun i => by
          unfold spanE
          split
          · exact .inl rfl
          · exact .inr rfl
        have e0 := h01 x0
        have e1 := h01 x1
        rw [← HSI.out] at e0
        rw [← HSJ.out] at e1
        obtain ⟨SIa, SIb, SIc⟩ := SI
        obtain ⟨SJa, SJb, SJc⟩ := SJ
        simp only at e0 e1 hok
        clear h01 HSI HSJ HM1 HLD HSG hn1 k65 k35 hu5
        rcases e0 with rfl | rfl <;> rcases e1 with rfl | rfl
        · exact absurd ⟨rfl, rfl⟩ hok
        all_goals
          go_wp2
          go_ret
          exact ⟨rfl, hB5⟩
    · clear HC1 HLD HSG
      go_wp2_with (refine store_blk rfl 28 _ _ rfl rfl w2.heap.size MC rfl rfl 28 Z (by exact Blk.new _ _ _) hi1 HS1.out ho1 ?_; intro W3 k8 hg3 hs3; have hb3 := fresh_below hg3; have hB3 : Below w.heap.size w W3 := hB2.trans (hb3.mono hB2.size))
      go_ret
      exact ⟨rfl, hB3⟩
end Go.Proofs.YtenolcfmbdndgabDoor
