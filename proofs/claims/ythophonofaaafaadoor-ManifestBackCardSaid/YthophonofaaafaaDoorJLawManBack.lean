/-
  What is proved here: ManifestBack: an image is whole by its manifest, and each of its chunks is one, at its place; the manifest that was encoded is decoded as it was.
  Conditions: the variables fourBits, firstWords and roundWords hold their words.
-/
import Derived.Test.YthophonofaaafaaDoorJManSome
import Derived.Test.YthophonofaaafaaDoorJManChunk
import Derived.Test.YthophonofaaafaaDoorJRefManSame
namespace Go.Proofs.YthophonofaaafaaDoor
open Go.RowKit

theorem take_chunk (bs : List UInt8) (C I : Nat) : bs.take (C * I) ++ chunkB bs C I = bs.take (C * (I + 1)) := by
  rw [Nat.mul_add, Nat.mul_one, List.take_add]
  rfl
theorem isChunk_make {v : Int} {bs : List UInt8} {c : Int} (h : numsOk (numsM v bs c)) (i : Nat) (hi : (i : Int) < countM (numsM v bs c)) : isChunk (makeM v bs c) i (chunkB bs c.toNat i) = true := by
  unfold isChunk
  rw [(make_span h i hi).1]
  exact decide_eq_true ⟨rfl, rfl, by rw [Int.toNat_natCast]; exact make_sum h i hi⟩
theorem Own.after {w w' : World} {base : Nat} {v : Value} {bs : List UInt8} (h : Own w base v bs) (hb : Below w.heap.size w w') : Own w' base v bs :=
  World.ownsRow.kept h (row := none) ⟨hb.os, hb.tape, hb.output, hb.size, fun i hi _ => hb.block i hi⟩ (by cases v.ownBlock <;> simp)
set_option maxRecDepth 100000 in
set_option maxHeartbeats 4000000 in
theorem manifestBack_any (v : Int) (x : Value) (bs : List UInt8) (ao : Option Addr) (len cp : Nat) (c : Int) (w : World) (hx : x = .slice ao len cp) (hl : bs.length = len) (hm : len ≤ maxLen) (hseg : Seg w x bs) (L : Laid10 w) :
    Calls Tryd.prog 6 #[.int .i64 v, x, .int .i64 c] w fun e w' => e = .returned (.bool true) ∧ Below w.heap.size w w' := by
  subst hx
  unfold maxLen at hm
  have HA : Hid (Calls Tryd.prog 9 #[] w fun e w' => e = .returned (.bool true) ∧ Below w.heap.size w w') := awake10_any _ L
  have hz := zeroMan
  by_cases hbig : 40000 < len
  · clear L hseg hz
    go_enter Tryd.func6, Tryd.ntmps6
    go_wp2_with fail
    refine HA.out.mono ?_
    rintro e w1 ⟨rfl, hb1⟩
    go_wp2
    go_ret
    exact ⟨rfl, hb1⟩
  · have hb2' : ¬ (40000 : Int) < (len : Int) := by omega
    have HMK : Hid (∀ V, Below w.heap.size w V → Calls Tryd.prog 10 #[.int .i64 v, .slice ao len cp, .int .i64 c] V fun e w' => ∃ (M : MM) (su : Value) (er : Int), e = .returned (.tuple #[manV M su, .int .i64 er]) ∧ M.h.length = 32 ∧ M.u.length ≤ 128 ∧ Wds w' su M.u ∧ ((er = 0 ∧ numsOk (numsM v bs c) ∧ M = makeM v bs c) ∨ (er = 1 ∧ ¬ numsOk (numsM v bs c) ∧ M = zeroM)) ∧ Below V.heap.size V w') := fun V hV => make_gen v _ bs c V (by omega) (hseg.below hV (Nat.le_refl _)) (L.below hV)
    have HLD : Hid (∀ V, Below w.heap.size w V → Laid10 V) := fun V hV => L.below hV
    have HSG : Hid (∀ V, Below w.heap.size w V → Seg V (.slice ao len cp) bs) := fun V hV => hseg.below hV (Nat.le_refl _)
    have hcap : len ≤ cp := by
      have hs' := hseg
      rw [← hl] at hs'
      have := seg_cap hs'
      omega
    clear hseg L hbig
    go_enter Tryd.func6, Tryd.ntmps6
    go_wp2_with fail
    refine HA.out.mono ?_
    rintro e w1 ⟨rfl, hB1⟩
    go_wp2_with fail
    refine (HMK.out _ hB1).mono ?_
    rintro e w2 ⟨M1, s1, e1, rfl, hh1, hl1, hu1, hc1, hb2⟩
    have hB2 : Below w.heap.size w w2 := hB1.trans (hb2.mono hB1.size)
    have hi1 := manC_info M1 s1 hh1
    have ho1 := manC_one M1 s1 hu1.one
    have HS1 : Hid ((manC zeroM (.slice none 0 0)).size = (manC M1 s1).size) := size_zeroMan M1 s1 hh1
    have HC1 : Hid ((e1 = 0 ∧ numsOk (numsM v bs c) ∧ M1 = makeM v bs c) ∨ (e1 = 1 ∧ ¬ numsOk (numsM v bs c) ∧ M1 = zeroM)) := hc1
    obtain ⟨MC, hMC1⟩ : ∃ MC1, MC1 = manC M1 s1 := ⟨_, rfl⟩
    have HM1 : Hid (MC = manC M1 s1) := hMC1
    unfold manV
    rw [← hMC1] at hi1 ho1 HS1 ⊢
    clear hMC1 hc1 hb2 hB1 HMK HA
    obtain ⟨Z, hZ⟩ : ∃ Z, Z = manC zeroM (.slice none 0 0) := ⟨_, rfl⟩
    rw [← hZ] at HS1
    simp only [← hZ] at hz
    have HZ : Hid (manC zeroM (.slice none 0 0) = Z) := hZ.symm
    clear hZ
    rcases HC1.out with ⟨rfl, hn1, rfl⟩ | ⟨rfl, _⟩
    · clear HC1
      obtain ⟨C, rfl⟩ : ∃ C : Nat, c = C := ⟨c.toNat, (Int.toNat_of_nonneg (by have := hn1.2.2.1.1; simp only [numsM] at this; omega)).symm⟩
      obtain ⟨N, hN⟩ : ∃ N : Nat, (N : Int) = countM (numsM v bs C) := ⟨(countM (numsM v bs C)).toNat, by have := countM_pos hn1; omega⟩
      have hN128 : N ≤ 128 := by have := hn1.2.2.2; omega
      have hCp : 0 < C := by have := hn1.2.2.1.1; simp only [numsM] at this; omega
      go_wp2_with (refine store_blk rfl 27 _ _ rfl rfl w2.heap.size MC rfl rfl 27 Z (by exact Blk.new _ _ _) hi1 HS1.out ho1 ?_; intro W3 k8 hg3 hs3; clear hs3)
      have hb3 := fresh_below hg3
      have hB3 : Below w.heap.size w W3 := hB2.trans (hb3.mono hB2.size)
      have hu3 := hu1.below hb3 (Nat.le_refl _)
      have sz3 := hB3.size
      obtain ⟨B8, hB8⟩ : ∃ B8, B8 = w2.heap.size := ⟨_, rfl⟩
      rw [← hB8] at k8 ⊢
      clear hg3 hb3 hu1 hB2 HS1 ho1 hB8
      have hok1 := makeM_ok hn1
      have hce : countE (makeM v bs C) = (N : Int) := by rw [hN]; exact if_pos hok1
      have HCN : Hid (∀ V, Below W3.heap.size W3 V → Calls Tryd.prog 18 #[.agg MC] V fun e w' => e = .returned (.int .i64 (N : Int)) ∧ Below V.heap.size V w') := fun V hV => by
        have := count_any (makeM v bs C) s1 V hh1 (by omega) (hu3.below hV (Nat.le_refl _))
        rw [hce] at this
        unfold manV at this
        rw [← HM1.out] at this
        exact this
      have HSN : Hid (∀ (I : Nat) V, I < N → Below W3.heap.size W3 V → Calls Tryd.prog 14 #[.agg MC, .int .i64 (I : Int)] V fun e w' => e = .returned (.tuple #[.int .i64 ((C * I : Nat) : Int), .int .i64 ((chunkB bs C I).length : Int), .int .i64 0]) ∧ Below V.heap.size V w') := fun I V hI hV => by
        have h5 := span_any (makeM v bs C) s1 I V hh1 (by omega) (hu3.below hV (Nat.le_refl _))
        rw [(make_span hn1 I (by omega)).1] at h5
        unfold manV tup3 at h5
        rw [← HM1.out] at h5
        simpa using h5
      have HSB : Hid (∀ (I : Nat), I < N → C * I + (chunkB bs C I).length ≤ len ∧ 0 < (chunkB bs C I).length ∧ (chunkB bs C I).length ≤ 1024) := fun I hI => by
        have h5 := make_span hn1 I (by omega)
        simp only [Int.toNat_natCast] at h5
        omega
      have HSEG : Hid (∀ (I : Nat) V, I < N → Below W3.heap.size W3 V → Seg V (.slice (restD ao cp (C * I)) (chunkB bs C I).length (cp - C * I)) (chunkB bs C I)) := fun I V hI hV => by
        have hV6 : Below w.heap.size w V := hB3.trans (hV.mono hB3.size)
        have h8 := seg_mid (HSG.out V hV6) (C * I) (chunkB bs C I).length (HSB.out I hI).1
        rw [← chunkB_take] at h8
        exact h8
      have HCH : Hid (∀ (I : Nat) V, I < N → Below W3.heap.size W3 V → Calls Tryd.prog 20 #[.agg MC, .int .i64 (I : Int), .slice (restD ao cp (C * I)) (chunkB bs C I).length (cp - C * I)] V fun e w' => e = .returned (.bool true) ∧ Below V.heap.size V w') := fun I V hI hV => by
        have hV6 : Below w.heap.size w V := hB3.trans (hV.mono hB3.size)
        have h6 := isChunk_make hn1 I (by omega)
        simp only [Int.toNat_natCast] at h6
        have h9 := mchunk_any (makeM v bs C) s1 I _ (chunkB bs C I) V hh1 (by omega) (hu3.below hV (Nat.le_refl _)) (by have := HSB.out I hI; omega) (HSEG.out I V hI hV) (HLD.out V hV6).g4 (HLD.out V hV6).f4
        rw [h6] at h9
        unfold manV at h9
        rw [← HM1.out] at h9
        exact h9
      have HWH : Hid (∀ V al, Below W3.heap.size W3 V → Seg V al bs → Calls Tryd.prog 22 #[.agg MC, al] V fun e w' => e = .returned (.bool true) ∧ Below V.heap.size V w') := fun V al hV hs => by
        have hV6 : Below w.heap.size w V := hB3.trans (hV.mono hB3.size)
        have h9 := whole_any (makeM v bs C) s1 al bs V hh1 (by omega) (hu3.below hV (Nat.le_refl _)) (by omega) hs (HLD.out V hV6).gf (HLD.out V hV6).ff (HLD.out V hV6).gk (HLD.out V hV6).fk
        rw [isWhole_make hn1] at h9
        unfold manV at h9
        rw [← HM1.out] at h9
        exact h9
      obtain ⟨p, hp1, hp2⟩ := man_some hok1 hh1
      have HEN : Hid (∀ V, Below W3.heap.size W3 V → Calls Tryd.prog 24 #[.agg MC] V fun e w' => ∃ b, e = .returned (.tuple #[b, .int .i64 0]) ∧ Own w' V.heap.size b p ∧ Below V.heap.size V w') := fun V hV => by
        have h9 := menc_any (makeM v bs C) s1 V hh1 (by omega) (hu3.below hV (Nat.le_refl _))
        unfold manV at h9
        rw [← HM1.out, hp1] at h9
        exact h9.mono fun e w' hh => ⟨hh.1.choose, hh.1.choose_spec.1, hh.1.choose_spec.2, hh.2⟩
      have HDE : Hid (∀ V bv, Seg V bv p → p.length ≤ maxLen → Calls Tryd.prog 26 #[bv] V fun e w' => ∃ su, e = .returned (.tuple #[manV (makeM v bs C) su, .int .i64 0]) ∧ Wds w' su (makeM v bs C).u ∧ Below V.heap.size V w') := fun V bv hs hpl => by
        refine (mdec_any bv p V hs hpl).mono ?_
        rintro e w' ⟨M, su, er, rfl, hd, hb⟩
        obtain ⟨rfl, rfl, hw⟩ := dec_back hd hok1 hp2
        exact ⟨su, rfl, hw, hb⟩
      have HSA : Hid (∀ V s2, Below W3.heap.size W3 V → Wds V s2 (makeM v bs C).u → Calls Tryd.prog 12 #[.agg (manC (makeM v bs C) s2), .agg MC] V fun e w' => e = .returned (.bool true) ∧ Below V.heap.size V w') := fun V s2 hV h2 => by
        have := rsame_any (makeM v bs C) s2 s1 V hh1 (by omega) h2 (hu3.below hV (Nat.le_refl _))
        unfold manV at this
        rw [← HM1.out] at this
        exact this
      have HL0 : Hid (∀ I, I < N → (bs.take (C * I)).length = C * I) := fun I hI => by rw [List.length_take]; have := HSB.out I hI; omega
      have HFIN : Hid (bs.take (C * N) = bs) := List.take_of_length_le (by
        rw [hl]
        have h5 := hN
        unfold countM numsM at h5
        simp only [hl] at h5
        have h6 : ((N : Int) + 1) * C > (len : Int) + C - 1 := by
          rw [h5]
          have := Int.lt_ediv_add_one_mul_self ((len : Int) + C - 1) (show (0 : Int) < C by omega)
          omega
        rw [Int.add_mul, Int.one_mul] at h6
        have h7 : ((C * N : Nat) : Int) = (N : Int) * C := by rw [Int.natCast_mul, Int.mul_comm]
        omega)
      have HHM : Hid (∀ su, (Tryd.prog.info? 27).map (·.size) = some (manC (makeM v bs C) su).size ∧ Z.size = (manC (makeM v bs C) su).size) := fun su => ⟨manC_info _ _ hh1, by rw [← HZ.out]; exact size_zeroMan _ _ hh1⟩
      have HHO : Hid (∀ su V, Wds V su (makeM v bs C).u → (manC (makeM v bs C) su).all (·.oneCell') = true) := fun su V h => manC_one _ _ h.one
      have HSEQ : Hid (∀ V al, Below W3.heap.size W3 V → Seg V al bs → (convert 22 9 al).run Tryd.prog V = .ok (.string ⟨bs.toArray⟩) V ∧ (convert 22 9 (.slice ao len cp)).run Tryd.prog V = .ok (.string ⟨bs.toArray⟩) V) := fun V al hV hs => ⟨seg_stringD hs 9 Tryd.underlying9, seg_stringD (HSG.out V (hB3.trans (hV.mono hB3.size))) 9 Tryd.underlying9⟩
      clear hok1 hce HLD HM1 hu3 hh1 hl1 hn1 hN hp1 hp2 HZ
      go_loopw [10, 11] (fun al i wr => ∃ I : Nat, I ≤ N ∧ i = .int .i64 (I : Int) ∧ Own wr W3.heap.size al (bs.take (C * I)) ∧ Below W3.heap.size W3 wr) (fun _ i _ => N - (intOf i).toNat)
      case atStart => exact ⟨0, Nat.zero_le _, rfl, by simpa using own_nil _ _, Below.refl _ _⟩
      case round =>
        obtain ⟨I, hI, rfl, hO, hX⟩ := hrel
        have k8r := k8.below hX k8.lt
        by_cases hlt : I < N
        · have HSI : Hid (∀ V, Below W3.heap.size W3 V → Calls Tryd.prog 14 #[.agg MC, .int .i64 (I : Int)] V fun e w' => e = .returned (.tuple #[.int .i64 ((C * I : Nat) : Int), .int .i64 ((chunkB bs C I).length : Int), .int .i64 0]) ∧ Below V.heap.size V w') := fun V => HSN.out I V hlt
          have HCK : Hid (∀ V, Below W3.heap.size W3 V → Calls Tryd.prog 20 #[.agg MC, .int .i64 (I : Int), .slice (restD ao cp (C * I)) (chunkB bs C I).length (cp - C * I)] V fun e w' => e = .returned (.bool true) ∧ Below V.heap.size V w') := fun V => HCH.out I V hlt
          have HSE : Hid (∀ V, Below W3.heap.size W3 V → Seg V (.slice (restD ao cp (C * I)) (chunkB bs C I).length (cp - C * I)) (chunkB bs C I)) := fun V => HSEG.out I V hlt
          have hbd := HSB.out I hlt
          have HTC : Hid (bs.take (C * I) ++ chunkB bs C I = bs.take (C * (I + 1))) := take_chunk bs C I
          have hLal := HL0.out I hlt
          obtain ⟨aa, ca, rfl⟩ := hO.seg.shapeD
          clear HSN HCH HSB HWH HEN HDE HSA HHM HHO HSEQ HL0 HFIN HSEG HSG
          rw [hLal]
          generalize bs.take (C * I) = TK at *
          generalize chunkB bs C I = CK at *
          generalize hLN : CK.length = LN at *
          have HLN : Hid (CK.length = LN) := hLN
          clear hLN
          generalize C * I = AT at *
          have i1 : (I : Int) < (N : Int) := by omega
          have HSL : Hid (∀ V, (Instr.slice 22 (.slice ao len cp) (some (.int .i64 (AT : Int))) (some (.int .i64 ((AT : Int) + (LN : Int)))) none).run Tryd.prog V = .ok (.slice (restD ao cp AT) LN (cp - AT)) V) := fun V => by
            have := slice_midM ao len cp AT (AT + LN) (by omega) (by omega) V
            rw [show AT + LN - AT = LN by omega, show ((AT + LN : Nat) : Int) = (AT : Int) + (LN : Int) by omega] at this
            exact this
          have hgt : ¬ (len : Int) < (AT : Int) + (LN : Int) := by omega
          have hlo : ¬ (LN : Int) < 1 := by omega
          have HLA : Hid (TK.length = AT) := hLal
          clear hLal
          go_wp2_with (refine wpList_load_row rfl 27 _ rfl B8 rfl 27 _ (0, 0) _ k8r Tryd.underlying27 rfl hi1 ?_)
          refine (HCN.out _ hX).mono ?_
          rintro e w4 ⟨rfl, hb4⟩
          have k84 := k8r.below hb4 k8r.lt
          have hX4 : Below W3.heap.size W3 w4 := hX.trans (hb4.mono hX.size)
          have hO4 := hO.after hb4
          clear k8r hb4 hX hO
          go_wp2_with (refine wpList_load_row rfl 27 _ rfl B8 rfl 27 _ (0, 0) _ k84 Tryd.underlying27 rfl hi1 ?_)
          refine (HSI.out _ hX4).mono ?_
          rintro e w5 ⟨rfl, hb5⟩
          have k85 := k84.below hb5 k84.lt
          have hX5 : Below W3.heap.size W3 w5 := hX4.trans (hb5.mono hX4.size)
          have hO5 := hO4.after hb5
          clear k84 hb5 hX4 hO4
          have hsl := HSL.out
          have hne0 : ((AT : Int) != (AT : Int)) = false := by simp
          go_wp2_with fail
          have hS0 : Blk w5.drew B8 27 MC := k85.drew
          refine held_begin (fun V => Blk V B8 27 MC) (by kernel_rfl) ?_
          refine held_take 0 73 _ (.agg MC) rfl rfl (by kernel_rfl) (by kernel_rfl) (by kernel_rfl) rfl hS0 (fun V hV => exec_loadM _ rfl _ rfl hV hi1) ?_
          simp only [Act.put, List.setIfInBounds_toArray, List.set_cons_succ, List.set_cons_zero]
          refine held_take 1 74 _ (.int .i64 (I : Int)) rfl rfl (by kernel_rfl) (by kernel_rfl) (by kernel_rfl) rfl hS0 (fun _ _ => rfl) ?_
          simp only [Act.put, List.setIfInBounds_toArray, List.set_cons_succ, List.set_cons_zero]
          refine held_take 2 75 _ (.slice ao len cp) rfl rfl (by kernel_rfl) (by kernel_rfl) (by kernel_rfl) rfl hS0 (fun _ _ => rfl) ?_
          simp only [Act.put, List.setIfInBounds_toArray, List.set_cons_succ, List.set_cons_zero]
          refine held_take 3 76 _ (.int .i64 (AT : Int)) rfl rfl (by kernel_rfl) (by kernel_rfl) (by kernel_rfl) rfl hS0 (fun _ _ => rfl) ?_
          simp only [Act.put, List.setIfInBounds_toArray, List.set_cons_succ, List.set_cons_zero]
          refine held_take 4 77 _ (.int .i64 (AT : Int)) rfl rfl (by kernel_rfl) (by kernel_rfl) (by kernel_rfl) rfl hS0 (fun _ _ => rfl) ?_
          simp only [Act.put, List.setIfInBounds_toArray, List.set_cons_succ, List.set_cons_zero]
          refine held_take 5 78 _ (.int .i64 (LN : Int)) rfl rfl (by kernel_rfl) (by kernel_rfl) (by kernel_rfl) rfl hS0 (fun _ _ => rfl) ?_
          simp only [Act.put, List.setIfInBounds_toArray, List.set_cons_succ, List.set_cons_zero]
          refine held_take 6 79 _ (.int .i64 ((AT : Int) + (LN : Int))) rfl rfl (by kernel_rfl) (by kernel_rfl) (by kernel_rfl) rfl hS0 (fun V _ => exec_addM _ _ _ rfl _ _ rfl rfl (by omega) (by omega)) ?_
          simp only [Act.put, List.setIfInBounds_toArray, List.set_cons_succ, List.set_cons_zero]
          refine held_take 7 80 _ (.slice (restD ao cp AT) LN (cp - AT)) rfl rfl (by kernel_rfl) (by kernel_rfl) (by kernel_rfl) rfl hS0 (fun V _ => exec_slice7 _ _ _ _ rfl (.slice ao len cp) _ (some (.int .i64 (AT : Int))) (some (.int .i64 ((AT : Int) + (LN : Int)))) none rfl rfl rfl rfl (hsl V)) ?_
          simp only [Act.put, List.setIfInBounds_toArray, List.set_cons_succ, List.set_cons_zero]
          refine held_all1 8 (by kernel_rfl) (op_call 8 81 _ 20 #[.agg MC, .int .i64 (I : Int), .slice (restD ao cp AT) LN (cp - AT)] rfl rfl rfl (exec_three8 20 _ _ _ _ rfl _ _ _ rfl rfl rfl Tryd.call20) ((HCK.out w5.drew hX5.drew).mono ?_))
          rintro e w6 ⟨rfl, hb6⟩
          have hS6 := hS0.below hb6 hS0.lt
          have hX6 : Below W3.heap.size W3 w6 := hX5.drew.trans (hb6.mono hX5.size)
          have hO6 := hO5.drew.after hb6
          refine ⟨_, rfl, hS6, ?_⟩
          simp only [Act.put, List.setIfInBounds_toArray, List.set_cons_succ, List.set_cons_zero]
          refine held_take 9 15 _ (.bool true) rfl rfl (by kernel_rfl) (by kernel_rfl) (by kernel_rfl) rfl hS6 (fun _ _ => rfl) ?_
          simp only [Act.put, List.setIfInBounds_toArray, List.set_cons_succ, List.set_cons_zero]
          refine wpAnyH_done (by kernel_rfl) ?_ _
          refine NoPanic.normal ?_
          have hs6 := HSE.out w6 hX6
          have s6 := hX6.size
          have e6 := HLA.out
          have f6 := HLN.out
          rw [e6] at hO6
          go_wp2_with (at_builtin; refine app_own _ rfl (.tmp 84) (.tmp 90) rfl W3.heap.size _ TK rfl (by exact hO6) _ CK rfl (by exact hs6) (by omega) (by omega) ?_; intro v7 w7 ho7 hg7 hv7)
          have hX7 : Below W3.heap.size W3 w7 := below_grown hX6 hg7 s6 (fun q hq => (World.ownsRow.lt hO6 q hq).1)
          rw [HTC.out] at ho7
          go_roundw
          case rel => exact ⟨I + 1, hlt, by go_num, ho7, hX7⟩
          case measure => simp [intOf]; omega
        · obtain rfl : I = N := by omega
          have i1 : ¬ (I : Int) < (I : Int) := by omega
          rw [HFIN.out] at hO
          clear HSN HCH HSB HL0 HFIN HSEG HSG
          obtain ⟨aa, ca, rfl⟩ := hO.seg.shapeD
          go_wp2_with (refine wpList_load_row rfl 27 _ rfl B8 rfl 27 _ (0, 0) _ k8r Tryd.underlying27 rfl hi1 ?_)
          refine (HCN.out _ hX).mono ?_
          rintro e w4 ⟨rfl, hb4⟩
          have k84 := k8r.below hb4 k8r.lt
          have hX4 : Below W3.heap.size W3 w4 := hX.trans (hb4.mono hX.size)
          have hO4 := hO.after hb4
          clear k8r hb4 hX hO HCN
          go_wp2_with (refine wpList_load_row rfl 27 _ rfl B8 rfl 27 _ (0, 0) _ k84 Tryd.underlying27 rfl hi1 ?_)
          refine (HEN.out _ hX4).mono ?_
          rintro e w5 ⟨bv, rfl, hob, hb5⟩
          have k85 := k84.below hb5 k84.lt
          have hX5 : Below W3.heap.size W3 w5 := hX4.trans (hb5.mono hX4.size)
          have hO5 := hO4.after hb5
          have HDEC := HDE.out w5 bv hob.seg hob.maxL
          obtain ⟨ba, bc, rfl⟩ := hob.seg.shapeD
          clear k84 hb5 hX4 hO4 HEN HDE hob
          go_wp2_with fail
          refine HDEC.mono ?_
          rintro e w6 ⟨s2, rfl, hu6, hb6⟩
          have k86 := k85.below hb6 k85.lt
          have hX6 : Below W3.heap.size W3 w6 := hX5.trans (hb6.mono hX5.size)
          have hO6 := hO5.after hb6
          have hi2 := (HHM.out s2).1
          have hz2 := (HHM.out s2).2
          have ho2 := HHO.out s2 w6 hu6
          have HSA2 : Hid (∀ V, Below W3.heap.size W3 V → Wds V s2 (makeM v bs C).u → Calls Tryd.prog 12 #[.agg (manC (makeM v bs C) s2), .agg MC] V fun e w' => e = .returned (.bool true) ∧ Below V.heap.size V w') := fun V => HSA.out V s2
          clear k85 hb6 hX5 hO5 HDEC HHM HHO HSA
          unfold manV
          generalize manC (makeM v bs C) s2 = MC2 at *
          go_wp2_with (first | (refine store_blk rfl 27 _ _ rfl rfl w6.heap.size MC2 rfl rfl 27 Z (by exact Blk.new _ _ _) hi2 hz2 ho2 ?_; intro W7 k9 hg7 hs7; clear hs7; have hb7 := fresh_below hg7; have k87 := k86.below hb7 k86.lt) | (refine wpList_load_row rfl 27 _ rfl B8 rfl 27 MC (0, 0) _ k87 Tryd.underlying27 rfl hi1 ?_) | (refine wpList_load_row rfl 27 _ rfl w6.heap.size rfl 27 MC2 (0, 0) _ k9 Tryd.underlying27 rfl hi2 ?_))
          have hX7 : Below W3.heap.size W3 W7 := hX6.trans (hb7.mono hX6.size)
          have hO7 := hO6.after hb7
          refine (HSA2.out _ hX7 (hu6.below hb7 (Nat.le_refl _))).mono ?_
          rintro e w8 ⟨rfl, hb8⟩
          have k88 := k87.below hb8 k87.lt
          have hX8 : Below W3.heap.size W3 w8 := hX7.trans (hb8.mono hX7.size)
          have hO8 := hO7.after hb8
          obtain ⟨cs1, cs2⟩ := HSEQ.out w8 _ hX8 hO8.seg
          have HW8 := HWH.out w8 _ hX8 hO8.seg
          clear hb7 hg7 k86 k87 k9 hX6 hX7 hO6 hO7 hb8 HSA2 HSEQ HWH hu6
          rw [hl] at cs1 HW8
          go_wp2_with (refine load_guarded rfl 27 _ rfl B8 rfl 27 MC (0, 0) _ k88 Tryd.underlying27 rfl hi1 ?_)
          refine HW8.mono ?_
          rintro e w9 ⟨rfl, hb9⟩
          have hX9 : Below W3.heap.size W3 w9 := hX8.trans (hb9.mono hX8.size)
          have hB9 : Below w.heap.size w w9 := hB3.trans (hX9.mono sz3)
          go_wp2
          go_ret
          exact ⟨rfl, hB9⟩
    · clear HC1 HLD HSG
      go_wp2_with (refine store_blk rfl 27 _ _ rfl rfl w2.heap.size MC rfl rfl 27 Z (by exact Blk.new _ _ _) hi1 HS1.out ho1 ?_; intro W3 k8 hg3 hs3; have hb3 := fresh_below hg3; have hB3 : Below w.heap.size w W3 := hB2.trans (hb3.mono hB2.size))
      go_ret
      exact ⟨rfl, hB3⟩
end Go.Proofs.YthophonofaaafaaDoor
