/-
  What is proved here: ManifestVersions: manifests of one image by unlike versions, or chunks, have one hash, and all tell of the image as whole.
  Conditions: the variables fourBits, firstWords and roundWords hold their words.
-/
import Derived.Test.YtenolcfmbdndgaaDoorManAwake
import Derived.Test.YtenolcfmbdndgaaDoorManWhole
namespace Go.Proofs.YtenolcfmbdndgaaDoor
open Go.RowKit

/-- What Make answers, in one form. -/
theorem make_gen (v : Int) (bv : Value) (bs : List UInt8) (c : Int) (w : World) (hbl : bs.length ≤ 1000000000) (hseg : Seg w bv bs) (L : Laid10 w) :
    Calls Tryd.prog 10 #[.int .i64 v, bv, .int .i64 c] w fun e w' => ∃ (M : MM) (su : Value) (er : Int), e = .returned (.tuple #[manV M su, .int .i64 er]) ∧ M.h.length = 32 ∧ M.u.length ≤ 128 ∧ Wds w' su M.u ∧ ((er = 0 ∧ numsOk (numsM v bs c) ∧ M = makeM v bs c) ∨ (er = 1 ∧ ¬ numsOk (numsM v bs c) ∧ M = zeroM)) ∧ Below w.heap.size w w' := by
  refine (make_any v bv bs c w hbl hseg L).mono ?_
  rintro e w' ⟨⟨hn, su, rfl, ho⟩ | ⟨hn, rfl⟩, hb⟩
  · exact ⟨_, su, 0, rfl, makeM_hash _ _ _, (okM_len (makeM_ok hn)).1, ho.wds, .inl ⟨rfl, hn, rfl⟩, hb⟩
  · exact ⟨zeroM, _, 1, rfl, by simp [zeroM], by simp [zeroM], ⟨none, 0, rfl, fun h => by simp [zeroM] at h⟩, .inr ⟨rfl, hn, rfl⟩, hb⟩
theorem isWhole_make {v : Int} {bs : List UInt8} {c : Int} (h : numsOk (numsM v bs c)) : isWhole (makeM v bs c) bs = true := decide_eq_true ⟨makeM_ok h, rfl, rfl⟩
theorem size_zeroMan (m : MM) (su : Value) (h : m.h.length = 32) : (manC zeroM (.slice none 0 0)).size = (manC m su).size := (manC_size _ _ (by simp [zeroM])).trans (manC_size _ _ h).symm

theorem fresh_below {w W : World} {o : Obj} (hg : (w.alloc o).grownBy W (some w.heap.size)) : Below w.heap.size w W :=
  below_grown ((Below.refl w.heap.size w).alloc (Nat.le_refl _) o) hg (by simp) (fun q hq => by cases hq; exact Nat.le_refl _)

set_option maxRecDepth 100000 in
set_option maxHeartbeats 2000000 in
theorem manifestVersions_any (x : Value) (bs : List UInt8) (ao : Option Addr) (len cp : Nat) (y1 z1 y2 z2 : Int) (w : World) (hx : x = .slice ao len cp) (hl : bs.length = len) (hm : len ≤ maxLen) (hseg : Seg w x bs) (L : Laid10 w) :
    Calls Tryd.prog 8 #[x, .agg #[.int .i64 y1, .int .i64 z1], .agg #[.int .i64 y2, .int .i64 z2]] w fun e w' => e = .returned (.bool true) ∧ Below w.heap.size w w' := by
  subst hx
  unfold maxLen at hm
  have hBb : Below w.heap.size w ((w.alloc (.cells #[.int .i64 y1, .int .i64 z1] 42)).alloc (.cells #[.int .i64 y2, .int .i64 z2] 42)) := ((Below.refl _ _).alloc (Nat.le_refl _) _).alloc (by simp) _
  have k4 := (Blk.new w 42 #[.int .i64 y1, .int .i64 z1]).alloc (.cells #[.int .i64 y2, .int .i64 z2] 42)
  have k5 : Blk ((w.alloc (.cells #[.int .i64 y1, .int .i64 z1] 42)).alloc (.cells #[.int .i64 y2, .int .i64 z2] 42)) (w.heap.size + 1) 42 #[.int .i64 y2, .int .i64 z2] := Blk.newAt _ _ _ _ (by simp)
  have HA : Hid (Calls Tryd.prog 9 #[] ((w.alloc (.cells #[.int .i64 y1, .int .i64 z1] 42)).alloc (.cells #[.int .i64 y2, .int .i64 z2] 42)) fun e w' => e = .returned (.bool true) ∧ Below ((w.alloc (.cells #[.int .i64 y1, .int .i64 z1] 42)).alloc (.cells #[.int .i64 y2, .int .i64 z2] 42)).heap.size ((w.alloc (.cells #[.int .i64 y1, .int .i64 z1] 42)).alloc (.cells #[.int .i64 y2, .int .i64 z2] 42)) w') := awake10_any _ (L.below hBb)
  have hz := zeroMan
  by_cases hbig : 20000 < len
  · clear k4 k5 L hseg
    go_enter Tryd.func8, Tryd.ntmps8
    go_wp2_with fail
    refine HA.out.mono ?_
    rintro e w1 ⟨rfl, hb1⟩
    go_wp2
    go_ret
    exact ⟨rfl, hBb.trans (hb1.mono hBb.size)⟩
  · have hbl : bs.length ≤ 1000000000 := by omega
    have HMK : Hid (∀ v c V, Below w.heap.size w V → Calls Tryd.prog 10 #[.int .i64 v, .slice ao len cp, .int .i64 c] V fun e w' => ∃ (M : MM) (su : Value) (er : Int), e = .returned (.tuple #[manV M su, .int .i64 er]) ∧ M.h.length = 32 ∧ M.u.length ≤ 128 ∧ Wds w' su M.u ∧ ((er = 0 ∧ numsOk (numsM v bs c) ∧ M = makeM v bs c) ∨ (er = 1 ∧ ¬ numsOk (numsM v bs c) ∧ M = zeroM)) ∧ Below V.heap.size V w') := fun v c V hV => make_gen v _ bs c V hbl (hseg.below hV (Nat.le_refl _)) (L.below hV)
    have HWH : Hid (∀ (M : MM) su V, M.h.length = 32 → M.u.length ≤ 128 → Below w.heap.size w V → Wds V su M.u → Calls Tryd.prog 22 #[manV M su, .slice ao len cp] V fun e w' => e = .returned (.bool (isWhole M bs)) ∧ Below V.heap.size V w') := fun M su V h1 h2 hV hu => whole_any M su _ bs V h1 (by omega) hu hbl (hseg.below hV (Nat.le_refl _)) (L.below hV).gf (L.below hV).ff (L.below hV).gk (L.below hV).fk
    have HEQ : Hid (∀ V, (Op.equalIn 10000 24 (.agg ((shaOf bs).map v8).toArray) (.agg ((shaOf bs).map v8).toArray)).run Tryd.prog V = .ok true V) := fun V => by
      have := run_equalIn_bytes (P := Tryd.prog) V 9998 24 5 32 Tryd.underlying24 Tryd.underlying5 (fun w => by kernel_rfl) (shaOf bs) (shaOf bs) (wbytes_len _) (wbytes_len _)
      rw [beq_self_eq_true] at this
      exact this
    have HIL : Hid ((Tryd.prog.info? 24).map (·.size) = some ((shaOf bs).map v8).length) := by show _ = _; rw [List.length_map, show (shaOf bs).length = 32 from wbytes_len _]; kernel_rfl
    clear hseg L hbl hm
    go_enter Tryd.func8, Tryd.ntmps8
    go_wp2_with fail
    refine HA.out.mono ?_
    rintro e w1 ⟨rfl, hb1⟩
    have m4 := k4.below hb1 k4.lt
    have m5 := k5.below hb1 k5.lt
    have hB1 : Below w.heap.size w w1 := hBb.trans (hb1.mono hBb.size)
    clear HA k4 k5 hb1 hBb
    have c40 : w1.cell? ⟨w.heap.size, 0, none⟩ = some (.int .i64 y1) := m4.cell (j := 0) rfl
    have c41 : w1.cell? ⟨w.heap.size, 1, none⟩ = some (.int .i64 z1) := m4.cell (j := 1) rfl
    go_wp2_with fail
    refine (HMK.out _ _ _ hB1).mono ?_
    rintro e w2 ⟨M1, s1, e1, rfl, hh1, hl1, hu1, hc1, hb2⟩
    clear c40 c41
    have p4 := m4.below hb2 m4.lt
    have p5 := m5.below hb2 m5.lt
    have hB2 : Below w.heap.size w w2 := hB1.trans (hb2.mono hB1.size)
    clear m4 m5 hb2 hB1
    have hi1 := manC_info M1 s1 hh1
    have ho1 := manC_one M1 s1 hu1.one
    have HS1 : Hid ((manC zeroM (.slice none 0 0)).size = (manC M1 s1).size) := size_zeroMan M1 s1 hh1
    obtain ⟨MC1, hMC1⟩ : ∃ MC1, MC1 = manC M1 s1 := ⟨_, rfl⟩
    have HM1 : Hid (MC1 = manC M1 s1) := hMC1
    have HC1 : Hid ((e1 = 0 ∧ numsOk (numsM y1 bs z1) ∧ M1 = makeM y1 bs z1) ∨ (e1 = 1 ∧ ¬ numsOk (numsM y1 bs z1) ∧ M1 = zeroM)) := hc1
    unfold manV
    rw [← hMC1] at hi1 ho1 HS1 ⊢
    clear hMC1 hc1
    obtain ⟨Z, hZ⟩ : ∃ Z, Z = manC zeroM (.slice none 0 0) := ⟨_, rfl⟩
    rw [← hZ] at HS1
    simp only [← hZ] at hz
    have HZ : Hid (manC zeroM (.slice none 0 0) = Z) := hZ.symm
    clear hZ
    go_wp2_with (refine store_blk rfl 27 _ _ rfl rfl w2.heap.size MC1 rfl rfl 27 Z (by exact Blk.new _ _ _) hi1 HS1.out ho1 ?_; intro W3 k8 hg3 hs3; have c50 : W3.cell? ⟨w.heap.size + 1, 0, none⟩ = some (.int .i64 y2) := ((p5.alloc _).grown hg3 (by have := p5.lt; simp; omega)).cell (j := 0) rfl; have c51 : W3.cell? ⟨w.heap.size + 1, 1, none⟩ = some (.int .i64 z2) := ((p5.alloc _).grown hg3 (by have := p5.lt; simp; omega)).cell (j := 1) rfl)
    have hb3 := fresh_below hg3
    have q4 := p4.below hb3 p4.lt
    have q5 := p5.below hb3 p5.lt
    have hB3 : Below w.heap.size w W3 := hB2.trans (hb3.mono hB2.size)
    have hu3 : Wds W3 s1 M1.u := hu1.below hb3 (Nat.le_refl _)
    have hs38 : w2.heap.size < W3.heap.size := k8.lt
    clear p4 p5 hb3 hg3 hs3 hu1 ho1 HS1
    refine (HMK.out _ _ _ hB3).mono ?_
    rintro e w4 ⟨M2, s2, e2, rfl, hh2, hl2, hu2, hc2, hb4⟩
    clear c50 c51
    have r4 := q4.below hb4 q4.lt
    have r5 := q5.below hb4 q5.lt
    have r8 := k8.below hb4 k8.lt
    have hB4 : Below w.heap.size w w4 := hB3.trans (hb4.mono hB3.size)
    have hu14 := hu3.below hb4 (Nat.le_refl _)
    have hs48 : w2.heap.size < w4.heap.size := r8.lt
    clear q4 q5 k8 hb4 hB3 hu3 hB2 hs38
    have hi2 := manC_info M2 s2 hh2
    have ho2 := manC_one M2 s2 hu2.one
    have HS2 : Hid ((manC zeroM (.slice none 0 0)).size = (manC M2 s2).size) := size_zeroMan M2 s2 hh2
    obtain ⟨MC2, hMC2⟩ : ∃ MC2, MC2 = manC M2 s2 := ⟨_, rfl⟩
    have HM2 : Hid (MC2 = manC M2 s2) := hMC2
    have HC2 : Hid ((e2 = 0 ∧ numsOk (numsM y2 bs z2) ∧ M2 = makeM y2 bs z2) ∨ (e2 = 1 ∧ ¬ numsOk (numsM y2 bs z2) ∧ M2 = zeroM)) := hc2
    unfold manV
    rw [← hMC2] at hi2 ho2 HS2 ⊢
    clear hMC2 hc2
    rw [HZ.out] at HS2
    obtain ⟨B8, hB8⟩ : ∃ B8, B8 = w2.heap.size := ⟨_, rfl⟩
    rw [← hB8] at r8 hs48 ⊢
    clear hB8
    by_cases h0 : e1 = 0 ∧ e2 = 0
    · obtain ⟨rfl, rfl⟩ := h0
      rcases HC1.out with ⟨_, hn1, rfl⟩ | ⟨h, _⟩
      · rcases HC2.out with ⟨_, hn2, rfl⟩ | ⟨h, _⟩
        · have HW1 : Hid (∀ V, Below w.heap.size w V → Wds V s1 (makeM y1 bs z1).u → Calls Tryd.prog 22 #[.agg MC1, .slice ao len cp] V fun e w' => e = .returned (.bool true) ∧ Below V.heap.size V w') := fun V hV hu => by
            have := HWH.out _ s1 V hh1 hl1 hV hu
            rw [isWhole_make hn1] at this
            unfold manV at this
            rw [← HM1.out] at this
            exact this
          have HW2 : Hid (∀ V, Below w.heap.size w V → Wds V s2 (makeM y2 bs z2).u → Calls Tryd.prog 22 #[.agg MC2, .slice ao len cp] V fun e w' => e = .returned (.bool true) ∧ Below V.heap.size V w') := fun V hV hu => by
            have := HWH.out _ s2 V hh2 hl2 hV hu
            rw [isWhole_make hn2] at this
            unfold manV at this
            rw [← HM2.out] at this
            exact this
          have a10 : MC1[0]? = some (.int .i64 y1) := by rw [HM1.out]; exact manC_0 _ _
          have a11 : MC1[1]? = some (.int .i64 (bs.length : Int)) := by rw [HM1.out]; exact manC_1 _ _
          have a21 : MC2[1]? = some (.int .i64 (bs.length : Int)) := by rw [HM2.out]; exact manC_1 _ _
          have a22 : MC2[2]? = some (.int .i64 z2) := by rw [HM2.out]; exact manC_2 _ _
          have HR1 : Hid (∀ V B, Blk V B 27 MC1 → V.rangeAt B 3 ((shaOf bs).map v8)) := fun V B h => by rw [HM1.out] at h; exact man_range _ _ B V h
          have HR2 : Hid (∀ V B, Blk V B 27 MC2 → V.rangeAt B 3 ((shaOf bs).map v8)) := fun V B h => by rw [HM2.out] at h; exact man_range _ _ B V h
          clear HC1 HC2 HM1 HM2 HWH HMK hn1 hn2 hh1 hh2 hl1 hl2
          have heq := HEQ.out
          have hil := HIL.out
          clear HEQ HIL
          generalize (shaOf bs).map v8 = SL at *
          generalize bs.length = BL at *
          go_wp2_with (first | (refine store_blk rfl 27 _ _ rfl rfl w4.heap.size MC2 rfl rfl 27 Z (by exact Blk.new _ _ _) hi2 HS2.out ho2 ?_; intro W5 k10 hg5 hs5; have hb5 := fresh_below hg5; have t8 := r8.below hb5 r8.lt; have t4 := r4.below hb5 r4.lt; have t5 := r5.below hb5 r5.lt; have hB5 : Below w.heap.size w W5 := hB4.trans (hb5.mono hB4.size); have hu15 := hu14.below hb5 (Nat.le_refl _); have hu25 := hu2.below hb5 (Nat.le_refl _); have b11 := t8.cell a11; have b21 := k10.cell a21) | (refine wpList_load_mid rfl 24 _ rfl B8 3 rfl SL _ (HR1.out _ _ t8) Tryd.underlying24 rfl hil ?_) | (refine wpList_load_mid rfl 24 _ rfl w4.heap.size 3 rfl SL _ (HR2.out _ _ k10) Tryd.underlying24 rfl hil ?_) | (refine load_guarded rfl 27 _ rfl B8 rfl 27 MC1 (0, 0) _ t8 Tryd.underlying27 rfl hi1 ?_))
          refine (HW1.out _ hB5 hu15).mono ?_
          rintro e w6 ⟨rfl, hb6⟩
          have u8 := t8.below hb6 t8.lt
          have u10 := k10.below hb6 k10.lt
          have u4 := t4.below hb6 t4.lt
          have u5 := t5.below hb6 t5.lt
          have hB6 : Below w.heap.size w w6 := hB5.trans (hb6.mono hB5.size)
          have hu26 := hu25.below hb6 (Nat.le_refl _)
          clear b11 b21 t8 k10 t4 t5 hB5 hu25 hu15 hb5 r8 r4 r5 hB4 hu14 hu2 HW1 hb6
          go_wp2_with (refine load_guarded rfl 27 _ rfl w4.heap.size rfl 27 MC2 (0, 0) _ u10 Tryd.underlying27 rfl hi2 ?_)
          refine (HW2.out _ hB6 hu26).mono ?_
          rintro e w7 ⟨rfl, hb7⟩
          have d10 := (u8.below hb7 u8.lt).cell a10
          have d22 := (u10.below hb7 u10.lt).cell a22
          have d4 : w7.cell? ⟨w.heap.size, 0, none⟩ = some (.int .i64 y1) := (u4.below hb7 u4.lt).cell (j := 0) rfl
          have d5 : w7.cell? ⟨w.heap.size + 1, 1, none⟩ = some (.int .i64 z2) := (u5.below hb7 u5.lt).cell (j := 1) rfl
          go_wp2
          go_ret
          exact ⟨rfl, hB6.trans (hb7.mono hB6.size)⟩
        · cases h
      · cases h
    · have HE1 : Hid (e1 = 0 ∨ e1 = 1) := HC1.out.elim (fun h => .inl h.1) (fun h => .inr h.1)
      have HE2 : Hid (e2 = 0 ∨ e2 = 1) := HC2.out.elim (fun h => .inl h.1) (fun h => .inr h.1)
      clear HC1 HC2 HM1 HM2 HWH HMK HEQ HIL r4 r5 r8 hu14 hu2
      rcases HE1.out with rfl | rfl <;> rcases HE2.out with rfl | rfl
      · exact absurd ⟨rfl, rfl⟩ h0
      all_goals
        go_wp2_with (refine store_blk rfl 27 _ _ rfl rfl w4.heap.size MC2 rfl rfl 27 Z (by exact Blk.new _ _ _) hi2 HS2.out ho2 ?_; intro W5 k10 hg5 hs5; have hb5 := fresh_below hg5; have hB5 : Below w.heap.size w W5 := hB4.trans (hb5.mono hB4.size))
        go_ret
        exact ⟨rfl, hB5⟩
end Go.Proofs.YtenolcfmbdndgaaDoor
