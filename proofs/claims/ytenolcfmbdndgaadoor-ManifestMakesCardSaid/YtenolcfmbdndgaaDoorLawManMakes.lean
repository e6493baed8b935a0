/-
  What is proved here: ManifestMakes: of any image manifest.Make answers what the document's does.
  Conditions: the variables fourBits, firstWords and roundWords hold their words.
-/
import Derived.Test.YtenolcfmbdndgaaDoorRefManMake
import Derived.Test.YtenolcfmbdndgaaDoorRefManSame
namespace Go.Proofs.YtenolcfmbdndgaaDoor
open Go.RowKit

set_option maxRecDepth 100000 in
set_option maxHeartbeats 2000000 in
theorem manifestMakes_any (v : Int) (x : Value) (bs : List UInt8) (ao : Option Addr) (len cp : Nat) (c : Int) (w : World) (hx : x = .slice ao len cp) (hl : bs.length = len) (hm : len ≤ maxLen) (hseg : Seg w x bs) (L : Laid10 w) :
    Calls Tryd.prog 3 #[.int .i64 v, x, .int .i64 c] w fun e w' => e = .returned (.bool true) ∧ Below w.heap.size w w' := by
  subst hx
  unfold maxLen at hm
  have HA : Hid (Calls Tryd.prog 9 #[] w fun e w' => e = .returned (.bool true) ∧ Below w.heap.size w w') := awake10_any _ L
  have hz := zeroMan
  by_cases hbig : 50000 < len
  · clear L hseg hz
    go_enter Tryd.func3, Tryd.ntmps3
    go_wp2_with fail
    refine HA.out.mono ?_
    rintro e w1 ⟨rfl, hb1⟩
    go_wp2
    go_ret
    exact ⟨rfl, hb1⟩
  · have hb2' : ¬ (50000 : Int) < (len : Int) := by omega
    have HMK : Hid (∀ V, Below w.heap.size w V → Calls Tryd.prog 10 #[.int .i64 v, .slice ao len cp, .int .i64 c] V fun e w' => ∃ (M : MM) (su : Value) (er : Int), e = .returned (.tuple #[manV M su, .int .i64 er]) ∧ M.h.length = 32 ∧ M.u.length ≤ 128 ∧ Wds w' su M.u ∧ ((er = 0 ∧ numsOk (numsM v bs c) ∧ M = makeM v bs c) ∨ (er = 1 ∧ ¬ numsOk (numsM v bs c) ∧ M = zeroM)) ∧ Below V.heap.size V w') := fun V hV => make_gen v _ bs c V (by omega) (hseg.below hV (Nat.le_refl _)) (L.below hV)
    have HRM : Hid (∀ V, Below w.heap.size w V → Calls Tryd.prog 11 #[.int .i64 v, .slice ao len cp, .int .i64 c] V fun e w' => ∃ (M : MM) (su : Value) (er : Int), e = .returned (.tuple #[manV M su, .int .i64 er]) ∧ M.h.length = 32 ∧ M.u.length ≤ 128 ∧ Wds w' su M.u ∧ ((er = 0 ∧ numsOk (numsM v bs c) ∧ M = makeM v bs c) ∨ (er = 1 ∧ ¬ numsOk (numsM v bs c) ∧ M = zeroM)) ∧ Below V.heap.size V w') := fun V hV => rmake_any v _ bs c V (by omega) (hseg.below hV (Nat.le_refl _))
    clear hseg L hbig
    go_enter Tryd.func3, Tryd.ntmps3
    go_wp2_with fail
    refine HA.out.mono ?_
    rintro e w1 ⟨rfl, hB1⟩
    go_wp2_with fail
    refine (HMK.out _ hB1).mono ?_
    rintro e w2 ⟨M1, s1, e1, rfl, hh1, hl1, hu1, hc1, hb2⟩
    have hB2 : Below w.heap.size w w2 := hB1.trans (hb2.mono hB1.size)
    have hi1 := manC_info M1 s1 hh1
    have ho1 := manC_one M1 s1 hu1.one
    have HS1 : Hid ((manC zeroM (.slice none 0 0)).size = (manC M1 s1).size) := size_zeroMan M1 s1 hh1
    have HC1 : Hid ((e1 = 0 ∧ numsOk (numsM v bs c) ∧ M1 = makeM v bs c) ∨ (e1 = 1 ∧ ¬ numsOk (numsM v bs c) ∧ M1 = zeroM)) := hc1
    obtain ⟨MC1, hMC1⟩ : ∃ MC1, MC1 = manC M1 s1 := ⟨_, rfl⟩
    have HM1 : Hid (MC1 = manC M1 s1) := hMC1
    unfold manV
    rw [← hMC1] at hi1 ho1 HS1 ⊢
    clear hMC1 hc1 hb2 hB1 HMK
    obtain ⟨Z, hZ⟩ : ∃ Z, Z = manC zeroM (.slice none 0 0) := ⟨_, rfl⟩
    rw [← hZ] at HS1
    simp only [← hZ] at hz
    have HZ : Hid (manC zeroM (.slice none 0 0) = Z) := hZ.symm
    clear hZ
    go_wp2_with (refine store_blk rfl 27 _ _ rfl rfl w2.heap.size MC1 rfl rfl 27 Z (by exact Blk.new _ _ _) hi1 HS1.out ho1 ?_; intro W3 k8 hg3 hs3; clear hs3)
    have hb3 := fresh_below hg3
    have hB3 : Below w.heap.size w W3 := hB2.trans (hb3.mono hB2.size)
    have hu3 := hu1.below hb3 (Nat.le_refl _)
    clear hg3 hb3 hu1 hB2 HS1 ho1
    refine (HRM.out _ hB3).mono ?_
    rintro e w4 ⟨M2, s2, e2, rfl, hh2, hl2, hu2, hc2, hb4⟩
    have hM : M2 = M1 ∧ e2 = e1 := by
      rcases HC1.out with ⟨h1, h2, h3⟩ | ⟨h1, h2, h3⟩ <;> rcases hc2 with ⟨g1, g2, g3⟩ | ⟨g1, g2, g3⟩
      · exact ⟨g3.trans h3.symm, g1.trans h1.symm⟩
      · exact absurd h2 g2
      · exact absurd g2 h2
      · exact ⟨g3.trans h3.symm, g1.trans h1.symm⟩
    obtain ⟨rfl, rfl⟩ := hM
    have k84 := k8.below hb4 k8.lt
    have hB4 : Below w.heap.size w w4 := hB3.trans (hb4.mono hB3.size)
    have hu4 := hu3.below hb4 (Nat.le_refl _)
    have hi2 := manC_info M2 s2 hh2
    have ho2 := manC_one M2 s2 hu2.one
    have HS2 : Hid (Z.size = (manC M2 s2).size) := by show _ = _; rw [← HZ.out]; exact size_zeroMan M2 s2 hh2
    obtain ⟨MC2, hMC2⟩ : ∃ MC2, MC2 = manC M2 s2 := ⟨_, rfl⟩
    have HM2 : Hid (MC2 = manC M2 s2) := hMC2
    unfold manV
    rw [← hMC2] at hi2 ho2 HS2 ⊢
    have HSA : Hid (∀ V, Wds V s1 M2.u → Wds V s2 M2.u → Calls Tryd.prog 12 #[.agg MC1, .agg MC2] V fun e w' => e = .returned (.bool true) ∧ Below V.heap.size V w') := fun V h1 h2 => by
      have := rsame_any M2 s1 s2 V hh2 (by omega) h1 h2
      unfold manV at this
      rw [← HM1.out, ← HM2.out] at this
      exact this
    obtain ⟨B8, hB8⟩ : ∃ B8, B8 = w2.heap.size := ⟨_, rfl⟩
    rw [← hB8] at k84 ⊢
    clear hB8 k8 hb4 hB3 hu3 HRM HC1 hc2 hMC2 HM1 HM2 hh1 hh2 hl1 hl2
    go_wp2_with (first | (refine store_blk rfl 27 _ _ rfl rfl w4.heap.size MC2 rfl rfl 27 Z (by exact Blk.new _ _ _) hi2 HS2.out ho2 ?_; intro W5 k10 hg5 hs5; clear hs5; have hb5 := fresh_below hg5; have k85 := k84.below hb5 k84.lt; have hB5 : Below w.heap.size w W5 := hB4.trans (hb5.mono hB4.size); have hu15 := hu4.below hb5 (Nat.le_refl _); have hu25 := hu2.below hb5 (Nat.le_refl _)) | (refine wpList_load_row rfl 27 _ rfl B8 rfl 27 MC1 (0, 0) _ k85 Tryd.underlying27 rfl hi1 ?_) | (refine wpList_load_row rfl 27 _ rfl w4.heap.size rfl 27 MC2 (0, 0) _ k10 Tryd.underlying27 rfl hi2 ?_))
    refine (HSA.out _ hu15 hu25).mono ?_
    rintro e w6 ⟨rfl, hb6⟩
    go_wp2
    go_ret
    exact ⟨by simp, hB5.trans (hb6.mono hB5.size)⟩
end Go.Proofs.YtenolcfmbdndgaaDoor
