/-
  What is proved here: the statement WireDecodes is true of any bytes.
  Conditions: they lie in memory.
-/
import Derived.Test.YtgfcindkfnjeoaaJWireSame14
import Derived.Test.YtgfcindkfnjeoaaJRefMMade
import Derived.Test.YtgfcindkfnjeoaaJRefManDec
namespace Go.Proofs.Ytgfcindkfnjeoaa
open Go.RowKit

theorem both_one {x y : MS} {s : List UInt8} {er er' : Int} (hx : x.m.h.length = 32) (hy : y.m.h.length = 32) (h1 : (er = 0 ∧ bytesM x = some s) ∨ (er = 2 ∧ x = kMs 0 ∧ ∀ y : MS, y.m.h.length = 32 → bytesM y ≠ some s)) (h2 : (er' = 0 ∧ bytesM y = some s) ∨ (er' = 2 ∧ y = kMs 0 ∧ ∀ y : MS, y.m.h.length = 32 → bytesM y ≠ some s)) : er' = er ∧ y = x := by
  rcases h1 with ⟨rfl, h1⟩ | ⟨rfl, h1, h1n⟩
  · rcases h2 with ⟨rfl, h2⟩ | ⟨_, _, h2⟩
    · have := bytesM_one hy hx h2 h1
      rw [decide_eq_true rfl] at this
      exact ⟨rfl, (sameMs_iff y x).1 this.symm⟩
    · exact absurd h1 (h2 x hx)
  · rcases h2 with ⟨_, h2⟩ | ⟨rfl, h2, _⟩
    · exact absurd h2 (h1n y hy)
    · exact ⟨rfl, by rw [h1, h2]⟩
set_option maxRecDepth 100000 in
set_option maxHeartbeats 8000000 in
theorem wireDecodes_any (bv : Value) (bs : List UInt8) (aq : Option Addr) (len cap : Nat) (w : World) (hv : bv = .slice aq len cap) (hln : bs.length = len) (hmx : len ≤ maxLen) (hsb : Seg w (.slice aq len cap) bs) :
    Calls Try.prog 4 #[bv] w fun e w' => e = .returned (.bool true) ∧ Below w.heap.size w w' := by
  subst hv
  subst hln
  have HB : Hid (∀ V, Below w.heap.size w V → Seg V (.slice aq bs.length cap) bs) := fun V hV => hsb.below hV (Nat.le_refl _)
  have HMX : Hid (bs.length ≤ maxLen) := hmx
  obtain ⟨MZ, hMZ⟩ : ∃ Z, Z = msA (kMs 0) (manL zeroM (.slice none 0 0)) (.slice none 0 0) := ⟨_, rfl⟩
  have HMZ : Hid (MZ = msA (kMs 0) (manL zeroM (.slice none 0 0)) (.slice none 0 0)) := hMZ
  have hz0 := zeroMess
  rw [← hMZ] at hz0
  clear hMZ hmx hsb
  go_enter Try.func4, Try.ntmps4
  go_wp2_with fail
  refine (awake14_any w).mono ?_
  rintro e W1 ⟨rfl, hB1⟩
  by_cases h5 : (5000 : Int) < (bs.length : Int)
  · go_wp2
    go_ret
    exact ⟨rfl, hB1⟩
  go_wp2_with fail
  clear h5
  refine (wdecode_any _ bs W1 (HB.out W1 hB1) HMX.out).mono ?_
  rintro e V1 ⟨x, am, cm, ab, cb, er, rfl, hxh, hxu, hxw, hxs, hxl, her, hb2⟩
  have hB2 := hB1.trans (hb2.mono hB1.size)
  have hi1 := ms_info x (manL x.m (.slice am x.m.u.length cm)) (.slice ab x.b.length cb) (manL_len _ _ hxh)
  have hs1 : MZ.size = (msA x (manL x.m (.slice am x.m.u.length cm)) (.slice ab x.b.length cb)).size := by rw [HMZ.out, msZ_size, msA_size _ _ _ (manL_len _ _ hxh)]
  have ho1 := msA_one x (manL x.m (.slice am x.m.u.length cm)) (.slice ab x.b.length cb) (manL_one x.m am _ cm) rfl
  have hbD := (Below.refl V1.heap.size V1).alloc (Nat.le_refl _) (.cells MZ 28)
  clear hb2 hB1
  have HX : Hid (x.m.h.length = 32 ∧ x.m.u.length ≤ 128 ∧ (∀ V, Below V1.heap.size V1 V → Wds V (.slice am x.m.u.length cm) x.m.u ∧ Seg V (.slice ab x.b.length cb) x.b)) := ⟨hxh, hxu, fun V hV => ⟨hxw.below hV (Nat.le_refl _), hxs.below hV (Nat.le_refl _)⟩⟩
  have HER : Hid ((er = 0 ∧ bytesM x = some bs) ∨ (er = 2 ∧ x = kMs 0 ∧ ∀ y : MS, y.m.h.length = 32 → bytesM y ≠ some bs)) := her
  clear hxh hxu hxw hxs hxl her
  obtain ⟨M1, hM1⟩ : ∃ M, M = msA x (manL x.m (.slice am x.m.u.length cm)) (.slice ab x.b.length cb) := ⟨_, rfl⟩
  have HM1 : Hid (M1 = msA x (manL x.m (.slice am x.m.u.length cm)) (.slice ab x.b.length cb)) := hM1
  rw [← hM1] at hi1 hs1 ho1 ⊢
  clear hM1
  go_wp2_with (refine store_blk rfl 28 _ _ rfl rfl V1.heap.size M1 rfl rfl 28 MZ (Blk.new V1 28 MZ) hi1 hs1 ho1 ?_; intro W2 kD2 hg2 _)
  have hbD2 : Below V1.heap.size V1 W2 := below_grown hbD hg2 hbD.size (fun q hq => by cases hq; exact Nat.le_refl _)
  have hB3 := hB2.trans (hbD2.mono hB2.size)
  refine (rdecode14_any _ bs W2 (HB.out W2 hB3) HMX.out (fun n lv l x s V h1 h2 h3 => refDecode_any n lv l x s V h1 h2 h3) (fun V x s h1 h2 => rmdec_any x s V h1 h2)).mono ?_
  rintro e V2 ⟨y, am2, cm2, ab2, cb2, er2, rfl, hyh, hyu, hyw, hys, hyl, her2, hb4⟩
  obtain ⟨rfl, rfl⟩ := both_one HX.out.1 hyh HER.out her2
  have hB4 := hB3.trans (hb4.mono hB3.size)
  have kD4 := kD2.below hb4 kD2.lt
  have hi2 := ms_info y (manL y.m (.slice am2 y.m.u.length cm2)) (.slice ab2 y.b.length cb2) (manL_len _ _ hyh)
  have hs2 : MZ.size = (msA y (manL y.m (.slice am2 y.m.u.length cm2)) (.slice ab2 y.b.length cb2)).size := by rw [HMZ.out, msZ_size, msA_size _ _ _ (manL_len _ _ hyh)]
  have ho2 := msA_one y (manL y.m (.slice am2 y.m.u.length cm2)) (.slice ab2 y.b.length cb2) (manL_one y.m am2 _ cm2) rfl
  have hbE := (Below.refl V2.heap.size V2).alloc (Nat.le_refl _) (.cells MZ 28)
  have hbV : Below V1.heap.size V1 V2 := hbD2.trans (hb4.mono hbD2.size)
  have HSA : Hid (∀ V, Below V2.heap.size V2 V → Calls Try.prog 14 #[.agg M1, .agg (msA y (manL y.m (.slice am2 y.m.u.length cm2)) (.slice ab2 y.b.length cb2))] V fun e w' => e = .returned (.bool true) ∧ Below V.heap.size V w') := hid_ofM (fun V hV => by
    have h1 := HX.out.2.2 V (hbV.trans (hV.mono hbV.size))
    have := rsame14_any y y am am2 ab ab2 cm cm2 cb cb2 V hyh hyh (by unfold maxLen; omega) h1.1 (hyw.below hV (Nat.le_refl _)) h1.2 (hys.below hV (Nat.le_refl _))
    rw [(sameMs_iff y y).2 rfl] at this
    rw [HM1.out]
    exact this)
  have hne : Hid (some V1.heap.size ≠ some V2.heap.size) := by have := kD4.lt; show some V1.heap.size ≠ some V2.heap.size; intro e; injection e with e; omega
  clear hyh hyu hyw hys hyl her2 hb4 hB3 hB2 hbD hbD2 hg2 kD2 hs1 ho1 HX HER HM1 hbV
  generalize (msA y (manL y.m (.slice am2 y.m.u.length cm2)) (.slice ab2 y.b.length cb2)) = M2 at *
  go_wp2_with (first | (refine store_blk rfl 28 _ _ rfl rfl V2.heap.size M2 rfl rfl 28 MZ (Blk.new V2 28 MZ) hi2 hs2 ho2 ?_; intro W5 kE5 hg5 _; have kD5 := (kD4.alloc (.cells MZ 28)).grown hg5 hne.out) | (refine wpList_load_row rfl 28 _ rfl V1.heap.size rfl 28 M1 (0, 0) _ kD5 Try.underlying28 rfl hi1 ?_) | (refine wpList_load_row rfl 28 _ rfl V2.heap.size rfl 28 M2 (0, 0) _ kE5 Try.underlying28 rfl hi2 ?_))
  have hbE5 : Below V2.heap.size V2 W5 := below_grown hbE hg5 hbE.size (fun q hq => by cases hq; exact Nat.le_refl _)
  have hB5 := hB4.trans (hbE5.mono hB4.size)
  refine (HSA.out W5 hbE5).mono ?_
  rintro e W6 ⟨rfl, hb6⟩
  have hB6 := hB5.trans (hb6.mono hB5.size)
  clear hb6 HSA kD5 kE5 hg5
  go_wp2
  go_ret
  exact ⟨by simp, hB6⟩
end Go.Proofs.Ytgfcindkfnjeoaa
