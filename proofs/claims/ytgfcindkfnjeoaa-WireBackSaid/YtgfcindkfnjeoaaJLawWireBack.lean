/-
  What is proved here: the statement WireBack is true of any message and any bytes.
  Conditions: they lie in memory.
-/
import Derived.Test.YtgfcindkfnjeoaaJWireSame14
import Derived.Test.YtgfcindkfnjeoaaJWireDec
namespace Go.Proofs.Ytgfcindkfnjeoaa
open Go.RowKit

theorem bytes_oneB {x y : MS} {p : List UInt8} (hx : x.m.h.length = 32) (hy : y.m.h.length = 32) (h1 : bytesM x = some p) (h2 : bytesM y = some p) : y = x := by
  have := bytesM_one hy hx h2 h1
  rw [decide_eq_true rfl] at this
  exact (sameMs_iff y x).1 this.symm
set_option maxRecDepth 100000 in
set_option maxHeartbeats 8000000 in
theorem wireBack_any (x : MS) (ao : Option Addr) (cu : Nat) (ab : Option Addr) (cb : Nat) (bv : Value) (bs : List UInt8) (aq : Option Addr) (len cap : Nat) (w : World) (hh : x.m.h.length = 32) (hu : Wds w (.slice ao x.m.u.length cu) x.m.u) (hS : Seg w (.slice ab x.b.length cb) x.b) (hbl : x.b.length ≤ maxLen) (hv : bv = .slice aq len cap) (hln : bs.length = len) (hmx : len ≤ maxLen) (hsb : Seg w (.slice aq len cap) bs) :
    Calls Try.prog 5 #[.agg (msA x (manL x.m (.slice ao x.m.u.length cu)) (.slice ab x.b.length cb)), bv] w fun e w' => e = .returned (.bool true) ∧ Below w.heap.size w w' := by
  subst hv
  subst hln
  obtain ⟨FX, hFX⟩ : ∃ F : Bool, (decide (x.b.length ≤ 5000) && decide (x.m.u.length ≤ 300)) = F := ⟨_, rfl⟩
  have HF1 : Hid (∀ V, Calls Try.prog 7 #[.agg (msA x (manL x.m (.slice ao x.m.u.length cu)) (.slice ab x.b.length cb))] V fun e w' => e = .returned (.bool FX) ∧ Below V.heap.size V w') := fun V => by
    rw [← hFX]
    exact few14_any x ao cu ab cb V hh
  have hx300 : FX = true → x.m.u.length ≤ 300 := fun e => by
    rw [← hFX] at e
    simp only [Bool.and_eq_true, decide_eq_true_eq] at e
    exact e.2
  have HE1 : Hid (FX = true → ∀ V, Below w.heap.size w V → Calls Try.prog 8 #[.agg (msA x (manL x.m (.slice ao x.m.u.length cu)) (.slice ab x.b.length cb))] V fun e w' => encodePost V (bytesM x) e w') := fun e V hV => encode14_any x ao cu ab cb V hh (by have := hx300 e; omega) (hu.below hV (Nat.le_refl _)) (hS.below hV (Nat.le_refl _)) hbl
  have HSM : Hid (FX = true → ∀ V am cm ab2 cb2, Below w.heap.size w V → Wds V (.slice am x.m.u.length cm) x.m.u → Seg V (.slice ab2 x.b.length cb2) x.b → Calls Try.prog 14 #[.agg (msA x (manL x.m (.slice am x.m.u.length cm)) (.slice ab2 x.b.length cb2)), .agg (msA x (manL x.m (.slice ao x.m.u.length cu)) (.slice ab x.b.length cb))] V fun e w' => e = .returned (.bool true) ∧ Below V.heap.size V w') := fun e V am cm ab2 cb2 hV hw hs => by
    have := rsame14_any x x am ao ab2 ab cm cu cb2 cb V hh hh (by have := hx300 e; unfold maxLen; omega) hw (hu.below hV (Nat.le_refl _)) hs (hS.below hV (Nat.le_refl _))
    rw [(sameMs_iff x x).2 rfl] at this
    exact this
  have HDX : Hid (∀ p y, bytesM x = some p → y.m.h.length = 32 → bytesM y = some p → y = x) := fun p y h1 hy h2 => bytes_oneB hh hy h1 h2
  have HNO : Hid (∀ p, bytesM x = some p → (∀ y : MS, y.m.h.length = 32 → bytesM y ≠ some p) → False) := fun p h1 h2 => h2 x hh h1
  have HH : Hid (x.m.h.length = 32) := hh
  have HB : Hid (∀ V, Below w.heap.size w V → Seg V (.slice aq bs.length cap) bs) := fun V hV => hsb.below hV (Nat.le_refl _)
  have HMX : Hid (bs.length ≤ maxLen) := hmx
  obtain ⟨MZ, hMZ⟩ : ∃ Z, Z = msA (kMs 0) (manL zeroM (.slice none 0 0)) (.slice none 0 0) := ⟨_, rfl⟩
  have HMZ : Hid (MZ = msA (kMs 0) (manL zeroM (.slice none 0 0)) (.slice none 0 0)) := hMZ
  have hz0 := zeroMess
  rw [← hMZ] at hz0
  have hi1 : (Try.prog.info? 28).map (·.size) = some (msA x (manL x.m (.slice ao x.m.u.length cu)) (.slice ab x.b.length cb)).size := ms_info x _ _ (manL_len _ _ hh)
  have hB0 : Below w.heap.size w (w.alloc (.cells (msA x (manL x.m (.slice ao x.m.u.length cu)) (.slice ab x.b.length cb)) 28)) := (Below.refl _ _).alloc (Nat.le_refl _) _
  have kA0 := (Blk.new w 28 (msA x (manL x.m (.slice ao x.m.u.length cu)) (.slice ab x.b.length cb)))
  clear hh hu hS hbl hx300 hFX hMZ hmx hsb
  generalize hMM : (msA x (manL x.m (.slice ao x.m.u.length cu)) (.slice ab x.b.length cb)) = MX at *
  clear hMM
  obtain ⟨A, hA⟩ : ∃ A, A = w.heap.size := ⟨_, rfl⟩
  rw [← hA] at kA0
  go_enter Try.func5, Try.ntmps5
  go_wp2_with fail
  rw [← hA]
  clear hA
  generalize w.alloc (.cells MX 28) = W0 at *
  refine (awake14_any W0).mono ?_
  rintro e W1 ⟨rfl, hb1⟩
  have kA1 := kA0.below hb1 kA0.lt
  have hB1 := hB0.trans (hb1.mono hB0.size)
  clear kA0 hb1 hB0
  go_wp2_with (refine wpList_load_row rfl 28 _ rfl A rfl 28 MX (0, 0) _ kA1 Try.underlying28 rfl hi1 ?_)
  refine (HF1.out W1).mono ?_
  rintro e W2 ⟨rfl, hb2⟩
  have kA2 := kA1.below hb2 kA1.lt
  have hB2 := hB1.trans (hb2.mono hB1.size)
  clear kA1 hb2 hB1 HF1
  cases FX with
  | false =>
    clear kA2 HE1 HSM
    go_wp2
    go_ret
    exact ⟨rfl, hB2⟩
  | true =>
  by_cases h5 : (5000 : Int) < (bs.length : Int)
  · clear kA2 HE1 HSM
    go_wp2
    go_ret
    exact ⟨rfl, hB2⟩
  have HX := hid_ofM (HE1.out (by first | rfl | trivial) W2 hB2)
  clear HE1
  go_wp2_with (refine wpList_load_row rfl 28 _ rfl A rfl 28 MX (0, 0) _ kA2 Try.underlying28 rfl hi1 ?_)
  refine HX.out.mono ?_
  clear HX
  cases hPX : bytesM x with
  | none =>
    rintro e W4 ⟨rfl, hb4⟩
    have hB4 := hB2.trans (hb4.mono hB2.size)
    clear hb4 hB2 kA2 h5 HSM HNO HDX hPX
    go_wp2_with fail
    refine (wdecode_any _ bs W4 (HB.out W4 hB4) HMX.out).mono ?_
    rintro e V1 ⟨y3, am3, cm3, ab3, cb3, er3, rfl, hyh3, hyu3, hyw3, hys3, hyl3, her3, hb8⟩
    have hB8 := hB4.trans (hb8.mono hB4.size)
    have hB8a := hB8.alloc hB8.size (.cells MZ 28)
    have hi3 := ms_info y3 (manL y3.m (.slice am3 y3.m.u.length cm3)) (.slice ab3 y3.b.length cb3) (manL_len _ _ hyh3)
    have hs3 : MZ.size = (msA y3 (manL y3.m (.slice am3 y3.m.u.length cm3)) (.slice ab3 y3.b.length cb3)).size := by rw [HMZ.out, msZ_size, msA_size _ _ _ (manL_len _ _ hyh3)]
    have ho3 := msA_one y3 (manL y3.m (.slice am3 y3.m.u.length cm3)) (.slice ab3 y3.b.length cb3) (manL_one y3.m am3 _ cm3) rfl
    have hbE := (Below.refl V1.heap.size V1).alloc (Nat.le_refl _) (.cells MZ 28)
    have HE3 : Hid (∀ V2, Below V1.heap.size V1 V2 → Calls Try.prog 8 #[.agg (msA y3 (manL y3.m (.slice am3 y3.m.u.length cm3)) (.slice ab3 y3.b.length cb3))] V2 fun e w' => encodePost V2 (bytesM y3) e w') := hid_ofM (fun V2 hV => encode14_any y3 am3 cm3 ab3 cb3 V2 hyh3 (by omega) (hyw3.below hV (Nat.le_refl _)) (hys3.below hV (Nat.le_refl _)) hyl3)
    clear hyh3 hyu3 hyw3 hys3 hyl3 hb8
    generalize (msA y3 (manL y3.m (.slice am3 y3.m.u.length cm3)) (.slice ab3 y3.b.length cb3)) = M3 at *
    rcases her3 with ⟨rfl, hby3⟩ | ⟨rfl, _⟩
    · have HE3 : Hid (∀ V2, Below V1.heap.size V1 V2 → Calls Try.prog 8 #[.agg M3] V2 fun e w' => (∃ b, e = .returned (.tuple #[b, .int .i64 0]) ∧ Own w' V2.heap.size b bs) ∧ Below V2.heap.size V2 w') := hid_ofM (fun V2 hV => by
        have := HE3.out V2 hV
        rw [hby3] at this
        exact this)
      clear hby3
      go_wp2_with (first | (refine store_blk rfl 28 _ _ rfl rfl V1.heap.size M3 rfl rfl 28 MZ (Blk.new V1 28 MZ) hi3 hs3 ho3 ?_; intro V2 kE2 hg2 _) | (refine wpList_load_row rfl 28 _ rfl V1.heap.size rfl 28 M3 (0, 0) _ kE2 Try.underlying28 rfl hi3 ?_))
      have hbE2 : Below V1.heap.size V1 V2 := below_grown hbE hg2 hbE.size (fun q hq => by cases hq; exact Nat.le_refl _)
      have hB9 := hB8.trans (hbE2.mono hB8.size)
      refine (HE3.out V2 hbE2).mono ?_
      rintro e V3 ⟨⟨bd, rfl, hod⟩, hb10⟩
      have hB10 := hB9.trans (hb10.mono hB9.size)
      have k5 := seg_stringD hod.seg 9 Try.underlying9
      have k6 := seg_stringD (HB.out V3 hB10) 9 Try.underlying9
      generalize (⟨bs.toArray⟩ : ByteArray) = BX at *
      have hq' : (BX.toList == BX.toList) = true := by simp
      clear hod hb10 hg2 kE2 hbE hbE2 HE3
      go_wp2
      go_ret
      exact ⟨by simp, hB10⟩
    · clear HE3
      go_wp2_with (refine store_blk rfl 28 _ _ rfl rfl V1.heap.size M3 rfl rfl 28 MZ (Blk.new V1 28 MZ) hi3 hs3 ho3 ?_; intro V2 kE2 hg2 _)
      have hB9 : Below w.heap.size w V2 := below_grown hB8a hg2 hB8a.size (fun q hq => by cases hq; exact hB8.size)
      go_ret
      exact ⟨rfl, hB9⟩
  | some p =>
    rintro e W4 ⟨⟨bp, rfl, hop⟩, hb4⟩
    have kA4 := kA2.below hb4 kA2.lt
    have hB4 := hB2.trans (hb4.mono hB2.size)
    have hml := hop.maxL
    have hos := hop.seg
    clear hop kA2 hB2 hb4 h5
    obtain ⟨ap, cp, e1⟩ := hos.shapeD
    subst e1
    go_wp2_with fail
    refine (wdecode_any _ p W4 hos hml).mono ?_
    rintro e W5 ⟨y, am, cm, ab2, cb2, er, rfl, hyh, hyu, hyw, hys, hyl, her, hb5⟩
    have her0 : er = 0 ∧ bytesM y = some p := by
      rcases her with h | ⟨_, h⟩
      · exact h
      · exact absurd h (fun h => HNO.out p hPX h)
    obtain ⟨rfl, hby⟩ := her0
    obtain rfl := HDX.out p y hPX hyh hby
    have kA5 := kA4.below hb5 kA4.lt
    have hB5 := hB4.trans (hb5.mono hB4.size)
    have hi2 := ms_info y (manL y.m (.slice am y.m.u.length cm)) (.slice ab2 y.b.length cb2) (manL_len _ _ hyh)
    have hs2 : MZ.size = (msA y (manL y.m (.slice am y.m.u.length cm)) (.slice ab2 y.b.length cb2)).size := by rw [HMZ.out, msZ_size, msA_size _ _ _ (manL_len _ _ hyh)]
    have ho2 := msA_one y (manL y.m (.slice am y.m.u.length cm)) (.slice ab2 y.b.length cb2) (manL_one y.m am _ cm) rfl
    have hbD := (Below.refl W5.heap.size W5).alloc (Nat.le_refl _) (.cells MZ 28)
    have kA5a := kA5.alloc (.cells MZ 28)
    have hneA : Hid (some A ≠ some W5.heap.size) := by have := kA5.lt; show some A ≠ some W5.heap.size; intro e; cases e; omega
    have HS5 : Hid (∀ V, Below W5.heap.size W5 V → Calls Try.prog 14 #[.agg (msA y (manL y.m (.slice am y.m.u.length cm)) (.slice ab2 y.b.length cb2)), .agg MX] V fun e w' => e = .returned (.bool true) ∧ Below V.heap.size V w') := hid_ofM (fun V hV => HSM.out (by first | rfl | trivial) V am cm ab2 cb2 (hB5.trans (hV.mono hB5.size)) (hyw.below hV (Nat.le_refl _)) (hys.below hV (Nat.le_refl _)))
    clear hyh hyu hyw hys hyl her hb5 hB4 hml hos HNO HDX hPX hby HSM kA4 kA5
    generalize (msA y (manL y.m (.slice am y.m.u.length cm)) (.slice ab2 y.b.length cb2)) = M2 at *
    go_wp2_with (first | (refine store_blk rfl 28 _ _ rfl rfl W5.heap.size M2 rfl rfl 28 MZ (Blk.new W5 28 MZ) hi2 hs2 ho2 ?_; intro W6 kD6 hg6 _; have kA6 := kA5a.grown hg6 hneA.out) | (refine wpList_load_row rfl 28 _ rfl W5.heap.size rfl 28 M2 (0, 0) _ kD6 Try.underlying28 rfl hi2 ?_) | (refine wpList_load_row rfl 28 _ rfl A rfl 28 MX (0, 0) _ kA6 Try.underlying28 rfl hi1 ?_))
    have hbD6 : Below W5.heap.size W5 W6 := below_grown hbD hg6 hbD.size (fun q hq => by cases hq; exact Nat.le_refl _)
    have hB6 := hB5.trans (hbD6.mono hB5.size)
    refine (HS5.out W6 hbD6).mono ?_
    rintro e W7 ⟨rfl, hb7⟩
    have hB7 := hB6.trans (hb7.mono hB6.size)
    clear hb7 hB6 hbD6 hbD hg6 kD6 kA6 kA5a hi2 hs2 ho2 HS5 hneA hB5
    go_wp2_with fail
    refine (wdecode_any _ bs W7 (HB.out W7 hB7) HMX.out).mono ?_
    rintro e V1 ⟨y3, am3, cm3, ab3, cb3, er3, rfl, hyh3, hyu3, hyw3, hys3, hyl3, her3, hb8⟩
    have hB8 := hB7.trans (hb8.mono hB7.size)
    have hB8a := hB8.alloc hB8.size (.cells MZ 28)
    have hi3 := ms_info y3 (manL y3.m (.slice am3 y3.m.u.length cm3)) (.slice ab3 y3.b.length cb3) (manL_len _ _ hyh3)
    have hs3 : MZ.size = (msA y3 (manL y3.m (.slice am3 y3.m.u.length cm3)) (.slice ab3 y3.b.length cb3)).size := by rw [HMZ.out, msZ_size, msA_size _ _ _ (manL_len _ _ hyh3)]
    have ho3 := msA_one y3 (manL y3.m (.slice am3 y3.m.u.length cm3)) (.slice ab3 y3.b.length cb3) (manL_one y3.m am3 _ cm3) rfl
    have hbE := (Below.refl V1.heap.size V1).alloc (Nat.le_refl _) (.cells MZ 28)
    have HE3 : Hid (∀ V2, Below V1.heap.size V1 V2 → Calls Try.prog 8 #[.agg (msA y3 (manL y3.m (.slice am3 y3.m.u.length cm3)) (.slice ab3 y3.b.length cb3))] V2 fun e w' => encodePost V2 (bytesM y3) e w') := hid_ofM (fun V2 hV => encode14_any y3 am3 cm3 ab3 cb3 V2 hyh3 (by omega) (hyw3.below hV (Nat.le_refl _)) (hys3.below hV (Nat.le_refl _)) hyl3)
    clear hyh3 hyu3 hyw3 hys3 hyl3 hb8
    generalize (msA y3 (manL y3.m (.slice am3 y3.m.u.length cm3)) (.slice ab3 y3.b.length cb3)) = M3 at *
    rcases her3 with ⟨rfl, hby3⟩ | ⟨rfl, _⟩
    · have HE3 : Hid (∀ V2, Below V1.heap.size V1 V2 → Calls Try.prog 8 #[.agg M3] V2 fun e w' => (∃ b, e = .returned (.tuple #[b, .int .i64 0]) ∧ Own w' V2.heap.size b bs) ∧ Below V2.heap.size V2 w') := hid_ofM (fun V2 hV => by
        have := HE3.out V2 hV
        rw [hby3] at this
        exact this)
      clear hby3
      go_wp2_with (first | (refine store_blk rfl 28 _ _ rfl rfl V1.heap.size M3 rfl rfl 28 MZ (Blk.new V1 28 MZ) hi3 hs3 ho3 ?_; intro V2 kE2 hg2 _) | (refine wpList_load_row rfl 28 _ rfl V1.heap.size rfl 28 M3 (0, 0) _ kE2 Try.underlying28 rfl hi3 ?_))
      have hbE2 : Below V1.heap.size V1 V2 := below_grown hbE hg2 hbE.size (fun q hq => by cases hq; exact Nat.le_refl _)
      have hB9 := hB8.trans (hbE2.mono hB8.size)
      refine (HE3.out V2 hbE2).mono ?_
      rintro e V3 ⟨⟨bd, rfl, hod⟩, hb10⟩
      have hB10 := hB9.trans (hb10.mono hB9.size)
      have k5 := seg_stringD hod.seg 9 Try.underlying9
      have k6 := seg_stringD (HB.out V3 hB10) 9 Try.underlying9
      generalize (⟨bs.toArray⟩ : ByteArray) = BX at *
      have hq' : (BX.toList == BX.toList) = true := by simp
      clear hod hb10 hg2 kE2 hbE hbE2 HE3
      go_wp2
      go_ret
      exact ⟨by simp, hB10⟩
    · clear HE3
      go_wp2_with (refine store_blk rfl 28 _ _ rfl rfl V1.heap.size M3 rfl rfl 28 MZ (Blk.new V1 28 MZ) hi3 hs3 ho3 ?_; intro V2 kE2 hg2 _)
      have hB9 : Below w.heap.size w V2 := below_grown hB8a hg2 hB8a.size (fun q hq => by cases hq; exact hB8.size)
      go_ret
      exact ⟨rfl, hB9⟩
end Go.Proofs.Ytgfcindkfnjeoaa
