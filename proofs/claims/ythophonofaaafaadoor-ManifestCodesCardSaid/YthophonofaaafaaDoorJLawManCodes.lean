/-
  What is proved here: ManifestCodes: any manifest as bytes, and the manifest that any bytes are, as the document says.
  Conditions: the variables fourBits, firstWords and roundWords hold their words.
-/
import Derived.Test.YthophonofaaafaaDoorJRefManEnc
import Derived.Test.YthophonofaaafaaDoorJRefManDec
import Derived.Test.YthophonofaaafaaDoorJRefManSame
import Derived.Test.YthophonofaaafaaDoorJManFew
namespace Go.Proofs.YthophonofaaafaaDoor
open Go.RowKit

/-- Bytes that an encoding answered, as a text. -/
def encT : Option (List UInt8) → List UInt8
  | some p => p
  | none => []
theorem encIs_seg {W : World} {B : Nat} {b : Value} {k : Int} {r : Option (List UInt8)} (h : encIs W B b k r) : Seg W b (encT r) ∧ k = (if r.isSome then 0 else 1) := by
  cases r with
  | some p => exact ⟨h.2.seg, h.1⟩
  | none => obtain ⟨rfl, rfl⟩ := h; exact ⟨.inl ⟨rfl, none, 0, rfl, fun _ => rfl⟩, rfl⟩
theorem dec_same {W W' : World} {s : List UInt8} {M M' : MM} {su su' : Value} {er er' : Int} (h : decIs W s M su er) (h' : decIs W' s M' su' er') : M' = M ∧ er' = er := by
  obtain ⟨_, _, _, ⟨h1, h2, h3⟩ | ⟨h1, h2, _, h4⟩⟩ := h <;> obtain ⟨_, _, _, ⟨g1, g2, g3⟩ | ⟨g1, g2, _, g4⟩⟩ := h'
  · exact ⟨dec_one g2 h2 g3 h3, by rw [h1, g1]⟩
  · exact absurd h3 (g4 _ h2)
  · exact absurd g3 (h4 _ g2)
  · exact ⟨by rw [h2, g2], by rw [h1, g1]⟩
set_option maxRecDepth 100000 in
set_option maxHeartbeats 4000000 in
theorem manifestCodes_any (m : MM) (su : Value) (x : Value) (bs : List UInt8) (ao : Option Addr) (len cp : Nat) (w : World) (hh : m.h.length = 32) (hu : Wds w su m.u) (hx : x = .slice ao len cp) (hl : bs.length = len) (hm : len ≤ maxLen) (hseg : Seg w x bs) (L : Laid10 w) :
    Calls Tryd.prog 5 #[manV m su, x] w fun e w' => e = .returned (.bool true) ∧ Below w.heap.size w w' := by
  subst hx
  have hBb := (Below.refl w.heap.size w).alloc (Nat.le_refl _) (.cells (manC m su) 27)
  have k3 := Blk.new w 27 (manC m su)
  have hi := manC_info m su hh
  have HA : Hid (Calls Tryd.prog 9 #[] (w.alloc (.cells (manC m su) 27)) fun e w' => e = .returned (.bool true) ∧ Below (w.alloc (.cells (manC m su) 27)).heap.size (w.alloc (.cells (manC m su) 27)) w') := awake10_any _ (L.below hBb)
  have HU : Hid (∀ V, Below w.heap.size w V → Wds V su m.u) := fun V hV => hu.below hV (Nat.le_refl _)
  have HFW : Hid (∀ V, Below w.heap.size w V → Calls Tryd.prog 13 #[manV m su] V fun e w' => e = .returned (.bool (decide (m.u.length ≤ 1000))) ∧ Below V.heap.size V w') := fun V hV => few10_any m su V hh (HU.out V hV)
  by_cases hgo : m.u.length ≤ 1000 ∧ len ≤ 5000
  · obtain ⟨hul, hlen⟩ := hgo
    rw [decide_eq_true hul] at HFW
    have HE1 : Hid (∀ V, Below w.heap.size w V → Calls Tryd.prog 24 #[manV m su] V fun e w' => ∃ b k, e = .returned (.tuple #[b, .int .i64 k]) ∧ (∀ B, B ≤ V.heap.size → encIs w' B b k (encM m)) ∧ Below V.heap.size V w') := fun V hV => (menc_any m su V hh (by omega) (HU.out V hV)).mono fun e w' h => encodePost_form h
    have HE2 : Hid (∀ V, Below w.heap.size w V → Calls Tryd.prog 25 #[manV m su] V fun e w' => ∃ b k, e = .returned (.tuple #[b, .int .i64 k]) ∧ (∀ B, B ≤ V.heap.size → encIs w' B b k (encM m)) ∧ Below V.heap.size V w') := fun V hV => (rmenc_any m su V hh (by omega) (HU.out V hV)).mono fun e w' h => encodePost_form h
    have HD1 : Hid (∀ V, Below w.heap.size w V → Calls Tryd.prog 26 #[.slice ao len cp] V fun e w' => ∃ M su er, e = .returned (.tuple #[manV M su, .int .i64 er]) ∧ decIs w' bs M su er ∧ Below V.heap.size V w') := fun V hV => mdec_any _ bs V (hseg.below hV (Nat.le_refl _)) (by omega)
    have HD2 : Hid (∀ V, Below w.heap.size w V → Calls Tryd.prog 27 #[.slice ao len cp] V fun e w' => ∃ M su er, e = .returned (.tuple #[manV M su, .int .i64 er]) ∧ decIs w' bs M su er ∧ Below V.heap.size V w') := fun V hV => rmdec_any _ bs V (hseg.below hV (Nat.le_refl _)) (by omega)
    have hlen' : ¬ (5000 : Int) < (len : Int) := by omega
    have hz := zeroMan
    clear hseg L hu HU hh hul hm
    unfold manV at *
    generalize encM m = EM at *
    generalize manC m su = MC at *
    obtain ⟨B3, hB3⟩ : ∃ B3, B3 = w.heap.size := ⟨_, rfl⟩
    rw [← hB3] at k3
    obtain ⟨Z, hZ⟩ : ∃ Z, Z = manC zeroM (.slice none 0 0) := ⟨_, rfl⟩
    have HZ : Hid (∀ (m : MM) (su : Value), m.h.length = 32 → Z.size = (manC m su).size) := fun m su h => by rw [hZ]; exact size_zeroMan m su h
    simp only [← hZ] at hz
    clear hZ
    go_enter Tryd.func5, Tryd.ntmps5
    go_wp2_with fail
    refine HA.out.mono ?_
    rintro e w1 ⟨rfl, hb1⟩
    have k31 := k3.below hb1 k3.lt
    have hB1 : Below w.heap.size w w1 := hBb.trans (hb1.mono hBb.size)
    clear HA hb1 k3 hBb
    go_wp2_with (refine wpList_load_row rfl 27 _ rfl w.heap.size rfl 27 _ (0, 0) _ (by rw [← hB3]; exact k31) Tryd.underlying27 rfl hi ?_)
    refine (HFW.out _ hB1).mono ?_
    rintro e w2 ⟨rfl, hb2⟩
    have k32 := k31.below hb2 k31.lt
    have hB2 : Below w.heap.size w w2 := hB1.trans (hb2.mono hB1.size)
    clear HFW hb2 k31 hB1
    go_wp2_with (refine wpList_load_row rfl 27 _ rfl w.heap.size rfl 27 _ (0, 0) _ (by rw [← hB3]; exact k32) Tryd.underlying27 rfl hi ?_)
    refine (HE1.out _ hB2).mono ?_
    rintro e w4 ⟨b1, q1, rfl, ho1, hb4⟩
    have k34 := k32.below hb4 k32.lt
    have hB4 : Below w.heap.size w w4 := hB2.trans (hb4.mono hB2.size)
    obtain ⟨hs1, hq1⟩ := encIs_seg (ho1 _ (Nat.le_refl _))
    have HQ1 : Hid (q1 = (if EM.isSome then 0 else 1)) := hq1
    clear HE1 hb4 k32 ho1 hq1 hB2
    obtain ⟨a1, c1, rfl⟩ := hs1.shapeD
    go_wp2_with (refine wpList_load_row rfl 27 _ rfl w.heap.size rfl 27 _ (0, 0) _ (by rw [← hB3]; exact k34) Tryd.underlying27 rfl hi ?_)
    refine (HE2.out _ hB4).mono ?_
    rintro e w5 ⟨b2, q2, rfl, ho2, hb5⟩
    have hB5 : Below w.heap.size w w5 := hB4.trans (hb5.mono hB4.size)
    obtain ⟨hs2, hq2⟩ := encIs_seg (ho2 _ (Nat.le_refl _))
    have hs15 := hs1.below hb5 (Nat.le_refl _)
    obtain rfl : q2 = q1 := by rw [hq2, HQ1.out]
    clear HE2 hb5 k34 ho2 hq2 hB4 hs1 HQ1
    obtain ⟨a2, c2, rfl⟩ := hs2.shapeD
    go_wp2_with fail
    refine (HD1.out _ hB5).mono ?_
    rintro e w6 ⟨M1, s1, e1, rfl, hd1, hb6⟩
    have hB6 : Below w.heap.size w w6 := hB5.trans (hb6.mono hB5.size)
    have hs16 := hs15.below hb6 (Nat.le_refl _)
    have hs26 := hs2.below hb6 (Nat.le_refl _)
    have hh1 := hd1.1
    have hl1 := hd1.2.1
    have hu1 := hd1.2.2.1
    have hi1 := manC_info M1 s1 hh1
    have ho1 := manC_one M1 s1 hu1.one
    have hz1 := HZ.out M1 s1 hh1
    have HDD : Hid (decIs w6 bs M1 s1 e1) := hd1
    obtain ⟨MC1, hMC1⟩ : ∃ MC1, MC1 = manC M1 s1 := ⟨_, rfl⟩
    have HM1 : Hid (MC1 = manC M1 s1) := hMC1
    rw [← hMC1] at hi1 ho1 hz1 ⊢
    clear hMC1 hd1 HD1 hb6 hB5 hs15 hs2
    go_wp2_with (refine store_blk rfl 27 _ _ rfl rfl w6.heap.size MC1 rfl rfl 27 Z (by exact Blk.new _ _ _) hi1 hz1 ho1 ?_; intro W7 k11 hg7 hs7; clear hs7; have hb7 := fresh_below hg7)
    have hB7 : Below w.heap.size w W7 := hB6.trans (hb7.mono hB6.size)
    have hu17 := hu1.below hb7 (Nat.le_refl _)
    have hs17 := hs16.below hb7 (Nat.le_refl _)
    have hs27 := hs26.below hb7 (Nat.le_refl _)
    obtain ⟨B11, hB11⟩ : ∃ B11, B11 = w6.heap.size := ⟨_, rfl⟩
    rw [← hB11] at k11 ⊢
    clear hg7 hb7 hu1 hB6 hs16 hs26 hB11 ho1 hz1
    refine (HD2.out _ hB7).mono ?_
    rintro e w8 ⟨M2, s2, e2, rfl, hd2, hb8⟩
    obtain ⟨rfl, rfl⟩ := dec_same HDD.out hd2
    have hB8 : Below w.heap.size w w8 := hB7.trans (hb8.mono hB7.size)
    have hu18 := hu17.below hb8 (Nat.le_refl _)
    have hs18 := hs17.below hb8 (Nat.le_refl _)
    have hs28 := hs27.below hb8 (Nat.le_refl _)
    have k118 := k11.below hb8 k11.lt
    have hu2 := hd2.2.2.1
    have hi2 := manC_info M2 s2 hh1
    have ho2 := manC_one M2 s2 hu2.one
    have hz2 := HZ.out M2 s2 hh1
    obtain ⟨MC2, hMC2⟩ : ∃ MC2, MC2 = manC M2 s2 := ⟨_, rfl⟩
    have HM2 : Hid (MC2 = manC M2 s2) := hMC2
    have HSA : Hid (∀ V, Wds V s1 M2.u → Wds V s2 M2.u → Calls Tryd.prog 12 #[.agg MC1, .agg MC2] V fun e w' => e = .returned (.bool true) ∧ Below V.heap.size V w') := fun V h1 h2 => by
      have := rsame_any M2 s1 s2 V hh1 (by omega) h1 h2
      unfold manV at this
      rw [← HM1.out, ← HM2.out] at this
      exact this
    rw [← hMC2] at hi2 ho2 hz2 ⊢
    clear hMC2 hd2 HD2 hb8 hB7 hs17 hs27 k11 hu17 HDD HM1 HM2
    go_wp2_with (first | (refine store_blk rfl 27 _ _ rfl rfl w8.heap.size MC2 rfl rfl 27 Z (by exact Blk.new _ _ _) hi2 hz2 ho2 ?_; intro W9 k13 hg9 hs9; clear hs9; have hb9 := fresh_below hg9; have k119 := k118.below hb9 k118.lt) | (refine wpList_load_row rfl 27 _ rfl B11 rfl 27 MC1 (0, 0) _ k119 Tryd.underlying27 rfl hi1 ?_) | (refine wpList_load_row rfl 27 _ rfl w8.heap.size rfl 27 MC2 (0, 0) _ k13 Tryd.underlying27 rfl hi2 ?_))
    have hB9 : Below w.heap.size w W9 := hB8.trans (hb9.mono hB8.size)
    refine (HSA.out _ (hu18.below hb9 (Nat.le_refl _)) (hu2.below hb9 (Nat.le_refl _))).mono ?_
    rintro e w10 ⟨rfl, hb10⟩
    have hB10 : Below w.heap.size w w10 := hB9.trans (hb10.mono hB9.size)
    have cs1 := seg_stringD ((hs18.below hb9 (Nat.le_refl _)).below hb10 (Nat.le_refl _)) 9 Tryd.underlying9
    have cs2 := seg_stringD ((hs28.below hb9 (Nat.le_refl _)).below hb10 (Nat.le_refl _)) 9 Tryd.underlying9
    clear hs18 hs28 hb9 hg9 k118 k119 k13 hb10 hB9 hB8 HSA hu18 hu2
    generalize encT EM = ET at *
    go_wp2
    go_ret
    exact ⟨by simp, hB10⟩
  · obtain ⟨B3, hB3⟩ : ∃ B3, B3 = w.heap.size := ⟨_, rfl⟩
    rw [← hB3] at k3
    unfold manV at *
    clear hu HU hseg L
    by_cases hul : m.u.length ≤ 1000
    · rw [decide_eq_true hul] at HFW
      have hlen' : (5000 : Int) < (len : Int) := by omega
      generalize manC m su = MC at *
      go_enter Tryd.func5, Tryd.ntmps5
      go_wp2_with fail
      refine HA.out.mono ?_
      rintro e w1 ⟨rfl, hb1⟩
      have k31 := k3.below hb1 k3.lt
      have hB1 : Below w.heap.size w w1 := hBb.trans (hb1.mono hBb.size)
      rw [← hB3]
      clear HA k3 hb1 hBb hB3
      go_wp2_with (refine wpList_load_row rfl 27 _ rfl B3 rfl 27 _ (0, 0) _ k31 Tryd.underlying27 rfl hi ?_)
      refine (HFW.out _ hB1).mono ?_
      rintro e w2 ⟨rfl, hb2⟩
      go_wp2
      go_ret
      exact ⟨rfl, hB1.trans (hb2.mono hB1.size)⟩
    · rw [decide_eq_false hul] at HFW
      generalize manC m su = MC at *
      go_enter Tryd.func5, Tryd.ntmps5
      go_wp2_with fail
      refine HA.out.mono ?_
      rintro e w1 ⟨rfl, hb1⟩
      have k31 := k3.below hb1 k3.lt
      have hB1 : Below w.heap.size w w1 := hBb.trans (hb1.mono hBb.size)
      rw [← hB3]
      clear HA k3 hb1 hBb hB3
      go_wp2_with (refine wpList_load_row rfl 27 _ rfl B3 rfl 27 _ (0, 0) _ k31 Tryd.underlying27 rfl hi ?_)
      refine (HFW.out _ hB1).mono ?_
      rintro e w2 ⟨rfl, hb2⟩
      go_wp2
      go_ret
      exact ⟨rfl, hB1.trans (hb2.mono hB1.size)⟩
end Go.Proofs.YthophonofaaafaaDoor
