/-
  What is proved here: ManifestTurned: with one byte turned an image is whole only if both have one hash; the chunk of that byte is none, and all others are.
  Conditions: the variables fourBits, firstWords and roundWords hold their words.
-/
import Derived.Test.YtenolcfmbdndgaaDoorLawManVersions
import Derived.Test.YtenolcfmbdndgaaDoorManChunk
import Derived.Test.YtenolcfmbdndgaaDoorRefSum
namespace Go.Proofs.YtenolcfmbdndgaaDoor
open Go.RowKit

theorem exec_addM {a : Act} {o : Oper} {w : World} (t : TypeId) (x y : Operand) (ho : o.op = .binOp .add t x y t) (m n : Int) (hx : a.eval x = .int .i64 m) (hy : a.eval y = .int .i64 n) (h0 : -9223372036854775808 ≤ m + n) (h1 : m + n < 9223372036854775808) : (execOp a.eval o).run Tryd.prog w = .ok (.value (.int .i64 (m + n))) w := by
  have hw : IntKind.i64.wrap (m + n) = m + n := by rw [IntKind.wrap_i64]; omega
  unfold execOp
  simp [ho, hx, hy]
  rw [← hw]
  rfl
/-- What Chunk tells of an image's chunks with one byte turned. -/
theorem turned_is {v : Int} {bs : List UInt8} {c : Int} (h : numsOk (numsM v bs c)) (i : Nat) (hi : (i : Int) < countM (numsM v bs c)) (K : Nat) (hK : K < bs.length) (y : UInt8) (hy : y ≠ bs[K]) :
    isChunk (makeM v bs c) i (chunkB (bs.set K y) c.toNat i) = decide (K < c.toNat * i ∨ c.toNat * i + (chunkB bs c.toNat i).length ≤ K) := by
  have hs := make_span h i hi
  have hu := make_sum h i hi
  have hl : (chunkB (bs.set K y) c.toNat i).length = (chunkB bs c.toNat i).length := by simp [chunkB]
  unfold isChunk
  rw [hs.1]
  refine decide_eq_decide.2 ⟨fun hh => ?_, fun hh => ⟨rfl, by rw [hl], ?_⟩⟩
  · have h3 := hh.2.2
    rw [Int.toNat_natCast, hu] at h3
    refine Classical.byContradiction fun hn => ?_
    have h4 : c.toNat * i ≤ K ∧ K < c.toNat * i + (chunkB bs c.toNat i).length := by omega
    rw [chunk_set_in bs c.toNat i K y h4.1 h4.2] at h3
    have h5 := crc_set_apart (chunkB bs c.toNat i) (K - c.toNat * i) (by omega) y (Option.some.inj h3).symm
    apply hy
    rw [h5]
    simp only [chunkB, List.getElem_take, List.getElem_drop]
    congr 1
    omega
  · rw [Int.toNat_natCast, hu, chunk_set_out bs c.toNat i K y hh]
theorem isWhole_turned {v : Int} {bs : List UInt8} {c : Int} (h : numsOk (numsM v bs c)) (b : List UInt8) (hl : b.length = bs.length) : isWhole (makeM v bs c) b = (shaOf b == shaOf bs) := by
  unfold isWhole
  have h1 := makeM_ok h
  have h2 : (b.length : Int) = (makeM v bs c).s := by rw [hl]; rfl
  have h3 : (makeM v bs c).h = shaOf bs := rfl
  rw [h3]
  by_cases he : shaOf b = shaOf bs <;> simp [he, h1, h2]

set_option maxRecDepth 100000 in
set_option maxHeartbeats 4000000 in
theorem manifestTurned_any (x : Value) (bs : List UInt8) (ao : Option Addr) (len cp : Nat) (x0 x1 : Int) (t : UInt8) (w : World) (hx : x = .slice ao len cp) (hl : bs.length = len) (hm : len ≤ maxLen) (hseg : Seg w x bs) (L : Laid10 w) (hx0 : x0 ≤ 9223372036854775807) :
    Calls Tryd.prog 7 #[x, .agg #[.int .i64 x0, .int .i64 x1], v8 t] w fun e w' => e = .returned (.bool true) ∧ Below w.heap.size w w' := by
  subst hx
  unfold maxLen at hm
  have hBb : Below w.heap.size w (w.alloc (.cells #[.int .i64 x0, .int .i64 x1] 42)) := (Below.refl _ _).alloc (Nat.le_refl _) _
  have k4 := Blk.new w 42 #[.int .i64 x0, .int .i64 x1]
  have HA : Hid (Calls Tryd.prog 9 #[] (w.alloc (.cells #[.int .i64 x0, .int .i64 x1] 42)) fun e w' => e = .returned (.bool true) ∧ Below (w.alloc (.cells #[.int .i64 x0, .int .i64 x1] 42)).heap.size (w.alloc (.cells #[.int .i64 x0, .int .i64 x1] 42)) w') := awake10_any _ (L.below hBb)
  have hz := zeroMan
  by_cases hout : len = 0 ∨ 20000 < len ∨ x0 < 0 ∨ t = 0
  · have HB : Hid (∀ w1, Below (w.alloc (.cells #[.int .i64 x0, .int .i64 x1] 42)).heap.size (w.alloc (.cells #[.int .i64 x0, .int .i64 x1] 42)) w1 → Below w.heap.size w w1 ∧ w1.cell? ⟨w.heap.size, 0, none⟩ = some (.int .i64 x0)) := fun w1 hb1 => ⟨hBb.trans (hb1.mono hBb.size), (k4.below hb1 k4.lt).cell (j := 0) rfl⟩
    clear L hseg k4 hBb hz
    by_cases h1 : len = 0
    · subst h1
      clear hout
      go_enter Tryd.func7, Tryd.ntmps7
      go_wp2_with fail
      refine HA.out.mono ?_
      rintro e w1 ⟨rfl, hb1⟩
      obtain ⟨hB1, c40⟩ := HB.out w1 hb1
      go_wp2
      go_ret
      exact ⟨rfl, hB1⟩
    · by_cases h2 : 20000 < len
      · have h1' : ((len : Int) == 0) = false := by simp; omega
        clear hout
        go_enter Tryd.func7, Tryd.ntmps7
        go_wp2_with fail
        refine HA.out.mono ?_
        rintro e w1 ⟨rfl, hb1⟩
        obtain ⟨hB1, c40⟩ := HB.out w1 hb1
        go_wp2
        go_ret
        exact ⟨rfl, hB1⟩
      · have h1' : ((len : Int) == 0) = false := by simp; omega
        have h2' : ¬ (20000 : Int) < (len : Int) := by omega
        by_cases h3 : x0 < 0
        · clear hout
          go_enter Tryd.func7, Tryd.ntmps7
          go_wp2_with fail
          refine HA.out.mono ?_
          rintro e w1 ⟨rfl, hb1⟩
          obtain ⟨hB1, c40⟩ := HB.out w1 hb1
          go_wp2
          go_ret
          exact ⟨rfl, hB1⟩
        · obtain rfl : t = 0 := ((hout.resolve_left h1).resolve_left h2).resolve_left h3
          have h4 : (n8 0 == 0) = true := rfl
          clear hout
          go_enter Tryd.func7, Tryd.ntmps7
          go_wp2_with fail
          refine HA.out.mono ?_
          rintro e w1 ⟨rfl, hb1⟩
          obtain ⟨hB1, c40⟩ := HB.out w1 hb1
          go_wp2
          go_ret
          exact ⟨rfl, hB1⟩
  · have h1 : 0 < len := by omega
    have h2 : len ≤ 20000 := by omega
    have h3 : 0 ≤ x0 := by omega
    have ht : t ≠ 0 := fun h => hout (.inr (.inr (.inr h)))
    clear hout
    have h1' : ((len : Int) == 0) = false := by simp; omega
    have h2' : ¬ (20000 : Int) < (len : Int) := by omega
    have h3' : ¬ x0 < 0 := by omega
    have h4' : (n8 t == 0) = false := by
      unfold n8
      have : t.toNat ≠ 0 := fun h => ht (UInt8.toNat_inj.1 h)
      simp; omega
    obtain ⟨X0, rfl⟩ := Int.eq_ofNat_of_zero_le h3
    obtain ⟨K, hK⟩ : ∃ K : Nat, K = X0 % len := ⟨_, rfl⟩
    have hKl : K < len := by rw [hK]; exact Nat.mod_lt _ h1
    have hKm : (X0 : Int) % (len : Int) = (K : Int) := by rw [hK]; simp
    have hKb : K < bs.length := by omega
    have hbl : bs.length ≤ 1000000000 := by omega
    obtain ⟨y, hy⟩ : ∃ y, y = bs[K] ^^^ t := ⟨_, rfl⟩
    obtain ⟨z, hzK⟩ : ∃ z, z = bs[K] := ⟨_, rfl⟩
    have hyne : y ≠ bs[K] := fun e => by
      rw [hy] at e
      have h5 := congrArg (fun z => bs[K] ^^^ z) e
      simp only [← UInt8.xor_assoc, UInt8.xor_self, UInt8.zero_xor] at h5
      exact ht h5
    have hsl : (bs.set K y).length = len := by simpa using hl
    have HMK : Hid (∀ v c V, Below w.heap.size w V → Calls Tryd.prog 10 #[.int .i64 v, .slice ao len cp, .int .i64 c] V fun e w' => ∃ (M : MM) (su : Value) (er : Int), e = .returned (.tuple #[manV M su, .int .i64 er]) ∧ M.h.length = 32 ∧ M.u.length ≤ 128 ∧ Wds w' su M.u ∧ ((er = 0 ∧ numsOk (numsM v bs c) ∧ M = makeM v bs c) ∨ (er = 1 ∧ ¬ numsOk (numsM v bs c) ∧ M = zeroM)) ∧ Below V.heap.size V w') := fun v c V hV => make_gen v _ bs c V hbl (hseg.below hV (Nat.le_refl _)) (L.below hV)
    have HLD : Hid (∀ V, Below w.heap.size w V → Laid10 V) := fun V hV => L.below hV
    have HSG : Hid (∀ V, Below w.heap.size w V → Seg V (.slice ao len cp) bs) := fun V hV => hseg.below hV (Nat.le_refl _)
    have HXR : Hid (bits .xor .u8 (n8 z) (n8 t) = n8 y) := by show _ = _; rw [hy, hzK]; exact xor8 _ _
    have HRW : Hid (∀ V g, Row V g 0 bs → V.cell? ⟨g, K, none⟩ = some (.int .u8 (n8 z))) := fun V g h => by have := h K hKb; rw [Nat.zero_add] at this; rw [hzK]; exact this
    have HKM : Hid ((X0 : Int) % (len : Int) = (K : Int)) := hKm
    have HTI : Hid (∀ (c : Int), numsOk (numsM 1 bs c) → ∀ i : Nat, (i : Int) < countM (numsM 1 bs c) → isChunk (makeM 1 bs c) i (chunkB (bs.set K y) c.toNat i) = decide (K < c.toNat * i ∨ c.toNat * i + (chunkB bs c.toNat i).length ≤ K)) := fun c h i hi => turned_is h i hi K hKb y hyne
    clear hseg L ht hK hyne hKm hy hzK
    go_enter Tryd.func7, Tryd.ntmps7
    go_wp2_with fail
    refine HA.out.mono ?_
    rintro e w1 ⟨rfl, hb1⟩
    have m4 := k4.below hb1 k4.lt
    have hB1 : Below w.heap.size w w1 := hBb.trans (hb1.mono hBb.size)
    clear HA k4 hb1 hBb
    have c40 : w1.cell? ⟨w.heap.size, 0, none⟩ = some (.int .i64 (X0 : Int)) := m4.cell (j := 0) rfl
    have c41 : w1.cell? ⟨w.heap.size, 1, none⟩ = some (.int .i64 x1) := m4.cell (j := 1) rfl
    go_wp2_with fail
    refine (HMK.out _ _ _ hB1).mono ?_
    rintro e w2 ⟨M1, s1, e1, rfl, hh1, hl1, hu1, hc1, hb2⟩
    clear c40 c41
    have p4 := m4.below hb2 m4.lt
    have hB2 : Below w.heap.size w w2 := hB1.trans (hb2.mono hB1.size)
    clear m4 hb2 hB1 HMK
    have hi1 := manC_info M1 s1 hh1
    have ho1 := manC_one M1 s1 hu1.one
    have HS1 : Hid ((manC zeroM (.slice none 0 0)).size = (manC M1 s1).size) := size_zeroMan M1 s1 hh1
    obtain ⟨MC, hMC1⟩ : ∃ MC1, MC1 = manC M1 s1 := ⟨_, rfl⟩
    have HM1 : Hid (MC = manC M1 s1) := hMC1
    have HC1 : Hid ((e1 = 0 ∧ numsOk (numsM 1 bs x1) ∧ M1 = makeM 1 bs x1) ∨ (e1 = 1 ∧ ¬ numsOk (numsM 1 bs x1) ∧ M1 = zeroM)) := hc1
    unfold manV
    rw [← hMC1] at hi1 ho1 HS1 ⊢
    clear hMC1 hc1
    generalize manC zeroM (.slice none 0 0) = Z at *
    rcases HC1.out with ⟨rfl, hn1, rfl⟩ | ⟨rfl, _⟩
    · clear HC1
      obtain ⟨C, rfl⟩ : ∃ C : Nat, x1 = C := ⟨x1.toNat, (Int.toNat_of_nonneg (by have := hn1.2.2.1.1; simp only [numsM] at this; omega)).symm⟩
      obtain ⟨N, hN⟩ : ∃ N : Nat, (N : Int) = countM (numsM 1 bs C) := ⟨(countM (numsM 1 bs C)).toNat, by have := countM_pos hn1; omega⟩
      have hN128 : N ≤ 128 := by have := hn1.2.2.2; omega
      have hkm := HKM.out
      have hxr := HXR.out
      go_wp2_with (first | (refine store_blk rfl 27 _ _ rfl rfl w2.heap.size MC rfl rfl 27 Z (by exact Blk.new _ _ _) hi1 HS1.out ho1 ?_; intro W3 k8 hg3 hs3; clear hs3; have hb3 := fresh_below hg3; have hB3 : Below w.heap.size w W3 := hB2.trans (hb3.mono hB2.size); have c40 : W3.cell? ⟨w.heap.size, 0, none⟩ = some (.int .i64 (X0 : Int)) := (p4.below hb3 p4.lt).cell (j := 0) rfl; have hsg3 := HSG.out W3 hB3; have sz3 := hB3.size) | (at_builtin; refine app_own _ rfl (.tmp 56) (.tmp 57) rfl W3.heap.size _ [] rfl (by exact own_empty _ _ _ rfl (Nat.le_refl _)) _ bs rfl (by exact hsg3.alloc _) (by simp; omega) (by simp) ?_; intro v5 w5 ho5 hg5 hv5; rw [List.nil_append] at ho5; have hB53 := fresh_below (show (W3.alloc (.cells #[] 5)).grownBy w5 (some W3.heap.size) from hg5); obtain ⟨g2, c2, rfl, hg2b, hg2l, hc2, hr5⟩ := ho5.form (by omega); have cK := HRW.out _ _ hr5; have fK := (ho5.set K y).2))
      have hr6 := (ho5.set K y).1
      have hB63 : Below W3.heap.size W3 (w5.setCell ⟨g2, K, none⟩ (.int .u8 (n8 y))) := hB53.setCell (p := ⟨g2, K, none⟩) hg2b _
      have k86 := k8.below hB63 k8.lt
      have hB6 : Below w.heap.size w (w5.setCell ⟨g2, K, none⟩ (.int .u8 (n8 y))) := hB3.trans (hB63.mono sz3)
      have hu6 : Wds (w5.setCell ⟨g2, K, none⟩ (.int .u8 (n8 y))) s1 (makeM 1 bs C).u := (hu1.below hb3 (Nat.le_refl _)).below hB63 (Nat.le_refl _)
      have g2l : g2 < (w5.setCell ⟨g2, K, none⟩ (.int .u8 (n8 y))).heap.size := by simpa using hg2l
      obtain ⟨W6, hW6⟩ : ∃ W6, W6 = w5.setCell ⟨g2, K, none⟩ (.int .u8 (n8 y)) := ⟨_, rfl⟩
      rw [show v8 y = .int .u8 (n8 y) from rfl] at hr6
      rw [← hW6] at hr6 k86 hB6 hu6 g2l ⊢
      have hsB : Seg W6 (.slice (some ⟨g2, 0, none⟩) bs.length c2) (bs.set K y) := Seg.of_row hr6 (by simp) hc2 g2l
      rw [hl] at hsB hc2
      clear hW6 hr6 hB63 hB53 k8 hb3 hB3 c40 hsg3 sz3 hu1 g2l fK cK hr5 ho5 hg5 hv5 hg3 hg2b hg2l hB2 p4 hz HS1 ho1 HRW hxr HXR hkm
      obtain ⟨B8, hB8⟩ : ∃ B8, B8 = w2.heap.size := ⟨_, rfl⟩
      rw [← hB8] at k86 ⊢
      clear hB8
      have hok1 := makeM_ok hn1
      have hce : countE (makeM 1 bs C) = (N : Int) := by rw [hN]; exact if_pos hok1
      have HCN : Hid (∀ V, Below W6.heap.size W6 V → Calls Tryd.prog 18 #[.agg MC] V fun e w' => e = .returned (.int .i64 (N : Int)) ∧ Below V.heap.size V w') := fun V hV => by
        have := count_any (makeM 1 bs C) s1 V hh1 (by omega) (hu6.below hV (Nat.le_refl _))
        rw [hce] at this
        unfold manV at this
        rw [← HM1.out] at this
        exact this
      have HSN : Hid (∀ (I : Nat) V, I < N → Below W6.heap.size W6 V → Calls Tryd.prog 14 #[.agg MC, .int .i64 (I : Int)] V fun e w' => e = .returned (.tuple #[.int .i64 ((C * I : Nat) : Int), .int .i64 ((chunkB bs C I).length : Int), .int .i64 0]) ∧ Below V.heap.size V w') := fun I V hI hV => by
        have h5 := span_any (makeM 1 bs C) s1 I V hh1 (by omega) (hu6.below hV (Nat.le_refl _))
        rw [(make_span hn1 I (by omega)).1] at h5
        unfold manV tup3 at h5
        rw [← HM1.out] at h5
        simpa using h5
      have HSB : Hid (∀ (I : Nat), I < N → C * I + (chunkB bs C I).length ≤ len) := fun I hI => by
        have h5 := make_span hn1 I (by omega)
        simp only [Int.toNat_natCast] at h5
        omega
      have HCH : Hid (∀ (I : Nat) V, I < N → Below W6.heap.size W6 V → Calls Tryd.prog 20 #[.agg MC, .int .i64 (I : Int), .slice (restD (some ⟨g2, 0, none⟩) c2 (C * I)) (chunkB bs C I).length (c2 - C * I)] V fun e w' => e = .returned (.bool (decide (K < C * I ∨ C * I + (chunkB bs C I).length ≤ K))) ∧ Below V.heap.size V w') := fun I V hI hV => by
        have h6 := HTI.out C hn1 I (by omega)
        simp only [Int.toNat_natCast] at h6
        have h7 : (chunkB (bs.set K y) C I).length = (chunkB bs C I).length := by simp [chunkB]
        have h8 := seg_mid (hsB.below hV (Nat.le_refl _)) (C * I) (chunkB bs C I).length (HSB.out I hI)
        rw [← h7, ← chunkB_take] at h8
        have hV6 : Below w.heap.size w V := hB6.trans (hV.mono hB6.size)
        have h9 := mchunk_any (makeM 1 bs C) s1 I _ (chunkB (bs.set K y) C I) V hh1 (by omega) (hu6.below hV (Nat.le_refl _)) (by rw [h7]; have := HSB.out I hI; omega) h8 (HLD.out V hV6).g4 (HLD.out V hV6).f4
        rw [h6, h7] at h9
        unfold manV at h9
        rw [← HM1.out] at h9
        exact h9
      have HWH : Hid (∀ V, Below W6.heap.size W6 V → Calls Tryd.prog 22 #[.agg MC, .slice (some ⟨g2, 0, none⟩) len c2] V fun e w' => e = .returned (.bool (shaOf (bs.set K y) == shaOf bs)) ∧ Below V.heap.size V w') := fun V hV => by
        have hV6 : Below w.heap.size w V := hB6.trans (hV.mono hB6.size)
        have h9 := whole_any (makeM 1 bs C) s1 _ (bs.set K y) V hh1 (by omega) (hu6.below hV (Nat.le_refl _)) (by rw [hsl]; omega) (hsB.below hV (Nat.le_refl _)) (HLD.out V hV6).gf (HLD.out V hV6).ff (HLD.out V hV6).gk (HLD.out V hV6).fk
        rw [isWhole_turned hn1 _ (by simp)] at h9
        unfold manV at h9
        rw [← HM1.out] at h9
        exact h9
      have HR1 : Hid (∀ V, Below W6.heap.size W6 V → Calls Tryd.prog 28 #[.slice (some ⟨g2, 0, none⟩) len c2] V fun e w' => e = .returned (.agg ((shaOf (bs.set K y)).map v8).toArray) ∧ Below V.heap.size V w') := fun V hV => refSum_any _ _ V (hsB.below hV (Nat.le_refl _)) (by rw [hsl]; omega)
      have HR2 : Hid (∀ V, Below W6.heap.size W6 V → Calls Tryd.prog 28 #[.slice ao len cp] V fun e w' => e = .returned (.agg ((shaOf bs).map v8).toArray) ∧ Below V.heap.size V w') := fun V hV => refSum_any _ _ V (HSG.out V (hB6.trans (hV.mono hB6.size))) (by omega)
      have HEQ : Hid (∀ V, (Op.equalIn 10000 24 (.agg ((shaOf (bs.set K y)).map v8).toArray) (.agg ((shaOf bs).map v8).toArray)).run Tryd.prog V = .ok (shaOf (bs.set K y) == shaOf bs) V) := fun V =>
        run_equalIn_bytes (P := Tryd.prog) V 9998 24 5 32 Tryd.underlying24 Tryd.underlying5 (fun w => by kernel_rfl) (shaOf (bs.set K y)) (shaOf bs) (wbytes_len _) (wbytes_len _)
      have hs6 := hB6.size
      have hcl : len ≤ c2 := hc2
      clear hok1 hce HTI HLD HSG HM1 hsB hu6 hh1 hl1 hn1 hN hsl hKb hbl HKM hc2
      generalize (shaOf (bs.set K y) == shaOf bs) = SE at *
      generalize ((shaOf (bs.set K y)).map v8).toArray = SB at *
      generalize ((shaOf bs).map v8).toArray = SA at *
      go_loopw [12] (fun i wr => ∃ I : Nat, I ≤ N ∧ i = .int .i64 (I : Int) ∧ Below W6.heap.size W6 wr) (fun i _ => N - (intOf i).toNat)
      case atStart => exact ⟨0, Nat.zero_le _, rfl, Below.refl _ _⟩
      case round =>
        obtain ⟨I, hI, rfl, hX⟩ := hrel
        have k8r := k86.below hX k86.lt
        by_cases hlt : I < N
        · have HSI : Hid (∀ V, Below W6.heap.size W6 V → Calls Tryd.prog 14 #[.agg MC, .int .i64 (I : Int)] V fun e w' => e = .returned (.tuple #[.int .i64 ((C * I : Nat) : Int), .int .i64 ((chunkB bs C I).length : Int), .int .i64 0]) ∧ Below V.heap.size V w') := fun V => HSN.out I V hlt
          have HCK : Hid (∀ V, Below W6.heap.size W6 V → Calls Tryd.prog 20 #[.agg MC, .int .i64 (I : Int), .slice (restD (some ⟨g2, 0, none⟩) c2 (C * I)) (chunkB bs C I).length (c2 - C * I)] V fun e w' => e = .returned (.bool (decide (K < C * I ∨ C * I + (chunkB bs C I).length ≤ K))) ∧ Below V.heap.size V w') := fun V => HCH.out I V hlt
          have hbd := HSB.out I hlt
          clear HSN HCH HSB HWH HR1 HR2 HEQ
          generalize (chunkB bs C I).length = LN at *
          generalize C * I = AT at *
          have i1 : (I : Int) < (N : Int) := by omega
          have hsl : ∀ V, (Instr.slice 22 (.slice (some ⟨g2, 0, none⟩) len c2) (some (.int .i64 (AT : Int))) (some (.int .i64 ((AT : Int) + (LN : Int)))) none).run Tryd.prog V = .ok (.slice (restD (some ⟨g2, 0, none⟩) c2 AT) LN (c2 - AT)) V := fun V => by
            have := slice_midM (some ⟨g2, 0, none⟩) len c2 AT (AT + LN) (by omega) (by omega) V
            rw [show AT + LN - AT = LN by omega, show ((AT + LN : Nat) : Int) = (AT : Int) + (LN : Int) by omega] at this
            exact this
          have HSL : Hid (∀ V, (Instr.slice 22 (.slice (some ⟨g2, 0, none⟩) len c2) (some (.int .i64 (AT : Int))) (some (.int .i64 ((AT : Int) + (LN : Int)))) none).run Tryd.prog V = .ok (.slice (restD (some ⟨g2, 0, none⟩) c2 AT) LN (c2 - AT)) V) := hsl
          clear hsl
          have hgt : ¬ (len : Int) < (AT : Int) + (LN : Int) := by omega
          go_wp2_with (refine wpList_load_row rfl 27 _ rfl B8 rfl 27 _ (0, 0) _ k8r Tryd.underlying27 rfl hi1 ?_)
          refine (HCN.out _ hX).mono ?_
          rintro e w1 ⟨rfl, hb1⟩
          have k81 := k8r.below hb1 k8r.lt
          have hX1 : Below W6.heap.size W6 w1 := hX.trans (hb1.mono hX.size)
          clear k8r hb1 hX
          go_wp2_with (refine wpList_load_row rfl 27 _ rfl B8 rfl 27 _ (0, 0) _ k81 Tryd.underlying27 rfl hi1 ?_)
          refine (HSI.out _ hX1).mono ?_
          rintro e w2 ⟨rfl, hb2⟩
          have k82 := k81.below hb2 k81.lt
          have hX2 : Below W6.heap.size W6 w2 := hX1.trans (hb2.mono hX1.size)
          clear k81 hb2 hX1
          have hsl := HSL.out
          obtain ⟨ISC, hISC⟩ : ∃ ISC, ISC = decide (K < AT ∨ AT + LN ≤ K) := ⟨_, rfl⟩
          rw [← hISC] at HCK
          have HIS : Hid (ISC = decide (K < AT ∨ AT + LN ≤ K)) := hISC
          clear hISC
          go_wp2_with fail
          have hS0 : Blk w2.drew B8 27 MC := k82.drew
          refine held_begin (fun V => Blk V B8 27 MC) (by kernel_rfl) ?_
          refine held_take 0 89 _ (.agg MC) rfl rfl (by kernel_rfl) (by kernel_rfl) (by kernel_rfl) rfl hS0 (fun V hV => exec_loadM _ rfl _ rfl hV hi1) ?_
          simp only [Act.put, List.setIfInBounds_toArray, List.set_cons_succ, List.set_cons_zero]
          refine held_take 1 90 _ (.int .i64 (I : Int)) rfl rfl (by kernel_rfl) (by kernel_rfl) (by kernel_rfl) rfl hS0 (fun _ _ => rfl) ?_
          simp only [Act.put, List.setIfInBounds_toArray, List.set_cons_succ, List.set_cons_zero]
          refine held_take 2 91 _ (.slice (some ⟨g2, 0, none⟩) len c2) rfl rfl (by kernel_rfl) (by kernel_rfl) (by kernel_rfl) rfl hS0 (fun _ _ => rfl) ?_
          simp only [Act.put, List.setIfInBounds_toArray, List.set_cons_succ, List.set_cons_zero]
          refine held_take 3 92 _ (.int .i64 (AT : Int)) rfl rfl (by kernel_rfl) (by kernel_rfl) (by kernel_rfl) rfl hS0 (fun _ _ => rfl) ?_
          simp only [Act.put, List.setIfInBounds_toArray, List.set_cons_succ, List.set_cons_zero]
          refine held_take 4 93 _ (.int .i64 (AT : Int)) rfl rfl (by kernel_rfl) (by kernel_rfl) (by kernel_rfl) rfl hS0 (fun _ _ => rfl) ?_
          simp only [Act.put, List.setIfInBounds_toArray, List.set_cons_succ, List.set_cons_zero]
          refine held_take 5 94 _ (.int .i64 (LN : Int)) rfl rfl (by kernel_rfl) (by kernel_rfl) (by kernel_rfl) rfl hS0 (fun _ _ => rfl) ?_
          simp only [Act.put, List.setIfInBounds_toArray, List.set_cons_succ, List.set_cons_zero]
          refine held_take 6 95 _ (.int .i64 ((AT : Int) + (LN : Int))) rfl rfl (by kernel_rfl) (by kernel_rfl) (by kernel_rfl) rfl hS0 (fun V _ => exec_addM _ _ _ rfl _ _ rfl rfl (by omega) (by omega)) ?_
          simp only [Act.put, List.setIfInBounds_toArray, List.set_cons_succ, List.set_cons_zero]
          refine held_take 7 96 _ (.slice (restD (some ⟨g2, 0, none⟩) c2 AT) LN (c2 - AT)) rfl rfl (by kernel_rfl) (by kernel_rfl) (by kernel_rfl) rfl hS0 (fun V _ => exec_slice7 _ _ _ _ rfl (.slice (some ⟨g2, 0, none⟩) len c2) _ (some (.int .i64 (AT : Int))) (some (.int .i64 ((AT : Int) + (LN : Int)))) none rfl rfl rfl rfl (hsl V)) ?_
          simp only [Act.put, List.setIfInBounds_toArray, List.set_cons_succ, List.set_cons_zero]
          refine held_all1 8 (by kernel_rfl) (op_call 8 97 _ 20 #[.agg MC, .int .i64 (I : Int), .slice (restD (some ⟨g2, 0, none⟩) c2 AT) LN (c2 - AT)] rfl rfl rfl (exec_three8 20 _ _ _ _ rfl _ _ _ rfl rfl rfl Tryd.call20) ((HCK.out w2.drew hX2.drew).mono ?_))
          rintro e w3 ⟨rfl, hb3⟩
          have hS3 := hS0.below hb3 hS0.lt
          have hX3 : Below W6.heap.size W6 w3 := hX2.drew.trans (hb3.mono hX2.size)
          refine ⟨_, rfl, hS3, ?_⟩
          simp only [Act.put, List.setIfInBounds_toArray, List.set_cons_succ, List.set_cons_zero]
          refine held_take 9 16 _ (.bool ISC) rfl rfl (by kernel_rfl) (by kernel_rfl) (by kernel_rfl) rfl hS3 (fun _ _ => rfl) ?_
          simp only [Act.put, List.setIfInBounds_toArray, List.set_cons_succ, List.set_cons_zero]
          refine wpAnyH_done (by kernel_rfl) ?_ _
          refine NoPanic.normal ?_
          clear hS0 hS3 k82 hX2 hsl HSL
          by_cases c1 : K < AT
          · obtain rfl : ISC = true := by rw [HIS.out]; exact decide_eq_true (.inl c1)
            have d1 : (K : Int) < (AT : Int) := by omega
            go_wp2
            go_roundw
            case rel => exact ⟨I + 1, hlt, by go_num, hX3⟩
            case measure => simp [intOf]; omega
          · have d1 : ¬ (K : Int) < (AT : Int) := by omega
            by_cases c3 : AT + LN ≤ K
            · obtain rfl : ISC = true := by rw [HIS.out]; exact decide_eq_true (.inr c3)
              have d2 : (AT : Int) + (LN : Int) ≤ (K : Int) := by omega
              go_wp2
              go_roundw
              case rel => exact ⟨I + 1, hlt, by go_num, hX3⟩
              case measure => simp [intOf]; omega
            · obtain rfl : ISC = false := by rw [HIS.out]; exact decide_eq_false (by omega)
              have d2 : ¬ (AT : Int) + (LN : Int) ≤ (K : Int) := by omega
              go_wp2
              go_roundw
              case rel => exact ⟨I + 1, hlt, by go_num, hX3⟩
              case measure => simp [intOf]; omega
        · clear HSN HCH HSB
          have i1 : ¬ (I : Int) < (N : Int) := by omega
          have heq := HEQ.out
          clear HEQ
          go_wp2_with (refine wpList_load_row rfl 27 _ rfl B8 rfl 27 _ (0, 0) _ k8r Tryd.underlying27 rfl hi1 ?_)
          refine (HCN.out _ hX).mono ?_
          rintro e w1 ⟨rfl, hb1⟩
          have k81 := k8r.below hb1 k8r.lt
          have hX1 : Below W6.heap.size W6 w1 := hX.trans (hb1.mono hX.size)
          clear k8r hb1 hX
          go_wp2_with (refine wpList_load_row rfl 27 _ rfl B8 rfl 27 _ (0, 0) _ k81 Tryd.underlying27 rfl hi1 ?_)
          refine (HWH.out _ hX1).mono ?_
          rintro e w2 ⟨rfl, hb2⟩
          have hX2 : Below W6.heap.size W6 w2 := hX1.trans (hb2.mono hX1.size)
          go_wp2_with fail
          refine (HR1.out _ hX2).mono ?_
          rintro e w3 ⟨rfl, hb3⟩
          have hX3 : Below W6.heap.size W6 w3 := hX2.trans (hb3.mono hX2.size)
          go_wp2_with fail
          refine (HR2.out _ hX3).mono ?_
          rintro e w4 ⟨rfl, hb4⟩
          have hX4 : Below W6.heap.size W6 w4 := hX3.trans (hb4.mono hX3.size)
          have hB4 : Below w.heap.size w w4 := hB6.trans (hX4.mono hs6)
          cases SE
          all_goals
            go_wp2
            go_ret
            exact ⟨rfl, hB4⟩
    · clear HC1 HLD HSG HXR HRW HKM HTI
      go_wp2_with (refine store_blk rfl 27 _ _ rfl rfl w2.heap.size MC rfl rfl 27 Z (by exact Blk.new _ _ _) hi1 HS1.out ho1 ?_; intro W3 k8 hg3 hs3; have hb3 := fresh_below hg3; have hB3 : Below w.heap.size w W3 := hB2.trans (hb3.mono hB2.size))
      go_ret
      exact ⟨rfl, hB3⟩
end Go.Proofs.YtenolcfmbdndgaaDoor
