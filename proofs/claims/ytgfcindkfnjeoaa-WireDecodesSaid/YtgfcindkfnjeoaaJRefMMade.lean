/-
  What is proved here: the document makes the message of a kind and of values that fit it, as the program does. the document makes the message of any kind and of values that fit it. the document's fields of a kind of messages. the document's Decode of messages tells the message that stands in bytes, or that there is none.
  Conditions: the values lie in memory; what the document's Decode of a manifest answers. none. the bytes lie in memory; what the document's Decode of records and of manifests answer.
-/
import Derived.Test.YtgfcindkfnjeoaaJWireDec
import Derived.Test.YtgfcindkfnjeoaaJWireFlds
import Derived.Test.YtgfcindkfnjeoaaJHeldKit
namespace Go.Proofs.Ytgfcindkfnjeoaa
open Go.RowKit

theorem index_vW (b off len c I : Nat) (z : Int) (hz : z = (I : Int)) (h : I < len) (w : World) : (Instr.indexAt 42 (.slice (some ⟨b, off, none⟩) len c) (.int .i64 z)).run Try.prog w = .ok (.pointer (some ⟨b, off + I * 3, none⟩)) w := by
  subst hz
  exact index_values b off len c I w h
/-- What made answers. -/
def madeIs (w W : World) (vv : Value) (k : Int) (xs : List Nat) (bo : Option (List UInt8)) (e : Ending) : Prop :=
  (k = 2 ∧ ∃ M su er, decIs W (bo.getD []) M su er ∧ e = .returned (.tuple #[.agg (msA (setL (numK k) xs (kMs k)) (manL M su) (.slice none 0 0)), .bool (er == 0)])) ∨
  (k = 5 ∧ ∃ ab cb, Seg W (.slice ab (bo.getD []).length cb) (bo.getD []) ∧ lastIs w vv (.slice ab (bo.getD []).length cb) ∧ e = .returned (.tuple #[.agg (msA (setL (numK k) xs (kMs k)) (manL zeroM (.slice none 0 0)) (.slice ab (bo.getD []).length cb)), .bool true])) ∨
  ((k ≠ 2 ∧ k ≠ 5) ∧ e = .returned (.tuple #[.agg (msA (setL (numK k) xs (kMs k)) (manL zeroM (.slice none 0 0)) (.slice none 0 0)), .bool true]))
set_option maxRecDepth 100000 in
set_option maxHeartbeats 8000000 in
theorem made_1 (vv : Value) (a0 : Nat) (a1 : Nat) (w : World) (hV : Vals w 4 vv (recV [a0, a1] none)) (h0 : a0 ≤ 1073741824) (h1 : a1 ≤ 1073741824) :
    Calls Try.prog 26 #[.int .i64 1, vv] w fun e w' => madeIs w w' vv 1 [a0, a1] none e ∧ Below w.heap.size w w' := by
  obtain ⟨b, off, c, hvv, hbl, hcells, bv, hbv, hsg⟩ := vals_at hV (by simp)
  have hvv : vv = .slice (some ⟨b, off, none⟩) 2 c := hvv
  subst hvv
  have hbl2 := hbl
  obtain ⟨ab, cb, rfl⟩ := hsg.shapeD
  have HCL : Hid (∀ V, Below w.heap.size w V → V.cell? ⟨b, off, none⟩ = some (.int .u64 (a0 : Int)) ∧ V.cell? ⟨b, off + 3, none⟩ = some (.int .u64 (a1 : Int)) ∧ V.cell? ⟨b, off + 4, none⟩ = some (.slice ab (Option.getD none []).length cb) ∧ Seg V (.slice ab (Option.getD none []).length cb) (Option.getD none [])) := fun V hV => ⟨(hV.cell (p := ⟨b, off, none⟩) hbl).trans (hcells 0 a0 rfl).1, (hV.cell (p := ⟨b, off + 3, none⟩) hbl).trans (hcells 1 a1 rfl).1, (hV.cell (p := ⟨b, off + 4, none⟩) hbl).trans hbv, hsg.below hV (Nat.le_refl _)⟩
  have HLA : Hid (lastIs w (.slice (some ⟨b, off, none⟩) 2 c) (.slice ab (Option.getD none []).length cb)) := ⟨b, off, 1, c, rfl, hbl, hbv⟩
  have hz0 := zeroMess
  obtain ⟨MZ, hMZ⟩ : ∃ Z, Z = msA (kMs 0) (manL zeroM (.slice none 0 0)) (.slice none 0 0) := ⟨_, rfl⟩
  have hMK : MZ.setIfInBounds 0 (.int .i64 1) = msA (kMs 1) (manL zeroM (.slice none 0 0)) (.slice none 0 0) := by rw [hMZ]; simp [msA, msL, kMs]
  have HMZ : Hid (MZ = msA (kMs 0) (manL zeroM (.slice none 0 0)) (.slice none 0 0)) := hMZ
  have hmn : ¬ MZ = #[] := fun e => by
    have h := msZ_size (kMs 0)
    rw [← hMZ, e] at h
    cases h
  have hks : MZ.size = (MZ.setIfInBounds 0 (.int .i64 1)).size := by simp
  have hko : (MZ.setIfInBounds 0 (.int .i64 1)).all (·.oneCell') = true := by rw [hMK]; exact msZ_one _
  have hki : (Try.prog.info? 28).map (·.size) = some (MZ.setIfInBounds 0 (.int .i64 1)).size := by rw [hMK, msZ_size]; exact info_mess
  have HMK : Hid (MZ.setIfInBounds 0 (.int .i64 1) = msA (kMs 1) (manL zeroM (.slice none 0 0)) (.slice none 0 0)) := hMK
  rw [← hMZ] at hz0
  have hkB0 : Blk ((w.alloc (.cells MZ 28)).alloc (.cells MZ 28)) (w.heap.size + 1) 28 MZ := Blk.newAt _ _ _ _ (by simp)
  have hkR0 : Blk ((w.alloc (.cells MZ 28)).alloc (.cells MZ 28)) w.heap.size 28 MZ := (Blk.new w 28 MZ).alloc _
  have hB0 : Below w.heap.size w ((w.alloc (.cells MZ 28)).alloc (.cells MZ 28)) := ((Below.refl _ _).alloc (Nat.le_refl _) _).alloc (by simp) _
  have HNE : Hid (some w.heap.size ≠ some (w.heap.size + 1)) := by show some w.heap.size ≠ some (w.heap.size + 1); intro e; injection e with e; omega
  have HGE : Hid (∀ q, some (w.heap.size + 1) = some q → w.heap.size ≤ q) := fun q e => by injection e with e; omega
  have ix0 : ∀ w, (Instr.indexAt 42 (.slice (some ⟨b, off, none⟩) 2 c) (.int .i64 0)).run Try.prog w = .ok (.pointer (some ⟨b, off, none⟩)) w := fun w => index_vW b off 2 c 0 0 rfl (by omega) w
  have ix1 : ∀ w, (Instr.indexAt 42 (.slice (some ⟨b, off, none⟩) 2 c) (.int .i64 1)).run Try.prog w = .ok (.pointer (some ⟨b, off + 3, none⟩)) w := fun w => index_vW b off 2 c 1 1 rfl (by omega) w
  have cv0 := fun w => conv_i64W a0 (by omega) w
  have cv1 := fun w => conv_i64W a1 (by omega) w
  have hmi2 := ms_info (setL (numK 1) [a0, a1] (kMs 1)) (manL zeroM (.slice none 0 0)) (.slice none 0 0) rfl
  have hms2 : MZ.size = (msA (setL (numK 1) [a0, a1] (kMs 1)) (manL zeroM (.slice none 0 0)) (.slice none 0 0)).size := by rw [HMZ.out, msZ_size, msA_size _ _ _ rfl]
  have hmo2 := msA_one (setL (numK 1) [a0, a1] (kMs 1)) (manL zeroM (.slice none 0 0)) (.slice none 0 0) (manL_one zeroM none 0 0) rfl
  clear hMZ hMK hcells hbv hsg hbl hbl2 hV
  go_enter Try.func26, Try.ntmps26
  go_wp2_with (first | (refine store_blk rfl 28 _ _ rfl rfl (w.heap.size + 1) (MZ.setIfInBounds 0 (.int .i64 1)) rfl rfl 28 MZ hkB0 hki hks hko ?_; intro W1 kB hg1 _; have kB := kB.of_eq HMK.out; have hBr := hB0; have kR := hkR0; have hBr : Below w.heap.size w W1 := below_grown hBr hg1 hBr.size HGE.out; have kR : Blk W1 w.heap.size 28 MZ := kR.grown hg1 HNE.out; obtain ⟨q0, q1, ql, _⟩ := HCL.out W1 hBr; clear hkB0 hkR0) | (refine store_intW rfl _ _ rfl rfl (w.heap.size + 1) _ _ rfl rfl 28 _ kB (by rw [msZ_size]; omega) ?_; intro W1 kB hg1; have kB := kB.of_eq (msA_set _ _ _ _ _ (by decide) (by decide)); have hBr : Below w.heap.size w W1 := below_grown hBr hg1 hBr.size HGE.out; have kR : Blk W1 w.heap.size 28 MZ := kR.grown hg1 HNE.out; obtain ⟨q0, q1, ql, _⟩ := HCL.out W1 hBr) | (refine wpList_load_row rfl 28 _ rfl (w.heap.size + 1) rfl 28 (msA (setL (numK 1) [a0, a1] (kMs 1)) (manL zeroM (.slice none 0 0)) (.slice none 0 0)) (0, 0) _ kB Try.underlying28 rfl (ms_info _ _ _ rfl) ?_) | (refine store_blk rfl 28 _ _ rfl rfl w.heap.size (msA (setL (numK 1) [a0, a1] (kMs 1)) (manL zeroM (.slice none 0 0)) (.slice none 0 0)) rfl rfl 28 MZ kR hmi2 hms2 hmo2 ?_; intro w9 kR9 hg9 _))
  have hB9 : Below w.heap.size w w9 := below_grown hBr hg9 hBr.size (fun q hq => by cases hq; exact Nat.le_refl _)
  refine bodyPost_ret (results_pairK Try.results26 _ _ w.heap.size 28 (msA (setL (numK 1) [a0, a1] (kMs 1)) (manL zeroM (.slice none 0 0)) (.slice none 0 0)) (0, 0) _ _ rfl rfl kR9 Try.underlying28 rfl hmi2) rfl ?_
  exact ⟨.inr (.inr ⟨by decide, rfl⟩), hB9⟩
set_option maxRecDepth 100000 in
set_option maxHeartbeats 8000000 in
theorem made_2 (vv : Value) (a0 : Nat) (a1 : Nat) (nb : List UInt8) (w : World) (hV : Vals w 4 vv (recV [a0, a1] (some nb))) (h0 : a0 ≤ 1073741824) (h1 : a1 ≤ 1073741824) (hbl0 : nb.length ≤ maxLen) (HMD : ∀ V x s, Seg V x s → s.length ≤ maxLen → Calls Try.prog 46 #[x] V fun e w' => ∃ M su er, e = .returned (.tuple #[manV M su, .int .i64 er]) ∧ decIs w' s M su er ∧ Below V.heap.size V w') :
    Calls Try.prog 26 #[.int .i64 2, vv] w fun e w' => madeIs w w' vv 2 [a0, a1] (some nb) e ∧ Below w.heap.size w w' := by
  obtain ⟨b, off, c, hvv, hbl, hcells, bv, hbv, hsg⟩ := vals_at hV (by simp)
  have hvv : vv = .slice (some ⟨b, off, none⟩) 3 c := hvv
  subst hvv
  have hbl2 := hbl
  obtain ⟨ab, cb, rfl⟩ := hsg.shapeD
  have HCL : Hid (∀ V, Below w.heap.size w V → V.cell? ⟨b, off, none⟩ = some (.int .u64 (a0 : Int)) ∧ V.cell? ⟨b, off + 3, none⟩ = some (.int .u64 (a1 : Int)) ∧ V.cell? ⟨b, off + 7, none⟩ = some (.slice ab (Option.getD (some nb) []).length cb) ∧ Seg V (.slice ab (Option.getD (some nb) []).length cb) (Option.getD (some nb) [])) := fun V hV => ⟨(hV.cell (p := ⟨b, off, none⟩) hbl).trans (hcells 0 a0 rfl).1, (hV.cell (p := ⟨b, off + 3, none⟩) hbl).trans (hcells 1 a1 rfl).1, (hV.cell (p := ⟨b, off + 7, none⟩) hbl).trans hbv, hsg.below hV (Nat.le_refl _)⟩
  have HLA : Hid (lastIs w (.slice (some ⟨b, off, none⟩) 3 c) (.slice ab (Option.getD (some nb) []).length cb)) := ⟨b, off, 2, c, rfl, hbl, hbv⟩
  have hz0 := zeroMess
  obtain ⟨MZ, hMZ⟩ : ∃ Z, Z = msA (kMs 0) (manL zeroM (.slice none 0 0)) (.slice none 0 0) := ⟨_, rfl⟩
  have hMK : MZ.setIfInBounds 0 (.int .i64 2) = msA (kMs 2) (manL zeroM (.slice none 0 0)) (.slice none 0 0) := by rw [hMZ]; simp [msA, msL, kMs]
  have HMZ : Hid (MZ = msA (kMs 0) (manL zeroM (.slice none 0 0)) (.slice none 0 0)) := hMZ
  have hmn : ¬ MZ = #[] := fun e => by
    have h := msZ_size (kMs 0)
    rw [← hMZ, e] at h
    cases h
  have hks : MZ.size = (MZ.setIfInBounds 0 (.int .i64 2)).size := by simp
  have hko : (MZ.setIfInBounds 0 (.int .i64 2)).all (·.oneCell') = true := by rw [hMK]; exact msZ_one _
  have hki : (Try.prog.info? 28).map (·.size) = some (MZ.setIfInBounds 0 (.int .i64 2)).size := by rw [hMK, msZ_size]; exact info_mess
  have HMK : Hid (MZ.setIfInBounds 0 (.int .i64 2) = msA (kMs 2) (manL zeroM (.slice none 0 0)) (.slice none 0 0)) := hMK
  rw [← hMZ] at hz0
  have hkB0 : Blk ((w.alloc (.cells MZ 28)).alloc (.cells MZ 28)) (w.heap.size + 1) 28 MZ := Blk.newAt _ _ _ _ (by simp)
  have hkR0 : Blk ((w.alloc (.cells MZ 28)).alloc (.cells MZ 28)) w.heap.size 28 MZ := (Blk.new w 28 MZ).alloc _
  have hB0 : Below w.heap.size w ((w.alloc (.cells MZ 28)).alloc (.cells MZ 28)) := ((Below.refl _ _).alloc (Nat.le_refl _) _).alloc (by simp) _
  have HNE : Hid (some w.heap.size ≠ some (w.heap.size + 1)) := by show some w.heap.size ≠ some (w.heap.size + 1); intro e; injection e with e; omega
  have HGE : Hid (∀ q, some (w.heap.size + 1) = some q → w.heap.size ≤ q) := fun q e => by injection e with e; omega
  have ix0 : ∀ w, (Instr.indexAt 42 (.slice (some ⟨b, off, none⟩) 3 c) (.int .i64 0)).run Try.prog w = .ok (.pointer (some ⟨b, off, none⟩)) w := fun w => index_vW b off 3 c 0 0 rfl (by omega) w
  have ix1 : ∀ w, (Instr.indexAt 42 (.slice (some ⟨b, off, none⟩) 3 c) (.int .i64 1)).run Try.prog w = .ok (.pointer (some ⟨b, off + 3, none⟩)) w := fun w => index_vW b off 3 c 1 1 rfl (by omega) w
  have ix2 : ∀ w, (Instr.indexAt 42 (.slice (some ⟨b, off, none⟩) 3 c) (.int .i64 2)).run Try.prog w = .ok (.pointer (some ⟨b, off + 6, none⟩)) w := fun w => index_vW b off 3 c 2 2 rfl (by omega) w
  have cv0 := fun w => conv_i64W a0 (by omega) w
  have cv1 := fun w => conv_i64W a1 (by omega) w
  clear hMZ hMK hcells hbv hsg hbl hbl2 hV
  go_enter Try.func26, Try.ntmps26
  go_wp2_with (first | (refine store_blk rfl 28 _ _ rfl rfl (w.heap.size + 1) (MZ.setIfInBounds 0 (.int .i64 2)) rfl rfl 28 MZ hkB0 hki hks hko ?_; intro W1 kB hg1 _; have kB := kB.of_eq HMK.out; have hBr := hB0; have kR := hkR0; have hBr : Below w.heap.size w W1 := below_grown hBr hg1 hBr.size HGE.out; have kR : Blk W1 w.heap.size 28 MZ := kR.grown hg1 HNE.out; obtain ⟨q0, q1, ql, _⟩ := HCL.out W1 hBr; clear hkB0 hkR0) | (refine store_intW rfl _ _ rfl rfl (w.heap.size + 1) _ _ rfl rfl 28 _ kB (by rw [msZ_size]; omega) ?_; intro W1 kB hg1; have kB := kB.of_eq (msA_set _ _ _ _ _ (by decide) (by decide)); have hBr : Below w.heap.size w W1 := below_grown hBr hg1 hBr.size HGE.out; have kR : Blk W1 w.heap.size 28 MZ := kR.grown hg1 HNE.out; obtain ⟨q0, q1, ql, _⟩ := HCL.out W1 hBr))
  refine (HMD W1 _ nb (HCL.out W1 hBr).2.2.2 hbl0).mono ?_
  rintro e w4 ⟨M, su, er, rfl, hdi, hb4⟩
  have HB4 : Hid (Below w.heap.size w w4) := hBr.trans (hb4.mono hBr.size)
  have kB4 := kB.below hb4 kB.lt
  have kR4 := kR.below hb4 kR.lt
  have HD4 : Hid (decIs w4 nb M su er) := hdi
  obtain ⟨hh, _, ⟨am, cm, hsu, _⟩, _⟩ := hdi
  subst hsu
  have hmi := manC_info M (.slice am M.u.length cm) hh
  have hmf : 8 + (manC M (.slice am M.u.length cm)).size ≤ (msA (setL (numK 2) [a0, a1] (kMs 2)) (manL zeroM (.slice none 0 0)) (.slice none 0 0)).size := by rw [msZ_size, manC_size _ _ hh]; omega
  have hmo := manC_one M (.slice am M.u.length cm) rfl
  have HSP : Hid ((splice (msA (setL (numK 2) [a0, a1] (kMs 2)) (manL zeroM (.slice none 0 0)) (.slice none 0 0)).toList 8 (manC M (.slice am M.u.length cm)).toList).toArray = msA (setL (numK 2) [a0, a1] (kMs 2)) (manL M (.slice am M.u.length cm)) (.slice none 0 0)) := msA_splice _ _ _ _ rfl (manL_len _ _ hh)
  have hmi2 := ms_info (setL (numK 2) [a0, a1] (kMs 2)) (manL M (.slice am M.u.length cm)) (.slice none 0 0) (manL_len _ _ hh)
  have hms2 : MZ.size = (msA (setL (numK 2) [a0, a1] (kMs 2)) (manL M (.slice am M.u.length cm)) (.slice none 0 0)).size := by rw [HMZ.out, msZ_size, msA_size _ _ _ (manL_len _ _ hh)]
  have hmo2 := msA_one (setL (numK 2) [a0, a1] (kMs 2)) (manL M (.slice am M.u.length cm)) (.slice none 0 0) (manL_one M am _ cm) rfl
  have hzm := zeroMan
  obtain ⟨NZ, hNZ⟩ : ∃ Z, Z = manC zeroM (.slice none 0 0) := ⟨_, rfl⟩
  have hsz : NZ.size = (manC M (.slice am M.u.length cm)).size := by rw [hNZ, manC_size _ _ rfl, manC_size _ _ hh]
  rw [← hNZ] at hzm
  have hnB : Hid (some (w.heap.size + 1) ≠ some w4.heap.size) := by have := kB4.lt; show some (w.heap.size + 1) ≠ some w4.heap.size; intro e; injection e with e; omega
  have hnR : Hid (some w.heap.size ≠ some w4.heap.size) := by have := kR4.lt; show some w.heap.size ≠ some w4.heap.size; intro e; injection e with e; omega
  have hbD := (Below.refl w4.heap.size w4).alloc (Nat.le_refl _) (.cells NZ 25)
  have HDB : Hid (∀ w5, Below w4.heap.size w4 w5 → decIs w5 nb M (.slice am M.u.length cm) er) := fun w5 hb => ⟨HD4.out.1, HD4.out.2.1, HD4.out.2.2.1.below hb (Nat.le_refl _), HD4.out.2.2.2⟩
  clear hNZ hb4 kB kR hBr
  go_wp2_with (first | (refine store_blk rfl 25 _ _ rfl rfl w4.heap.size (manC M (.slice am M.u.length cm)) rfl rfl 25 NZ (Blk.new w4 25 NZ) hmi hsz hmo ?_; intro w5 kD hg5 _; have kB := (kB4.alloc (.cells NZ 25)).grown hg5 hnB.out; have kR := (kR4.alloc (.cells NZ 25)).grown hg5 hnR.out; have hbD5 : Below w4.heap.size w4 w5 := below_grown hbD hg5 hbD.size (fun q hq => by cases hq; exact Nat.le_refl _); have hBr : Below w.heap.size w w5 := HB4.out.trans (hbD5.mono HB4.out.size); have hD5 := HDB.out w5 hbD5) | (refine wpList_load_row rfl 25 _ rfl w4.heap.size rfl 25 (manC M (.slice am M.u.length cm)) (0, 0) _ kD Try.underlying25 rfl hmi ?_) | (refine store_mid rfl 25 _ _ rfl rfl (w.heap.size + 1) 8 (manC M (.slice am M.u.length cm)) rfl rfl 28 _ kB hmi hmf hmo ?_; intro w6 kB6 hg6 _; have hD6 := decIs_grown hD5 kB hg6; have kB6 := kB6.of_eq HSP.out; have kR6 := kR.grown hg6 HNE.out; have hB6 : Below w.heap.size w w6 := below_grown hBr hg6 hBr.size HGE.out) | (refine wpList_load_row rfl 28 _ rfl (w.heap.size + 1) rfl 28 (msA (setL (numK 2) [a0, a1] (kMs 2)) (manL M (.slice am M.u.length cm)) (.slice none 0 0)) (0, 0) _ kB6 Try.underlying28 rfl hmi2 ?_) | (refine store_blk rfl 28 _ _ rfl rfl w.heap.size (msA (setL (numK 2) [a0, a1] (kMs 2)) (manL M (.slice am M.u.length cm)) (.slice none 0 0)) rfl rfl 28 MZ kR6 hmi2 hms2 hmo2 ?_; intro w9 kR9 hg9 _))
  have hB9 : Below w.heap.size w w9 := below_grown hB6 hg9 hB6.size (fun q hq => by cases hq; exact Nat.le_refl _)
  refine bodyPost_ret (results_pairK Try.results26 _ _ w.heap.size 28 (msA (setL (numK 2) [a0, a1] (kMs 2)) (manL M (.slice am M.u.length cm)) (.slice none 0 0)) (0, 0) _ _ rfl rfl kR9 Try.underlying28 rfl hmi2) rfl ?_
  exact ⟨.inl ⟨rfl, M, _, er, decIs_grown hD6 (kR6.of_eq HMZ.out) hg9, rfl⟩, hB9⟩
set_option maxRecDepth 100000 in
set_option maxHeartbeats 8000000 in
theorem made_4 (vv : Value) (a0 : Nat) (a1 : Nat) (a2 : Nat) (w : World) (hV : Vals w 4 vv (recV [a0, a1, a2] none)) (h0 : a0 ≤ 1073741824) (h1 : a1 ≤ 1073741824) (h2 : a2 ≤ 1073741824) :
    Calls Try.prog 26 #[.int .i64 4, vv] w fun e w' => madeIs w w' vv 4 [a0, a1, a2] none e ∧ Below w.heap.size w w' := by
  obtain ⟨b, off, c, hvv, hbl, hcells, bv, hbv, hsg⟩ := vals_at hV (by simp)
  have hvv : vv = .slice (some ⟨b, off, none⟩) 3 c := hvv
  subst hvv
  have hbl2 := hbl
  obtain ⟨ab, cb, rfl⟩ := hsg.shapeD
  have HCL : Hid (∀ V, Below w.heap.size w V → V.cell? ⟨b, off, none⟩ = some (.int .u64 (a0 : Int)) ∧ V.cell? ⟨b, off + 3, none⟩ = some (.int .u64 (a1 : Int)) ∧ V.cell? ⟨b, off + 6, none⟩ = some (.int .u64 (a2 : Int)) ∧ V.cell? ⟨b, off + 7, none⟩ = some (.slice ab (Option.getD none []).length cb) ∧ Seg V (.slice ab (Option.getD none []).length cb) (Option.getD none [])) := fun V hV => ⟨(hV.cell (p := ⟨b, off, none⟩) hbl).trans (hcells 0 a0 rfl).1, (hV.cell (p := ⟨b, off + 3, none⟩) hbl).trans (hcells 1 a1 rfl).1, (hV.cell (p := ⟨b, off + 6, none⟩) hbl).trans (hcells 2 a2 rfl).1, (hV.cell (p := ⟨b, off + 7, none⟩) hbl).trans hbv, hsg.below hV (Nat.le_refl _)⟩
  have HLA : Hid (lastIs w (.slice (some ⟨b, off, none⟩) 3 c) (.slice ab (Option.getD none []).length cb)) := ⟨b, off, 2, c, rfl, hbl, hbv⟩
  have hz0 := zeroMess
  obtain ⟨MZ, hMZ⟩ : ∃ Z, Z = msA (kMs 0) (manL zeroM (.slice none 0 0)) (.slice none 0 0) := ⟨_, rfl⟩
  have hMK : MZ.setIfInBounds 0 (.int .i64 4) = msA (kMs 4) (manL zeroM (.slice none 0 0)) (.slice none 0 0) := by rw [hMZ]; simp [msA, msL, kMs]
  have HMZ : Hid (MZ = msA (kMs 0) (manL zeroM (.slice none 0 0)) (.slice none 0 0)) := hMZ
  have hmn : ¬ MZ = #[] := fun e => by
    have h := msZ_size (kMs 0)
    rw [← hMZ, e] at h
    cases h
  have hks : MZ.size = (MZ.setIfInBounds 0 (.int .i64 4)).size := by simp
  have hko : (MZ.setIfInBounds 0 (.int .i64 4)).all (·.oneCell') = true := by rw [hMK]; exact msZ_one _
  have hki : (Try.prog.info? 28).map (·.size) = some (MZ.setIfInBounds 0 (.int .i64 4)).size := by rw [hMK, msZ_size]; exact info_mess
  have HMK : Hid (MZ.setIfInBounds 0 (.int .i64 4) = msA (kMs 4) (manL zeroM (.slice none 0 0)) (.slice none 0 0)) := hMK
  rw [← hMZ] at hz0
  have hkB0 : Blk ((w.alloc (.cells MZ 28)).alloc (.cells MZ 28)) (w.heap.size + 1) 28 MZ := Blk.newAt _ _ _ _ (by simp)
  have hkR0 : Blk ((w.alloc (.cells MZ 28)).alloc (.cells MZ 28)) w.heap.size 28 MZ := (Blk.new w 28 MZ).alloc _
  have hB0 : Below w.heap.size w ((w.alloc (.cells MZ 28)).alloc (.cells MZ 28)) := ((Below.refl _ _).alloc (Nat.le_refl _) _).alloc (by simp) _
  have HNE : Hid (some w.heap.size ≠ some (w.heap.size + 1)) := by show some w.heap.size ≠ some (w.heap.size + 1); intro e; injection e with e; omega
  have HGE : Hid (∀ q, some (w.heap.size + 1) = some q → w.heap.size ≤ q) := fun q e => by injection e with e; omega
  have ix0 : ∀ w, (Instr.indexAt 42 (.slice (some ⟨b, off, none⟩) 3 c) (.int .i64 0)).run Try.prog w = .ok (.pointer (some ⟨b, off, none⟩)) w := fun w => index_vW b off 3 c 0 0 rfl (by omega) w
  have ix1 : ∀ w, (Instr.indexAt 42 (.slice (some ⟨b, off, none⟩) 3 c) (.int .i64 1)).run Try.prog w = .ok (.pointer (some ⟨b, off + 3, none⟩)) w := fun w => index_vW b off 3 c 1 1 rfl (by omega) w
  have ix2 : ∀ w, (Instr.indexAt 42 (.slice (some ⟨b, off, none⟩) 3 c) (.int .i64 2)).run Try.prog w = .ok (.pointer (some ⟨b, off + 6, none⟩)) w := fun w => index_vW b off 3 c 2 2 rfl (by omega) w
  have cv0 := fun w => conv_i64W a0 (by omega) w
  have cv1 := fun w => conv_i64W a1 (by omega) w
  have cv2 := fun w => conv_i64W a2 (by omega) w
  have hmi2 := ms_info (setL (numK 4) [a0, a1, a2] (kMs 4)) (manL zeroM (.slice none 0 0)) (.slice none 0 0) rfl
  have hms2 : MZ.size = (msA (setL (numK 4) [a0, a1, a2] (kMs 4)) (manL zeroM (.slice none 0 0)) (.slice none 0 0)).size := by rw [HMZ.out, msZ_size, msA_size _ _ _ rfl]
  have hmo2 := msA_one (setL (numK 4) [a0, a1, a2] (kMs 4)) (manL zeroM (.slice none 0 0)) (.slice none 0 0) (manL_one zeroM none 0 0) rfl
  clear hMZ hMK hcells hbv hsg hbl hbl2 hV
  go_enter Try.func26, Try.ntmps26
  go_wp2_with (first | (refine store_blk rfl 28 _ _ rfl rfl (w.heap.size + 1) (MZ.setIfInBounds 0 (.int .i64 4)) rfl rfl 28 MZ hkB0 hki hks hko ?_; intro W1 kB hg1 _; have kB := kB.of_eq HMK.out; have hBr := hB0; have kR := hkR0; have hBr : Below w.heap.size w W1 := below_grown hBr hg1 hBr.size HGE.out; have kR : Blk W1 w.heap.size 28 MZ := kR.grown hg1 HNE.out; obtain ⟨q0, q1, q2, ql, _⟩ := HCL.out W1 hBr; clear hkB0 hkR0) | (refine store_intW rfl _ _ rfl rfl (w.heap.size + 1) _ _ rfl rfl 28 _ kB (by rw [msZ_size]; omega) ?_; intro W1 kB hg1; have kB := kB.of_eq (msA_set _ _ _ _ _ (by decide) (by decide)); have hBr : Below w.heap.size w W1 := below_grown hBr hg1 hBr.size HGE.out; have kR : Blk W1 w.heap.size 28 MZ := kR.grown hg1 HNE.out; obtain ⟨q0, q1, q2, ql, _⟩ := HCL.out W1 hBr) | (refine wpList_load_row rfl 28 _ rfl (w.heap.size + 1) rfl 28 (msA (setL (numK 4) [a0, a1, a2] (kMs 4)) (manL zeroM (.slice none 0 0)) (.slice none 0 0)) (0, 0) _ kB Try.underlying28 rfl (ms_info _ _ _ rfl) ?_) | (refine store_blk rfl 28 _ _ rfl rfl w.heap.size (msA (setL (numK 4) [a0, a1, a2] (kMs 4)) (manL zeroM (.slice none 0 0)) (.slice none 0 0)) rfl rfl 28 MZ kR hmi2 hms2 hmo2 ?_; intro w9 kR9 hg9 _))
  have hB9 : Below w.heap.size w w9 := below_grown hBr hg9 hBr.size (fun q hq => by cases hq; exact Nat.le_refl _)
  refine bodyPost_ret (results_pairK Try.results26 _ _ w.heap.size 28 (msA (setL (numK 4) [a0, a1, a2] (kMs 4)) (manL zeroM (.slice none 0 0)) (.slice none 0 0)) (0, 0) _ _ rfl rfl kR9 Try.underlying28 rfl hmi2) rfl ?_
  exact ⟨.inr (.inr ⟨by decide, rfl⟩), hB9⟩
set_option maxRecDepth 100000 in
set_option maxHeartbeats 8000000 in
theorem made_5 (vv : Value) (a0 : Nat) (a1 : Nat) (a2 : Nat) (nb : List UInt8) (w : World) (hV : Vals w 4 vv (recV [a0, a1, a2] (some nb))) (h0 : a0 ≤ 1073741824) (h1 : a1 ≤ 1073741824) (h2 : a2 ≤ 1073741824) :
    Calls Try.prog 26 #[.int .i64 5, vv] w fun e w' => madeIs w w' vv 5 [a0, a1, a2] (some nb) e ∧ Below w.heap.size w w' := by
  obtain ⟨b, off, c, hvv, hbl, hcells, bv, hbv, hsg⟩ := vals_at hV (by simp)
  have hvv : vv = .slice (some ⟨b, off, none⟩) 4 c := hvv
  subst hvv
  have hbl2 := hbl
  obtain ⟨ab, cb, rfl⟩ := hsg.shapeD
  have HCL : Hid (∀ V, Below w.heap.size w V → V.cell? ⟨b, off, none⟩ = some (.int .u64 (a0 : Int)) ∧ V.cell? ⟨b, off + 3, none⟩ = some (.int .u64 (a1 : Int)) ∧ V.cell? ⟨b, off + 6, none⟩ = some (.int .u64 (a2 : Int)) ∧ V.cell? ⟨b, off + 10, none⟩ = some (.slice ab (Option.getD (some nb) []).length cb) ∧ Seg V (.slice ab (Option.getD (some nb) []).length cb) (Option.getD (some nb) [])) := fun V hV => ⟨(hV.cell (p := ⟨b, off, none⟩) hbl).trans (hcells 0 a0 rfl).1, (hV.cell (p := ⟨b, off + 3, none⟩) hbl).trans (hcells 1 a1 rfl).1, (hV.cell (p := ⟨b, off + 6, none⟩) hbl).trans (hcells 2 a2 rfl).1, (hV.cell (p := ⟨b, off + 10, none⟩) hbl).trans hbv, hsg.below hV (Nat.le_refl _)⟩
  have HLA : Hid (lastIs w (.slice (some ⟨b, off, none⟩) 4 c) (.slice ab (Option.getD (some nb) []).length cb)) := ⟨b, off, 3, c, rfl, hbl, hbv⟩
  have hz0 := zeroMess
  obtain ⟨MZ, hMZ⟩ : ∃ Z, Z = msA (kMs 0) (manL zeroM (.slice none 0 0)) (.slice none 0 0) := ⟨_, rfl⟩
  have hMK : MZ.setIfInBounds 0 (.int .i64 5) = msA (kMs 5) (manL zeroM (.slice none 0 0)) (.slice none 0 0) := by rw [hMZ]; simp [msA, msL, kMs]
  have HMZ : Hid (MZ = msA (kMs 0) (manL zeroM (.slice none 0 0)) (.slice none 0 0)) := hMZ
  have hmn : ¬ MZ = #[] := fun e => by
    have h := msZ_size (kMs 0)
    rw [← hMZ, e] at h
    cases h
  have hks : MZ.size = (MZ.setIfInBounds 0 (.int .i64 5)).size := by simp
  have hko : (MZ.setIfInBounds 0 (.int .i64 5)).all (·.oneCell') = true := by rw [hMK]; exact msZ_one _
  have hki : (Try.prog.info? 28).map (·.size) = some (MZ.setIfInBounds 0 (.int .i64 5)).size := by rw [hMK, msZ_size]; exact info_mess
  have HMK : Hid (MZ.setIfInBounds 0 (.int .i64 5) = msA (kMs 5) (manL zeroM (.slice none 0 0)) (.slice none 0 0)) := hMK
  rw [← hMZ] at hz0
  have hkB0 : Blk ((w.alloc (.cells MZ 28)).alloc (.cells MZ 28)) (w.heap.size + 1) 28 MZ := Blk.newAt _ _ _ _ (by simp)
  have hkR0 : Blk ((w.alloc (.cells MZ 28)).alloc (.cells MZ 28)) w.heap.size 28 MZ := (Blk.new w 28 MZ).alloc _
  have hB0 : Below w.heap.size w ((w.alloc (.cells MZ 28)).alloc (.cells MZ 28)) := ((Below.refl _ _).alloc (Nat.le_refl _) _).alloc (by simp) _
  have HNE : Hid (some w.heap.size ≠ some (w.heap.size + 1)) := by show some w.heap.size ≠ some (w.heap.size + 1); intro e; injection e with e; omega
  have HGE : Hid (∀ q, some (w.heap.size + 1) = some q → w.heap.size ≤ q) := fun q e => by injection e with e; omega
  have ix0 : ∀ w, (Instr.indexAt 42 (.slice (some ⟨b, off, none⟩) 4 c) (.int .i64 0)).run Try.prog w = .ok (.pointer (some ⟨b, off, none⟩)) w := fun w => index_vW b off 4 c 0 0 rfl (by omega) w
  have ix1 : ∀ w, (Instr.indexAt 42 (.slice (some ⟨b, off, none⟩) 4 c) (.int .i64 1)).run Try.prog w = .ok (.pointer (some ⟨b, off + 3, none⟩)) w := fun w => index_vW b off 4 c 1 1 rfl (by omega) w
  have ix2 : ∀ w, (Instr.indexAt 42 (.slice (some ⟨b, off, none⟩) 4 c) (.int .i64 2)).run Try.prog w = .ok (.pointer (some ⟨b, off + 6, none⟩)) w := fun w => index_vW b off 4 c 2 2 rfl (by omega) w
  have ix3 : ∀ w, (Instr.indexAt 42 (.slice (some ⟨b, off, none⟩) 4 c) (.int .i64 3)).run Try.prog w = .ok (.pointer (some ⟨b, off + 9, none⟩)) w := fun w => index_vW b off 4 c 3 3 rfl (by omega) w
  have cv0 := fun w => conv_i64W a0 (by omega) w
  have cv1 := fun w => conv_i64W a1 (by omega) w
  have cv2 := fun w => conv_i64W a2 (by omega) w
  have hmi2 := ms_info (setL (numK 5) [a0, a1, a2] (kMs 5)) (manL zeroM (.slice none 0 0)) (.slice ab (Option.getD (some nb) []).length cb) rfl
  have hms2 : MZ.size = (msA (setL (numK 5) [a0, a1, a2] (kMs 5)) (manL zeroM (.slice none 0 0)) (.slice ab (Option.getD (some nb) []).length cb)).size := by rw [HMZ.out, msZ_size, msA_size _ _ _ rfl]
  have hmo2 := msA_one (setL (numK 5) [a0, a1, a2] (kMs 5)) (manL zeroM (.slice none 0 0)) (.slice ab (Option.getD (some nb) []).length cb) (manL_one zeroM none 0 0) rfl
  clear hMZ hMK hcells hbv hsg hbl hbl2 hV
  go_enter Try.func26, Try.ntmps26
  go_wp2_with (first | (refine store_blk rfl 28 _ _ rfl rfl (w.heap.size + 1) (MZ.setIfInBounds 0 (.int .i64 5)) rfl rfl 28 MZ hkB0 hki hks hko ?_; intro W1 kB hg1 _; have kB := kB.of_eq HMK.out; have hBr := hB0; have kR := hkR0; have hBr : Below w.heap.size w W1 := below_grown hBr hg1 hBr.size HGE.out; have kR : Blk W1 w.heap.size 28 MZ := kR.grown hg1 HNE.out; obtain ⟨q0, q1, q2, ql, _⟩ := HCL.out W1 hBr; clear hkB0 hkR0) | (refine store_intW rfl _ _ rfl rfl (w.heap.size + 1) _ _ rfl rfl 28 _ kB (by rw [msZ_size]; omega) ?_; intro W1 kB hg1; have kB := kB.of_eq (msA_set _ _ _ _ _ (by decide) (by decide)); have hBr : Below w.heap.size w W1 := below_grown hBr hg1 hBr.size HGE.out; have kR : Blk W1 w.heap.size 28 MZ := kR.grown hg1 HNE.out; obtain ⟨q0, q1, q2, ql, _⟩ := HCL.out W1 hBr) | (refine store_bytW rfl _ _ rfl rfl (w.heap.size + 1) 44 ab (Option.getD (some nb) []).length cb rfl rfl 28 _ kB (by rw [msZ_size]; omega) ?_; intro W1 kB hg1; have kB := kB.of_eq (msA_bset _ _); have hBr : Below w.heap.size w W1 := below_grown hBr hg1 hBr.size HGE.out; have kR : Blk W1 w.heap.size 28 MZ := kR.grown hg1 HNE.out; obtain ⟨q0, q1, q2, ql, _⟩ := HCL.out W1 hBr) | (refine wpList_load_row rfl 28 _ rfl (w.heap.size + 1) rfl 28 (msA (setL (numK 5) [a0, a1, a2] (kMs 5)) (manL zeroM (.slice none 0 0)) (.slice ab (Option.getD (some nb) []).length cb)) (0, 0) _ kB Try.underlying28 rfl (ms_info _ _ _ rfl) ?_) | (refine store_blk rfl 28 _ _ rfl rfl w.heap.size (msA (setL (numK 5) [a0, a1, a2] (kMs 5)) (manL zeroM (.slice none 0 0)) (.slice ab (Option.getD (some nb) []).length cb)) rfl rfl 28 MZ kR hmi2 hms2 hmo2 ?_; intro w9 kR9 hg9 _))
  have hB9 : Below w.heap.size w w9 := below_grown hBr hg9 hBr.size (fun q hq => by cases hq; exact Nat.le_refl _)
  refine bodyPost_ret (results_pairK Try.results26 _ _ w.heap.size 28 (msA (setL (numK 5) [a0, a1, a2] (kMs 5)) (manL zeroM (.slice none 0 0)) (.slice ab (Option.getD (some nb) []).length cb)) (0, 0) _ _ rfl rfl kR9 Try.underlying28 rfl hmi2) rfl ?_
  exact ⟨.inr (.inl ⟨rfl, ab, cb, (HCL.out w9 hB9).2.2.2.2, HLA.out, rfl⟩), hB9⟩
set_option maxRecDepth 100000 in
set_option maxHeartbeats 8000000 in
theorem made_6 (vv : Value) (a0 : Nat) (a1 : Nat) (a2 : Nat) (a3 : Nat) (a4 : Nat) (a5 : Nat) (w : World) (hV : Vals w 4 vv (recV [a0, a1, a2, a3, a4, a5] none)) (h0 : a0 ≤ 1073741824) (h1 : a1 ≤ 1073741824) (h2 : a2 ≤ 1073741824) (h3 : a3 ≤ 1073741824) (h4 : a4 ≤ 1073741824) (h5 : a5 ≤ 1073741824) :
    Calls Try.prog 26 #[.int .i64 6, vv] w fun e w' => madeIs w w' vv 6 [a0, a1, a2, a3, a4, a5] none e ∧ Below w.heap.size w w' := by
  obtain ⟨b, off, c, hvv, hbl, hcells, bv, hbv, hsg⟩ := vals_at hV (by simp)
  have hvv : vv = .slice (some ⟨b, off, none⟩) 6 c := hvv
  subst hvv
  have hbl2 := hbl
  obtain ⟨ab, cb, rfl⟩ := hsg.shapeD
  have HCL : Hid (∀ V, Below w.heap.size w V → V.cell? ⟨b, off, none⟩ = some (.int .u64 (a0 : Int)) ∧ V.cell? ⟨b, off + 3, none⟩ = some (.int .u64 (a1 : Int)) ∧ V.cell? ⟨b, off + 6, none⟩ = some (.int .u64 (a2 : Int)) ∧ V.cell? ⟨b, off + 9, none⟩ = some (.int .u64 (a3 : Int)) ∧ V.cell? ⟨b, off + 12, none⟩ = some (.int .u64 (a4 : Int)) ∧ V.cell? ⟨b, off + 15, none⟩ = some (.int .u64 (a5 : Int)) ∧ V.cell? ⟨b, off + 16, none⟩ = some (.slice ab (Option.getD none []).length cb) ∧ Seg V (.slice ab (Option.getD none []).length cb) (Option.getD none [])) := fun V hV => ⟨(hV.cell (p := ⟨b, off, none⟩) hbl).trans (hcells 0 a0 rfl).1, (hV.cell (p := ⟨b, off + 3, none⟩) hbl).trans (hcells 1 a1 rfl).1, (hV.cell (p := ⟨b, off + 6, none⟩) hbl).trans (hcells 2 a2 rfl).1, (hV.cell (p := ⟨b, off + 9, none⟩) hbl).trans (hcells 3 a3 rfl).1, (hV.cell (p := ⟨b, off + 12, none⟩) hbl).trans (hcells 4 a4 rfl).1, (hV.cell (p := ⟨b, off + 15, none⟩) hbl).trans (hcells 5 a5 rfl).1, (hV.cell (p := ⟨b, off + 16, none⟩) hbl).trans hbv, hsg.below hV (Nat.le_refl _)⟩
  have HLA : Hid (lastIs w (.slice (some ⟨b, off, none⟩) 6 c) (.slice ab (Option.getD none []).length cb)) := ⟨b, off, 5, c, rfl, hbl, hbv⟩
  have hz0 := zeroMess
  obtain ⟨MZ, hMZ⟩ : ∃ Z, Z = msA (kMs 0) (manL zeroM (.slice none 0 0)) (.slice none 0 0) := ⟨_, rfl⟩
  have hMK : MZ.setIfInBounds 0 (.int .i64 6) = msA (kMs 6) (manL zeroM (.slice none 0 0)) (.slice none 0 0) := by rw [hMZ]; simp [msA, msL, kMs]
  have HMZ : Hid (MZ = msA (kMs 0) (manL zeroM (.slice none 0 0)) (.slice none 0 0)) := hMZ
  have hmn : ¬ MZ = #[] := fun e => by
    have h := msZ_size (kMs 0)
    rw [← hMZ, e] at h
    cases h
  have hks : MZ.size = (MZ.setIfInBounds 0 (.int .i64 6)).size := by simp
  have hko : (MZ.setIfInBounds 0 (.int .i64 6)).all (·.oneCell') = true := by rw [hMK]; exact msZ_one _
  have hki : (Try.prog.info? 28).map (·.size) = some (MZ.setIfInBounds 0 (.int .i64 6)).size := by rw [hMK, msZ_size]; exact info_mess
  have HMK : Hid (MZ.setIfInBounds 0 (.int .i64 6) = msA (kMs 6) (manL zeroM (.slice none 0 0)) (.slice none 0 0)) := hMK
  rw [← hMZ] at hz0
  have hkB0 : Blk ((w.alloc (.cells MZ 28)).alloc (.cells MZ 28)) (w.heap.size + 1) 28 MZ := Blk.newAt _ _ _ _ (by simp)
  have hkR0 : Blk ((w.alloc (.cells MZ 28)).alloc (.cells MZ 28)) w.heap.size 28 MZ := (Blk.new w 28 MZ).alloc _
  have hB0 : Below w.heap.size w ((w.alloc (.cells MZ 28)).alloc (.cells MZ 28)) := ((Below.refl _ _).alloc (Nat.le_refl _) _).alloc (by simp) _
  have HNE : Hid (some w.heap.size ≠ some (w.heap.size + 1)) := by show some w.heap.size ≠ some (w.heap.size + 1); intro e; injection e with e; omega
  have HGE : Hid (∀ q, some (w.heap.size + 1) = some q → w.heap.size ≤ q) := fun q e => by injection e with e; omega
  have ix0 : ∀ w, (Instr.indexAt 42 (.slice (some ⟨b, off, none⟩) 6 c) (.int .i64 0)).run Try.prog w = .ok (.pointer (some ⟨b, off, none⟩)) w := fun w => index_vW b off 6 c 0 0 rfl (by omega) w
  have ix1 : ∀ w, (Instr.indexAt 42 (.slice (some ⟨b, off, none⟩) 6 c) (.int .i64 1)).run Try.prog w = .ok (.pointer (some ⟨b, off + 3, none⟩)) w := fun w => index_vW b off 6 c 1 1 rfl (by omega) w
  have ix2 : ∀ w, (Instr.indexAt 42 (.slice (some ⟨b, off, none⟩) 6 c) (.int .i64 2)).run Try.prog w = .ok (.pointer (some ⟨b, off + 6, none⟩)) w := fun w => index_vW b off 6 c 2 2 rfl (by omega) w
  have ix3 : ∀ w, (Instr.indexAt 42 (.slice (some ⟨b, off, none⟩) 6 c) (.int .i64 3)).run Try.prog w = .ok (.pointer (some ⟨b, off + 9, none⟩)) w := fun w => index_vW b off 6 c 3 3 rfl (by omega) w
  have ix4 : ∀ w, (Instr.indexAt 42 (.slice (some ⟨b, off, none⟩) 6 c) (.int .i64 4)).run Try.prog w = .ok (.pointer (some ⟨b, off + 12, none⟩)) w := fun w => index_vW b off 6 c 4 4 rfl (by omega) w
  have ix5 : ∀ w, (Instr.indexAt 42 (.slice (some ⟨b, off, none⟩) 6 c) (.int .i64 5)).run Try.prog w = .ok (.pointer (some ⟨b, off + 15, none⟩)) w := fun w => index_vW b off 6 c 5 5 rfl (by omega) w
  have cv0 := fun w => conv_i64W a0 (by omega) w
  have cv1 := fun w => conv_i64W a1 (by omega) w
  have cv2 := fun w => conv_i64W a2 (by omega) w
  have cv3 := fun w => conv_i64W a3 (by omega) w
  have cv4 := fun w => conv_i64W a4 (by omega) w
  have cv5 := fun w => conv_i64W a5 (by omega) w
  have hmi2 := ms_info (setL (numK 6) [a0, a1, a2, a3, a4, a5] (kMs 6)) (manL zeroM (.slice none 0 0)) (.slice none 0 0) rfl
  have hms2 : MZ.size = (msA (setL (numK 6) [a0, a1, a2, a3, a4, a5] (kMs 6)) (manL zeroM (.slice none 0 0)) (.slice none 0 0)).size := by rw [HMZ.out, msZ_size, msA_size _ _ _ rfl]
  have hmo2 := msA_one (setL (numK 6) [a0, a1, a2, a3, a4, a5] (kMs 6)) (manL zeroM (.slice none 0 0)) (.slice none 0 0) (manL_one zeroM none 0 0) rfl
  clear hMZ hMK hcells hbv hsg hbl hbl2 hV
  go_enter Try.func26, Try.ntmps26
  go_wp2_with (first | (refine store_blk rfl 28 _ _ rfl rfl (w.heap.size + 1) (MZ.setIfInBounds 0 (.int .i64 6)) rfl rfl 28 MZ hkB0 hki hks hko ?_; intro W1 kB hg1 _; have kB := kB.of_eq HMK.out; have hBr := hB0; have kR := hkR0; have hBr : Below w.heap.size w W1 := below_grown hBr hg1 hBr.size HGE.out; have kR : Blk W1 w.heap.size 28 MZ := kR.grown hg1 HNE.out; obtain ⟨q0, q1, q2, q3, q4, q5, ql, _⟩ := HCL.out W1 hBr; clear hkB0 hkR0) | (refine store_intW rfl _ _ rfl rfl (w.heap.size + 1) _ _ rfl rfl 28 _ kB (by rw [msZ_size]; omega) ?_; intro W1 kB hg1; have kB := kB.of_eq (msA_set _ _ _ _ _ (by decide) (by decide)); have hBr : Below w.heap.size w W1 := below_grown hBr hg1 hBr.size HGE.out; have kR : Blk W1 w.heap.size 28 MZ := kR.grown hg1 HNE.out; obtain ⟨q0, q1, q2, q3, q4, q5, ql, _⟩ := HCL.out W1 hBr) | (refine wpList_load_row rfl 28 _ rfl (w.heap.size + 1) rfl 28 (msA (setL (numK 6) [a0, a1, a2, a3, a4, a5] (kMs 6)) (manL zeroM (.slice none 0 0)) (.slice none 0 0)) (0, 0) _ kB Try.underlying28 rfl (ms_info _ _ _ rfl) ?_) | (refine store_blk rfl 28 _ _ rfl rfl w.heap.size (msA (setL (numK 6) [a0, a1, a2, a3, a4, a5] (kMs 6)) (manL zeroM (.slice none 0 0)) (.slice none 0 0)) rfl rfl 28 MZ kR hmi2 hms2 hmo2 ?_; intro w9 kR9 hg9 _))
  have hB9 : Below w.heap.size w w9 := below_grown hBr hg9 hBr.size (fun q hq => by cases hq; exact Nat.le_refl _)
  refine bodyPost_ret (results_pairK Try.results26 _ _ w.heap.size 28 (msA (setL (numK 6) [a0, a1, a2, a3, a4, a5] (kMs 6)) (manL zeroM (.slice none 0 0)) (.slice none 0 0)) (0, 0) _ _ rfl rfl kR9 Try.underlying28 rfl hmi2) rfl ?_
  exact ⟨.inr (.inr ⟨by decide, rfl⟩), hB9⟩
set_option maxRecDepth 100000 in
set_option maxHeartbeats 8000000 in
theorem made_7 (vv : Value) (a0 : Nat) (w : World) (hV : Vals w 4 vv (recV [a0] none)) (h0 : a0 ≤ 1073741824) :
    Calls Try.prog 26 #[.int .i64 7, vv] w fun e w' => madeIs w w' vv 7 [a0] none e ∧ Below w.heap.size w w' := by
  obtain ⟨b, off, c, hvv, hbl, hcells, bv, hbv, hsg⟩ := vals_at hV (by simp)
  have hvv : vv = .slice (some ⟨b, off, none⟩) 1 c := hvv
  subst hvv
  have hbl2 := hbl
  obtain ⟨ab, cb, rfl⟩ := hsg.shapeD
  have HCL : Hid (∀ V, Below w.heap.size w V → V.cell? ⟨b, off, none⟩ = some (.int .u64 (a0 : Int)) ∧ V.cell? ⟨b, off + 1, none⟩ = some (.slice ab (Option.getD none []).length cb) ∧ Seg V (.slice ab (Option.getD none []).length cb) (Option.getD none [])) := fun V hV => ⟨(hV.cell (p := ⟨b, off, none⟩) hbl).trans (hcells 0 a0 rfl).1, (hV.cell (p := ⟨b, off + 1, none⟩) hbl).trans hbv, hsg.below hV (Nat.le_refl _)⟩
  have HLA : Hid (lastIs w (.slice (some ⟨b, off, none⟩) 1 c) (.slice ab (Option.getD none []).length cb)) := ⟨b, off, 0, c, rfl, hbl, hbv⟩
  have hz0 := zeroMess
  obtain ⟨MZ, hMZ⟩ : ∃ Z, Z = msA (kMs 0) (manL zeroM (.slice none 0 0)) (.slice none 0 0) := ⟨_, rfl⟩
  have hMK : MZ.setIfInBounds 0 (.int .i64 7) = msA (kMs 7) (manL zeroM (.slice none 0 0)) (.slice none 0 0) := by rw [hMZ]; simp [msA, msL, kMs]
  have HMZ : Hid (MZ = msA (kMs 0) (manL zeroM (.slice none 0 0)) (.slice none 0 0)) := hMZ
  have hmn : ¬ MZ = #[] := fun e => by
    have h := msZ_size (kMs 0)
    rw [← hMZ, e] at h
    cases h
  have hks : MZ.size = (MZ.setIfInBounds 0 (.int .i64 7)).size := by simp
  have hko : (MZ.setIfInBounds 0 (.int .i64 7)).all (·.oneCell') = true := by rw [hMK]; exact msZ_one _
  have hki : (Try.prog.info? 28).map (·.size) = some (MZ.setIfInBounds 0 (.int .i64 7)).size := by rw [hMK, msZ_size]; exact info_mess
  have HMK : Hid (MZ.setIfInBounds 0 (.int .i64 7) = msA (kMs 7) (manL zeroM (.slice none 0 0)) (.slice none 0 0)) := hMK
  rw [← hMZ] at hz0
  have hkB0 : Blk ((w.alloc (.cells MZ 28)).alloc (.cells MZ 28)) (w.heap.size + 1) 28 MZ := Blk.newAt _ _ _ _ (by simp)
  have hkR0 : Blk ((w.alloc (.cells MZ 28)).alloc (.cells MZ 28)) w.heap.size 28 MZ := (Blk.new w 28 MZ).alloc _
  have hB0 : Below w.heap.size w ((w.alloc (.cells MZ 28)).alloc (.cells MZ 28)) := ((Below.refl _ _).alloc (Nat.le_refl _) _).alloc (by simp) _
  have HNE : Hid (some w.heap.size ≠ some (w.heap.size + 1)) := by show some w.heap.size ≠ some (w.heap.size + 1); intro e; injection e with e; omega
  have HGE : Hid (∀ q, some (w.heap.size + 1) = some q → w.heap.size ≤ q) := fun q e => by injection e with e; omega
  have ix0 : ∀ w, (Instr.indexAt 42 (.slice (some ⟨b, off, none⟩) 1 c) (.int .i64 0)).run Try.prog w = .ok (.pointer (some ⟨b, off, none⟩)) w := fun w => index_vW b off 1 c 0 0 rfl (by omega) w
  have cv0 := fun w => conv_i64W a0 (by omega) w
  have hmi2 := ms_info (setL (numK 7) [a0] (kMs 7)) (manL zeroM (.slice none 0 0)) (.slice none 0 0) rfl
  have hms2 : MZ.size = (msA (setL (numK 7) [a0] (kMs 7)) (manL zeroM (.slice none 0 0)) (.slice none 0 0)).size := by rw [HMZ.out, msZ_size, msA_size _ _ _ rfl]
  have hmo2 := msA_one (setL (numK 7) [a0] (kMs 7)) (manL zeroM (.slice none 0 0)) (.slice none 0 0) (manL_one zeroM none 0 0) rfl
  clear hMZ hMK hcells hbv hsg hbl hbl2 hV
  go_enter Try.func26, Try.ntmps26
  go_wp2_with (first | (refine store_blk rfl 28 _ _ rfl rfl (w.heap.size + 1) (MZ.setIfInBounds 0 (.int .i64 7)) rfl rfl 28 MZ hkB0 hki hks hko ?_; intro W1 kB hg1 _; have kB := kB.of_eq HMK.out; have hBr := hB0; have kR := hkR0; have hBr : Below w.heap.size w W1 := below_grown hBr hg1 hBr.size HGE.out; have kR : Blk W1 w.heap.size 28 MZ := kR.grown hg1 HNE.out; obtain ⟨q0, ql, _⟩ := HCL.out W1 hBr; clear hkB0 hkR0) | (refine store_intW rfl _ _ rfl rfl (w.heap.size + 1) _ _ rfl rfl 28 _ kB (by rw [msZ_size]; omega) ?_; intro W1 kB hg1; have kB := kB.of_eq (msA_set _ _ _ _ _ (by decide) (by decide)); have hBr : Below w.heap.size w W1 := below_grown hBr hg1 hBr.size HGE.out; have kR : Blk W1 w.heap.size 28 MZ := kR.grown hg1 HNE.out; obtain ⟨q0, ql, _⟩ := HCL.out W1 hBr) | (refine wpList_load_row rfl 28 _ rfl (w.heap.size + 1) rfl 28 (msA (setL (numK 7) [a0] (kMs 7)) (manL zeroM (.slice none 0 0)) (.slice none 0 0)) (0, 0) _ kB Try.underlying28 rfl (ms_info _ _ _ rfl) ?_) | (refine store_blk rfl 28 _ _ rfl rfl w.heap.size (msA (setL (numK 7) [a0] (kMs 7)) (manL zeroM (.slice none 0 0)) (.slice none 0 0)) rfl rfl 28 MZ kR hmi2 hms2 hmo2 ?_; intro w9 kR9 hg9 _))
  have hB9 : Below w.heap.size w w9 := below_grown hBr hg9 hBr.size (fun q hq => by cases hq; exact Nat.le_refl _)
  refine bodyPost_ret (results_pairK Try.results26 _ _ w.heap.size 28 (msA (setL (numK 7) [a0] (kMs 7)) (manL zeroM (.slice none 0 0)) (.slice none 0 0)) (0, 0) _ _ rfl rfl kR9 Try.underlying28 rfl hmi2) rfl ?_
  exact ⟨.inr (.inr ⟨by decide, rfl⟩), hB9⟩
set_option maxRecDepth 100000 in
set_option maxHeartbeats 8000000 in
theorem made_8 (vv : Value) (a0 : Nat) (a1 : Nat) (w : World) (hV : Vals w 4 vv (recV [a0, a1] none)) (h0 : a0 ≤ 1073741824) (h1 : a1 ≤ 1073741824) :
    Calls Try.prog 26 #[.int .i64 8, vv] w fun e w' => madeIs w w' vv 8 [a0, a1] none e ∧ Below w.heap.size w w' := by
  obtain ⟨b, off, c, hvv, hbl, hcells, bv, hbv, hsg⟩ := vals_at hV (by simp)
  have hvv : vv = .slice (some ⟨b, off, none⟩) 2 c := hvv
  subst hvv
  have hbl2 := hbl
  obtain ⟨ab, cb, rfl⟩ := hsg.shapeD
  have HCL : Hid (∀ V, Below w.heap.size w V → V.cell? ⟨b, off, none⟩ = some (.int .u64 (a0 : Int)) ∧ V.cell? ⟨b, off + 3, none⟩ = some (.int .u64 (a1 : Int)) ∧ V.cell? ⟨b, off + 4, none⟩ = some (.slice ab (Option.getD none []).length cb) ∧ Seg V (.slice ab (Option.getD none []).length cb) (Option.getD none [])) := fun V hV => ⟨(hV.cell (p := ⟨b, off, none⟩) hbl).trans (hcells 0 a0 rfl).1, (hV.cell (p := ⟨b, off + 3, none⟩) hbl).trans (hcells 1 a1 rfl).1, (hV.cell (p := ⟨b, off + 4, none⟩) hbl).trans hbv, hsg.below hV (Nat.le_refl _)⟩
  have HLA : Hid (lastIs w (.slice (some ⟨b, off, none⟩) 2 c) (.slice ab (Option.getD none []).length cb)) := ⟨b, off, 1, c, rfl, hbl, hbv⟩
  have hz0 := zeroMess
  obtain ⟨MZ, hMZ⟩ : ∃ Z, Z = msA (kMs 0) (manL zeroM (.slice none 0 0)) (.slice none 0 0) := ⟨_, rfl⟩
  have hMK : MZ.setIfInBounds 0 (.int .i64 8) = msA (kMs 8) (manL zeroM (.slice none 0 0)) (.slice none 0 0) := by rw [hMZ]; simp [msA, msL, kMs]
  have HMZ : Hid (MZ = msA (kMs 0) (manL zeroM (.slice none 0 0)) (.slice none 0 0)) := hMZ
  have hmn : ¬ MZ = #[] := fun e => by
    have h := msZ_size (kMs 0)
    rw [← hMZ, e] at h
    cases h
  have hks : MZ.size = (MZ.setIfInBounds 0 (.int .i64 8)).size := by simp
  have hko : (MZ.setIfInBounds 0 (.int .i64 8)).all (·.oneCell') = true := by rw [hMK]; exact msZ_one _
  have hki : (Try.prog.info? 28).map (·.size) = some (MZ.setIfInBounds 0 (.int .i64 8)).size := by rw [hMK, msZ_size]; exact info_mess
  have HMK : Hid (MZ.setIfInBounds 0 (.int .i64 8) = msA (kMs 8) (manL zeroM (.slice none 0 0)) (.slice none 0 0)) := hMK
  rw [← hMZ] at hz0
  have hkB0 : Blk ((w.alloc (.cells MZ 28)).alloc (.cells MZ 28)) (w.heap.size + 1) 28 MZ := Blk.newAt _ _ _ _ (by simp)
  have hkR0 : Blk ((w.alloc (.cells MZ 28)).alloc (.cells MZ 28)) w.heap.size 28 MZ := (Blk.new w 28 MZ).alloc _
  have hB0 : Below w.heap.size w ((w.alloc (.cells MZ 28)).alloc (.cells MZ 28)) := ((Below.refl _ _).alloc (Nat.le_refl _) _).alloc (by simp) _
  have HNE : Hid (some w.heap.size ≠ some (w.heap.size + 1)) := by show some w.heap.size ≠ some (w.heap.size + 1); intro e; injection e with e; omega
  have HGE : Hid (∀ q, some (w.heap.size + 1) = some q → w.heap.size ≤ q) := fun q e => by injection e with e; omega
  have ix0 : ∀ w, (Instr.indexAt 42 (.slice (some ⟨b, off, none⟩) 2 c) (.int .i64 0)).run Try.prog w = .ok (.pointer (some ⟨b, off, none⟩)) w := fun w => index_vW b off 2 c 0 0 rfl (by omega) w
  have ix1 : ∀ w, (Instr.indexAt 42 (.slice (some ⟨b, off, none⟩) 2 c) (.int .i64 1)).run Try.prog w = .ok (.pointer (some ⟨b, off + 3, none⟩)) w := fun w => index_vW b off 2 c 1 1 rfl (by omega) w
  have cv0 := fun w => conv_i64W a0 (by omega) w
  have cv1 := fun w => conv_i64W a1 (by omega) w
  have hmi2 := ms_info (setL (numK 8) [a0, a1] (kMs 8)) (manL zeroM (.slice none 0 0)) (.slice none 0 0) rfl
  have hms2 : MZ.size = (msA (setL (numK 8) [a0, a1] (kMs 8)) (manL zeroM (.slice none 0 0)) (.slice none 0 0)).size := by rw [HMZ.out, msZ_size, msA_size _ _ _ rfl]
  have hmo2 := msA_one (setL (numK 8) [a0, a1] (kMs 8)) (manL zeroM (.slice none 0 0)) (.slice none 0 0) (manL_one zeroM none 0 0) rfl
  clear hMZ hMK hcells hbv hsg hbl hbl2 hV
  go_enter Try.func26, Try.ntmps26
  go_wp2_with (first | (refine store_blk rfl 28 _ _ rfl rfl (w.heap.size + 1) (MZ.setIfInBounds 0 (.int .i64 8)) rfl rfl 28 MZ hkB0 hki hks hko ?_; intro W1 kB hg1 _; have kB := kB.of_eq HMK.out; have hBr := hB0; have kR := hkR0; have hBr : Below w.heap.size w W1 := below_grown hBr hg1 hBr.size HGE.out; have kR : Blk W1 w.heap.size 28 MZ := kR.grown hg1 HNE.out; obtain ⟨q0, q1, ql, _⟩ := HCL.out W1 hBr; clear hkB0 hkR0) | (refine store_intW rfl _ _ rfl rfl (w.heap.size + 1) _ _ rfl rfl 28 _ kB (by rw [msZ_size]; omega) ?_; intro W1 kB hg1; have kB := kB.of_eq (msA_set _ _ _ _ _ (by decide) (by decide)); have hBr : Below w.heap.size w W1 := below_grown hBr hg1 hBr.size HGE.out; have kR : Blk W1 w.heap.size 28 MZ := kR.grown hg1 HNE.out; obtain ⟨q0, q1, ql, _⟩ := HCL.out W1 hBr) | (refine wpList_load_row rfl 28 _ rfl (w.heap.size + 1) rfl 28 (msA (setL (numK 8) [a0, a1] (kMs 8)) (manL zeroM (.slice none 0 0)) (.slice none 0 0)) (0, 0) _ kB Try.underlying28 rfl (ms_info _ _ _ rfl) ?_) | (refine store_blk rfl 28 _ _ rfl rfl w.heap.size (msA (setL (numK 8) [a0, a1] (kMs 8)) (manL zeroM (.slice none 0 0)) (.slice none 0 0)) rfl rfl 28 MZ kR hmi2 hms2 hmo2 ?_; intro w9 kR9 hg9 _))
  have hB9 : Below w.heap.size w w9 := below_grown hBr hg9 hBr.size (fun q hq => by cases hq; exact Nat.le_refl _)
  refine bodyPost_ret (results_pairK Try.results26 _ _ w.heap.size 28 (msA (setL (numK 8) [a0, a1] (kMs 8)) (manL zeroM (.slice none 0 0)) (.slice none 0 0)) (0, 0) _ _ rfl rfl kR9 Try.underlying28 rfl hmi2) rfl ?_
  exact ⟨.inr (.inr ⟨by decide, rfl⟩), hB9⟩
end Go.Proofs.Ytgfcindkfnjeoaa
namespace Go.Proofs.Ytgfcindkfnjeoaa
open Go.RowKit

theorem made_any (k : Int) (vv : Value) (xs : List Nat) (bo : Option (List UInt8)) (w : World) (hV : Vals w 4 vv (recV xs bo)) (hkd : (1 ≤ k ∧ k ≤ 8) ∧ k ≠ 3) (hx : inNs (nsK k) xs) (hb : inBs (mbK k) bo) (HMD : ∀ V x s, Seg V x s → s.length ≤ maxLen → Calls Try.prog 46 #[x] V fun e w' => ∃ M su er, e = .returned (.tuple #[manV M su, .int .i64 er]) ∧ decIs w' s M su er ∧ Below V.heap.size V w') :
    Calls Try.prog 26 #[.int .i64 k, vv] w fun e w' => madeIs w w' vv k xs bo e ∧ Below w.heap.size w w' := by
  obtain ⟨hbl, hb2, hb5, hb0⟩ := inBs_len hb
  have hxc : ∀ a ∈ xs, a ≤ 1073741824 := inNs_le hx (fun n hn => by
    unfold nsK at hn
    obtain ⟨m, hm, rfl⟩ := List.mem_map.1 hn
    exact (numK_at hm).2.2)
  rcases kinds k with rfl | rfl | rfl | rfl | rfl | rfl | rfl | rfl | hk
  · obtain ⟨a0, a1, rfl⟩ : ∃ a0 a1, xs = [a0, a1] := by
      rcases xs with _ | ⟨a0, _ | ⟨a1, _ | ⟨b0, xs⟩⟩⟩ <;> first | exact ⟨_, _, rfl⟩ | (simp [nsK, numK, inNs] at hx)
    obtain rfl := hb0 (by decide) (by decide)
    exact made_1 vv a0 a1 w hV (hxc a0 (by simp)) (hxc a1 (by simp))
  · obtain ⟨a0, a1, rfl⟩ : ∃ a0 a1, xs = [a0, a1] := by
      rcases xs with _ | ⟨a0, _ | ⟨a1, _ | ⟨b0, xs⟩⟩⟩ <;> first | exact ⟨_, _, rfl⟩ | (simp [nsK, numK, inNs] at hx)
    obtain ⟨nb, rfl⟩ := hb2 rfl
    exact made_2 vv a0 a1 nb w hV (hxc a0 (by simp)) (hxc a1 (by simp)) (by have : nb.length ≤ 1024 := hbl; unfold maxLen; omega) HMD
  · exact absurd rfl hkd.2
  · obtain ⟨a0, a1, a2, rfl⟩ : ∃ a0 a1 a2, xs = [a0, a1, a2] := by
      rcases xs with _ | ⟨a0, _ | ⟨a1, _ | ⟨a2, _ | ⟨b0, xs⟩⟩⟩⟩ <;> first | exact ⟨_, _, _, rfl⟩ | (simp [nsK, numK, inNs] at hx)
    obtain rfl := hb0 (by decide) (by decide)
    exact made_4 vv a0 a1 a2 w hV (hxc a0 (by simp)) (hxc a1 (by simp)) (hxc a2 (by simp))
  · obtain ⟨a0, a1, a2, rfl⟩ : ∃ a0 a1 a2, xs = [a0, a1, a2] := by
      rcases xs with _ | ⟨a0, _ | ⟨a1, _ | ⟨a2, _ | ⟨b0, xs⟩⟩⟩⟩ <;> first | exact ⟨_, _, _, rfl⟩ | (simp [nsK, numK, inNs] at hx)
    obtain ⟨nb, rfl⟩ := hb5 rfl
    exact made_5 vv a0 a1 a2 nb w hV (hxc a0 (by simp)) (hxc a1 (by simp)) (hxc a2 (by simp))
  · obtain ⟨a0, a1, a2, a3, a4, a5, rfl⟩ : ∃ a0 a1 a2 a3 a4 a5, xs = [a0, a1, a2, a3, a4, a5] := by
      rcases xs with _ | ⟨a0, _ | ⟨a1, _ | ⟨a2, _ | ⟨a3, _ | ⟨a4, _ | ⟨a5, _ | ⟨b0, xs⟩⟩⟩⟩⟩⟩⟩ <;> first | exact ⟨_, _, _, _, _, _, rfl⟩ | (simp [nsK, numK, inNs] at hx)
    obtain rfl := hb0 (by decide) (by decide)
    exact made_6 vv a0 a1 a2 a3 a4 a5 w hV (hxc a0 (by simp)) (hxc a1 (by simp)) (hxc a2 (by simp)) (hxc a3 (by simp)) (hxc a4 (by simp)) (hxc a5 (by simp))
  · obtain ⟨a0, rfl⟩ : ∃ a0, xs = [a0] := by
      rcases xs with _ | ⟨a0, _ | ⟨b0, xs⟩⟩ <;> first | exact ⟨_, rfl⟩ | (simp [nsK, numK, inNs] at hx)
    obtain rfl := hb0 (by decide) (by decide)
    exact made_7 vv a0 w hV (hxc a0 (by simp))
  · obtain ⟨a0, a1, rfl⟩ : ∃ a0 a1, xs = [a0, a1] := by
      rcases xs with _ | ⟨a0, _ | ⟨a1, _ | ⟨b0, xs⟩⟩⟩ <;> first | exact ⟨_, _, rfl⟩ | (simp [nsK, numK, inNs] at hx)
    obtain rfl := hb0 (by decide) (by decide)
    exact made_8 vv a0 a1 w hV (hxc a0 (by simp)) (hxc a1 (by simp))
  · omega
end Go.Proofs.Ytgfcindkfnjeoaa
namespace Go.Proofs.Ytgfcindkfnjeoaa
open Go.RowKit

set_option maxRecDepth 100000 in
theorem rnumF_anyM (a b : Nat) (w : World) : Calls Try.prog 40 #[.int .u64 (a : Int), .int .u64 (b : Int)] w fun e w' => e = .returned (.agg (fldW 1 a b)) ∧ Below w.heap.size w w' := by
  go_enter Try.func40, Try.ntmps40
  go_wp2
  exact bodyPost_ret (v := .agg (fldW 1 a b)) (by simp [results, Try.results40, go_sem, fldW]) rfl ⟨rfl, (Below.refl _ _).alloc (Nat.le_refl _) _⟩
set_option maxRecDepth 100000 in
theorem rbytF_anyM (b : Nat) (w : World) : Calls Try.prog 41 #[.int .u64 (b : Int)] w fun e w' => e = .returned (.agg (fldW 2 0 b)) ∧ Below w.heap.size w w' := by
  go_enter Try.func41, Try.ntmps41
  go_wp2
  exact bodyPost_ret (v := .agg (fldW 2 0 b)) (by simp [results, Try.results41, go_sem, fldW]) rfl ⟨rfl, (Below.refl _ _).alloc (Nat.le_refl _) _⟩
theorem exec_twoM {a : Act} {o : Oper} {w : World} (f : FuncId) (x y : Operand) (ts : Array TypeId) (ho : o.op = .call { callee := .value (.func f), args := #[x, y], argTypes := ts }) (u v : Value) (hx : a.eval x = u) (hy : a.eval y = v) (hc : ∀ args w, (callFunc f args).run Try.prog w = .ok (.enter f args) w) : (execOp a.eval o).run Try.prog w = .ok (.enter f #[u, v]) w := by
  have he : a.eval (.func f) = .func (.func f) #[] #[] := rfl
  unfold execOp
  simp [ho, resolve, invoke, Deferred.ofValue, he, hx, hy, hc]
theorem exec_fldsM2 {a : Act} {o : Oper} {w : World} (x0 x1 : Operand) (ho : o.op = .buildSlice 40 2 #[(0, x0), (1, x1)]) (k0 a0 b0 k1 a1 b1 : Int) (h0 : a.eval x0 = .agg #[.int .i64 k0, .int .u64 a0, .int .u64 b0, .slice none 0 0]) (h1 : a.eval x1 = .agg #[.int .i64 k1, .int .u64 a1, .int .u64 b1, .slice none 0 0]) :
    (execOp a.eval o).run Try.prog w = .ok (.value (.slice (some ⟨w.heap.size, 0, none⟩) 2 2)) (w.alloc (.cells #[.int .i64 k0, .int .u64 a0, .int .u64 b0, .slice none 0 0, .int .i64 k1, .int .u64 a1, .int .u64 b1, .slice none 0 0] 62)) := by
  unfold execOp
  have e : Array.map (fun y : Nat × Operand => (y.1, a.eval y.2)) #[(0, x0), (1, x1)] = #[(0, .agg #[.int .i64 k0, .int .u64 a0, .int .u64 b0, .slice none 0 0]), (1, .agg #[.int .i64 k1, .int .u64 a1, .int .u64 b1, .slice none 0 0])] := by simp [h0, h1]
  simp only [ho, e]
  simp [go_sem]
theorem exec_fldsM3 {a : Act} {o : Oper} {w : World} (x0 x1 x2 : Operand) (ho : o.op = .buildSlice 40 3 #[(0, x0), (1, x1), (2, x2)]) (k0 a0 b0 k1 a1 b1 k2 a2 b2 : Int) (h0 : a.eval x0 = .agg #[.int .i64 k0, .int .u64 a0, .int .u64 b0, .slice none 0 0]) (h1 : a.eval x1 = .agg #[.int .i64 k1, .int .u64 a1, .int .u64 b1, .slice none 0 0]) (h2 : a.eval x2 = .agg #[.int .i64 k2, .int .u64 a2, .int .u64 b2, .slice none 0 0]) :
    (execOp a.eval o).run Try.prog w = .ok (.value (.slice (some ⟨w.heap.size, 0, none⟩) 3 3)) (w.alloc (.cells #[.int .i64 k0, .int .u64 a0, .int .u64 b0, .slice none 0 0, .int .i64 k1, .int .u64 a1, .int .u64 b1, .slice none 0 0, .int .i64 k2, .int .u64 a2, .int .u64 b2, .slice none 0 0] 62)) := by
  unfold execOp
  have e : Array.map (fun y : Nat × Operand => (y.1, a.eval y.2)) #[(0, x0), (1, x1), (2, x2)] = #[(0, .agg #[.int .i64 k0, .int .u64 a0, .int .u64 b0, .slice none 0 0]), (1, .agg #[.int .i64 k1, .int .u64 a1, .int .u64 b1, .slice none 0 0]), (2, .agg #[.int .i64 k2, .int .u64 a2, .int .u64 b2, .slice none 0 0])] := by simp [h0, h1, h2]
  simp only [ho, e]
  simp [go_sem]
theorem exec_fldsM4 {a : Act} {o : Oper} {w : World} (x0 x1 x2 x3 : Operand) (ho : o.op = .buildSlice 40 4 #[(0, x0), (1, x1), (2, x2), (3, x3)]) (k0 a0 b0 k1 a1 b1 k2 a2 b2 k3 a3 b3 : Int) (h0 : a.eval x0 = .agg #[.int .i64 k0, .int .u64 a0, .int .u64 b0, .slice none 0 0]) (h1 : a.eval x1 = .agg #[.int .i64 k1, .int .u64 a1, .int .u64 b1, .slice none 0 0]) (h2 : a.eval x2 = .agg #[.int .i64 k2, .int .u64 a2, .int .u64 b2, .slice none 0 0]) (h3 : a.eval x3 = .agg #[.int .i64 k3, .int .u64 a3, .int .u64 b3, .slice none 0 0]) :
    (execOp a.eval o).run Try.prog w = .ok (.value (.slice (some ⟨w.heap.size, 0, none⟩) 4 4)) (w.alloc (.cells #[.int .i64 k0, .int .u64 a0, .int .u64 b0, .slice none 0 0, .int .i64 k1, .int .u64 a1, .int .u64 b1, .slice none 0 0, .int .i64 k2, .int .u64 a2, .int .u64 b2, .slice none 0 0, .int .i64 k3, .int .u64 a3, .int .u64 b3, .slice none 0 0] 62)) := by
  unfold execOp
  have e : Array.map (fun y : Nat × Operand => (y.1, a.eval y.2)) #[(0, x0), (1, x1), (2, x2), (3, x3)] = #[(0, .agg #[.int .i64 k0, .int .u64 a0, .int .u64 b0, .slice none 0 0]), (1, .agg #[.int .i64 k1, .int .u64 a1, .int .u64 b1, .slice none 0 0]), (2, .agg #[.int .i64 k2, .int .u64 a2, .int .u64 b2, .slice none 0 0]), (3, .agg #[.int .i64 k3, .int .u64 a3, .int .u64 b3, .slice none 0 0])] := by simp [h0, h1, h2, h3]
  simp only [ho, e]
  simp [go_sem]
theorem exec_fldsM6 {a : Act} {o : Oper} {w : World} (x0 x1 x2 x3 x4 x5 : Operand) (ho : o.op = .buildSlice 40 6 #[(0, x0), (1, x1), (2, x2), (3, x3), (4, x4), (5, x5)]) (k0 a0 b0 k1 a1 b1 k2 a2 b2 k3 a3 b3 k4 a4 b4 k5 a5 b5 : Int) (h0 : a.eval x0 = .agg #[.int .i64 k0, .int .u64 a0, .int .u64 b0, .slice none 0 0]) (h1 : a.eval x1 = .agg #[.int .i64 k1, .int .u64 a1, .int .u64 b1, .slice none 0 0]) (h2 : a.eval x2 = .agg #[.int .i64 k2, .int .u64 a2, .int .u64 b2, .slice none 0 0]) (h3 : a.eval x3 = .agg #[.int .i64 k3, .int .u64 a3, .int .u64 b3, .slice none 0 0]) (h4 : a.eval x4 = .agg #[.int .i64 k4, .int .u64 a4, .int .u64 b4, .slice none 0 0]) (h5 : a.eval x5 = .agg #[.int .i64 k5, .int .u64 a5, .int .u64 b5, .slice none 0 0]) :
    (execOp a.eval o).run Try.prog w = .ok (.value (.slice (some ⟨w.heap.size, 0, none⟩) 6 6)) (w.alloc (.cells #[.int .i64 k0, .int .u64 a0, .int .u64 b0, .slice none 0 0, .int .i64 k1, .int .u64 a1, .int .u64 b1, .slice none 0 0, .int .i64 k2, .int .u64 a2, .int .u64 b2, .slice none 0 0, .int .i64 k3, .int .u64 a3, .int .u64 b3, .slice none 0 0, .int .i64 k4, .int .u64 a4, .int .u64 b4, .slice none 0 0, .int .i64 k5, .int .u64 a5, .int .u64 b5, .slice none 0 0] 62)) := by
  unfold execOp
  have e : Array.map (fun y : Nat × Operand => (y.1, a.eval y.2)) #[(0, x0), (1, x1), (2, x2), (3, x3), (4, x4), (5, x5)] = #[(0, .agg #[.int .i64 k0, .int .u64 a0, .int .u64 b0, .slice none 0 0]), (1, .agg #[.int .i64 k1, .int .u64 a1, .int .u64 b1, .slice none 0 0]), (2, .agg #[.int .i64 k2, .int .u64 a2, .int .u64 b2, .slice none 0 0]), (3, .agg #[.int .i64 k3, .int .u64 a3, .int .u64 b3, .slice none 0 0]), (4, .agg #[.int .i64 k4, .int .u64 a4, .int .u64 b4, .slice none 0 0]), (5, .agg #[.int .i64 k5, .int .u64 a5, .int .u64 b5, .slice none 0 0])] := by simp [h0, h1, h2, h3, h4, h5]
  simp only [ho, e]
  simp [go_sem]
set_option maxRecDepth 100000 in
set_option maxHeartbeats 8000000 in
theorem rfields14_any (k : Int) (w : World) : Calls Try.prog 19 #[.int .i64 k] w fun e w' => ∃ v, e = .returned v ∧ Flds w' 1 v (recF (nsK k) (mbK k)) ∧ Below w.heap.size w w' := by
  have HA : Hid (∀ V, Calls Try.prog 40 #[.int .u64 1, .int .u64 4096] V fun e w' => e = .returned (.agg #[.int .i64 1, .int .u64 1, .int .u64 4096, .slice none 0 0]) ∧ Below V.heap.size V w') := fun V => rnumF_anyM 1 4096 V
  have HO : Hid (∀ V, Calls Try.prog 40 #[.int .u64 1, .int .u64 1073741824] V fun e w' => e = .returned (.agg #[.int .i64 1, .int .u64 1, .int .u64 1073741824, .slice none 0 0]) ∧ Below V.heap.size V w') := fun V => rnumF_anyM 1 1073741824 V
  have HC : Hid (∀ V, Calls Try.prog 40 #[.int .u64 0, .int .u64 127] V fun e w' => e = .returned (.agg #[.int .i64 1, .int .u64 0, .int .u64 127, .slice none 0 0]) ∧ Below V.heap.size V w') := fun V => rnumF_anyM 0 127 V
  have HZ : Hid (∀ V, Calls Try.prog 40 #[.int .u64 0, .int .u64 1073741824] V fun e w' => e = .returned (.agg #[.int .i64 1, .int .u64 0, .int .u64 1073741824, .slice none 0 0]) ∧ Below V.heap.size V w') := fun V => rnumF_anyM 0 1073741824 V
  have HT : Hid (∀ V, Calls Try.prog 40 #[.int .u64 1, .int .u64 3] V fun e w' => e = .returned (.agg #[.int .i64 1, .int .u64 1, .int .u64 3, .slice none 0 0]) ∧ Below V.heap.size V w') := fun V => rnumF_anyM 1 3 V
  have HM : Hid (∀ V, Calls Try.prog 41 #[.int .u64 500] V fun e w' => e = .returned (.agg #[.int .i64 2, .int .u64 0, .int .u64 500, .slice none 0 0]) ∧ Below V.heap.size V w') := fun V => rbytF_anyM 500 V
  have HP : Hid (∀ V, Calls Try.prog 41 #[.int .u64 1024] V fun e w' => e = .returned (.agg #[.int .i64 2, .int .u64 0, .int .u64 1024, .slice none 0 0]) ∧ Below V.heap.size V w') := fun V => rbytF_anyM 1024 V
  go_enter Try.func19, Try.ntmps19
  go_wp2_with fail
  refine (HA.out _).mono ?_
  rintro e w1 ⟨rfl, hb1⟩
  have kA1 : Blk (w1.alloc (.cells #[.int .i64 1, .int .u64 1, .int .u64 4096, .slice none 0 0] 62)) w1.heap.size 62 #[.int .i64 1, .int .u64 1, .int .u64 4096, .slice none 0 0] := Blk.new _ _ _
  have hB1 : Below w.heap.size w (w1.alloc (.cells #[.int .i64 1, .int .u64 1, .int .u64 4096, .slice none 0 0] 62)) := hb1.alloc hb1.size _
  clear hb1 HA
  go_wp2_with fail
  generalize (w1.alloc (.cells #[.int .i64 1, .int .u64 1, .int .u64 4096, .slice none 0 0] 62)) = v1 at *
  generalize w1.heap.size = gA at *
  refine (HO.out _).mono ?_
  rintro e w2 ⟨rfl, hb2⟩
  have kA2 : Blk (w2.alloc (.cells #[.int .i64 1, .int .u64 1, .int .u64 1073741824, .slice none 0 0] 62)) gA 62 #[.int .i64 1, .int .u64 1, .int .u64 4096, .slice none 0 0] := (kA1.below hb2 kA1.lt).alloc _
  have kO2 : Blk (w2.alloc (.cells #[.int .i64 1, .int .u64 1, .int .u64 1073741824, .slice none 0 0] 62)) w2.heap.size 62 #[.int .i64 1, .int .u64 1, .int .u64 1073741824, .slice none 0 0] := Blk.new _ _ _
  have hB2 : Below w.heap.size w (w2.alloc (.cells #[.int .i64 1, .int .u64 1, .int .u64 1073741824, .slice none 0 0] 62)) := (hB1.trans (hb2.mono hB1.size)).alloc (hB1.trans (hb2.mono hB1.size)).size _
  clear hb2 HO hB1 kA1
  go_wp2_with fail
  generalize (w2.alloc (.cells #[.int .i64 1, .int .u64 1, .int .u64 1073741824, .slice none 0 0] 62)) = v2 at *
  generalize w2.heap.size = gO at *
  refine (HC.out _).mono ?_
  rintro e w3 ⟨rfl, hb3⟩
  have kA3 : Blk (w3.alloc (.cells #[.int .i64 1, .int .u64 0, .int .u64 127, .slice none 0 0] 62)) gA 62 #[.int .i64 1, .int .u64 1, .int .u64 4096, .slice none 0 0] := (kA2.below hb3 kA2.lt).alloc _
  have kO3 : Blk (w3.alloc (.cells #[.int .i64 1, .int .u64 0, .int .u64 127, .slice none 0 0] 62)) gO 62 #[.int .i64 1, .int .u64 1, .int .u64 1073741824, .slice none 0 0] := (kO2.below hb3 kO2.lt).alloc _
  have kC3 : Blk (w3.alloc (.cells #[.int .i64 1, .int .u64 0, .int .u64 127, .slice none 0 0] 62)) w3.heap.size 62 #[.int .i64 1, .int .u64 0, .int .u64 127, .slice none 0 0] := Blk.new _ _ _
  have hB3 : Below w.heap.size w (w3.alloc (.cells #[.int .i64 1, .int .u64 0, .int .u64 127, .slice none 0 0] 62)) := (hB2.trans (hb3.mono hB2.size)).alloc (hB2.trans (hb3.mono hB2.size)).size _
  clear hb3 HC hB2 kA2 kO2
  by_cases e1 : k = 1
  · subst e1
    obtain ⟨gC, hgC⟩ : ∃ gC, gC = w3.heap.size := ⟨_, rfl⟩
    rw [← hgC] at kC3
    go_wp2_with fail
    rw [← hgC]
    clear hgC
    generalize (w3.alloc (.cells #[.int .i64 1, .int .u64 0, .int .u64 127, .slice none 0 0] 62)) = v3 at *
    have hS0 : (fun V => (Blk V gA 62 #[.int .i64 1, .int .u64 1, .int .u64 4096, .slice none 0 0] ∧ Blk V gO 62 #[.int .i64 1, .int .u64 1, .int .u64 1073741824, .slice none 0 0]) ∧ Blk V gC 62 #[.int .i64 1, .int .u64 0, .int .u64 127, .slice none 0 0]) v3.drew := ⟨⟨kA3.drew, kO3.drew⟩, kC3.drew⟩
    refine held_begin (fun V => (Blk V gA 62 #[.int .i64 1, .int .u64 1, .int .u64 4096, .slice none 0 0] ∧ Blk V gO 62 #[.int .i64 1, .int .u64 1, .int .u64 1073741824, .slice none 0 0]) ∧ Blk V gC 62 #[.int .i64 1, .int .u64 0, .int .u64 127, .slice none 0 0]) (by kernel_rfl) ?_
    clear kA3 kO3 kC3
    refine held_take 0 12 _ (.agg #[.int .i64 1, .int .u64 1, .int .u64 4096, .slice none 0 0]) rfl rfl (by kernel_rfl) (by kernel_rfl) (by kernel_rfl) rfl hS0 (fun V hV => exec_loadB 62 _ rfl gA 0 [.int .i64 1, .int .u64 1, .int .u64 4096, .slice none 0 0] _ rfl ((hV.1.1).range 0 _ (fun j v hj => by rw [Nat.zero_add]; simpa using hj)) Try.underlying62 rfl info_fldW) ?_
    simp only [Act.put, List.setIfInBounds_toArray, List.set_cons_succ, List.set_cons_zero]
    refine held_all1 1 (by kernel_rfl) (op_call 1 13 _ 40 #[.int .u64 0, .int .u64 1073741824] rfl rfl rfl (exec_twoM 40 _ _ _ rfl _ _ rfl rfl Try.call40) ((HZ.out _).mono ?_))
    rintro e v4 ⟨rfl, hb4⟩
    have hS1 : (fun V => (Blk V gA 62 #[.int .i64 1, .int .u64 1, .int .u64 4096, .slice none 0 0] ∧ Blk V gO 62 #[.int .i64 1, .int .u64 1, .int .u64 1073741824, .slice none 0 0]) ∧ Blk V gC 62 #[.int .i64 1, .int .u64 0, .int .u64 127, .slice none 0 0]) v4 := ⟨⟨hS0.1.1.below hb4 hS0.1.1.lt, hS0.1.2.below hb4 hS0.1.2.lt⟩, hS0.2.below hb4 hS0.2.lt⟩
    have hB4 : Below w.heap.size w v4 := hB3.drew.trans (hb4.mono hB3.size)
    refine ⟨_, rfl, hS1, ?_⟩
    simp only [Act.put, List.setIfInBounds_toArray, List.set_cons_succ, List.set_cons_zero]
    have k5 := Blk.new v4 62 #[.int .i64 1, .int .u64 1, .int .u64 4096, .slice none 0 0, .int .i64 1, .int .u64 0, .int .u64 1073741824, .slice none 0 0]
    have hB5 := hB4.alloc hB4.size (.cells #[.int .i64 1, .int .u64 1, .int .u64 4096, .slice none 0 0, .int .i64 1, .int .u64 0, .int .u64 1073741824, .slice none 0 0] 62)
    have hS2 : (fun V => (Blk V gA 62 #[.int .i64 1, .int .u64 1, .int .u64 4096, .slice none 0 0] ∧ Blk V gO 62 #[.int .i64 1, .int .u64 1, .int .u64 1073741824, .slice none 0 0]) ∧ Blk V gC 62 #[.int .i64 1, .int .u64 0, .int .u64 127, .slice none 0 0]) (v4.alloc (.cells #[.int .i64 1, .int .u64 1, .int .u64 4096, .slice none 0 0, .int .i64 1, .int .u64 0, .int .u64 1073741824, .slice none 0 0] 62)) := ⟨⟨hS1.1.1.alloc _, hS1.1.2.alloc _⟩, hS1.2.alloc _⟩
    refine held_all1 2 (by kernel_rfl) (op_value 2 14 _ (.slice (some ⟨v4.heap.size, 0, none⟩) 2 2) (v4.alloc (.cells #[.int .i64 1, .int .u64 1, .int .u64 4096, .slice none 0 0, .int .i64 1, .int .u64 0, .int .u64 1073741824, .slice none 0 0] 62)) rfl rfl rfl (exec_fldsM2 _ _ rfl _ _ _ _ _ _ rfl rfl) ⟨hS2, ?_⟩)
    simp only [Act.put, List.setIfInBounds_toArray, List.set_cons_succ, List.set_cons_zero]
    refine held_take 3 2 _ (.slice (some ⟨v4.heap.size, 0, none⟩) 2 2) rfl rfl (by kernel_rfl) (by kernel_rfl) (by kernel_rfl) rfl hS2 (fun _ _ => rfl) ?_
    simp only [Act.put, List.setIfInBounds_toArray, List.set_cons_succ, List.set_cons_zero]
    refine wpAnyH_done (by kernel_rfl) ?_ _
    refine NoPanic.normal ?_
    generalize (v4.alloc (.cells #[.int .i64 1, .int .u64 1, .int .u64 4096, .slice none 0 0, .int .i64 1, .int .u64 0, .int .u64 1073741824, .slice none 0 0] 62)) = v5 at *
    generalize v4.heap.size = g5 at *
    clear hS0 hS1 hS2 HZ HT HM HP
    go_wp2
    go_ret
    exact ⟨_, rfl, fldsW_flds (c := 2) (nsK 1) (mbK 1) k5 (fun j v hj => by
        have e : fldsW (nsK 1) (mbK 1) = [.int .i64 1, .int .u64 1, .int .u64 4096, .slice none 0 0, .int .i64 1, .int .u64 0, .int .u64 1073741824, .slice none 0 0] := rfl
        rw [e] at hj
        simpa using hj) (by decide) (fun m h => by cases h <;> decide) (by decide) (by decide), hB5⟩
  by_cases e2 : k = 2
  · subst e2
    clear e1
    obtain ⟨gC, hgC⟩ : ∃ gC, gC = w3.heap.size := ⟨_, rfl⟩
    rw [← hgC] at kC3
    go_wp2_with fail
    rw [← hgC]
    clear hgC
    generalize (w3.alloc (.cells #[.int .i64 1, .int .u64 0, .int .u64 127, .slice none 0 0] 62)) = v3 at *
    have hS0 : (fun V => (Blk V gA 62 #[.int .i64 1, .int .u64 1, .int .u64 4096, .slice none 0 0] ∧ Blk V gO 62 #[.int .i64 1, .int .u64 1, .int .u64 1073741824, .slice none 0 0]) ∧ Blk V gC 62 #[.int .i64 1, .int .u64 0, .int .u64 127, .slice none 0 0]) v3.drew := ⟨⟨kA3.drew, kO3.drew⟩, kC3.drew⟩
    refine held_begin (fun V => (Blk V gA 62 #[.int .i64 1, .int .u64 1, .int .u64 4096, .slice none 0 0] ∧ Blk V gO 62 #[.int .i64 1, .int .u64 1, .int .u64 1073741824, .slice none 0 0]) ∧ Blk V gC 62 #[.int .i64 1, .int .u64 0, .int .u64 127, .slice none 0 0]) (by kernel_rfl) ?_
    clear kA3 kO3 kC3
    refine held_take 0 17 _ (.agg #[.int .i64 1, .int .u64 1, .int .u64 1073741824, .slice none 0 0]) rfl rfl (by kernel_rfl) (by kernel_rfl) (by kernel_rfl) rfl hS0 (fun V hV => exec_loadB 62 _ rfl gO 0 [.int .i64 1, .int .u64 1, .int .u64 1073741824, .slice none 0 0] _ rfl ((hV.1.2).range 0 _ (fun j v hj => by rw [Nat.zero_add]; simpa using hj)) Try.underlying62 rfl info_fldW) ?_
    simp only [Act.put, List.setIfInBounds_toArray, List.set_cons_succ, List.set_cons_zero]
    refine held_take 1 18 _ (.agg #[.int .i64 1, .int .u64 1, .int .u64 1073741824, .slice none 0 0]) rfl rfl (by kernel_rfl) (by kernel_rfl) (by kernel_rfl) rfl hS0 (fun V hV => exec_loadB 62 _ rfl gO 0 [.int .i64 1, .int .u64 1, .int .u64 1073741824, .slice none 0 0] _ rfl ((hV.1.2).range 0 _ (fun j v hj => by rw [Nat.zero_add]; simpa using hj)) Try.underlying62 rfl info_fldW) ?_
    simp only [Act.put, List.setIfInBounds_toArray, List.set_cons_succ, List.set_cons_zero]
    refine held_all1 2 (by kernel_rfl) (op_call 2 19 _ 41 #[.int .u64 500] rfl rfl rfl (exec_one 41 _ _ rfl _ rfl Try.call41) ((HM.out _).mono ?_))
    rintro e v4 ⟨rfl, hb4⟩
    have hS1 : (fun V => (Blk V gA 62 #[.int .i64 1, .int .u64 1, .int .u64 4096, .slice none 0 0] ∧ Blk V gO 62 #[.int .i64 1, .int .u64 1, .int .u64 1073741824, .slice none 0 0]) ∧ Blk V gC 62 #[.int .i64 1, .int .u64 0, .int .u64 127, .slice none 0 0]) v4 := ⟨⟨hS0.1.1.below hb4 hS0.1.1.lt, hS0.1.2.below hb4 hS0.1.2.lt⟩, hS0.2.below hb4 hS0.2.lt⟩
    have hB4 : Below w.heap.size w v4 := hB3.drew.trans (hb4.mono hB3.size)
    refine ⟨_, rfl, hS1, ?_⟩
    simp only [Act.put, List.setIfInBounds_toArray, List.set_cons_succ, List.set_cons_zero]
    have k5 := Blk.new v4 62 #[.int .i64 1, .int .u64 1, .int .u64 1073741824, .slice none 0 0, .int .i64 1, .int .u64 1, .int .u64 1073741824, .slice none 0 0, .int .i64 2, .int .u64 0, .int .u64 500, .slice none 0 0]
    have hB5 := hB4.alloc hB4.size (.cells #[.int .i64 1, .int .u64 1, .int .u64 1073741824, .slice none 0 0, .int .i64 1, .int .u64 1, .int .u64 1073741824, .slice none 0 0, .int .i64 2, .int .u64 0, .int .u64 500, .slice none 0 0] 62)
    have hS2 : (fun V => (Blk V gA 62 #[.int .i64 1, .int .u64 1, .int .u64 4096, .slice none 0 0] ∧ Blk V gO 62 #[.int .i64 1, .int .u64 1, .int .u64 1073741824, .slice none 0 0]) ∧ Blk V gC 62 #[.int .i64 1, .int .u64 0, .int .u64 127, .slice none 0 0]) (v4.alloc (.cells #[.int .i64 1, .int .u64 1, .int .u64 1073741824, .slice none 0 0, .int .i64 1, .int .u64 1, .int .u64 1073741824, .slice none 0 0, .int .i64 2, .int .u64 0, .int .u64 500, .slice none 0 0] 62)) := ⟨⟨hS1.1.1.alloc _, hS1.1.2.alloc _⟩, hS1.2.alloc _⟩
    refine held_all1 3 (by kernel_rfl) (op_value 3 20 _ (.slice (some ⟨v4.heap.size, 0, none⟩) 3 3) (v4.alloc (.cells #[.int .i64 1, .int .u64 1, .int .u64 1073741824, .slice none 0 0, .int .i64 1, .int .u64 1, .int .u64 1073741824, .slice none 0 0, .int .i64 2, .int .u64 0, .int .u64 500, .slice none 0 0] 62)) rfl rfl rfl (exec_fldsM3 _ _ _ rfl _ _ _ _ _ _ _ _ _ rfl rfl rfl) ⟨hS2, ?_⟩)
    simp only [Act.put, List.setIfInBounds_toArray, List.set_cons_succ, List.set_cons_zero]
    refine held_take 4 2 _ (.slice (some ⟨v4.heap.size, 0, none⟩) 3 3) rfl rfl (by kernel_rfl) (by kernel_rfl) (by kernel_rfl) rfl hS2 (fun _ _ => rfl) ?_
    simp only [Act.put, List.setIfInBounds_toArray, List.set_cons_succ, List.set_cons_zero]
    refine wpAnyH_done (by kernel_rfl) ?_ _
    refine NoPanic.normal ?_
    generalize (v4.alloc (.cells #[.int .i64 1, .int .u64 1, .int .u64 1073741824, .slice none 0 0, .int .i64 1, .int .u64 1, .int .u64 1073741824, .slice none 0 0, .int .i64 2, .int .u64 0, .int .u64 500, .slice none 0 0] 62)) = v5 at *
    generalize v4.heap.size = g5 at *
    clear hS0 hS1 hS2 HZ HT HM HP
    go_wp2
    go_ret
    exact ⟨_, rfl, fldsW_flds (c := 3) (nsK 2) (mbK 2) k5 (fun j v hj => by
        have e : fldsW (nsK 2) (mbK 2) = [.int .i64 1, .int .u64 1, .int .u64 1073741824, .slice none 0 0, .int .i64 1, .int .u64 1, .int .u64 1073741824, .slice none 0 0, .int .i64 2, .int .u64 0, .int .u64 500, .slice none 0 0] := rfl
        rw [e] at hj
        simpa using hj) (by decide) (fun m h => by cases h <;> decide) (by decide) (by decide), hB5⟩
  by_cases e4 : k = 4
  · subst e4
    clear e1 e2
    have kA3c0 : (w3.alloc (.cells #[.int .i64 1, .int .u64 0, .int .u64 127, .slice none 0 0] 62)).cell? ⟨gA, 0, none⟩ = some (.int .i64 1) := kA3.cell (j := 0) rfl
    have kA3c1 : (w3.alloc (.cells #[.int .i64 1, .int .u64 0, .int .u64 127, .slice none 0 0] 62)).cell? ⟨gA, 1, none⟩ = some (.int .u64 1) := kA3.cell (j := 1) rfl
    have kA3c2 : (w3.alloc (.cells #[.int .i64 1, .int .u64 0, .int .u64 127, .slice none 0 0] 62)).cell? ⟨gA, 2, none⟩ = some (.int .u64 4096) := kA3.cell (j := 2) rfl
    have kA3c3 : (w3.alloc (.cells #[.int .i64 1, .int .u64 0, .int .u64 127, .slice none 0 0] 62)).cell? ⟨gA, 3, none⟩ = some (.slice none 0 0) := kA3.cell (j := 3) rfl
    have kO3c0 : (w3.alloc (.cells #[.int .i64 1, .int .u64 0, .int .u64 127, .slice none 0 0] 62)).cell? ⟨gO, 0, none⟩ = some (.int .i64 1) := kO3.cell (j := 0) rfl
    have kO3c1 : (w3.alloc (.cells #[.int .i64 1, .int .u64 0, .int .u64 127, .slice none 0 0] 62)).cell? ⟨gO, 1, none⟩ = some (.int .u64 1) := kO3.cell (j := 1) rfl
    have kO3c2 : (w3.alloc (.cells #[.int .i64 1, .int .u64 0, .int .u64 127, .slice none 0 0] 62)).cell? ⟨gO, 2, none⟩ = some (.int .u64 1073741824) := kO3.cell (j := 2) rfl
    have kO3c3 : (w3.alloc (.cells #[.int .i64 1, .int .u64 0, .int .u64 127, .slice none 0 0] 62)).cell? ⟨gO, 3, none⟩ = some (.slice none 0 0) := kO3.cell (j := 3) rfl
    have kC3c0 : (w3.alloc (.cells #[.int .i64 1, .int .u64 0, .int .u64 127, .slice none 0 0] 62)).cell? ⟨w3.heap.size, 0, none⟩ = some (.int .i64 1) := kC3.cell (j := 0) rfl
    have kC3c1 : (w3.alloc (.cells #[.int .i64 1, .int .u64 0, .int .u64 127, .slice none 0 0] 62)).cell? ⟨w3.heap.size, 1, none⟩ = some (.int .u64 0) := kC3.cell (j := 1) rfl
    have kC3c2 : (w3.alloc (.cells #[.int .i64 1, .int .u64 0, .int .u64 127, .slice none 0 0] 62)).cell? ⟨w3.heap.size, 2, none⟩ = some (.int .u64 127) := kC3.cell (j := 2) rfl
    have kC3c3 : (w3.alloc (.cells #[.int .i64 1, .int .u64 0, .int .u64 127, .slice none 0 0] 62)).cell? ⟨w3.heap.size, 3, none⟩ = some (.slice none 0 0) := kC3.cell (j := 3) rfl
    have hB5 := hB3.alloc hB3.size (.cells #[.int .i64 1, .int .u64 1, .int .u64 1073741824, .slice none 0 0, .int .i64 1, .int .u64 1, .int .u64 1073741824, .slice none 0 0, .int .i64 1, .int .u64 0, .int .u64 127, .slice none 0 0] 62)
    have HK5 : Hid (Blk ((w3.alloc (.cells #[.int .i64 1, .int .u64 0, .int .u64 127, .slice none 0 0] 62)).alloc (.cells #[.int .i64 1, .int .u64 1, .int .u64 1073741824, .slice none 0 0, .int .i64 1, .int .u64 1, .int .u64 1073741824, .slice none 0 0, .int .i64 1, .int .u64 0, .int .u64 127, .slice none 0 0] 62)) (w3.heap.size + 1) 62 #[.int .i64 1, .int .u64 1, .int .u64 1073741824, .slice none 0 0, .int .i64 1, .int .u64 1, .int .u64 1073741824, .slice none 0 0, .int .i64 1, .int .u64 0, .int .u64 127, .slice none 0 0]) := Blk.newAt _ _ _ _ (by simp)
    clear kA3 kO3 kC3 hB3 HZ HT HM HP
    go_wp2
    go_ret
    exact ⟨_, rfl, fldsW_flds (c := 3) (nsK 4) (mbK 4) HK5.out (fun j v hj => by
        have e : fldsW (nsK 4) (mbK 4) = [.int .i64 1, .int .u64 1, .int .u64 1073741824, .slice none 0 0, .int .i64 1, .int .u64 1, .int .u64 1073741824, .slice none 0 0, .int .i64 1, .int .u64 0, .int .u64 127, .slice none 0 0] := rfl
        rw [e] at hj
        simpa using hj) (by decide) (fun m h => by cases h <;> decide) (by decide) (by decide), hB5⟩
  by_cases e5 : k = 5
  · subst e5
    clear e1 e2 e4
    obtain ⟨gC, hgC⟩ : ∃ gC, gC = w3.heap.size := ⟨_, rfl⟩
    rw [← hgC] at kC3
    go_wp2_with fail
    rw [← hgC]
    clear hgC
    generalize (w3.alloc (.cells #[.int .i64 1, .int .u64 0, .int .u64 127, .slice none 0 0] 62)) = v3 at *
    have hS0 : (fun V => (Blk V gA 62 #[.int .i64 1, .int .u64 1, .int .u64 4096, .slice none 0 0] ∧ Blk V gO 62 #[.int .i64 1, .int .u64 1, .int .u64 1073741824, .slice none 0 0]) ∧ Blk V gC 62 #[.int .i64 1, .int .u64 0, .int .u64 127, .slice none 0 0]) v3.drew := ⟨⟨kA3.drew, kO3.drew⟩, kC3.drew⟩
    refine held_begin (fun V => (Blk V gA 62 #[.int .i64 1, .int .u64 1, .int .u64 4096, .slice none 0 0] ∧ Blk V gO 62 #[.int .i64 1, .int .u64 1, .int .u64 1073741824, .slice none 0 0]) ∧ Blk V gC 62 #[.int .i64 1, .int .u64 0, .int .u64 127, .slice none 0 0]) (by kernel_rfl) ?_
    clear kA3 kO3 kC3
    refine held_take 0 29 _ (.agg #[.int .i64 1, .int .u64 1, .int .u64 1073741824, .slice none 0 0]) rfl rfl (by kernel_rfl) (by kernel_rfl) (by kernel_rfl) rfl hS0 (fun V hV => exec_loadB 62 _ rfl gO 0 [.int .i64 1, .int .u64 1, .int .u64 1073741824, .slice none 0 0] _ rfl ((hV.1.2).range 0 _ (fun j v hj => by rw [Nat.zero_add]; simpa using hj)) Try.underlying62 rfl info_fldW) ?_
    simp only [Act.put, List.setIfInBounds_toArray, List.set_cons_succ, List.set_cons_zero]
    refine held_take 1 30 _ (.agg #[.int .i64 1, .int .u64 1, .int .u64 1073741824, .slice none 0 0]) rfl rfl (by kernel_rfl) (by kernel_rfl) (by kernel_rfl) rfl hS0 (fun V hV => exec_loadB 62 _ rfl gO 0 [.int .i64 1, .int .u64 1, .int .u64 1073741824, .slice none 0 0] _ rfl ((hV.1.2).range 0 _ (fun j v hj => by rw [Nat.zero_add]; simpa using hj)) Try.underlying62 rfl info_fldW) ?_
    simp only [Act.put, List.setIfInBounds_toArray, List.set_cons_succ, List.set_cons_zero]
    refine held_take 2 31 _ (.agg #[.int .i64 1, .int .u64 0, .int .u64 127, .slice none 0 0]) rfl rfl (by kernel_rfl) (by kernel_rfl) (by kernel_rfl) rfl hS0 (fun V hV => exec_loadB 62 _ rfl gC 0 [.int .i64 1, .int .u64 0, .int .u64 127, .slice none 0 0] _ rfl ((hV.2).range 0 _ (fun j v hj => by rw [Nat.zero_add]; simpa using hj)) Try.underlying62 rfl info_fldW) ?_
    simp only [Act.put, List.setIfInBounds_toArray, List.set_cons_succ, List.set_cons_zero]
    refine held_all1 3 (by kernel_rfl) (op_call 3 32 _ 41 #[.int .u64 1024] rfl rfl rfl (exec_one 41 _ _ rfl _ rfl Try.call41) ((HP.out _).mono ?_))
    rintro e v4 ⟨rfl, hb4⟩
    have hS1 : (fun V => (Blk V gA 62 #[.int .i64 1, .int .u64 1, .int .u64 4096, .slice none 0 0] ∧ Blk V gO 62 #[.int .i64 1, .int .u64 1, .int .u64 1073741824, .slice none 0 0]) ∧ Blk V gC 62 #[.int .i64 1, .int .u64 0, .int .u64 127, .slice none 0 0]) v4 := ⟨⟨hS0.1.1.below hb4 hS0.1.1.lt, hS0.1.2.below hb4 hS0.1.2.lt⟩, hS0.2.below hb4 hS0.2.lt⟩
    have hB4 : Below w.heap.size w v4 := hB3.drew.trans (hb4.mono hB3.size)
    refine ⟨_, rfl, hS1, ?_⟩
    simp only [Act.put, List.setIfInBounds_toArray, List.set_cons_succ, List.set_cons_zero]
    have k5 := Blk.new v4 62 #[.int .i64 1, .int .u64 1, .int .u64 1073741824, .slice none 0 0, .int .i64 1, .int .u64 1, .int .u64 1073741824, .slice none 0 0, .int .i64 1, .int .u64 0, .int .u64 127, .slice none 0 0, .int .i64 2, .int .u64 0, .int .u64 1024, .slice none 0 0]
    have hB5 := hB4.alloc hB4.size (.cells #[.int .i64 1, .int .u64 1, .int .u64 1073741824, .slice none 0 0, .int .i64 1, .int .u64 1, .int .u64 1073741824, .slice none 0 0, .int .i64 1, .int .u64 0, .int .u64 127, .slice none 0 0, .int .i64 2, .int .u64 0, .int .u64 1024, .slice none 0 0] 62)
    have hS2 : (fun V => (Blk V gA 62 #[.int .i64 1, .int .u64 1, .int .u64 4096, .slice none 0 0] ∧ Blk V gO 62 #[.int .i64 1, .int .u64 1, .int .u64 1073741824, .slice none 0 0]) ∧ Blk V gC 62 #[.int .i64 1, .int .u64 0, .int .u64 127, .slice none 0 0]) (v4.alloc (.cells #[.int .i64 1, .int .u64 1, .int .u64 1073741824, .slice none 0 0, .int .i64 1, .int .u64 1, .int .u64 1073741824, .slice none 0 0, .int .i64 1, .int .u64 0, .int .u64 127, .slice none 0 0, .int .i64 2, .int .u64 0, .int .u64 1024, .slice none 0 0] 62)) := ⟨⟨hS1.1.1.alloc _, hS1.1.2.alloc _⟩, hS1.2.alloc _⟩
    refine held_all1 4 (by kernel_rfl) (op_value 4 33 _ (.slice (some ⟨v4.heap.size, 0, none⟩) 4 4) (v4.alloc (.cells #[.int .i64 1, .int .u64 1, .int .u64 1073741824, .slice none 0 0, .int .i64 1, .int .u64 1, .int .u64 1073741824, .slice none 0 0, .int .i64 1, .int .u64 0, .int .u64 127, .slice none 0 0, .int .i64 2, .int .u64 0, .int .u64 1024, .slice none 0 0] 62)) rfl rfl rfl (exec_fldsM4 _ _ _ _ rfl _ _ _ _ _ _ _ _ _ _ _ _ rfl rfl rfl rfl) ⟨hS2, ?_⟩)
    simp only [Act.put, List.setIfInBounds_toArray, List.set_cons_succ, List.set_cons_zero]
    refine held_take 5 2 _ (.slice (some ⟨v4.heap.size, 0, none⟩) 4 4) rfl rfl (by kernel_rfl) (by kernel_rfl) (by kernel_rfl) rfl hS2 (fun _ _ => rfl) ?_
    simp only [Act.put, List.setIfInBounds_toArray, List.set_cons_succ, List.set_cons_zero]
    refine wpAnyH_done (by kernel_rfl) ?_ _
    refine NoPanic.normal ?_
    generalize (v4.alloc (.cells #[.int .i64 1, .int .u64 1, .int .u64 1073741824, .slice none 0 0, .int .i64 1, .int .u64 1, .int .u64 1073741824, .slice none 0 0, .int .i64 1, .int .u64 0, .int .u64 127, .slice none 0 0, .int .i64 2, .int .u64 0, .int .u64 1024, .slice none 0 0] 62)) = v5 at *
    generalize v4.heap.size = g5 at *
    clear hS0 hS1 hS2 HZ HT HM HP
    go_wp2
    go_ret
    exact ⟨_, rfl, fldsW_flds (c := 4) (nsK 5) (mbK 5) k5 (fun j v hj => by
        have e : fldsW (nsK 5) (mbK 5) = [.int .i64 1, .int .u64 1, .int .u64 1073741824, .slice none 0 0, .int .i64 1, .int .u64 1, .int .u64 1073741824, .slice none 0 0, .int .i64 1, .int .u64 0, .int .u64 127, .slice none 0 0, .int .i64 2, .int .u64 0, .int .u64 1024, .slice none 0 0] := rfl
        rw [e] at hj
        simpa using hj) (by decide) (fun m h => by cases h <;> decide) (by decide) (by decide), hB5⟩
  by_cases e6 : k = 6
  · subst e6
    clear e1 e2 e4 e5
    obtain ⟨gC, hgC⟩ : ∃ gC, gC = w3.heap.size := ⟨_, rfl⟩
    rw [← hgC] at kC3
    go_wp2_with fail
    rw [← hgC]
    clear hgC
    generalize (w3.alloc (.cells #[.int .i64 1, .int .u64 0, .int .u64 127, .slice none 0 0] 62)) = v3 at *
    have hS0 : (fun V => (Blk V gA 62 #[.int .i64 1, .int .u64 1, .int .u64 4096, .slice none 0 0] ∧ Blk V gO 62 #[.int .i64 1, .int .u64 1, .int .u64 1073741824, .slice none 0 0]) ∧ Blk V gC 62 #[.int .i64 1, .int .u64 0, .int .u64 127, .slice none 0 0]) v3.drew := ⟨⟨kA3.drew, kO3.drew⟩, kC3.drew⟩
    refine held_begin (fun V => (Blk V gA 62 #[.int .i64 1, .int .u64 1, .int .u64 4096, .slice none 0 0] ∧ Blk V gO 62 #[.int .i64 1, .int .u64 1, .int .u64 1073741824, .slice none 0 0]) ∧ Blk V gC 62 #[.int .i64 1, .int .u64 0, .int .u64 127, .slice none 0 0]) (by kernel_rfl) ?_
    clear kA3 kO3 kC3
    refine held_take 0 36 _ (.agg #[.int .i64 1, .int .u64 1, .int .u64 4096, .slice none 0 0]) rfl rfl (by kernel_rfl) (by kernel_rfl) (by kernel_rfl) rfl hS0 (fun V hV => exec_loadB 62 _ rfl gA 0 [.int .i64 1, .int .u64 1, .int .u64 4096, .slice none 0 0] _ rfl ((hV.1.1).range 0 _ (fun j v hj => by rw [Nat.zero_add]; simpa using hj)) Try.underlying62 rfl info_fldW) ?_
    simp only [Act.put, List.setIfInBounds_toArray, List.set_cons_succ, List.set_cons_zero]
    refine held_take 1 37 _ (.agg #[.int .i64 1, .int .u64 1, .int .u64 1073741824, .slice none 0 0]) rfl rfl (by kernel_rfl) (by kernel_rfl) (by kernel_rfl) rfl hS0 (fun V hV => exec_loadB 62 _ rfl gO 0 [.int .i64 1, .int .u64 1, .int .u64 1073741824, .slice none 0 0] _ rfl ((hV.1.2).range 0 _ (fun j v hj => by rw [Nat.zero_add]; simpa using hj)) Try.underlying62 rfl info_fldW) ?_
    simp only [Act.put, List.setIfInBounds_toArray, List.set_cons_succ, List.set_cons_zero]
    refine held_take 2 38 _ (.agg #[.int .i64 1, .int .u64 1, .int .u64 1073741824, .slice none 0 0]) rfl rfl (by kernel_rfl) (by kernel_rfl) (by kernel_rfl) rfl hS0 (fun V hV => exec_loadB 62 _ rfl gO 0 [.int .i64 1, .int .u64 1, .int .u64 1073741824, .slice none 0 0] _ rfl ((hV.1.2).range 0 _ (fun j v hj => by rw [Nat.zero_add]; simpa using hj)) Try.underlying62 rfl info_fldW) ?_
    simp only [Act.put, List.setIfInBounds_toArray, List.set_cons_succ, List.set_cons_zero]
    refine held_take 3 39 _ (.agg #[.int .i64 1, .int .u64 1, .int .u64 1073741824, .slice none 0 0]) rfl rfl (by kernel_rfl) (by kernel_rfl) (by kernel_rfl) rfl hS0 (fun V hV => exec_loadB 62 _ rfl gO 0 [.int .i64 1, .int .u64 1, .int .u64 1073741824, .slice none 0 0] _ rfl ((hV.1.2).range 0 _ (fun j v hj => by rw [Nat.zero_add]; simpa using hj)) Try.underlying62 rfl info_fldW) ?_
    simp only [Act.put, List.setIfInBounds_toArray, List.set_cons_succ, List.set_cons_zero]
    refine held_take 4 40 _ (.agg #[.int .i64 1, .int .u64 1, .int .u64 1073741824, .slice none 0 0]) rfl rfl (by kernel_rfl) (by kernel_rfl) (by kernel_rfl) rfl hS0 (fun V hV => exec_loadB 62 _ rfl gO 0 [.int .i64 1, .int .u64 1, .int .u64 1073741824, .slice none 0 0] _ rfl ((hV.1.2).range 0 _ (fun j v hj => by rw [Nat.zero_add]; simpa using hj)) Try.underlying62 rfl info_fldW) ?_
    simp only [Act.put, List.setIfInBounds_toArray, List.set_cons_succ, List.set_cons_zero]
    refine held_all1 5 (by kernel_rfl) (op_call 5 41 _ 40 #[.int .u64 1, .int .u64 3] rfl rfl rfl (exec_twoM 40 _ _ _ rfl _ _ rfl rfl Try.call40) ((HT.out _).mono ?_))
    rintro e v4 ⟨rfl, hb4⟩
    have hS1 : (fun V => (Blk V gA 62 #[.int .i64 1, .int .u64 1, .int .u64 4096, .slice none 0 0] ∧ Blk V gO 62 #[.int .i64 1, .int .u64 1, .int .u64 1073741824, .slice none 0 0]) ∧ Blk V gC 62 #[.int .i64 1, .int .u64 0, .int .u64 127, .slice none 0 0]) v4 := ⟨⟨hS0.1.1.below hb4 hS0.1.1.lt, hS0.1.2.below hb4 hS0.1.2.lt⟩, hS0.2.below hb4 hS0.2.lt⟩
    have hB4 : Below w.heap.size w v4 := hB3.drew.trans (hb4.mono hB3.size)
    refine ⟨_, rfl, hS1, ?_⟩
    simp only [Act.put, List.setIfInBounds_toArray, List.set_cons_succ, List.set_cons_zero]
    have k5 := Blk.new v4 62 #[.int .i64 1, .int .u64 1, .int .u64 4096, .slice none 0 0, .int .i64 1, .int .u64 1, .int .u64 1073741824, .slice none 0 0, .int .i64 1, .int .u64 1, .int .u64 1073741824, .slice none 0 0, .int .i64 1, .int .u64 1, .int .u64 1073741824, .slice none 0 0, .int .i64 1, .int .u64 1, .int .u64 1073741824, .slice none 0 0, .int .i64 1, .int .u64 1, .int .u64 3, .slice none 0 0]
    have hB5 := hB4.alloc hB4.size (.cells #[.int .i64 1, .int .u64 1, .int .u64 4096, .slice none 0 0, .int .i64 1, .int .u64 1, .int .u64 1073741824, .slice none 0 0, .int .i64 1, .int .u64 1, .int .u64 1073741824, .slice none 0 0, .int .i64 1, .int .u64 1, .int .u64 1073741824, .slice none 0 0, .int .i64 1, .int .u64 1, .int .u64 1073741824, .slice none 0 0, .int .i64 1, .int .u64 1, .int .u64 3, .slice none 0 0] 62)
    have hS2 : (fun V => (Blk V gA 62 #[.int .i64 1, .int .u64 1, .int .u64 4096, .slice none 0 0] ∧ Blk V gO 62 #[.int .i64 1, .int .u64 1, .int .u64 1073741824, .slice none 0 0]) ∧ Blk V gC 62 #[.int .i64 1, .int .u64 0, .int .u64 127, .slice none 0 0]) (v4.alloc (.cells #[.int .i64 1, .int .u64 1, .int .u64 4096, .slice none 0 0, .int .i64 1, .int .u64 1, .int .u64 1073741824, .slice none 0 0, .int .i64 1, .int .u64 1, .int .u64 1073741824, .slice none 0 0, .int .i64 1, .int .u64 1, .int .u64 1073741824, .slice none 0 0, .int .i64 1, .int .u64 1, .int .u64 1073741824, .slice none 0 0, .int .i64 1, .int .u64 1, .int .u64 3, .slice none 0 0] 62)) := ⟨⟨hS1.1.1.alloc _, hS1.1.2.alloc _⟩, hS1.2.alloc _⟩
    refine held_all1 6 (by kernel_rfl) (op_value 6 42 _ (.slice (some ⟨v4.heap.size, 0, none⟩) 6 6) (v4.alloc (.cells #[.int .i64 1, .int .u64 1, .int .u64 4096, .slice none 0 0, .int .i64 1, .int .u64 1, .int .u64 1073741824, .slice none 0 0, .int .i64 1, .int .u64 1, .int .u64 1073741824, .slice none 0 0, .int .i64 1, .int .u64 1, .int .u64 1073741824, .slice none 0 0, .int .i64 1, .int .u64 1, .int .u64 1073741824, .slice none 0 0, .int .i64 1, .int .u64 1, .int .u64 3, .slice none 0 0] 62)) rfl rfl rfl (exec_fldsM6 _ _ _ _ _ _ rfl _ _ _ _ _ _ _ _ _ _ _ _ _ _ _ _ _ _ rfl rfl rfl rfl rfl rfl) ⟨hS2, ?_⟩)
    simp only [Act.put, List.setIfInBounds_toArray, List.set_cons_succ, List.set_cons_zero]
    refine held_take 7 2 _ (.slice (some ⟨v4.heap.size, 0, none⟩) 6 6) rfl rfl (by kernel_rfl) (by kernel_rfl) (by kernel_rfl) rfl hS2 (fun _ _ => rfl) ?_
    simp only [Act.put, List.setIfInBounds_toArray, List.set_cons_succ, List.set_cons_zero]
    refine wpAnyH_done (by kernel_rfl) ?_ _
    refine NoPanic.normal ?_
    generalize (v4.alloc (.cells #[.int .i64 1, .int .u64 1, .int .u64 4096, .slice none 0 0, .int .i64 1, .int .u64 1, .int .u64 1073741824, .slice none 0 0, .int .i64 1, .int .u64 1, .int .u64 1073741824, .slice none 0 0, .int .i64 1, .int .u64 1, .int .u64 1073741824, .slice none 0 0, .int .i64 1, .int .u64 1, .int .u64 1073741824, .slice none 0 0, .int .i64 1, .int .u64 1, .int .u64 3, .slice none 0 0] 62)) = v5 at *
    generalize v4.heap.size = g5 at *
    clear hS0 hS1 hS2 HZ HT HM HP
    go_wp2
    go_ret
    exact ⟨_, rfl, fldsW_flds (c := 6) (nsK 6) (mbK 6) k5 (fun j v hj => by
        have e : fldsW (nsK 6) (mbK 6) = [.int .i64 1, .int .u64 1, .int .u64 4096, .slice none 0 0, .int .i64 1, .int .u64 1, .int .u64 1073741824, .slice none 0 0, .int .i64 1, .int .u64 1, .int .u64 1073741824, .slice none 0 0, .int .i64 1, .int .u64 1, .int .u64 1073741824, .slice none 0 0, .int .i64 1, .int .u64 1, .int .u64 1073741824, .slice none 0 0, .int .i64 1, .int .u64 1, .int .u64 3, .slice none 0 0] := rfl
        rw [e] at hj
        simpa using hj) (by decide) (fun m h => by cases h <;> decide) (by decide) (by decide), hB5⟩
  by_cases e7 : k = 7
  · subst e7
    clear e1 e2 e4 e5 e6
    have kA3c0 : (w3.alloc (.cells #[.int .i64 1, .int .u64 0, .int .u64 127, .slice none 0 0] 62)).cell? ⟨gA, 0, none⟩ = some (.int .i64 1) := kA3.cell (j := 0) rfl
    have kA3c1 : (w3.alloc (.cells #[.int .i64 1, .int .u64 0, .int .u64 127, .slice none 0 0] 62)).cell? ⟨gA, 1, none⟩ = some (.int .u64 1) := kA3.cell (j := 1) rfl
    have kA3c2 : (w3.alloc (.cells #[.int .i64 1, .int .u64 0, .int .u64 127, .slice none 0 0] 62)).cell? ⟨gA, 2, none⟩ = some (.int .u64 4096) := kA3.cell (j := 2) rfl
    have kA3c3 : (w3.alloc (.cells #[.int .i64 1, .int .u64 0, .int .u64 127, .slice none 0 0] 62)).cell? ⟨gA, 3, none⟩ = some (.slice none 0 0) := kA3.cell (j := 3) rfl
    have kO3c0 : (w3.alloc (.cells #[.int .i64 1, .int .u64 0, .int .u64 127, .slice none 0 0] 62)).cell? ⟨gO, 0, none⟩ = some (.int .i64 1) := kO3.cell (j := 0) rfl
    have kO3c1 : (w3.alloc (.cells #[.int .i64 1, .int .u64 0, .int .u64 127, .slice none 0 0] 62)).cell? ⟨gO, 1, none⟩ = some (.int .u64 1) := kO3.cell (j := 1) rfl
    have kO3c2 : (w3.alloc (.cells #[.int .i64 1, .int .u64 0, .int .u64 127, .slice none 0 0] 62)).cell? ⟨gO, 2, none⟩ = some (.int .u64 1073741824) := kO3.cell (j := 2) rfl
    have kO3c3 : (w3.alloc (.cells #[.int .i64 1, .int .u64 0, .int .u64 127, .slice none 0 0] 62)).cell? ⟨gO, 3, none⟩ = some (.slice none 0 0) := kO3.cell (j := 3) rfl
    have kC3c0 : (w3.alloc (.cells #[.int .i64 1, .int .u64 0, .int .u64 127, .slice none 0 0] 62)).cell? ⟨w3.heap.size, 0, none⟩ = some (.int .i64 1) := kC3.cell (j := 0) rfl
    have kC3c1 : (w3.alloc (.cells #[.int .i64 1, .int .u64 0, .int .u64 127, .slice none 0 0] 62)).cell? ⟨w3.heap.size, 1, none⟩ = some (.int .u64 0) := kC3.cell (j := 1) rfl
    have kC3c2 : (w3.alloc (.cells #[.int .i64 1, .int .u64 0, .int .u64 127, .slice none 0 0] 62)).cell? ⟨w3.heap.size, 2, none⟩ = some (.int .u64 127) := kC3.cell (j := 2) rfl
    have kC3c3 : (w3.alloc (.cells #[.int .i64 1, .int .u64 0, .int .u64 127, .slice none 0 0] 62)).cell? ⟨w3.heap.size, 3, none⟩ = some (.slice none 0 0) := kC3.cell (j := 3) rfl
    have hB5 := hB3.alloc hB3.size (.cells #[.int .i64 1, .int .u64 1, .int .u64 1073741824, .slice none 0 0] 62)
    have HK5 : Hid (Blk ((w3.alloc (.cells #[.int .i64 1, .int .u64 0, .int .u64 127, .slice none 0 0] 62)).alloc (.cells #[.int .i64 1, .int .u64 1, .int .u64 1073741824, .slice none 0 0] 62)) (w3.heap.size + 1) 62 #[.int .i64 1, .int .u64 1, .int .u64 1073741824, .slice none 0 0]) := Blk.newAt _ _ _ _ (by simp)
    clear kA3 kO3 kC3 hB3 HZ HT HM HP
    go_wp2
    go_ret
    exact ⟨_, rfl, fldsW_flds (c := 1) (nsK 7) (mbK 7) HK5.out (fun j v hj => by
        have e : fldsW (nsK 7) (mbK 7) = [.int .i64 1, .int .u64 1, .int .u64 1073741824, .slice none 0 0] := rfl
        rw [e] at hj
        simpa using hj) (by decide) (fun m h => by cases h <;> decide) (by decide) (by decide), hB5⟩
  by_cases e8 : k = 8
  · subst e8
    clear e1 e2 e4 e5 e6 e7
    have kA3c0 : (w3.alloc (.cells #[.int .i64 1, .int .u64 0, .int .u64 127, .slice none 0 0] 62)).cell? ⟨gA, 0, none⟩ = some (.int .i64 1) := kA3.cell (j := 0) rfl
    have kA3c1 : (w3.alloc (.cells #[.int .i64 1, .int .u64 0, .int .u64 127, .slice none 0 0] 62)).cell? ⟨gA, 1, none⟩ = some (.int .u64 1) := kA3.cell (j := 1) rfl
    have kA3c2 : (w3.alloc (.cells #[.int .i64 1, .int .u64 0, .int .u64 127, .slice none 0 0] 62)).cell? ⟨gA, 2, none⟩ = some (.int .u64 4096) := kA3.cell (j := 2) rfl
    have kA3c3 : (w3.alloc (.cells #[.int .i64 1, .int .u64 0, .int .u64 127, .slice none 0 0] 62)).cell? ⟨gA, 3, none⟩ = some (.slice none 0 0) := kA3.cell (j := 3) rfl
    have kO3c0 : (w3.alloc (.cells #[.int .i64 1, .int .u64 0, .int .u64 127, .slice none 0 0] 62)).cell? ⟨gO, 0, none⟩ = some (.int .i64 1) := kO3.cell (j := 0) rfl
    have kO3c1 : (w3.alloc (.cells #[.int .i64 1, .int .u64 0, .int .u64 127, .slice none 0 0] 62)).cell? ⟨gO, 1, none⟩ = some (.int .u64 1) := kO3.cell (j := 1) rfl
    have kO3c2 : (w3.alloc (.cells #[.int .i64 1, .int .u64 0, .int .u64 127, .slice none 0 0] 62)).cell? ⟨gO, 2, none⟩ = some (.int .u64 1073741824) := kO3.cell (j := 2) rfl
    have kO3c3 : (w3.alloc (.cells #[.int .i64 1, .int .u64 0, .int .u64 127, .slice none 0 0] 62)).cell? ⟨gO, 3, none⟩ = some (.slice none 0 0) := kO3.cell (j := 3) rfl
    have kC3c0 : (w3.alloc (.cells #[.int .i64 1, .int .u64 0, .int .u64 127, .slice none 0 0] 62)).cell? ⟨w3.heap.size, 0, none⟩ = some (.int .i64 1) := kC3.cell (j := 0) rfl
    have kC3c1 : (w3.alloc (.cells #[.int .i64 1, .int .u64 0, .int .u64 127, .slice none 0 0] 62)).cell? ⟨w3.heap.size, 1, none⟩ = some (.int .u64 0) := kC3.cell (j := 1) rfl
    have kC3c2 : (w3.alloc (.cells #[.int .i64 1, .int .u64 0, .int .u64 127, .slice none 0 0] 62)).cell? ⟨w3.heap.size, 2, none⟩ = some (.int .u64 127) := kC3.cell (j := 2) rfl
    have kC3c3 : (w3.alloc (.cells #[.int .i64 1, .int .u64 0, .int .u64 127, .slice none 0 0] 62)).cell? ⟨w3.heap.size, 3, none⟩ = some (.slice none 0 0) := kC3.cell (j := 3) rfl
    have hB5 := hB3.alloc hB3.size (.cells #[.int .i64 1, .int .u64 1, .int .u64 1073741824, .slice none 0 0, .int .i64 1, .int .u64 1, .int .u64 1073741824, .slice none 0 0] 62)
    have HK5 : Hid (Blk ((w3.alloc (.cells #[.int .i64 1, .int .u64 0, .int .u64 127, .slice none 0 0] 62)).alloc (.cells #[.int .i64 1, .int .u64 1, .int .u64 1073741824, .slice none 0 0, .int .i64 1, .int .u64 1, .int .u64 1073741824, .slice none 0 0] 62)) (w3.heap.size + 1) 62 #[.int .i64 1, .int .u64 1, .int .u64 1073741824, .slice none 0 0, .int .i64 1, .int .u64 1, .int .u64 1073741824, .slice none 0 0]) := Blk.newAt _ _ _ _ (by simp)
    clear kA3 kO3 kC3 hB3 HZ HT HM HP
    go_wp2
    go_ret
    exact ⟨_, rfl, fldsW_flds (c := 2) (nsK 8) (mbK 8) HK5.out (fun j v hj => by
        have e : fldsW (nsK 8) (mbK 8) = [.int .i64 1, .int .u64 1, .int .u64 1073741824, .slice none 0 0, .int .i64 1, .int .u64 1, .int .u64 1073741824, .slice none 0 0] := rfl
        rw [e] at hj
        simpa using hj) (by decide) (fun m h => by cases h <;> decide) (by decide) (by decide), hB5⟩
  have d1 : (k == 1) = false := beq_eq_false_iff_ne.2 e1
  have d2 : (k == 2) = false := beq_eq_false_iff_ne.2 e2
  have d4 : (k == 4) = false := beq_eq_false_iff_ne.2 e4
  have d5 : (k == 5) = false := beq_eq_false_iff_ne.2 e5
  have d6 : (k == 6) = false := beq_eq_false_iff_ne.2 e6
  have d7 : (k == 7) = false := beq_eq_false_iff_ne.2 e7
  have d8 : (k == 8) = false := beq_eq_false_iff_ne.2 e8
  have hn : nsK k = [] := by
    unfold nsK numK
    rw [if_neg e1, if_neg (by omega), if_neg (by omega), if_neg e6, if_neg e7]
    rfl
  have hm : mbK k = none := by
    unfold mbK
    rw [if_neg e2, if_neg e5]
  have HN : Hid (nsK k = [] ∧ mbK k = none) := ⟨hn, hm⟩
  clear hn hm e1 e2 e4 e5 e6 e7 e8 kA3 kO3 kC3 HZ HT HM HP
  go_wp2
  go_ret
  rw [HN.out.1, HN.out.2]
  exact ⟨_, rfl, ⟨none, 0, rfl, by unfold maxLen; decide, fun h => by cases h⟩, hB3⟩
end Go.Proofs.Ytgfcindkfnjeoaa
namespace Go.Proofs.Ytgfcindkfnjeoaa
open Go.RowKit

theorem hid_ofR {p : Prop} (h : p) : Hid p := h
set_option maxRecDepth 100000 in
set_option maxHeartbeats 8000000 in
theorem rdecode14_any (bv : Value) (s : List UInt8) (w : World) (hS : Seg w bv s) (hl : s.length ≤ maxLen)
    (HRD : ∀ n lv l x s V, Flds V n lv l → Seg V x s → s.length ≤ maxLen → Calls Try.prog 25 #[lv, x] V fun e w' => decodePost V (decTop l s) e w')
    (HMD : ∀ V x s, Seg V x s → s.length ≤ maxLen → Calls Try.prog 46 #[x] V fun e w' => ∃ M su er, e = .returned (.tuple #[manV M su, .int .i64 er]) ∧ decIs w' s M su er ∧ Below V.heap.size V w') : Calls Try.prog 13 #[bv] w fun e w' => decPostW w s e w' := by
  obtain ⟨MZ, hMZ⟩ : ∃ Z, Z = msA (kMs 0) (manL zeroM (.slice none 0 0)) (.slice none 0 0) := ⟨_, rfl⟩
  have HMZ : Hid (MZ = msA (kMs 0) (manL zeroM (.slice none 0 0)) (.slice none 0 0)) := hMZ
  have hz0 := zeroMess
  have hbz := built_mess0
  have hmn : ¬ MZ = #[] := fun e => by
    have h := msZ_size (kMs 0)
    rw [← hMZ, e] at h
    cases h
  have hzo : MZ.all (·.oneCell') = true := by rw [hMZ]; exact msZ_one _
  have hzi : (Try.prog.info? 28).map (·.size) = some MZ.size := by rw [hMZ, msZ_size]; exact info_mess
  rw [← hMZ] at hz0 hbz
  have hB0 := (Below.refl w.heap.size w).alloc (Nat.le_refl _) (.cells MZ 28)
  have kR0 : Blk (w.alloc (.cells MZ 28)) w.heap.size 28 MZ := Blk.new w 28 MZ
  obtain ⟨ab, cp, rfl⟩ := hS.shapeD
  clear hMZ
  cases s with
  | nil =>
    go_enter Try.func13, Try.ntmps13
    go_wp2_with (refine store_blk rfl 28 _ _ rfl rfl w.heap.size (MZ) rfl rfl 28 MZ kR0 hzi rfl hzo ?_; intro w9 kR9 hg9 _)
    have hB9 : Below w.heap.size w w9 := below_grown hB0 hg9 hB0.size (fun q hq => by cases hq; exact Nat.le_refl _)
    refine bodyPost_ret (results_pairK Try.results13 _ _ w.heap.size 28 (MZ) (0, 0) _ _ rfl rfl kR9 Try.underlying28 rfl hzi) rfl ?_
    rw [HMZ.out]
    exact decPost_no (fun y _ => bytesM_ne y) hB9
  | cons h r =>
    have hrow := hS
    obtain ⟨g, o, rfl, hg, hgc, hrest, hcap⟩ : ∃ g o, ab = some ⟨g, o, none⟩ ∧ g < w.heap.size ∧ w.cell? ⟨g, o, none⟩ = some (.int .u8 (h.toNat : Int)) ∧ Seg w (.slice (restAt ab cp 1) ((h :: r).length - 1) (cp - 1)) r ∧ True := by
      have hd := hS.drops 1 (by simp)
      rcases hS with ⟨h0, _⟩ | ⟨b, off, c, e1, e2, e3, e4⟩
      · cases h0
      · cases e1
        exact ⟨b, off, rfl, e4, by have := e3 0 (by simp); exact this, hd, trivial⟩
    have HSL : Hid (∀ V, (Instr.slice 26 (.slice (some ⟨g, o, none⟩) (r.length + 1) cp) (some (.int .i64 1)) none none).run Try.prog V = .ok (.slice (restAt (some ⟨g, o, none⟩) cp 1) r.length (cp - 1)) V) := fun V => slice_rest (some ⟨g, o, none⟩) (r.length + 1) cp 1 (by omega) V
    have hrest : Seg w (.slice (restAt (some ⟨g, o, none⟩) cp 1) r.length (cp - 1)) r := hrest
    generalize restAt (some ⟨g, o, none⟩) cp 1 = RA at *
    generalize cp - 1 = RC at *
    have h255 : h.toNat < 256 := UInt8.toNat_lt h
    have cv := fun V => conv_bW (h.toNat : Int) (by omega) (by omega) V
    have ixb := fun V => index_bW g o (r.length + 1) cp V (by omega)
    have hc0 : (w.alloc (.cells MZ 28)).cell? ⟨g, o, none⟩ = some (.int .u8 (h.toNat : Int)) := (hB0.cell (p := ⟨g, o, none⟩) hg).trans hgc
    have HRS : Hid (∀ V, Below w.heap.size w V → Seg V (.slice RA r.length RC) r) := fun V hV => hrest.below hV (Nat.le_refl _)
    have HML : Hid (r.length ≤ maxLen) := by have : (h :: r).length = r.length + 1 := rfl; show r.length ≤ maxLen; omega
    have hlen : (0 : Int) < (r.length : Int) + 1 := by omega
    clear hrow hS hgc hrest hcap hl hg
    have hfl : ∀ V, Calls Try.prog 19 #[.int .i64 (h.toNat : Int)] V fun e w' => ∃ v, e = .returned v ∧ Flds w' 1 v (recF (nsK (h.toNat : Int)) (mbK (h.toNat : Int))) ∧ Below V.heap.size V w' := fun V => rfields14_any _ V
    have HFL : Hid (∀ V, Calls Try.prog 19 #[.int .i64 (h.toNat : Int)] V fun e w' => ∃ v, e = .returned v ∧ Flds w' 1 v (recF (nsK (h.toNat : Int)) (mbK (h.toNat : Int))) ∧ Below V.heap.size V w') := hfl
    clear hfl
    have dl : ((r.length : Int) + 1 == 0) = false := beq_eq_false_iff_ne.2 (by omega)
    go_enter Try.func13, Try.ntmps13
    by_cases e1 : (h.toNat : Int) < 1
    · have d1 : decide ((h.toNat : Int) < 1) = true := decide_eq_true e1
      have HNO : Hid (∀ y : MS, y.m.h.length = 32 → bytesM y ≠ some (h :: r)) := not_rec (by omega) (no_rec (.inl (by omega)) r)
      clear HFL
      go_wp2_with (refine store_blk rfl 28 _ _ rfl rfl w.heap.size (MZ) rfl rfl 28 MZ kR0 hzi rfl hzo ?_; intro w9 kR9 hg9 _)
      have hB9 : Below w.heap.size w w9 := below_grown hB0 hg9 hB0.size (fun q hq => by cases hq; exact Nat.le_refl _)
      refine bodyPost_ret (results_pairK Try.results13 _ _ w.heap.size 28 (MZ) (0, 0) _ _ rfl rfl kR9 Try.underlying28 rfl hzi) rfl ?_
      rw [HMZ.out]
      exact decPost_no HNO.out hB9
    have d1 : decide ((h.toNat : Int) < 1) = false := decide_eq_false e1
    by_cases e8 : (8 : Int) < (h.toNat : Int)
    · have d8 : decide ((8 : Int) < (h.toNat : Int)) = true := decide_eq_true e8
      have HNO : Hid (∀ y : MS, y.m.h.length = 32 → bytesM y ≠ some (h :: r)) := not_rec (by omega) (no_rec (.inl (by omega)) r)
      clear HFL
      go_wp2_with (refine store_blk rfl 28 _ _ rfl rfl w.heap.size (MZ) rfl rfl 28 MZ kR0 hzi rfl hzo ?_; intro w9 kR9 hg9 _)
      have hB9 : Below w.heap.size w w9 := below_grown hB0 hg9 hB0.size (fun q hq => by cases hq; exact Nat.le_refl _)
      refine bodyPost_ret (results_pairK Try.results13 _ _ w.heap.size 28 (MZ) (0, 0) _ _ rfl rfl kR9 Try.underlying28 rfl hzi) rfl ?_
      rw [HMZ.out]
      exact decPost_no HNO.out hB9
    have d8 : decide ((8 : Int) < (h.toNat : Int)) = false := decide_eq_false e8
    by_cases e3 : (h.toNat : Int) = 3
    · have d3 : ((h.toNat : Int) == 3) = true := beq_iff_eq.2 e3
      cases r with
      | nil =>
        have HMK : Hid (MZ.setIfInBounds 0 (.int .i64 3) = msA (kMs 3) (manL zeroM (.slice none 0 0)) (.slice none 0 0)) := by show _ = _; rw [HMZ.out]; simp [msA, msL, kMs]
        have hmo : (MZ.setIfInBounds 0 (.int .i64 3)).all (·.oneCell') = true := by rw [HMK.out]; exact msZ_one _
        have hmi : (Try.prog.info? 28).map (·.size) = some (MZ.setIfInBounds 0 (.int .i64 3)).size := by rw [HMK.out, msZ_size]; exact info_mess
        have hms : MZ.size = (MZ.setIfInBounds 0 (.int .i64 3)).size := by simp
        have HH : Hid (h = 3) := by show h = 3; apply UInt8.toNat_inj.1; show h.toNat = 3; omega
        clear HFL
        go_wp2_with (refine store_blk rfl 28 _ _ rfl rfl w.heap.size (MZ.setIfInBounds 0 (.int .i64 3)) rfl rfl 28 MZ kR0 hmi hms hmo ?_; intro w9 kR9 hg9 _)
        have hB9 : Below w.heap.size w w9 := below_grown hB0 hg9 hB0.size (fun q hq => by cases hq; exact Nat.le_refl _)
        refine bodyPost_ret (results_pairK Try.results13 _ _ w.heap.size 28 (MZ.setIfInBounds 0 (.int .i64 3)) (0, 0) _ _ rfl rfl kR9 Try.underlying28 rfl hmi) rfl ?_
        rw [HMK.out]
        refine ⟨kMs 3, none, 0, none, 0, 0, rfl, rfl, Nat.zero_le _, wds_nilW _, seg_nilW _, Nat.zero_le _, .inl ⟨rfl, ?_⟩, hB9⟩
        rw [HH.out]
        exact idle_bytes
      | cons h2 r2 =>
        have HNO : Hid (∀ y : MS, y.m.h.length = 32 → bytesM y ≠ some (h :: h2 :: r2)) := not_rec (fun e => by cases e.2) (no_rec (.inr e3) (h2 :: r2))
        have d4 : (1 : Int) < ((h2 :: r2).length : Int) + 1 := by rw [List.length_cons]; omega
        generalize h2 :: r2 = r at *
        clear HFL
        go_wp2_with (refine store_blk rfl 28 _ _ rfl rfl w.heap.size (MZ) rfl rfl 28 MZ kR0 hzi rfl hzo ?_; intro w9 kR9 hg9 _)
        have hB9 : Below w.heap.size w w9 := below_grown hB0 hg9 hB0.size (fun q hq => by cases hq; exact Nat.le_refl _)
        refine bodyPost_ret (results_pairK Try.results13 _ _ w.heap.size 28 (MZ) (0, 0) _ _ rfl rfl kR9 Try.underlying28 rfl hzi) rfl ?_
        rw [HMZ.out]
        exact decPost_no HNO.out hB9
    have d3 : ((h.toNat : Int) == 3) = false := beq_eq_false_iff_ne.2 e3
    go_wp2_with fail
    generalize w.alloc (.cells MZ 28) = W0 at *
    have kR1 := kR0.drew
    have hB1 := hB0.drew
    have HE3 : Hid (¬ ((h.toNat : Int) = 3 ∧ r = [])) := fun e => e3 e.1
    clear kR0 hB0 e1 e8 e3 d1 d8 d3 hc0
    cases hdt : decTop (recF (nsK (h.toNat : Int)) (mbK (h.toNat : Int))) r with
    | error n =>
      have dc : (n == (0 : Int)) = false := by rcases rec_code hdt with rfl | rfl <;> rfl
      have HNO : Hid (∀ y : MS, y.m.h.length = 32 → bytesM y ≠ some (h :: r)) := not_rec HE3.out hdt
      refine held_begin (fun _ => True) (by kernel_rfl) ?_
      refine held_take 0 37 _ (.int .i64 (h.toNat : Int)) rfl rfl (by kernel_rfl) (by kernel_rfl) (by kernel_rfl) rfl trivial (fun _ _ => rfl) ?_
      simp only [Act.put, List.setIfInBounds_toArray, List.set_cons_succ, List.set_cons_zero]
      refine held_take 2 39 _ (.slice (some ⟨g, o, none⟩) (r.length + 1) cp) rfl rfl (by kernel_rfl) (by kernel_rfl) (by kernel_rfl) rfl trivial (fun _ _ => rfl) ?_
      simp only [Act.put, List.setIfInBounds_toArray, List.set_cons_succ, List.set_cons_zero]
      refine held_take 3 40 _ (.slice RA r.length RC) rfl rfl (by kernel_rfl) (by kernel_rfl) (by kernel_rfl) rfl trivial (fun V _ => exec_slW _ _ rfl (.slice (some ⟨g, o, none⟩) (r.length + 1) cp) (.int .i64 1) (.slice RA r.length RC) rfl rfl (HSL.out V)) ?_
      simp only [Act.put, List.setIfInBounds_toArray, List.set_cons_succ, List.set_cons_zero]
      refine held_all1 1 (by kernel_rfl) (op_call 1 38 _ 19 #[.int .i64 (h.toNat : Int)] rfl rfl rfl (exec_one 19 _ _ rfl _ rfl Try.call19) ((HFL.out _).mono ?_))
      rintro e w2 ⟨lv, rfl, hF2, hb2⟩
      have hB2 := hB1.trans (hb2.mono hB1.size)
      have kR2 := kR1.below hb2 kR1.lt
      have hs2 := HRS.out w2 hB2
      have HDC := HRD _ lv (recF (nsK (h.toNat : Int)) (mbK (h.toNat : Int))) _ r w2 hF2 hs2 HML.out
      obtain ⟨al, cl, e2, _, _⟩ := hF2.form
      subst e2
      clear hF2 hs2 hb2 hB1 kR1
      rw [hdt] at HDC
      refine ⟨_, rfl, trivial, ?_⟩
      simp only [Act.put, List.setIfInBounds_toArray, List.set_cons_succ, List.set_cons_zero]
      refine held_all1 4 (by kernel_rfl) (op_call 4 41 _ 25 #[.slice al (recF (nsK (h.toNat : Int)) (mbK (h.toNat : Int))).length cl, .slice RA r.length RC] rfl rfl rfl (exec_two8 25 _ _ _ rfl _ _ rfl rfl Try.call25) (HDC.mono ?_))
      rintro e w3 ⟨rfl, hb3⟩
      have hB3 := hB2.trans (hb3.mono hB2.size)
      have kR3 := kR2.below hb3 kR2.lt
      clear hb3 hB2 kR2
      refine ⟨_, rfl, trivial, ?_⟩
      simp only [Act.put, List.setIfInBounds_toArray, List.set_cons_succ, List.set_cons_zero]
      refine held_take 5 36 _ (.tuple #[.slice none 0 0, .int .i64 n]) rfl rfl (by kernel_rfl) (by kernel_rfl) (by kernel_rfl) rfl trivial (fun _ _ => rfl) ?_
      simp only [Act.put, List.setIfInBounds_toArray, List.set_cons_succ, List.set_cons_zero]
      refine held_take 6 42 _ (.slice none 0 0) rfl rfl (by kernel_rfl) (by kernel_rfl) (by kernel_rfl) rfl trivial (fun _ _ => rfl) ?_
      simp only [Act.put, List.setIfInBounds_toArray, List.set_cons_succ, List.set_cons_zero]
      refine held_take 7 43 _ (.int .i64 n) rfl rfl (by kernel_rfl) (by kernel_rfl) (by kernel_rfl) rfl trivial (fun _ _ => rfl) ?_
      simp only [Act.put, List.setIfInBounds_toArray, List.set_cons_succ, List.set_cons_zero]
      refine held_take 8 5 _ (.slice none 0 0) rfl rfl (by kernel_rfl) (by kernel_rfl) (by kernel_rfl) rfl trivial (fun _ _ => rfl) ?_
      simp only [Act.put, List.setIfInBounds_toArray, List.set_cons_succ, List.set_cons_zero]
      refine held_take 9 6 _ (.int .i64 n) rfl rfl (by kernel_rfl) (by kernel_rfl) (by kernel_rfl) rfl trivial (fun _ _ => rfl) ?_
      simp only [Act.put, List.setIfInBounds_toArray, List.set_cons_succ, List.set_cons_zero]
      refine wpAnyH_done (by kernel_rfl) ?_ _
      refine NoPanic.normal ?_
      go_wp2_with (refine store_blk rfl 28 _ _ rfl rfl w.heap.size (MZ) rfl rfl 28 MZ kR3 hzi rfl hzo ?_; intro w9 kR9 hg9 _)
      have hB9 : Below w.heap.size w w9 := below_grown hB3 hg9 hB3.size (fun q hq => by cases hq; exact Nat.le_refl _)
      refine bodyPost_ret (results_pairK Try.results13 _ _ w.heap.size 28 (MZ) (0, 0) _ _ rfl rfl kR9 Try.underlying28 rfl hzi) rfl ?_
      rw [HMZ.out]
      exact decPost_no HNO.out hB9
    | ok v =>
      have hkd := rec_kind hdt
      obtain ⟨xs, bo, rfl, hx, hb, he⟩ := (rec_okK hkd.1.1 hkd.1.2 hkd.2).dec hdt
      obtain ⟨hbl, hb2, hb5, hb0⟩ := inBs_len hb
      have hnl : (numK (h.toNat : Int)).length = xs.length := by rw [inNs_len hx]; unfold nsK; rw [List.length_map]
      have hxp : 0 < xs.length := by rw [← hnl]; exact numK_pos hkd
      have hxc : ∀ a ∈ xs, a ≤ 1073741824 := inNs_le hx (fun n hn => by
        unfold nsK at hn
        obtain ⟨m, hm, rfl⟩ := List.mem_map.1 hn
        exact (numK_at hm).2.2)
      have HBT : Hid (∀ (m : MM) (b : List UInt8), tailOk (h.toNat : Int) m b → boK (outMs (h.toNat : Int) xs m b) ((encM m).getD []) = bo → bytesM (outMs (h.toNat : Int) xs m b) = some (h :: r)) := fun m b ht hbo => outMs_bytes hkd.1.1 hkd.1.2 hkd.2 hx ht hbo he
      have HNM : Hid ((h.toNat : Int) = 2 → (∀ m : MM, okM m → encTop manF (manVs m) ≠ some (bo.getD [])) → ∀ y : MS, y.m.h.length = 32 → bytesM y ≠ some (h :: r)) := fun e2 hm => by
        obtain ⟨nb, rfl⟩ := hb2 e2
        exact not_man e2 hx hdt hm
      have HB0 : Hid (((h.toNat : Int) = 2 → ∃ nb, bo = some nb) ∧ ((h.toNat : Int) = 5 → ∃ nb, bo = some nb) ∧ ((h.toNat : Int) ≠ 2 → (h.toNat : Int) ≠ 5 → bo = none) ∧ (bo.getD []).length ≤ 1024) := ⟨hb2, hb5, hb0, hbl⟩
      have HXP : Hid (0 < xs.length ∧ (numK (h.toNat : Int)).length = xs.length ∧ (∀ a ∈ xs, a ≤ 1073741824) ∧ (bo.getD []).length ≤ maxLen) := ⟨hxp, hnl, hxc, by unfold maxLen; omega⟩
      have HMA : Hid (∀ V val, Vals V 4 val (recV xs bo) → Calls Try.prog 26 #[.int .i64 (h.toNat : Int), val] V fun e w' => madeIs V w' val (h.toNat : Int) xs bo e ∧ Below V.heap.size V w') := hid_ofR (fun V val hV => made_any _ val xs bo V hV hkd hx hb HMD)
      clear hx hb he hbl hb2 hb5 hb0 hnl hxp hxc hkd
      refine held_begin (fun _ => True) (by kernel_rfl) ?_
      refine held_take 0 37 _ (.int .i64 (h.toNat : Int)) rfl rfl (by kernel_rfl) (by kernel_rfl) (by kernel_rfl) rfl trivial (fun _ _ => rfl) ?_
      simp only [Act.put, List.setIfInBounds_toArray, List.set_cons_succ, List.set_cons_zero]
      refine held_take 2 39 _ (.slice (some ⟨g, o, none⟩) (r.length + 1) cp) rfl rfl (by kernel_rfl) (by kernel_rfl) (by kernel_rfl) rfl trivial (fun _ _ => rfl) ?_
      simp only [Act.put, List.setIfInBounds_toArray, List.set_cons_succ, List.set_cons_zero]
      refine held_take 3 40 _ (.slice RA r.length RC) rfl rfl (by kernel_rfl) (by kernel_rfl) (by kernel_rfl) rfl trivial (fun V _ => exec_slW _ _ rfl (.slice (some ⟨g, o, none⟩) (r.length + 1) cp) (.int .i64 1) (.slice RA r.length RC) rfl rfl (HSL.out V)) ?_
      simp only [Act.put, List.setIfInBounds_toArray, List.set_cons_succ, List.set_cons_zero]
      refine held_all1 1 (by kernel_rfl) (op_call 1 38 _ 19 #[.int .i64 (h.toNat : Int)] rfl rfl rfl (exec_one 19 _ _ rfl _ rfl Try.call19) ((HFL.out _).mono ?_))
      rintro e w2 ⟨lv, rfl, hF2, hb2⟩
      have hB2 := hB1.trans (hb2.mono hB1.size)
      have kR2 := kR1.below hb2 kR1.lt
      have hs2 := HRS.out w2 hB2
      have HDC := HRD _ lv (recF (nsK (h.toNat : Int)) (mbK (h.toNat : Int))) _ r w2 hF2 hs2 HML.out
      obtain ⟨al, cl, e2, _, _⟩ := hF2.form
      subst e2
      clear hF2 hs2 hb2 hB1 kR1
      rw [hdt] at HDC
      refine ⟨_, rfl, trivial, ?_⟩
      simp only [Act.put, List.setIfInBounds_toArray, List.set_cons_succ, List.set_cons_zero]
      refine held_all1 4 (by kernel_rfl) (op_call 4 41 _ 25 #[.slice al (recF (nsK (h.toNat : Int)) (mbK (h.toNat : Int))).length cl, .slice RA r.length RC] rfl rfl rfl (exec_two8 25 _ _ _ rfl _ _ rfl rfl Try.call25) (HDC.mono ?_))
      rintro e w3 ⟨⟨val, rfl, hvk⟩, hb3⟩
      have HR2 : Hid (w.heap.size < w2.heap.size) := kR2.lt
      have hB3 := hB2.trans (hb3.mono hB2.size)
      have kR3 := kR2.below hb3 kR2.lt
      have hV3 : Vals w3 4 val (recV xs bo) := hvk w3 (Agree.refl _ _)
      have HVK : Hid (ValsK w3 (fun b => w2.heap.size ≤ b) 4 val (recV xs bo)) := hvk
      have HM3 := hid_ofR (HMA.out w3 val hV3)
      obtain ⟨av, cv, ev, _, _⟩ := hV3.form
      subst ev
      clear hb3 hB2 kR2 hvk hV3
      refine ⟨_, rfl, trivial, ?_⟩
      simp only [Act.put, List.setIfInBounds_toArray, List.set_cons_succ, List.set_cons_zero]
      refine held_take 5 36 _ (.tuple #[.slice av (recV xs bo).length cv, .int .i64 0]) rfl rfl (by kernel_rfl) (by kernel_rfl) (by kernel_rfl) rfl trivial (fun _ _ => rfl) ?_
      simp only [Act.put, List.setIfInBounds_toArray, List.set_cons_succ, List.set_cons_zero]
      refine held_take 6 42 _ (.slice av (recV xs bo).length cv) rfl rfl (by kernel_rfl) (by kernel_rfl) (by kernel_rfl) rfl trivial (fun _ _ => rfl) ?_
      simp only [Act.put, List.setIfInBounds_toArray, List.set_cons_succ, List.set_cons_zero]
      refine held_take 7 43 _ (.int .i64 0) rfl rfl (by kernel_rfl) (by kernel_rfl) (by kernel_rfl) rfl trivial (fun _ _ => rfl) ?_
      simp only [Act.put, List.setIfInBounds_toArray, List.set_cons_succ, List.set_cons_zero]
      refine held_take 8 5 _ (.slice av (recV xs bo).length cv) rfl rfl (by kernel_rfl) (by kernel_rfl) (by kernel_rfl) rfl trivial (fun _ _ => rfl) ?_
      simp only [Act.put, List.setIfInBounds_toArray, List.set_cons_succ, List.set_cons_zero]
      refine held_take 9 6 _ (.int .i64 0) rfl rfl (by kernel_rfl) (by kernel_rfl) (by kernel_rfl) rfl trivial (fun _ _ => rfl) ?_
      simp only [Act.put, List.setIfInBounds_toArray, List.set_cons_succ, List.set_cons_zero]
      refine wpAnyH_done (by kernel_rfl) ?_ _
      refine NoPanic.normal ?_
      clear hdt
      go_wp2_with fail
      refine HM3.out.mono ?_
      rintro e w4 ⟨hm, hb4⟩
      have hB4 := hB3.trans (hb4.mono hB3.size)
      have kR4 := kR3.below hb4 kR3.lt
      have HB34 : Hid (Below w3.heap.size w3 w4) := hb4
      have hbD := (Below.refl w4.heap.size w4).alloc (Nat.le_refl _) (.cells MZ 28)
      have hnR : Hid (some w.heap.size ≠ some w4.heap.size) := by have := kR4.lt; show some w.heap.size ≠ some w4.heap.size; intro e; injection e with e; omega
      clear hb4 hB3 kR3 HM3 HMA
      rcases hm with ⟨e2, M, su, er, hdi, rfl⟩ | ⟨e5, ab2, cb2, hsb, hla, rfl⟩ | ⟨⟨e2, e5⟩, rfl⟩
      · have HE : Hid ((h.toNat : Int) = 2) := e2
        have HD : Hid (decIs w4 (bo.getD []) M su er) := hdi
        obtain ⟨hh, _, ⟨am, cm, hsu, _⟩, her⟩ := hdi
        subst hsu
        have HDB : Hid (∀ w5, Below w4.heap.size w4 w5 → decIs w5 (bo.getD []) M (.slice am M.u.length cm) er) := fun w5 hb => ⟨HD.out.1, HD.out.2.1, HD.out.2.2.1.below hb (Nat.le_refl _), HD.out.2.2.2⟩
        have hmi := ms_info (setL (numK (h.toNat : Int)) xs (kMs (h.toNat : Int))) (manL M (.slice am M.u.length cm)) (.slice none 0 0) (manL_len _ _ hh)
        have hms : MZ.size = (msA (setL (numK (h.toNat : Int)) xs (kMs (h.toNat : Int))) (manL M (.slice am M.u.length cm)) (.slice none 0 0)).size := by rw [HMZ.out, msZ_size, msA_size _ _ _ (manL_len _ _ hh)]
        have hmo := msA_one (setL (numK (h.toNat : Int)) xs (kMs (h.toNat : Int))) (manL M (.slice am M.u.length cm)) (.slice none 0 0) (manL_one M am _ cm) rfl
        have her2 : er = 0 ∨ er = 2 := her.elim (fun h => .inl h.1) (fun h => .inr h.1)
        clear e2 hh her
        rcases her2 with rfl | rfl
        · go_wp2_with (first | (refine store_blk rfl 28 _ _ rfl rfl w4.heap.size (msA (setL (numK (h.toNat : Int)) xs (kMs (h.toNat : Int))) (manL M (.slice am M.u.length cm)) (.slice none 0 0)) rfl rfl 28 MZ (Blk.new w4 28 MZ) hmi hms hmo ?_; intro w5 kD hg5 _; have hbD5 : Below w4.heap.size w4 w5 := below_grown hbD hg5 hbD.size (fun q hq => by cases hq; exact Nat.le_refl _); have kR5 := (kR4.alloc (.cells MZ 28)).grown hg5 hnR.out; have hB5 := hB4.trans (hbD5.mono hB4.size)) | (refine wpList_load_row rfl 28 _ rfl w4.heap.size rfl 28 (msA (setL (numK (h.toNat : Int)) xs (kMs (h.toNat : Int))) (manL M (.slice am M.u.length cm)) (.slice none 0 0)) (0, 0) _ kD Try.underlying28 rfl hmi ?_) | (refine store_blk rfl 28 _ _ rfl rfl w.heap.size (msA (setL (numK (h.toNat : Int)) xs (kMs (h.toNat : Int))) (manL M (.slice am M.u.length cm)) (.slice none 0 0)) rfl rfl 28 MZ kR5 hmi hms hmo ?_; intro w9 kR9 hg9 _))
          have hB9 : Below w.heap.size w w9 := below_grown hB5 hg9 hB5.size (fun q hq => by cases hq; exact Nat.le_refl _)
          refine bodyPost_ret (results_pairK Try.results13 _ _ w.heap.size 28 (msA (setL (numK (h.toNat : Int)) xs (kMs (h.toNat : Int))) (manL M (.slice am M.u.length cm)) (.slice none 0 0)) (0, 0) _ _ rfl rfl kR9 Try.underlying28 rfl hmi) rfl ?_
          have hD9 := decIs_grown (HDB.out w5 hbD5) (kR5.of_eq HMZ.out) hg9
          obtain ⟨hh, hu, hw, her⟩ := hD9
          have hok : okM M ∧ encTop manF (manVs M) = some (bo.getD []) := by
            rcases her with ⟨_, h1, h2⟩ | ⟨h1, _⟩
            · exact ⟨h1, h2⟩
            · cases h1
          refine ⟨outMs (h.toNat : Int) xs M [], am, cm, none, 0, 0, rfl, hh, hu, hw, seg_nilW _, Nat.zero_le _, .inl ⟨rfl, HBT.out M [] ⟨fun _ => ⟨hok.1, rfl⟩, fun e => ?_, fun e => absurd HE.out e⟩ ?_⟩, hB9⟩
          · have := HE.out; omega
          · obtain ⟨nb, hnb⟩ := HB0.out.1 HE.out
            unfold boK
            rw [outMs_k, if_pos HE.out, encM_some hok.1 hok.2, hnb]
            rfl
        · go_wp2_with (first | (refine store_blk rfl 28 _ _ rfl rfl w4.heap.size (msA (setL (numK (h.toNat : Int)) xs (kMs (h.toNat : Int))) (manL M (.slice am M.u.length cm)) (.slice none 0 0)) rfl rfl 28 MZ (Blk.new w4 28 MZ) hmi hms hmo ?_; intro w5 kD hg5 _; have hbD5 : Below w4.heap.size w4 w5 := below_grown hbD hg5 hbD.size (fun q hq => by cases hq; exact Nat.le_refl _); have kR5 := (kR4.alloc (.cells MZ 28)).grown hg5 hnR.out; have hB5 := hB4.trans (hbD5.mono hB4.size)) | (refine store_blk rfl 28 _ _ rfl rfl w.heap.size (MZ) rfl rfl 28 MZ kR5 hzi rfl hzo ?_; intro w9 kR9 hg9 _))
          have hB9 : Below w.heap.size w w9 := below_grown hB5 hg9 hB5.size (fun q hq => by cases hq; exact Nat.le_refl _)
          refine bodyPost_ret (results_pairK Try.results13 _ _ w.heap.size 28 (MZ) (0, 0) _ _ rfl rfl kR9 Try.underlying28 rfl hzi) rfl ?_
          rw [HMZ.out]
          refine decPost_no (HNM.out HE.out ?_) hB9
          obtain ⟨_, _, _, her⟩ := HD.out
          rcases her with ⟨h1, _⟩ | ⟨_, _, _, h2⟩
          · cases h1
          · exact h2
      · have HE : Hid ((h.toNat : Int) = 5) := e5
        have HLA : Hid (lastIs w3 (.slice av (recV xs bo).length cv) (.slice ab2 (bo.getD []).length cb2)) := hla
        have hmi := ms_info (setL (numK (h.toNat : Int)) xs (kMs (h.toNat : Int))) (manL zeroM (.slice none 0 0)) (.slice ab2 (bo.getD []).length cb2) rfl
        have hms : MZ.size = (msA (setL (numK (h.toNat : Int)) xs (kMs (h.toNat : Int))) (manL zeroM (.slice none 0 0)) (.slice ab2 (bo.getD []).length cb2)).size := by rw [HMZ.out, msZ_size, msA_size _ _ _ rfl]
        have hmo := msA_one (setL (numK (h.toNat : Int)) xs (kMs (h.toNat : Int))) (manL zeroM (.slice none 0 0)) (.slice ab2 (bo.getD []).length cb2) (manL_one zeroM none 0 0) rfl
        clear e5 hsb hla
        go_wp2_with (first | (refine store_blk rfl 28 _ _ rfl rfl w4.heap.size (msA (setL (numK (h.toNat : Int)) xs (kMs (h.toNat : Int))) (manL zeroM (.slice none 0 0)) (.slice ab2 (bo.getD []).length cb2)) rfl rfl 28 MZ (Blk.new w4 28 MZ) hmi hms hmo ?_; intro w5 kD hg5 _; have hbD5 : Below w4.heap.size w4 w5 := below_grown hbD hg5 hbD.size (fun q hq => by cases hq; exact Nat.le_refl _); have kR5 := (kR4.alloc (.cells MZ 28)).grown hg5 hnR.out; have hB5 := hB4.trans (hbD5.mono hB4.size)) | (refine wpList_load_row rfl 28 _ rfl w4.heap.size rfl 28 (msA (setL (numK (h.toNat : Int)) xs (kMs (h.toNat : Int))) (manL zeroM (.slice none 0 0)) (.slice ab2 (bo.getD []).length cb2)) (0, 0) _ kD Try.underlying28 rfl hmi ?_) | (refine store_blk rfl 28 _ _ rfl rfl w.heap.size (msA (setL (numK (h.toNat : Int)) xs (kMs (h.toNat : Int))) (manL zeroM (.slice none 0 0)) (.slice ab2 (bo.getD []).length cb2)) rfl rfl 28 MZ kR5 hmi hms hmo ?_; intro w9 kR9 hg9 _))
        have hB9 : Below w.heap.size w w9 := below_grown hB5 hg9 hB5.size (fun q hq => by cases hq; exact Nat.le_refl _)
        refine bodyPost_ret (results_pairK Try.results13 _ _ w.heap.size 28 (msA (setL (numK (h.toNat : Int)) xs (kMs (h.toNat : Int))) (manL zeroM (.slice none 0 0)) (.slice ab2 (bo.getD []).length cb2)) (0, 0) _ _ rfl rfl kR9 Try.underlying28 rfl hmi) rfl ?_
        have hS9 := body_lateW HVK.out HXP.out.1 HR2.out HLA.out (HB34.out.trans (hbD5.mono HB34.out.size)) hg9 (kR5.of_eq HMZ.out)
        refine ⟨outMs (h.toNat : Int) xs zeroM (bo.getD []), none, 0, ab2, cb2, 0, rfl, rfl, Nat.zero_le _, wds_nilW _, hS9, HXP.out.2.2.2, .inl ⟨rfl, HBT.out zeroM (bo.getD []) ⟨fun e => ?_, fun _ => ⟨rfl, HB0.out.2.2.2⟩, fun _ e => absurd HE.out e⟩ ?_⟩, hB9⟩
        · have := HE.out; omega
        · obtain ⟨nb, hnb⟩ := HB0.out.2.1 HE.out
          have h5 := HE.out
          unfold boK
          rw [outMs_k, if_neg (by omega), if_pos h5, hnb]
          rfl
      · have HE : Hid ((h.toNat : Int) ≠ 2 ∧ (h.toNat : Int) ≠ 5) := ⟨e2, e5⟩
        have hmi := ms_info (setL (numK (h.toNat : Int)) xs (kMs (h.toNat : Int))) (manL zeroM (.slice none 0 0)) (.slice none 0 0) rfl
        have hms : MZ.size = (msA (setL (numK (h.toNat : Int)) xs (kMs (h.toNat : Int))) (manL zeroM (.slice none 0 0)) (.slice none 0 0)).size := by rw [HMZ.out, msZ_size, msZ_size]
        have hmo := msZ_one (setL (numK (h.toNat : Int)) xs (kMs (h.toNat : Int)))
        clear e2 e5
        go_wp2_with (first | (refine store_blk rfl 28 _ _ rfl rfl w4.heap.size (msA (setL (numK (h.toNat : Int)) xs (kMs (h.toNat : Int))) (manL zeroM (.slice none 0 0)) (.slice none 0 0)) rfl rfl 28 MZ (Blk.new w4 28 MZ) hmi hms hmo ?_; intro w5 kD hg5 _; have hbD5 : Below w4.heap.size w4 w5 := below_grown hbD hg5 hbD.size (fun q hq => by cases hq; exact Nat.le_refl _); have kR5 := (kR4.alloc (.cells MZ 28)).grown hg5 hnR.out; have hB5 := hB4.trans (hbD5.mono hB4.size)) | (refine wpList_load_row rfl 28 _ rfl w4.heap.size rfl 28 (msA (setL (numK (h.toNat : Int)) xs (kMs (h.toNat : Int))) (manL zeroM (.slice none 0 0)) (.slice none 0 0)) (0, 0) _ kD Try.underlying28 rfl hmi ?_) | (refine store_blk rfl 28 _ _ rfl rfl w.heap.size (msA (setL (numK (h.toNat : Int)) xs (kMs (h.toNat : Int))) (manL zeroM (.slice none 0 0)) (.slice none 0 0)) rfl rfl 28 MZ kR5 hmi hms hmo ?_; intro w9 kR9 hg9 _))
        have hB9 : Below w.heap.size w w9 := below_grown hB5 hg9 hB5.size (fun q hq => by cases hq; exact Nat.le_refl _)
        refine bodyPost_ret (results_pairK Try.results13 _ _ w.heap.size 28 (msA (setL (numK (h.toNat : Int)) xs (kMs (h.toNat : Int))) (manL zeroM (.slice none 0 0)) (.slice none 0 0)) (0, 0) _ _ rfl rfl kR9 Try.underlying28 rfl hmi) rfl ?_
        refine ⟨outMs (h.toNat : Int) xs zeroM [], none, 0, none, 0, 0, rfl, rfl, Nat.zero_le _, wds_nilW _, seg_nilW _, Nat.zero_le _, .inl ⟨rfl, HBT.out zeroM [] ⟨fun e => absurd e HE.out.1, fun e => absurd e HE.out.2, fun _ _ => ⟨rfl, rfl⟩⟩ ?_⟩, hB9⟩
        unfold boK
        rw [outMs_k, if_neg HE.out.1, if_neg HE.out.2, HB0.out.2.2.1 HE.out.1 HE.out.2]
end Go.Proofs.Ytgfcindkfnjeoaa
