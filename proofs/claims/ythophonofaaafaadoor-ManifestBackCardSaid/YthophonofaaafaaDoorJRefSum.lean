/-
  What is proved here: the document's Sum answers the hash of bytes.
  Conditions: at most 1000000 bytes.
-/
import Derived.Test.YthophonofaaafaaDoorProg
import Derived.Test.YthophonofaaafaaDoorJRefBlock
import Derived.Test.YthophonofaaafaaDoorJShaEight
import Derived.Test.YthophonofaaafaaDoorJCrcPure
namespace Go.Proofs.YthophonofaaafaaDoor
open Go.RowKit

theorem slice_mid (b off r c lo : Nat) (n : Int) (hn : n = (lo : Int) + 64) (h1 : lo + 64 ≤ c) (w : World) :
    (Instr.slice 22 (.slice (some ⟨b, off, none⟩) r c) (some (.int .i64 (lo : Int))) (some (.int .i64 n)) none).run Tryd.prog w = .ok (.slice (some ⟨b, off + lo, none⟩) 64 (c - lo)) w := by
  have he : Tryd.prog.elem 22 = 5 := by kernel_rfl
  have hs : (sizeOf 5).run Tryd.prog w = .ok 1 w := by kernel_rfl
  subst hn
  rw [run_slice_lh w 22 (some ⟨b, off, none⟩) r c (by rw [he]; exact Tryd.underlying22) .i64 .i64 lo ((lo : Int) + 64) (by omega) (by omega) (by omega), he, hs]
  simp only [Result.andThen_ok, sliced, Int.toNat_natCast, Nat.mul_one]
  rw [if_neg (by omega), Option.map_some, Addr.add_mid, show ((lo : Int) + 64).toNat - lo = 64 by omega]
theorem size8 (s : St) : (s.list.map v32).toArray.size = 8 := rfl
theorem blocks_step (s : St) (D : List UInt8) (k : Nat) : blocks s D (k + 1) = compress (blocks s D k) ((D.drop (64 * k)).take 64) := rfl

set_option maxRecDepth 100000 in
set_option maxHeartbeats 1000000 in
theorem refSum_any (x : Value) (bs : List UInt8) (w : World) (hseg : Seg w x bs) (hlen : bs.length ≤ 1000000) :
    Calls Tryd.prog 28 #[x] w fun e w' => e = .returned (.agg ((shaOf bs).map v8).toArray) ∧ Below w.heap.size w w' := by
  have hlx : ∃ ao c, x = .slice ao bs.length c := by
    rcases hseg with ⟨rfl, ao, c, rfl, _⟩ | ⟨b, off, c, rfl, _, _, _⟩
    · exact ⟨ao, c, rfl⟩
    · exact ⟨_, c, rfl⟩
  obtain ⟨ao, cx, rfl⟩ := hlx
  go_enter Tryd.func28, Tryd.ntmps28
  obtain ⟨m, hm⟩ : ∃ m, m = (119 - bs.length % 64) % 64 := ⟨_, rfl⟩
  have hm64 : m < 64 := by omega
  have hm56 : (bs.length + 1 + m) % 64 = 56 := by omega
  have hmlt : ∀ k, k < m → (bs.length + 1 + k) % 64 ≠ 56 := fun k hk => by omega
  have HE : Hid (endOf bs.length = 128 :: (List.replicate m 0 ++ be8 (8 * bs.length))) := by show _ = _; rw [hm]; rfl
  have HM : Hid ((bs.length + 1 + m) % 64 = 56 ∧ ∀ k, k < m → (bs.length + 1 + k) % 64 ≠ 56) := ⟨hm56, hmlt⟩
  clear hm hm56 hmlt
  go_wp2_with (first | (at_builtin; refine app_own _ rfl (.tmp 6) (.tmp 7) rfl (w.heap.size + 1) _ [] rfl (by exact own_empty _ _ _ (by simp) (by simp)) _ bs rfl (by exact (hseg.alloc _).alloc _) (by simp; omega) (by simp) ?_; intro v1 w1 ho1 hg1 hv1; rw [List.nil_append] at ho1; have hA1 := ((Blk.new w 24 _).alloc _).grown hg1 (fun h => by have h2 : w.heap.size = w.heap.size + 1 := Option.some.inj h; omega); have hB1 := below_grown (((Below.refl w.heap.size w).alloc (Nat.le_refl _) _).alloc (by simp) _) hg1 (by simp; omega) (fun q hq => by have h2 : w.heap.size + 1 = q := Option.some.inj hq; omega); have hs1 := hg1.size; simp only [World.size_alloc] at hs1; clear hv1 hg1) | (at_builtin; refine app_own _ rfl (.tmp 9) (.tmp 10) rfl (w.heap.size + 1) _ bs rfl (ho1.alloc _) _ [128] rfl (by exact Seg.of_row (row_one _ 128 _) rfl (by simp) (by simp)) (by simp; omega) (by simp; omega) ?_; intro v2 w2 ho2 hg2 hv2; have hA2 := (hA1.alloc _).grown hg2 (by intro h; have := (ho1.blocks _ h.symm).1; omega); have hB2 := below_grown (hB1.alloc (by omega) _) hg2 (by simp; omega) (fun q hq => by have := (ho1.blocks _ hq).1; omega); obtain ⟨g2, c2, hv2e, hgb2, hgl2, hc2, hr2⟩ := ho2.form (by simp); rw [hv2e]; rw [hv2e] at ho2; clear hv2 hg2 hv2e))
  have hA2' := hA2.of_eq (show _ = upTo 32 0 (fun _ => Value.int .u8 0) (.int .u8 0) from rfl)
  have hsz2 := hB2.size
  clear hA2 hA1 hB1 ho1 hs1 hr2 hgb2 hc2
  go_loopw [3] (fun v wr => ∃ k N g c : Nat, k ≤ m ∧ Hid (N = bs.length + 1 + k) ∧ v = .slice (some ⟨g, 0, none⟩) N c ∧ Own wr (w.heap.size + 1) (.slice (some ⟨g, 0, none⟩) N c) (bs ++ 128 :: List.replicate k 0) ∧ Blk wr w.heap.size 24 (upTo 32 0 (fun _ => Value.int .u8 0) (.int .u8 0)) ∧ Below w.heap.size w wr ∧ w.heap.size < wr.heap.size) (fun v _ => bs.length + 1 + m - sliceLen v)
  case atStart => exact ⟨0, bs.length + 1, g2, c2, Nat.zero_le _, rfl, rfl, by simpa using ho2, hA2', hB2, by have := hA2'.lt; omega⟩
  case round =>
    clear ho2 hA2' hB2 hsz2 hgl2
    obtain ⟨k, N, g, c, hk, HN, rfl, ho, hA, hB, hsz⟩ := hrel
    by_cases hlt : k < m
    · as_aux_lemma =>
      have ht : (((N : Int) % 64) != 56) = true := by have := HM.out.2 k hlt; have e := HN.out; rw [bne_iff_ne]; omega
      have hNb : N ≤ 1000100 := by have e := HN.out; omega
      have HO : Hid (bs ++ 128 :: List.replicate (k + 1) 0 = (bs ++ 128 :: List.replicate k 0) ++ [0]) := by show _ = _; rw [List.replicate_succ']; simp
      have hbl := ho.blocks g rfl
      have hOl : (bs ++ 128 :: List.replicate k (0 : UInt8)).length ≤ 1000100 := by simp; omega
      go_wp2_with (at_builtin; refine app_own _ rfl (.tmp 16) (.tmp 17) rfl (w.heap.size + 1) _ _ rfl (ho.alloc _) _ [0] rfl (by exact Seg.of_row (row_one _ 0 _) rfl (by simp) (by simp)) (by simp only [List.length_singleton]; omega) (by simp; omega) ?_; intro v2 w2 ho2 hg2 hv2; obtain ⟨g2, c2, hv2e, hgb2, hgl2, hc2, hr2⟩ := ho2.form (by simp only [List.length_append, List.length_cons]; omega); rw [hv2e]; rw [hv2e] at ho2)
      go_roundw
      case rel =>
        refine ⟨k + 1, _, g2, c2, hlt, ?_, rfl, ?_, (hA.alloc _).grown hg2 (fun h => by have h2 : w.heap.size = g := Option.some.inj h; omega), ?_, ?_⟩
        · show _ = _
          omega
        · rw [HO.out]
          have e : (bs ++ 128 :: List.replicate k 0 ++ [(0 : UInt8)]).length = bs.length + (k + 1 + 1) := by simp
          rw [e] at ho2
          exact ho2
        · exact below_grown (hB.alloc (by omega) _) hg2 (by simp; omega) (fun q hq => by have h2 : g = q := Option.some.inj hq; omega)
        · have := hg2.size; simp at this; omega
      case measure =>
        have e := HN.out
        simp [sliceLen]; omega
    · have HK : Hid (k = m) := by show k = m; omega
      have ht : (((N : Int) % 64) != 56) = false := by
        have := HM.out.1; have e := HN.out; have e2 := HK.out
        simp only [bne_eq_false_iff_eq]; omega
      have hbl := ho.blocks g rfl
      have hOl : (bs ++ 128 :: List.replicate k (0 : UInt8)).length ≤ 1000100 := by simp; omega
      have HD : Hid (bs ++ endOf bs.length = (bs ++ 128 :: List.replicate k 0) ++ be8 (8 * bs.length)) := by show _ = _; rw [HE.out, HK.out]; simp
      have hDl : (bs ++ endOf bs.length).length % 64 = 0 := by
        have := HM.out.1
        rw [List.length_append, endOf_len]; omega
      go_wp2_with (first | (go_at_call 46; refine (eight_any _ (8 * bs.length) (by omega) (by omega) _).mono ?_; rintro e w3 ⟨rfl, hb3, hbel3⟩) | (at_builtin; refine app_own _ rfl (.tmp 19) (.tmp 24) rfl (w.heap.size + 1) _ _ rfl (ho.below hbel3 (Nat.le_refl _)) _ (be8 (8 * bs.length)) rfl (by exact Seg.of_row hb3.row (be8_len _) (Nat.le_refl _) hb3.lt) (by rw [be8_len]; omega) (by have := hbel3.size; omega) ?_; intro v4 w4 ho4 hg4 hv4) | (go_at_call 47; refine (start_any _).mono ?_; rintro e w5 ⟨rfl, hb5⟩) | (refine store_blk rfl 68 _ _ rfl rfl _ (St.start.list.map v32).toArray rfl rfl 68 _ (by exact Blk.new _ _ _) Tryd.info68s (by rfl) (one32 St.start.list) ?_; intro w6 hb6 hg6 hs6))
      rw [← HD.out] at ho4
      have hD0 : 0 < (bs ++ endOf bs.length).length := by rw [List.length_append, endOf_len]; omega
      have hDm : (bs ++ endOf bs.length).length ≤ 1000200 := by rw [List.length_append, endOf_len]; omega
      obtain ⟨g4, c4, hv4e, hgb4, hgl4, hc4, hr4⟩ := ho4.form hD0
      rw [hv4e]
      have s3 := hbel3.size
      have s4 := hg4.size
      have s5 := hb5.size
      simp only [World.size_alloc] at hs6
      have hB4 := below_grown (hB.trans (hbel3.mono (by omega))) hg4 (by omega) (fun q hq => by have h2 : g = q := Option.some.inj hq; omega)
      have hA4 := (hA.below hbel3 (by omega)).grown hg4 (fun h => by have h2 : w.heap.size = g := Option.some.inj h; omega)
      have hA6 := ((hA4.below hb5 (by omega)).alloc _).grown hg6 (by simp; omega)
      have hB6 := below_grown ((hB4.trans (hb5.mono (by omega))).alloc (by omega) _) hg6 (by simp; omega) (fun q hq => by cases hq; omega)
      have hr6 : Row w6 g4 0 (bs ++ endOf bs.length) := ((hr4.below hb5 hgl4).below ((Below.refl w5.heap.size w5).alloc (Nat.le_refl _) _) (by omega)).grown hg6 (by simp; omega)
      have hg4h : g4 < w5.heap.size := by omega
      have HSH : Hid (shaOf bs = wbytes (blocks St.start (bs ++ endOf bs.length) ((bs ++ endOf bs.length).length / 64)).list) := rfl
      have hgh : w.heap.size + 1 ≤ w5.heap.size := by omega
      clear hB4 hA4 hr4 hb5 hg6 ho4 hg4 hv4 hbel3 hb3 hs6 s3 s4 s5 ho hA hB hsz hbl hOl HD HK HN HE HM ht hgl4 hgb4
      generalize bs ++ endOf bs.length = D at *
      generalize w5.heap.size = gh at *
      generalize hSM : shaOf bs = SM at *
      have HSM : Hid (shaOf bs = SM) := hSM
      clear hSM
      obtain ⟨DL, hDL⟩ : ∃ DL, DL = D.length := ⟨_, rfl⟩
      rw [← hDL] at hc4 hD0 hDm hDl ⊢
      have HDL : Hid (DL = D.length) := hDL
      clear hDL
      obtain ⟨wo, rfl⟩ : ∃ wo : World, wo = wr := ⟨_, rfl⟩
      go_loopw [5] (fun i wr => ∃ k I : Nat, Hid (I = 64 * k) ∧ I ≤ DL ∧ i = .int .i64 (I : Int) ∧ Blk wr gh 68 ((blocks St.start D k).list.map v32).toArray ∧ Blk wr w.heap.size 24 (upTo 32 0 (fun _ => Value.int .u8 0) (.int .u8 0)) ∧ Row wr g4 0 D ∧ Below w.heap.size w wr ∧ gh < wr.heap.size) (fun i _ => DL - (intOf i).toNat)
      case atStart => exact ⟨0, 0, rfl, Nat.zero_le _, rfl, hb6, hA6, hr6, hB6, hb6.lt⟩
      case round =>
        clear hb6 hA6 hr6 hB6
        obtain ⟨k, I, HI, hI, rfl, hbh, hA, hr, hB, hgl⟩ := hrel
        by_cases hlt : I < DL
        · have h64 : I + 64 ≤ DL := by have := HI.out; omega
          have hsl := fun w' => slice_mid g4 0 DL c4 I ((I : Int) + 64) rfl (by omega) w'
          rw [Nat.zero_add] at hsl
          have hrb : Row wr g4 I ((D.drop I).take 64) := by
            have := (hr.drop I).take 64
            rwa [Nat.zero_add] at this
          have hbl : ((D.drop I).take 64).length = 64 := by have := HDL.out; simp; omega
          have HST : Hid (blocks St.start D (k + 1) = compress (blocks St.start D k) ((D.drop I).take 64)) := by show _ = _; rw [HI.out]; rfl
          have HCL : Hid (∀ W : World, Row W g4 I ((D.drop I).take 64) → g4 < W.heap.size → Calls Tryd.prog 48 #[.agg ((blocks St.start D k).list.map v32).toArray, .slice (some ⟨g4, I, none⟩) 64 (c4 - I)] W fun e w' => e = .returned (.agg ((compress (blocks St.start D k) ((D.drop I).take 64)).list.map v32).toArray) ∧ Below W.heap.size W w') := fun W h1 h2 => block_aux _ _ hbl g4 I (c4 - I) W h1 h2
          generalize compress (blocks St.start D k) ((D.drop I).take 64) = S1 at HST HCL
          generalize (D.drop I).take 64 = blk at hrb HCL
          generalize blocks St.start D k = S0 at hbh HCL
          have rW := hbh.drew.range 0 (S0.list.map v32) (fun j v hv => by rw [Nat.zero_add]; simpa using hv)
          have i64 : (I : Int) < (DL : Int) := by omega
          have hI2 : I ≤ 1000200 := by omega
          have hwr : IntKind.i64.wrap ((I : Int) + 64) = (I : Int) + 64 := by rw [IntKind.wrap_i64]; omega
          have HROW : Hid (Row wr g4 0 D) := hr
          clear hr hbl
          go_wp2_with fail
          refine region_tail 6 (by kernel_rfl) (by kernel_rfl) ?_
          simp only [List.take_succ_cons, List.take_zero, List.drop_succ_cons, List.drop_zero]
          refine still_load rfl 68 _ rfl gh 0 rfl (S0.list.map v32) _ rW Tryd.underlying68 rfl Tryd.info68s ?_
          repeat still_step
          refine wpStill_nil ?_
          go_wp2_with (first | (go_at_call 48; refine (HCL.out _ (by exact hrb) (by exact Nat.lt_trans hg4h hgl)).mono ?_; rintro e w7 ⟨rfl, hb7⟩) | (refine store_blk rfl 68 _ _ rfl rfl gh (S1.list.map v32).toArray rfl rfl 68 _ (by exact hbh.drew.below hb7 hgl) Tryd.info68s ((size8 S0).trans (size8 S1).symm) (one32 S1.list) ?_; intro w8 hb8 hg8 hs8))
          go_roundw
          case rel =>
            replace hb7 : Below wr.heap.size wr w7 := ⟨hb7.os, hb7.tape, hb7.output, hb7.size, hb7.block⟩
            have s7 := hb7.size
            refine ⟨k + 1, I + 64, ?_, h64, by go_num, ?_, (hA.below hb7 hA.lt).grown hg8 (by simp; omega), ?_, ?_, ?_⟩
            · show _ = _
              have := HI.out; omega
            · rw [HST.out]; exact hb8
            · exact ((HROW.out).below hb7 (Nat.lt_trans hg4h hgl)).grown hg8 (by simp; omega)
            · exact below_grown (hB.trans (hb7.mono (by exact Nat.le_of_lt hA.lt))) hg8 (by have := hA.lt; exact Nat.le_trans (Nat.le_of_lt this) s7) (fun q hq => by cases hq; omega)
            · rw [hs8]; exact Nat.lt_of_lt_of_le hgl s7
          case measure => simp [intOf]; omega
        · as_aux_lemma =>
          have HK : Hid (I = DL) := by show I = DL; omega
          have HB : Hid (((blocks St.start D k).list.map v32).toArray = ((blocks St.start D (D.length / 64)).list.map v32).toArray) := by
            show _ = _
            have h1 := HI.out; have h2 := HK.out; have h3 := HDL.out
            rw [show D.length / 64 = k by omega]
          have hbh' := hbh.of_eq HB.out
          generalize blocks St.start D (D.length / 64) = S0 at hbh' HSH
          have hwb := fun W => words_any S0.list rfl W
          rw [← HSH.out] at hwb
          have hsl : SM.length = 32 := by rw [HSH.out]; exact wbytes_len _
          have HW : Hid (∀ W : World, Calls Tryd.prog 49 #[.agg (S0.list.map v32).toArray] W fun e w' => e = .returned (.agg (SM.map v8).toArray) ∧ Below W.heap.size W w') := hwb
          have hi24 : (Tryd.prog.info? 24).map (·.size) = some (SM.map v8).toArray.size := by rw [List.size_toArray, List.length_map, hsl]; exact Tryd.info24s
          have hst : (upTo 32 0 (fun _ => Value.int .u8 0) (.int .u8 0)).size = (SM.map v8).toArray.size := by rw [upTo_size, List.size_toArray, List.length_map, hsl]
          have hone := one8 SM
          have i64 : ¬ (I : Int) < (DL : Int) := by omega
          clear hwb hbh HB HSH hsl
          go_wp2_with (first | (refine wpList_load_row rfl 68 _ rfl gh rfl 68 _ (0, 0) _ hbh' Tryd.underlying68 rfl Tryd.info68s ?_) | (go_at_call 49; refine (HW.out _).mono ?_; rintro e w7 ⟨rfl, hb7⟩) | (refine store_blk rfl 24 _ _ rfl rfl w.heap.size (SM.map v8).toArray rfl rfl 24 _ (by exact hA.below hb7 hA.lt) hi24 hst hone ?_; intro w8 hb8 hg8 hs8))
          refine bodyPost_ret (v := .agg (SM.map v8).toArray) (results_cell_row Tryd.results28 _ _ w.heap.size 24 _ (0, 0) _ rfl hb8 Tryd.underlying24 rfl hi24) rfl ⟨ret_agg (by rw [HSM.out]), ?_⟩
          exact below_grown (hB.trans (hb7.mono (Nat.le_of_lt hA.lt))) hg8 (Nat.le_trans (Nat.le_of_lt hA.lt) hb7.size) (fun q hq => by cases hq; omega)
end Go.Proofs.YthophonofaaafaaDoor
