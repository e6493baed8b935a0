/-
  What is proved here: the document's Save answers the Save of bytes.
  Conditions: at most 1000000 bytes.
-/
import Derived.Test.YtlihgfafjmhgjaaDoorProg
import Derived.Test.YtlihgfafjmhgjaaDoorRefSum
import Derived.Test.YtlihgfafjmhgjaaDoorShaSave
namespace Go.Proofs.YtlihgfafjmhgjaaDoor
open Go.RowKit

theorem seg_tail {x : Value} {bs : List UInt8} {ao : Option Addr} {c I : Nat} {w : World} (hx : x = .slice ao bs.length c) (hseg : Seg w x bs) (hI : I ≤ bs.length) :
    ∃ v, (∀ W, (Instr.slice 26 x (some (.int .i64 (I : Int))) none none).run Tryd.prog W = .ok v W) ∧ ∀ W, Seg W x bs → Seg W v (bs.drop I) := by
  have he : Tryd.prog.elem 26 = 5 := by kernel_rfl
  rcases hseg with ⟨rfl, ao', c', h, hn⟩ | ⟨b, off, c', h, hc, _, _⟩
  · obtain rfl : I = 0 := by simpa using hI
    subst h
    refine ⟨.slice (if c' = 0 then ao' else ao'.map (·.add 0)) 0 c', fun W => ?_, fun W _ => .inl ⟨rfl, _, c', rfl, fun h => ?_⟩⟩
    · have hs : (sizeOf 5).run Tryd.prog W = .ok 1 W := by kernel_rfl
      rw [run_slice_l W 26 ao' 0 c' (by rw [he]; exact Tryd.underlying26) .i64 _ (by omega) (by omega), he, hs]
      simp [sliced]
    · by_cases h0 : c' = 0
      · exact h0
      · rw [if_neg h0] at h
        exact hn (by simpa using h)
  · subst h
    refine ⟨_, fun W => slice_bytes b off bs.length c' I hI W, fun W hW => ?_⟩
    by_cases hl : I = bs.length
    · exact .inl ⟨by simp [hl], _, _, by rw [hl, Nat.sub_self], fun h => by cases h⟩
    · have hlt : I < bs.length := by omega
      rcases hW with ⟨h, _⟩ | ⟨b2, off2, c2, h, h2, h3, h4⟩
      · rw [h] at hlt; simp at hlt
      · cases h
        rw [if_neg (by omega)]
        exact Seg.of_row (h3.drop I) (by simp) (by omega) h4

set_option maxRecDepth 100000 in
set_option maxHeartbeats 1000000 in
theorem refSave_any (x : Value) (bs : List UInt8) (w : World) (hseg : Seg w x bs) (hlen : bs.length ≤ 1000000) :
    Calls Tryd.prog 12 #[x] w fun e w' => ∃ v, e = .returned v ∧ Own w' w.heap.size v (saveOf St.start bs bs.length) ∧ Below w.heap.size w w' := by
  have hlx : ∃ ao c, x = .slice ao bs.length c := by
    rcases hseg with ⟨rfl, ao, c, rfl, _⟩ | ⟨b, off, c, rfl, _, _, _⟩
    · exact ⟨ao, c, rfl⟩
    · exact ⟨_, c, rfl⟩
  obtain ⟨ao, cx, hx⟩ := hlx
  have HTL : Hid (∀ I, I ≤ bs.length → ∃ v, (∀ W, (Instr.slice 26 x (some (.int .i64 (I : Int))) none none).run Tryd.prog W = .ok v W) ∧ ∀ W, Seg W x bs → Seg W v (bs.drop I)) := fun I hI => seg_tail hx hseg hI
  subst hx
  go_enter Tryd.func12, Tryd.ntmps12
  go_wp2_with (first | (go_at_call 23; refine (start_any _).mono ?_; rintro e w1 ⟨rfl, hb1⟩) | (refine store_blk rfl 44 _ _ rfl rfl _ (St.start.list.map v32).toArray rfl rfl 44 _ (by exact Blk.new _ _ _) Tryd.info44s (by rfl) (one32 St.start.list) ?_; intro w2 hb2 hg2 hs2))
  have s1 := hb1.size
  have hB2 : Below w.heap.size w w2 := below_grown (hb1.alloc s1 _) hg2 (by simp; omega) (fun q hq => by cases hq; omega)
  have hgh : w.heap.size ≤ w1.heap.size := s1
  clear hg2 hs2 s1 hb1
  generalize w1.heap.size = gh at *
  obtain ⟨DL, hDL⟩ : ∃ DL, DL = bs.length := ⟨_, rfl⟩
  rw [← hDL] at hlen ⊢
  have HDL : Hid (DL = bs.length) := hDL
  have HSEG : Hid (Seg w (.slice ao DL cx) bs) := by rw [hDL]; exact hseg
  rw [← hDL] at HTL
  clear hseg hDL
  go_loopw [4] (fun i wr => ∃ k I : Nat, Hid (I = 64 * k) ∧ I ≤ DL ∧ i = .int .i64 (I : Int) ∧ Blk wr gh 44 ((blocks St.start bs k).list.map v32).toArray ∧ Below w.heap.size w wr ∧ gh < wr.heap.size) (fun i _ => DL - (intOf i).toNat)
  case atStart => exact ⟨0, 0, rfl, Nat.zero_le _, rfl, hb2, hB2, hb2.lt⟩
  case round =>
    clear hb2 hB2
    obtain ⟨k, I, HI, hI, rfl, hbh, hB, hgl⟩ := hrel
    have hwr : IntKind.i64.wrap ((I : Int) + 64) = (I : Int) + 64 := by rw [IntKind.wrap_i64]; omega
    by_cases h64 : I + 64 ≤ DL
    · obtain ⟨b, off, hao, hcx, hrow, hbw⟩ : ∃ b off, ao = some ⟨b, off, none⟩ ∧ DL ≤ cx ∧ Row w b off bs ∧ b < w.heap.size := by
        rcases HSEG.out with ⟨h, _⟩ | ⟨b, off, c, h, h2, h3, h4⟩
        · have := HDL.out; rw [h] at this; simp at this; omega
        · cases h; exact ⟨b, off, rfl, h2, h3, h4⟩
      subst hao
      have hsl := fun w' => slice_mid b off DL cx I ((I : Int) + 64) rfl (by omega) w'
      have hrb : Row wr b (off + I) ((bs.drop I).take 64) := (((hrow.below hB hbw).drop I).take 64)
      have hbl : ((bs.drop I).take 64).length = 64 := by have := HDL.out; simp; omega
      have HST : Hid (blocks St.start bs (k + 1) = compress (blocks St.start bs k) ((bs.drop I).take 64)) := by show _ = _; rw [HI.out]; rfl
      have HCL : Hid (∀ W : World, Row W b (off + I) ((bs.drop I).take 64) → b < W.heap.size → Calls Tryd.prog 24 #[.agg ((blocks St.start bs k).list.map v32).toArray, .slice (some ⟨b, off + I, none⟩) 64 (cx - I)] W fun e w' => e = .returned (.agg ((compress (blocks St.start bs k) ((bs.drop I).take 64)).list.map v32).toArray) ∧ Below W.heap.size W w') := fun W h1 h2 => block_aux _ _ hbl b (off + I) (cx - I) W h1 h2
      generalize compress (blocks St.start bs k) ((bs.drop I).take 64) = S1 at HST HCL
      generalize (bs.drop I).take 64 = blk at hrb HCL
      generalize blocks St.start bs k = S0 at hbh HCL
      have rW := hbh.drew.range 0 (S0.list.map v32) (fun j v hv => by rw [Nat.zero_add]; simpa using hv)
      have i64 : (I : Int) + 64 ≤ (DL : Int) := by omega
      have hbwr : b < wr.heap.size := Nat.lt_of_lt_of_le hbw hB.size
      clear hrow hbl
      go_wp2_with fail
      refine region_tail 6 (by kernel_rfl) (by kernel_rfl) ?_
      simp only [List.take_succ_cons, List.take_zero, List.drop_succ_cons, List.drop_zero]
      refine still_load rfl 44 _ rfl gh 0 rfl (S0.list.map v32) _ rW Tryd.underlying44 rfl Tryd.info44s ?_
      repeat still_step
      refine wpStill_nil ?_
      go_wp2_with (first | (go_at_call 24; refine (HCL.out _ (by exact hrb) (by exact hbwr)).mono ?_; rintro e w7 ⟨rfl, hb7⟩) | (refine store_blk rfl 44 _ _ rfl rfl gh (S1.list.map v32).toArray rfl rfl 44 _ (by exact hbh.drew.below hb7 hgl) Tryd.info44s ((size8 S0).trans (size8 S1).symm) (one32 S1.list) ?_; intro w8 hb8 hg8 hs8))
      go_roundw
      case rel =>
        replace hb7 : Below wr.heap.size wr w7 := ⟨hb7.os, hb7.tape, hb7.output, hb7.size, hb7.block⟩
        have s7 := hb7.size
        refine ⟨k + 1, I + 64, ?_, h64, by go_num, ?_, ?_, ?_⟩
        · show _ = _
          have := HI.out; omega
        · rw [HST.out]; exact hb8
        · exact below_grown (hB.trans (hb7.mono hB.size)) hg8 (Nat.le_trans hB.size s7) (fun q hq => by cases hq; omega)
        · rw [hs8]; exact Nat.lt_of_lt_of_le hgl s7
      case measure => simp [intOf]; omega
    · as_aux_lemma =>
      have i64 : ¬ (I : Int) + 64 ≤ (DL : Int) := by omega
      have HIS : Hid (I = 64 * (bs.length / 64)) := by
        show _ = _
        have h1 := HI.out; have h3 := HDL.out
        omega
      have HB : Hid (((blocks St.start bs k).list.map v32).toArray = ((blocks St.start bs (bs.length / 64)).list.map v32).toArray) := by
        show _ = _
        have h1 := HI.out; have h2 := HIS.out
        rw [show bs.length / 64 = k by omega]
      have hbh' := hbh.of_eq HB.out
      have HSV : Hid (saveOf St.start bs bs.length = wbytes (blocks St.start bs (bs.length / 64)).list ++ be8 DL ++ bs.drop I) := by show _ = _; rw [HDL.out, HIS.out]; rfl
      obtain ⟨vt, hvt, hst⟩ := HTL.out I hI
      have hwb := fun W => words_any (blocks St.start bs (bs.length / 64)).list rfl W
      have hsl := wbytes_len (blocks St.start bs (bs.length / 64)).list
      generalize wbytes (blocks St.start bs (bs.length / 64)).list = SM at hwb HSV hsl
      generalize blocks St.start bs (bs.length / 64) = S0 at hbh' hwb
      have HW : Hid (∀ W : World, Calls Tryd.prog 25 #[.agg (S0.list.map v32).toArray] W fun e w' => e = .returned (.agg (SM.map v8).toArray) ∧ Below W.heap.size W w') := hwb
      have hi24 : (Tryd.prog.info? 34).map (·.size) = some (SM.map v8).toArray.size := by rw [List.size_toArray, List.length_map, hsl]; exact Tryd.info34s
      have hst32 : (upTo 32 0 (fun _ => Value.int .u8 0) (.int .u8 0)).size = (SM.map v8).toArray.size := by rw [upTo_size, List.size_toArray, List.length_map, hsl]
      have hone := one8 SM
      clear hwb hbh HB
      have HE : Hid (∀ W : World, Calls Tryd.prog 26 #[.int .u64 (DL : Int)] W fun e w' => e = .returned (.slice (some ⟨W.heap.size, 0, none⟩) 8 8) ∧ Blk w' W.heap.size 5 ((be8 DL).map v8).toArray ∧ Below W.heap.size W w') := fun W => eight_any _ DL rfl (by omega) W
      have hDR : (bs.drop I).length ≤ 1000000 := by rw [List.length_drop, ← HDL.out]; omega
      have hB' := hB.size
      go_wp2_with (first | (refine wpList_load_row rfl 44 _ rfl gh rfl 44 _ (0, 0) _ hbh' Tryd.underlying44 rfl Tryd.info44s ?_) | (go_at_call 25; refine (HW.out _).mono ?_; rintro e w3 ⟨rfl, hb3⟩) | (refine store_blk rfl 34 _ _ rfl rfl _ (SM.map v8).toArray rfl rfl 34 _ (by exact Blk.new _ _ _) hi24 hst32 hone ?_; intro w4 hb4 hg4 hs4; have s3 := hb3.size; simp only [World.size_alloc] at hs4; have hB4 := below_grown ((hB.trans (hb3.mono hB')).alloc (by omega) _) hg4 (by simp; omega) (fun q hq => by cases hq; omega); clear hg4) | (at_builtin; refine app_own _ rfl (.tmp 24) (.tmp 25) rfl w.heap.size _ [] rfl (by exact Own.drew (own_empty w4 w.heap.size _ (by omega) (by omega))) _ SM rfl (by exact Seg.drew ((Seg.of_row hb4.row hsl (Nat.le_refl _) hb4.lt).alloc _)) (by simp; omega) (by simp; omega) ?_; intro v5 w5 ho5 hg5 hv5; rw [List.nil_append] at ho5))
      have hB5 : Below w.heap.size w w5 := below_grown (hB4.alloc (by omega) _) hg5 (by simp; omega) (fun q hq => by have h2 : w3.heap.size + 1 = q := Option.some.inj hq; omega)
      have s5 := hB5.size
      clear hg5 hv5 hb4 hs4 hB4 hb3 s3 HW hi24 hst32 hone
      refine (HE.out w5).mono ?_
      rintro e w6 ⟨rfl, hb6, hbel6⟩
      have hB6 : Below w.heap.size w w6 := hB5.trans (hbel6.mono s5)
      have s6 := hB6.size
      have ho6 := ho5.below hbel6 (Nat.le_refl _)
      clear ho5 hbel6 hB5
      go_wp2_with (at_builtin; first | (refine app_own _ rfl (.tmp 27) (.tmp 31) rfl w.heap.size _ SM rfl (by exact ho6) _ (be8 DL) rfl (by exact Seg.of_row hb6.row (be8_len _) (Nat.le_refl _) hb6.lt) (by rw [be8_len]; omega) (by exact s6) ?_; intro v7 w7 ho7 hg7 _; have hB7 : Below w.heap.size w w7 := below_grown hB6 hg7 (by exact s6) (fun q hq => (ho6.blocks q hq).1); clear hg7) | (refine app_own _ rfl (.tmp 33) (.tmp 36) rfl w.heap.size _ (SM ++ be8 DL) rfl (by exact ho7) _ (bs.drop I) rfl (by exact hst _ (by exact HSEG.out.below hB7 (Nat.le_refl _))) (by rw [List.length_append, be8_len]; omega) (by exact hB7.size) ?_; intro v8 w8 ho8 hg8 _))
      go_ret
      exact ⟨_, rfl, HSV.out ▸ ho8, below_grown hB7 hg8 (by exact hB7.size) (fun q hq => (ho7.blocks q hq).1)⟩
end Go.Proofs.YtlihgfafjmhgjaaDoor
