/-
  What is proved here: of all noise, bytes and cuts, the statement FrameTold answers true: behind anything, and a nought, frames one behind the other are told as they were, in whichever parts they come.
  Conditions: the variable fourBits holds the sixteen words.
-/
import Derived.Test.YtchbfhckocfjhaaDoorFrameFrames
import Derived.Test.YtchbfhckocfjhaaDoorLawFrameReads
namespace Go.Proofs.YtchbfhckocfjhaaDoor
open Go.RowKit

/-- A slice of ints that came in. -/
def IntsIn (w : World) (v : Value) (zs : List Int) : Prop :=
  ∃ ao c, v = .slice ao zs.length c ∧ zs.length ≤ maxLen ∧ (0 < zs.length → ∃ b off, ao = some ⟨b, off, none⟩ ∧ b < w.heap.size ∧ ∀ j (h : j < zs.length), w.cell? ⟨b, off + j, none⟩ = some (.int .i64 zs[j]) ∧ -9223372036854775808 ≤ zs[j] ∧ zs[j] ≤ 9223372036854775807)
theorem SegsF.rowsIn {w w' : World} {v : Value} {L : List (List UInt8)} (h : SegsF w v L) (hB : Below w.heap.size w w') : RowsIn w' v L := by
  obtain ⟨ao, c, rfl, hm, hr⟩ := h
  rcases Nat.eq_zero_or_pos L.length with h0 | h0
  · obtain rfl := List.eq_nil_of_length_eq_zero h0
    exact .inl ⟨rfl, ao, c, rfl⟩
  · obtain ⟨b, off, rfl, hb, hc, hrow⟩ := hr h0
    have hval : ∀ i (hi : i < L.length), ∃ u, w.cell? ⟨b, off + i, none⟩ = some u ∧ Seg w u L[i] ∧ L[i].length ≤ 9223372036854775807 := fun i hi => by
      obtain ⟨a, n, cc, h1, h2, h3, h4⟩ := hrow i L[i] (List.getElem?_eq_getElem hi)
      unfold maxLen at h3
      exact ⟨_, h1, h4, by omega⟩
    refine .inr ⟨(List.range L.length).map fun i => (w.cell? ⟨b, off + i, none⟩).getD undef, .inr ⟨b, off, c, by simp, Nat.lt_of_lt_of_le hb hB.size, by simpa using hc, fun j u hu => ?_⟩, by simp, fun j u r hu hr' => ?_⟩
    · rw [List.getElem?_map, Option.map_eq_some_iff] at hu
      obtain ⟨j', hj', rfl⟩ := hu
      obtain ⟨hj, hjj⟩ := List.getElem?_eq_some_iff.1 hj'
      rw [List.getElem_range] at hjj
      subst hjj
      obtain ⟨u, h1, _⟩ := hval j (by simpa using hj)
      rw [hB.cell (p := ⟨b, off + j, none⟩) hb, h1]; rfl
    · rw [List.getElem?_map, Option.map_eq_some_iff] at hu
      obtain ⟨j', hj', rfl⟩ := hu
      obtain ⟨hj, hjj⟩ := List.getElem?_eq_some_iff.1 hj'
      rw [List.getElem_range] at hjj
      subst hjj
      have hj2 : j < L.length := by simpa using hj
      obtain ⟨u, h1, h2, h3⟩ := hval j hj2
      rw [List.getElem?_eq_getElem hj2] at hr'
      obtain rfl := Option.some.inj hr'
      rw [h1]
      exact ⟨h2.below hB (Nat.le_refl _), h3⟩

theorem feed_part (Z : FS) (A : List UInt8) (f c : Nat) (h : f ≤ c) : feedS Z (A.take c) = ⟨(feedS ⟨(feedS Z (A.take f)).held, (feedS Z (A.take f)).sp, [], 0⟩ ((A.take c).drop f)).held, (feedS ⟨(feedS Z (A.take f)).held, (feedS Z (A.take f)).sp, [], 0⟩ ((A.take c).drop f)).sp, (feedS Z (A.take f)).told ++ (feedS ⟨(feedS Z (A.take f)).held, (feedS Z (A.take f)).sp, [], 0⟩ ((A.take c).drop f)).told, (feedS Z (A.take f)).bad + (feedS ⟨(feedS Z (A.take f)).held, (feedS Z (A.take f)).sp, [], 0⟩ ((A.take c).drop f)).bad⟩ := by
  rw [← feedS_told ((A.take c).drop f) (feedS Z (A.take f)), ← feedS_append]
  congr 1
  have := List.take_append_drop f (A.take c)
  rw [List.take_take, Nat.min_eq_left h] at this
  exact this.symm

set_option maxRecDepth 100000 in
set_option maxHeartbeats 8000000 in
theorem frameTold_any (x : Value) (ns : List UInt8) (ao : Option Addr) (len c : Nat) (y : Value) (L : List (List UInt8)) (z : Value) (zs : List Int) (w : World) (hx : x = .slice ao len c) (hl : ns.length = len) (hm : len ≤ maxLen) (hseg : Seg w x ns) (hL : SegsF w y L) (hz : IntsIn w z zs) (hgf : 0 < w.heap.size) (hf : Tab w 0 (fours.map v32)) :
    Calls Tryd.prog 5 #[x, y, z] w fun e w' => e = .returned (.bool true) ∧ Below w.heap.size w w' := by
  subst hx
  unfold maxLen at hm
  have hLr := fun w' (h : Below w.heap.size w w') => hL.rowsIn h
  obtain ⟨aL, cL, rfl, hmL, hL⟩ := hL
  obtain ⟨az, cz, rfl, hmz, hz⟩ := hz
  unfold maxLen at hmL hmz
  have HW : Hid (∀ (W : World) (k : Nat), k = W.heap.size → Row (W.alloc (.cells #[.int .u8 0] 5)) k 0 [0]) := fun W k hk => by subst hk; exact row_one W 0 _
  go_enter Tryd.func5, Tryd.ntmps5
  go_wp2_with fail
  refine (fawake_any _).mono ?_
  rintro e w1 ⟨rfl, hb1⟩
  have s1 := hb1.size
  by_cases hbig : 5000 < len
  · go_wp2
    go_ret
    exact ⟨rfl, hb1⟩
  by_cases hbig2 : 30 < L.length
  · go_wp2
    go_ret
    exact ⟨rfl, hb1⟩
  go_wp2_with fail
  refine (new_any _).mono ?_
  rintro e w2 ⟨rfl, rfl⟩
  have hR0 := rd_new 45 w1 w.heap.size s1
  have hB0 : Below w.heap.size w (w1.alloc (.cells #[.slice none 0 0, .bool false] 45)) := hb1.alloc s1 _
  have s0 := hB0.size
  have s0' : w1.heap.size < (w1.alloc (.cells #[.slice none 0 0, .bool false] 45)).heap.size := by simp
  have hok0 : FS.ok ⟨[], false, [], 0⟩ := ⟨by simp, fun h => by cases h⟩
  have hsegW := hseg.below hB0 (Nat.le_refl _)
  generalize (w1.alloc (.cells #[.slice none 0 0, .bool false] 45)) = W0 at *
  go_wp2_with (first
    | (at_builtin; refine app_own _ rfl (.tmp 40) (.tmp 41) rfl W0.heap.size _ [] rfl (by exact own_emptyF _ _ _ rfl (Nat.le_refl _)) _ ns rfl (by exact hsegW.alloc _) (by simp; omega) (by simp) ?_; intro v2 w2 ho2 hg2 _; rw [List.nil_append] at ho2; have hB2 := below_grown ((Below.refl W0.heap.size W0).alloc (Nat.le_refl _) _) hg2 (by simp) (fun q hq => by have h2 : W0.heap.size = q := Option.some.inj hq; omega); have s2 := hB2.size; clear hg2; obtain ⟨a2, c2, rfl⟩ := ho2.seg.shapeF; rw [hl] at ho2)
    | (at_builtin; refine app_own _ rfl (.tmp 42) (.tmp 43) rfl W0.heap.size _ ns rfl (by exact ho2.alloc _) _ [0] rfl (by exact Seg.of_row (HW.out w2 _ rfl) rfl (Nat.le_refl _) (by simp)) (by simp; omega) (by simp; omega) ?_; intro v3 w3 ho3 hg3 _; have hB3 := below_grown (hB2.alloc s2 _) hg3 (by simp; omega) (fun q hq => (ho2.blocks q hq).1); have s3 := hB3.size; clear hg3)
    | fail)
  have hR3 := hR0.chg (Chg.of_below (S := fun _ => False) hB3 (Nat.le_refl _)) (fun _ _ h => h)
  have hB3w : Below w.heap.size w w3 := hB0.trans (hB3.mono s0)
  have HFN := feed_any w.heap.size w1.heap.size (.slice none 0 0) [] false v3 (ns ++ [0]) w3 (by simp; omega) hR3 hok0 (by omega) ho3.seg (fun _ q hq ht => by
    rcases ht with rfl | ht
    · have := (ho3.blocks _ hq).1; omega
    · simp [Value.ownBlock] at ht) hgf (hf.below hB3w hgf)
  have hcl := feed_noise _ hok0 ns
  generalize feedS ⟨[], false, [], 0⟩ (ns ++ [0]) = FN at *
  refine HFN.mono ?_
  rintro e W1 ⟨tvn, vsn, hv1, rfl, hR1, hTn, hC1, hG1⟩
  rw [hcl.1, hcl.2] at hR1
  have hB1 : Below w.heap.size w W1 := hB3w.trans (hC1.below (fun q hq => hR3.touch q hq) (by omega))
  clear HFN hTn hC1 hG1 hR3 hR0 ho3 ho2 hB3 hB2 hcl hB3w hsegW HW
  generalize FN.bad = FNb
  have HFL : Hid (∀ k (hk : k < L.length), (L.take (k + 1)).flatMap frameOf = (L.take k).flatMap frameOf ++ frameOf L[k]) := fun k hk => by
    rw [List.take_succ_eq_append_getElem hk, List.flatMap_append]
    simp only [List.flatMap_cons, List.flatMap_nil, List.append_nil]
  go_wp2_with fail
  go_loopw [9, 10] (fun av iv wr => ∃ (k : Nat) (hv : Value), iv = .int .i64 (k : Int) ∧ k ≤ L.length ∧ Own wr w.heap.size av ((L.take k).flatMap frameOf) ∧ (∀ b ∈ L.take k, b.length ≤ 2048) ∧ Rd 45 wr w.heap.size w1.heap.size hv [] false ∧ Off av hv ∧ Below w.heap.size w wr) (fun _ iv _ => L.length - (intOf iv).toNat)
  case atStart => exact ⟨0, hv1, rfl, Nat.zero_le _, ⟨rfl, .inl ⟨rfl, rfl⟩⟩, by simp, hR1, Off.of_nil _, hB1⟩
  case round =>
    obtain ⟨k, hv, rfl, hk, hOa, hle, hR, hoff, hB⟩ := hrel
    have sB := hB.size
    by_cases hkl : k < L.length
    · obtain ⟨b, off, rfl, hbl, hlc, hrows⟩ := hL (by omega)
      obtain ⟨ak, nk, ck, hck, hrl, hnk, hsk⟩ := hrows k L[k] (List.getElem?_eq_getElem hkl)
      have hcw : wr.cell? ⟨b, off + k, none⟩ = some (.slice ak nk ck) := (hB.cell (p := ⟨b, off + k, none⟩) hbl).trans hck
      unfold maxLen at hnk
      by_cases hb2 : 2048 < nk
      · go_wp2
        go_ret
        exact ⟨rfl, hB⟩
      have HP := put_any (.slice ak nk ck) L[k] wr (by omega) (hsk.below hB (Nat.le_refl _)) (by omega) (hf.below hB hgf)
      rw [putOf_frame L[k] (by omega)] at HP
      have hfl := frameOf_len L[k] (by omega)
      have hal := frames_len (L.take k) hle
      simp only [List.length_take] at hal
      have HLE : Hid (∀ b ∈ L.take (k + 1), b.length ≤ 2048) := fun x hx => by
        rw [List.take_succ_eq_append_getElem hkl] at hx
        rcases List.mem_append.1 hx with h | h
        · exact hle x h
        · rw [List.mem_singleton.1 h]; omega
      have HFK := HFL.out k hkl
      have HFK' : Hid ((L.take k).flatMap frameOf ++ frameOf L[k] = (L.take (k + 1)).flatMap frameOf) := HFK.symm
      clear HFK
      generalize (L.take k).flatMap frameOf = AL at *
      generalize frameOf L[k] = FK at *
      go_wp2_with fail
      refine HP.mono ?_
      rintro e w2 ⟨⟨v2, rfl, ho2⟩, hb2'⟩
      have hR2 := hR.chg (Chg.of_below (S := fun _ => False) hb2' (Nat.le_refl _)) (fun _ _ h => h)
      have hOa2 := hOa.below hb2' (Nat.le_refl _)
      have hB2 : Below w.heap.size w w2 := hB.trans (hb2'.mono sB)
      have s2 := hB2.size
      clear HP
      obtain ⟨a2, c2, rfl⟩ := ho2.seg.shapeF
      go_wp2_with (at_builtin; refine app_own _ rfl (.tmp 68) (.tmp 69) rfl w.heap.size _ AL rfl hOa2 _ FK rfl ho2.seg (by omega) s2 ?_; intro v4 w4 ho4 hg4 hv4)
      go_roundw
      case rel =>
        refine ⟨k + 1, hv, by simp, by omega, by rw [← HFK'.out]; exact ho4, HLE.out, ?_, ?_, below_grown hB2 hg4 s2 (fun q hq => (hOa2.blocks q hq).1)⟩
        · exact hR2.chg (Chg.of_grown hg4 (S := fun q => u9.ownBlock = some q) (fun q hq => hq)) (fun q hq e => by
            rcases hq with rfl | hq
            · exact hR2.blk.not_row (by decide) hOa2 e
            · exact hoff q e hq)
        · intro q hq e
          rcases hv4 with h | h
          · rw [h] at hq; exact hoff q hq e
          · rw [h] at hq; have := Option.some.inj hq; have := (hR2.own.blocks q e).2; omega
      case measure => simp only [intOf]; omega
    · obtain rfl : k = L.length := by omega
      rw [List.take_length] at hOa hle
      have hfr := feed_frames L [] 0 hle
      have hal := frames_len L hle
      rw [List.nil_append] at hfr
      have HFR : Hid (feedS ⟨[], false, [], 0⟩ (L.flatMap frameOf) = ⟨[], false, L, 0⟩) := hfr
      generalize L.flatMap frameOf = ALL at *
      obtain ⟨aa, ca, rfl⟩ := hOa.seg.shapeF
      clear hfr hle HFL hk hkl
      have hR1' := hR
      go_wp2_with fail
      go_loopw [13, 14, 15, 16] (fun gv sv fv iv wr => ∃ (k fr : Nat) (hv : Value) (vs : List Value), iv = .int .i64 (k : Int) ∧ k ≤ zs.length ∧ fv = .int .i64 (fr : Int) ∧ fr ≤ ALL.length ∧ sv = .int .i64 ((feedS ⟨[], false, [], 0⟩ (ALL.take fr)).bad : Int) ∧ Rd 45 wr w.heap.size w1.heap.size hv (feedS ⟨[], false, [], 0⟩ (ALL.take fr)).held (feedS ⟨[], false, [], 0⟩ (ALL.take fr)).sp ∧ Told wr w.heap.size gv hv vs (feedS ⟨[], false, [], 0⟩ (ALL.take fr)).told ∧ Own wr w.heap.size (.slice aa ALL.length ca) ALL ∧ Off (.slice aa ALL.length ca) hv ∧ Below w.heap.size w wr) (fun _ _ _ iv _ => zs.length - (intOf iv).toNat)
      case atStart => exact ⟨0, 0, hv, [], rfl, Nat.zero_le _, rfl, Nat.zero_le _, rfl, hR, Told.nil _ _ _, hOa, hoff, hB⟩
      case round =>
        obtain ⟨k, fr, hv2, vs, rfl, hk, rfl, hfrl, rfl, hR2, hTg, hOa2, hoff2, hB⟩ := hrel
        have sB := hB.size
        have hok := FS.ok_feed (ALL.take fr) _ hok0
        have hlk := feedS_len (ALL.take fr) ⟨[], false, [], 0⟩
        simp only [List.length_nil, List.length_take, Nat.zero_add] at hlk
        clear hR hoff hOa
        by_cases hgo : k < zs.length ∧ k < 60
        · obtain ⟨hkl, hk60⟩ := hgo
          obtain ⟨bz, oz, rfl, hbz, hcz⟩ := hz (by omega)
          obtain ⟨hc, hz1, hz2⟩ := hcz k hkl
          have hcw : wr.cell? ⟨bz, oz + k, none⟩ = some (.int .i64 zs[k]) := (hB.cell (p := ⟨bz, oz + k, none⟩) hbz).trans hc
          generalize zs[k] = Z at *
          by_cases hlow : Z < (fr : Int)
          · go_wp2
            go_roundw
            case rel => exact ⟨k + 1, fr, hv2, vs, by simp, by omega, rfl, hfrl, rfl, hR2, hTg, hOa2, hoff2, hB⟩
            case measure => simp only [intOf]; omega
          by_cases hhigh : (ALL.length : Int) < Z
          · go_wp2
            go_roundw
            case rel => exact ⟨k + 1, fr, hv2, vs, by simp, by omega, rfl, hfrl, rfl, hR2, hTg, hOa2, hoff2, hB⟩
            case measure => simp only [intOf]; omega
          obtain ⟨cN, rfl⟩ : ∃ cN : Nat, Z = (cN : Int) := ⟨Z.toNat, by omega⟩
          have hpart := feed_part ⟨[], false, [], 0⟩ ALL fr cN (by omega)
          have hst := hOa2.seg.takesF cN (by omega)
          have hsd := hst.1.dropsF fr (by omega)
          have l1 := slice_midF aa ALL.length ca fr cN (by omega) hst.2
          have hpl : ((ALL.take cN).drop fr).length ≤ 100000 := by simp; omega
          generalize (ALL.take cN).drop fr = PT at *
          generalize feedS ⟨[], false, [], 0⟩ (ALL.take fr) = ST at *
          have hFY := feed_any w.heap.size w1.heap.size hv2 ST.held ST.sp (.slice (restF aa ca fr) (cN - fr) (ca - fr)) PT wr hpl hR2 ⟨hok.1, hok.2⟩ sB hsd (fun _ q hq ht => by
            have hq' : (Value.slice aa ALL.length ca).ownBlock = some q := rest_block _ _ _ _ _ _ _ _ hq
            rcases ht with rfl | ht
            · exact hR2.blk.not_row (by decide) hOa2 hq'
            · exact hoff2 q hq' ht) hgf (hf.below hB hgf)
          have hFl2 := feedS_len PT ⟨ST.held, ST.sp, [], 0⟩
          generalize feedS ⟨ST.held, ST.sp, [], 0⟩ PT = F2 at *
          have HPT : Hid (feedS ⟨[], false, [], 0⟩ (ALL.take cN) = ⟨F2.held, F2.sp, ST.told ++ F2.told, ST.bad + F2.bad⟩) := hpart
          have HFY : Hid (Calls Tryd.prog 11 #[.pointer (some ⟨w1.heap.size, 0, none⟩), .slice (restF aa ca fr) (cN - fr) (ca - fr)] wr (feedPost 45 wr w.heap.size w1.heap.size hv2 F2)) := hFY
          simp only [List.length_nil, Nat.zero_add] at hFl2
          clear hFY hpart hst hsd
          go_wp2_with fail
          refine HFY.out.mono ?_
          rintro e w3 ⟨tv2, vs2, hv3, rfl, hR3, hT2, hC2, hG2⟩
          clear HFY
          have hTg2 := hTg.step hR2 (by decide) (by decide) hC2 hG2
          have hOa3 := hOa2.chg hC2 (fun q hq ht => by
            rcases ht with rfl | ht
            · exact hR2.blk.not_row (by decide) hOa2 hq
            · exact hoff2 q hq ht)
          have hoff3 := hoff2.goes hOa2 hG2
          have hB4 : Below w.heap.size w w3 := hB.trans (hC2.below (fun q hq => hR2.touch q hq) sB)
          have s4 := hB4.size
          have hT3 := hT2.mono (lo' := w.heap.size) sB
          have htl2 := hT2.len
          have htl := hTg.len
          clear hT2 hC2 hG2 hTg hOa2 hoff2
          have hcw3 : w3.cell? ⟨bz, oz + k, none⟩ = some (.int .i64 (cN : Int)) := (hB4.cell (p := ⟨bz, oz + k, none⟩) hbz).trans hc
          go_wp2_with (at_builtin; refine app_rows _ rfl (.tmp 108) (.tmp 109) rfl w.heap.size _ vs rfl hTg2.row _ vs2 rfl hT3.rows hT3.ones (by omega) s4 ?_; intro tv4 w4 hr4 hg4 hv4; have hcw4 : w4.cell? ⟨bz, oz + k, none⟩ = some (.int .i64 (cN : Int)) := ((below_grown (Below.refl w.heap.size w3) hg4 s4 (fun q hq => (row_blocks hTg2.row q hq).1)).cell (p := ⟨bz, oz + k, none⟩) hbz).trans hcw3)
          go_roundw
          case rel =>
            have hT4 := hTg2.join hT3 hr4 hg4
            refine ⟨k + 1, cN, hv3, vs ++ vs2, by simp, by omega, rfl, by omega, by rw [HPT.out]; simp, ?_, ?_, hOa3.chg (Chg.of_grown hg4 (S := fun q => u13.ownBlock = some q) (fun q hq => hq)) (fun q hq e => rows_apart hTg2.row hOa3 q e hq), hoff3, below_grown hB4 hg4 s4 (fun q hq => (row_blocks hTg2.row q hq).1)⟩
            · rw [HPT.out]; exact hR3.row hTg2.row hg4 (by decide)
            · rw [HPT.out]; exact hT4
          case measure => simp only [intOf]; omega
        · have hpart := feed_part ⟨[], false, [], 0⟩ ALL fr ALL.length hfrl
          have hst := hOa2.seg.takesF ALL.length (Nat.le_refl _)
          have hsd := hst.1.dropsF fr (by omega)
          have l1 := slice_restF aa ALL.length ca fr (by omega)
          have hpl : ((ALL.take ALL.length).drop fr).length ≤ 100000 := by simp; omega
          generalize (ALL.take ALL.length).drop fr = PT at *
          rw [List.take_length, HFR.out] at hpart
          generalize feedS ⟨[], false, [], 0⟩ (ALL.take fr) = ST at *
          have hFY := feed_any w.heap.size w1.heap.size hv2 ST.held ST.sp (.slice (restF aa ca fr) (ALL.length - fr) (ca - fr)) PT wr hpl hR2 ⟨hok.1, hok.2⟩ sB hsd (fun _ q hq ht => by
            have hq' : (Value.slice aa ALL.length ca).ownBlock = some q := rest_block _ _ _ _ _ _ _ _ hq
            rcases ht with rfl | ht
            · exact hR2.blk.not_row (by decide) hOa2 hq'
            · exact hoff2 q hq' ht) hgf (hf.below hB hgf)
          have hFl2 := feedS_len PT ⟨ST.held, ST.sp, [], 0⟩
          generalize feedS ⟨ST.held, ST.sp, [], 0⟩ PT = F2 at *
          simp only [FS.mk.injEq] at hpart
          obtain ⟨hh0, hs0, hto, hbo⟩ := hpart
          have HFY : Hid (Calls Tryd.prog 11 #[.pointer (some ⟨w1.heap.size, 0, none⟩), .slice (restF aa ca fr) (ALL.length - fr) (ca - fr)] wr (feedPost 45 wr w.heap.size w1.heap.size hv2 F2)) := hFY
          simp only [List.length_nil, Nat.zero_add] at hFl2
          have HTO : Hid (L = ST.told ++ F2.told) := hto
          have hq1 : ((ST.bad : Int) + (F2.bad : Int) == 0) = true := by rw [beq_iff_eq]; omega
          have hq2 : ((F2.held.length : Int) == 0) = true := by rw [← hh0]; rfl
          clear hFY hst hsd hto hbo hh0 hs0
          rcases (by omega : ¬ k < zs.length ∨ (k < zs.length ∧ ¬ k < 60)) with h1 | ⟨h1, h2⟩
          all_goals
            go_wp2_with fail
            refine HFY.out.mono ?_
            rintro e w3 ⟨tv2, vs2, hv3, rfl, hR3, hT2, hC2, hG2⟩
            have hTg2 := hTg.step hR2 (by decide) (by decide) hC2 hG2
            have hB4 : Below w.heap.size w w3 := hB.trans (hC2.below (fun q hq => hR2.touch q hq) sB)
            have s4 := hB4.size
            have hT3 := hT2.mono (lo' := w.heap.size) sB
            have htl2 := hT2.len
            have htl := hTg.len
            clear hT2 hC2 hG2 hTg hOa2 hoff2
            go_wp2_with (at_builtin; refine app_rows _ rfl (.tmp 126) (.tmp 127) rfl w.heap.size _ vs rfl hTg2.row _ vs2 rfl hT3.rows hT3.ones (by omega) s4 ?_; intro tv4 w4 hr4 hg4 hv4; have hT4 := hTg2.join hT3 hr4 hg4; have hR4 := hR3.row hTg2.row hg4 (by decide); have hB5 : Below w.heap.size w w4 := below_grown hB4 hg4 s4 (fun q hq => (row_blocks hTg2.row q hq).1))
            have HS := same_any tv4 (.slice aL L.length cL) (ST.told ++ F2.told) L w4 hT4.rowsIn (hLr w4 hB5) (by simp; omega)
            rw [decide_eq_true HTO.out.symm] at HS
            refine HS.mono ?_
            rintro e w5 ⟨rfl, nq, rfl⟩
            have hR5 : Rd 45 (w4.drewN nq) w.heap.size w1.heap.size hv3 F2.held F2.sp := ⟨hR4.blk, hR4.own, hR4.low⟩
            have hB6 : Below w.heap.size w (w4.drewN nq) := Below.drewN hB5 nq
            clear HS
            generalize w4.drewN nq = W9 at *
            go_wp2_with fail
            refine (held_any _ _ _ _ _ _ hR5).mono ?_
            rintro e w6 ⟨rfl, rfl⟩
            go_wp2
            go_ret
            exact ⟨rfl, hB6⟩
end Go.Proofs.YtchbfhckocfjhaaDoor
