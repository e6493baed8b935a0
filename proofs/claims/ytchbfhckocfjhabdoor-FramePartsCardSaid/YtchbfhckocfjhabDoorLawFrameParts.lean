/-
  What is proved here: of all bytes, the statement FrameParts answers true: a stream that comes byte by byte brings what it brings at once.
  Conditions: the variable fourBits holds the sixteen words.
-/
import Derived.Test.YtchbfhckocfjhabDoorFrameJoin
import Derived.Test.YtchbfhckocfjhabDoorFrameAwake
namespace Go.Proofs.YtchbfhckocfjhabDoor
open Go.RowKit

theorem feed_one (Z : FS) (bs : List UInt8) (k : Nat) (h : k < bs.length) : feedS Z (bs.take (k + 1)) = ⟨(feedS ⟨(feedS Z (bs.take k)).held, (feedS Z (bs.take k)).sp, [], 0⟩ [bs[k]]).held, (feedS ⟨(feedS Z (bs.take k)).held, (feedS Z (bs.take k)).sp, [], 0⟩ [bs[k]]).sp, (feedS Z (bs.take k)).told ++ (feedS ⟨(feedS Z (bs.take k)).held, (feedS Z (bs.take k)).sp, [], 0⟩ [bs[k]]).told, (feedS Z (bs.take k)).bad + (feedS ⟨(feedS Z (bs.take k)).held, (feedS Z (bs.take k)).sp, [], 0⟩ [bs[k]]).bad⟩ := by
  rw [← feedS_told [bs[k]] (feedS Z (bs.take k)), ← feedS_append, ← List.take_succ_eq_append_getElem h]

theorem seg_block {w : World} {ao : Option Addr} {n c : Nat} {bs : List UInt8} (h : Seg w (.slice ao n c) bs) : 0 < bs.length → ∀ q n' c', (Value.slice ao n' c').ownBlock = some q → q < w.heap.size := by
  intro h0 q n' c' hq
  rcases h with ⟨rfl, _⟩ | ⟨b, off, c', e, _, _, hb⟩
  · simp at h0
  · cases e
    have : b = q := by simpa [Value.ownBlock] using hq
    omega

set_option maxRecDepth 100000 in
set_option maxHeartbeats 4000000 in
theorem frameParts_any (x : Value) (bs : List UInt8) (ao : Option Addr) (len c : Nat) (w : World) (hx : x = .slice ao len c) (hl : bs.length = len) (hm : len ≤ maxLen) (hseg : Seg w x bs) (hgf : 0 < w.heap.size) (hf : Tab w 0 (fours.map v32)) :
    Calls Tryd.prog 4 #[x] w fun e w' => e = .returned (.bool true) ∧ Below w.heap.size w w' := by
  subst hx
  unfold maxLen at hm
  go_enter Tryd.func4, Tryd.ntmps4
  go_wp2_with fail
  refine (fawake_any _).mono ?_
  rintro e w1 ⟨rfl, hb1⟩
  have s1 := hb1.size
  go_wp2_with fail
  refine (new_any _).mono ?_
  rintro e w2 ⟨rfl, rfl⟩
  go_wp2_with fail
  refine (new_any _).mono ?_
  rintro e w2 ⟨rfl, rfl⟩
  have hRx := (rd_new 37 w1 w.heap.size s1).alloc (.cells #[.slice none 0 0, .bool false] 37)
  have hRy := rd_new 37 (w1.alloc (.cells #[.slice none 0 0, .bool false] 37)) w.heap.size (by simp; omega)
  rw [World.size_alloc] at hRy
  have hB2 : Below w.heap.size w ((w1.alloc (.cells #[.slice none 0 0, .bool false] 37)).alloc (.cells #[.slice none 0 0, .bool false] 37)) := (hb1.alloc s1 _).alloc (by simp; omega) _
  have s2 : ((w1.alloc (.cells #[.slice none 0 0, .bool false] 37)).alloc (.cells #[.slice none 0 0, .bool false] 37)).heap.size = w1.heap.size + 2 := by simp
  rw [World.size_alloc]
  generalize ((w1.alloc (.cells #[.slice none 0 0, .bool false] 37)).alloc (.cells #[.slice none 0 0, .bool false] 37)) = W0 at *
  by_cases hbig : 10000 < len
  · go_wp2
    go_ret
    exact ⟨rfl, hB2⟩
  have hok0 : FS.ok ⟨[], false, [], 0⟩ := ⟨by simp, fun h => by cases h⟩
  have hxt := seg_block hseg
  have HFX := feed_any w.heap.size w1.heap.size (.slice none 0 0) [] false (.slice ao len c) bs W0 (by omega) hRx hok0 (by omega) (hseg.below hB2 (Nat.le_refl _)) (fun h q hq ht => by have := hxt h q _ _ hq; have := hRx.touch q ht; omega) hgf (hf.below hB2 hgf)
  generalize hFF : feedS ⟨[], false, [], 0⟩ bs = F at HFX
  have HFF : Hid (feedS ⟨[], false, [], 0⟩ bs = F) := hFF
  have hFl := feedS_len bs ⟨[], false, [], 0⟩
  rw [hFF] at hFl
  clear hFF
  go_wp2_with fail
  refine HFX.mono ?_
  rintro e W1 ⟨tvx, vsx, hvx, rfl, hRx1, hTx1, hC1, hG1⟩
  clear HFX
  have hB3 : Below w.heap.size w W1 := hB2.trans (hC1.below (fun q hq => hRx.touch q hq) (by omega))
  have hRy1 := hRy.beside hRx (by omega) (Off.nil _) (by decide) (by decide) hC1
  have hTx2 := (hTx1.mono (lo' := w.heap.size) (by omega)).beside
  clear hTx1 hRx hRy hC1 hG1 hb1 hB2
  go_wp2_with fail
  go_loopw [8, 9, 10] (fun gv nv iv wr => ∃ (k : Nat) (hvy : Value) (vs : List Value), iv = .int .i64 (k : Int) ∧ k ≤ len ∧ nv = .int .i64 ((feedS ⟨[], false, [], 0⟩ (bs.take k)).bad : Int) ∧ Rd 37 wr w.heap.size (w1.heap.size + 1) hvy (feedS ⟨[], false, [], 0⟩ (bs.take k)).held (feedS ⟨[], false, [], 0⟩ (bs.take k)).sp ∧ Told wr w.heap.size gv hvy vs (feedS ⟨[], false, [], 0⟩ (bs.take k)).told ∧ Rd 37 wr w.heap.size w1.heap.size hvx F.held F.sp ∧ Told wr w.heap.size tvx hvy vsx F.told ∧ Off hvx hvy ∧ Off tvx gv ∧ Below w.heap.size w wr) (fun _ _ iv _ => len - (intOf iv).toNat)
  case atStart => exact ⟨0, .slice none 0 0, [], rfl, Nat.zero_le _, rfl, hRy1, Told.nil _ _ _, hRx1, hTx2, Off.nil _, Off.nil _, hB3⟩
  case round =>
    obtain ⟨k, hvy, vs, rfl, hk, rfl, hRy, hTg, hRx, hTx, hoff, hoft, hB⟩ := hrel
    have sB := hB.size
    have hok := FS.ok_feed (bs.take k) _ hok0
    have hlk := feedS_len (bs.take k) ⟨[], false, [], 0⟩
    by_cases hkl : k < len
    · have hone := feed_one ⟨[], false, [], 0⟩ bs k (by omega)
      generalize feedS ⟨[], false, [], 0⟩ (bs.take k) = ST at *
      have HON : Hid (feedS ⟨[], false, [], 0⟩ (bs.take (k + 1)) = ⟨(feedS ⟨ST.held, ST.sp, [], 0⟩ [bs[k]]).held, (feedS ⟨ST.held, ST.sp, [], 0⟩ [bs[k]]).sp, ST.told ++ (feedS ⟨ST.held, ST.sp, [], 0⟩ [bs[k]]).told, ST.bad + (feedS ⟨ST.held, ST.sp, [], 0⟩ [bs[k]]).bad⟩) := hone
      clear hone
      have hst := hseg.takesF (k + 1) (by omega)
      have hsd := hst.1.dropsF k (by omega)
      have hdt : (bs.take (k + 1)).drop k = [bs[k]] := by
        rw [List.take_succ_eq_append_getElem (by omega)]
        exact List.drop_left' (by simp; omega)
      rw [hdt, show k + 1 - k = 1 by omega] at hsd
      have l1 : ∀ w, (Instr.slice 22 (.slice ao len c) (some (.int .i64 (k : Int))) (some (.int .i64 ((k : Int) + 1))) none).run Tryd.prog w = .ok (.slice (restF ao c k) 1 (c - k)) w := fun w => by
        have := slice_midF ao len c k (k + 1) (by omega) hst.2 w
        rw [show k + 1 - k = 1 by omega] at this
        simpa using this
      have hFY := feed_any w.heap.size (w1.heap.size + 1) hvy ST.held ST.sp (.slice (restF ao c k) 1 (c - k)) [bs[k]] wr (by simp) hRy ⟨hok.1, hok.2⟩ sB (hsd.below hB (Nat.le_refl _)) (fun _ q hq ht => by have := hxt (by omega) q len c (rest_block _ _ _ _ _ _ _ _ hq); have := hRy.touch q ht; omega) hgf (hf.below hB hgf)
      have hFl2 := feedS_len [bs[k]] ⟨ST.held, ST.sp, [], 0⟩
      generalize feedS ⟨ST.held, ST.sp, [], 0⟩ [bs[k]] = F2 at *
      have HFY : Hid (Calls Tryd.prog 8 #[.pointer (some ⟨w1.heap.size + 1, 0, none⟩), .slice (restF ao c k) 1 (c - k)] wr (feedPost 37 wr w.heap.size (w1.heap.size + 1) hvy F2)) := hFY
      have htl := hTg.len
      simp only [List.length_nil, List.length_take, Nat.zero_add, List.length_cons] at hlk hFl2
      clear hFY hst hsd hdt
      go_wp2_with fail
      refine HFY.out.mono ?_
      rintro e w3 ⟨tv2, vs2, hv2, rfl, hRy2, hT2, hC2, hG2⟩
      clear HFY
      have hTg2 := hTg.step hRy (by decide) (by decide) hC2 hG2
      have hTx3 := hTx.step hRy (by decide) (by decide) hC2 hG2
      have hRx2 := hRx.beside hRy (by omega) hoff (by decide) (by decide) hC2
      have hoff2 := hoff.goes hRx.own hG2
      have hB4 : Below w.heap.size w w3 := hB.trans (hC2.below (fun q hq => hRy.touch q hq) sB)
      have s4 := hB4.size
      have hT3 := hT2.mono (lo' := w.heap.size) sB
      have htl2 := hT2.len
      clear hTg hTx hRx hRy hT2 hC2 hG2 hoff
      go_wp2_with (at_builtin; refine app_rows _ rfl (.tmp 63) (.tmp 64) rfl w.heap.size _ vs rfl hTg2.row _ vs2 rfl hT3.rows hT3.ones (by omega) s4 ?_; intro tv4 w4 hr4 hg4 hv4)
      go_roundw
      case rel =>
        have hT4 := hTg2.join hT3 hr4 hg4
        refine ⟨k + 1, hv2, vs ++ vs2, by simp, by omega, by rw [HON.out]; simp, ?_, ?_, hRx2.row hTg2.row hg4 (by decide), hTx3.grown hTg2.row hg4 hoft, hoff2, hoft.row hTx3.row hv4, below_grown hB4 hg4 s4 (fun q hq => (row_blocks hTg2.row q hq).1)⟩
        · rw [HON.out]; exact hRy2.row hTg2.row hg4 (by decide)
        · rw [HON.out]; exact hT4
      case measure => simp only [intOf]; omega
    · obtain rfl : k = len := by omega
      rw [List.take_of_length_le (by omega), HFF.out] at *
      have HS := same_any u8 tvx F.told F.told wr hTg.rowsIn hTx.rowsIn (by simp at hFl; omega)
      rw [decide_eq_true rfl] at HS
      go_wp2_with fail
      refine HS.mono ?_
      rintro e w5 ⟨rfl, nq, rfl⟩
      clear HS
      have hRxd : Rd 37 (wr.drewN nq) w.heap.size w1.heap.size hvx F.held F.sp := ⟨hRx.blk, hRx.own, hRx.low⟩
      have hRyd : Rd 37 (wr.drewN nq) w.heap.size (w1.heap.size + 1) hvy F.held F.sp := ⟨hRy.blk, hRy.own, hRy.low⟩
      have hBd : Below w.heap.size w (wr.drewN nq) := Below.drewN hB nq
      generalize wr.drewN nq = W9 at *
      go_wp2_with fail
      refine (held_any _ _ _ _ _ _ hRxd).mono ?_
      rintro e w6 ⟨rfl, rfl⟩
      go_wp2_with fail
      refine (held_any _ _ _ _ _ _ hRyd).mono ?_
      rintro e w6 ⟨rfl, rfl⟩
      go_wp2
      go_ret
      exact ⟨rfl, hBd⟩
end Go.Proofs.YtchbfhckocfjhabDoor
