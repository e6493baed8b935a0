/-
  What is proved here: of all bytes and rows of bytes, the statement WalRoom answers true.
  Conditions: none.
-/
import Derived.Test.YtcfnbmphonkbpaaWalSegs
namespace Go.Proofs.Ytcfnbmphonkbpaa
open Go.RowKit

set_option maxRecDepth 100000 in
set_option maxHeartbeats 8000000 in
theorem walRoom_any (x : Value) (st : List UInt8) (v : Value) (l : List (List UInt8)) (w : World) (hm : st.length ≤ maxLen) (hS : Seg w x st) (hl : Segs7 w v l) :
    Calls Try.prog 7 #[x, v] w fun e w' => e = .returned (.bool true) ∧ Below w.heap.size w w' := by
  obtain ⟨ax, cx, rfl⟩ := Seg.shapeD hS
  obtain ⟨ao, c, rfl, hlm, -⟩ := id hl
  unfold maxLen at hlm hm
  have h256 : 256 ≤ sizeS (newS 100) := by rw [newS_size]; decide
  obtain ⟨ho, hol⟩ := newS_open 100 h256
  go_enter Try.func7, Try.ntmps7
  go_wp2_with fail
  refine (awake7_any w).mono ?_
  rintro e w1 ⟨rfl, hB1⟩
  go_wp2_with fail
  refine (at_new w.heap.size 100 w1 (by decide) (by decide) hB1.size).mono ?_
  rintro e w2 ⟨L, rfl, hD, hb2, hLn⟩
  have hB2 := blift hB1 hb2 hB1.size
  clear hB1 hb2
  by_cases h1 : 3000 < st.length
  · have j1 : (3000 : Int) < (st.length : Int) := by omega
    go_wp2_with fail
    go_ret
    exact ⟨rfl, hB2⟩
  have j1 : ¬ (3000 : Int) < (st.length : Int) := by omega
  by_cases h2 : 30 < l.length
  · have j2 : (30 : Int) < (l.length : Int) := by omega
    go_wp2_with fail
    go_ret
    exact ⟨rfl, hB2⟩
  have j2 : ¬ (30 : Int) < (l.length : Int) := by omega
  obtain ⟨t, ht, hst, -, hsz⟩ := check_calm (st := st) (l := ⟨0, 0, [], 0, false, false⟩) (newS_calm 100) (newS_ok 100) (by decide) h256 rfl (by rw [newS_there]) (by decide) (by decide) (by rw [newS_size, stateB_len]; omega)
  rw [newS_size] at hsz
  have hsz : sizeS t = 6272 := hsz
  have hbl := stateB_len st
  go_wp2_with fail
  refine (at_open hD ho).mono ?_
  rintro e w3 ⟨G, sv, rv, vs, rfl, hP, _, _, hb3⟩
  rw [hol] at hP
  have hB3 := blift hB2 hb3 hB2.size
  clear ho hol hB2 hb3
  go_wp2_with fail
  refine (at_room hP).mono ?_
  rintro e w4 ⟨rfl, hb4⟩
  rw [room_none]
  have hP4 := hP.after hb4
  have hB4 := blift hB3 hb4 hB3.size
  clear hP hB3 hb4
  go_wp2_with fail
  refine (at_check hP4 _ st (hS.below hB4 (Nat.le_refl _)) (by omega)).mono ?_
  rintro e w5 ⟨rfl, hP5, hb5⟩
  rw [ht] at hP5 ⊢
  have hB5 := hB4.trans hb5
  clear ht hP4 hB4 hb5
  go_wp2_with fail
  refine (at_size hP5).mono ?_
  rintro e w6 ⟨rfl, hw6⟩
  obtain rfl := hw6.symm
  clear hw6
  rw [hsz]
  go_wp2_with fail
  obtain ⟨Z, hZ⟩ : ∃ Z : Int, Z = 6272 - (st.length : Int) - 5 * max (((st.length : Int) + 1023) / 1024) 1 := ⟨_, rfl⟩
  rw [← hZ]
  have hZ2 : Z = (6272 : Int) - ((stateB st).length : Int) := by rw [hbl, hZ]; omega
  obtain ⟨lc, hlc⟩ : ∃ lc : LS, lc = ⟨0 + 1, 0 + 1, stateB st, (stateB st).length, true, false⟩ := ⟨_, rfl⟩
  have hlb : Z = (6272 : Int) - (lc.b.length : Int) := by rw [hlc]; exact hZ2
  rw [← hlc] at hP5 hst
  clear hZ hZ2 hlc hbl
  refine (at_room hP5).mono ?_
  rintro e w6 ⟨rfl, hb6⟩
  rw [room_stand hst, hsz]
  rw [show ((6272 : Nat) : Int) - (lc.b.length : Int) = Z from hlb.symm]
  have hP6 := hP5.after hb6
  have hB6 := blift hB5 hb6 hB5.size
  clear hP5 hB5 hb6
  go_wp2_with fail
  go_loopw [13, 14] (fun lv iv wr => ∃ (I : Nat) (lc : LS), iv = .int .i64 (I : Int) ∧ I ≤ l.length ∧ lv = .int .i64 ((6272 : Int) - (lc.b.length : Int)) ∧ LogAt w.heap.size wr G L t lc ∧ Stand t 100 lc ∧ Below w.heap.size w wr) (fun _ iv _ => l.length - (intOf iv).toNat)
  case atStart => exact ⟨0, lc, rfl, Nat.zero_le _, rfl, hP6, hst, hB6⟩
  case round =>
    clear hP6 hst hB6 hlb
    obtain ⟨I, lc, rfl, hI, rfl, hPr, hst, hBr⟩ := hrel
    have hsz2 := hst.size
    by_cases hlt : I < l.length
    · have i1 : (I : Int) < (l.length : Int) := by omega
      obtain ⟨b, off, ra, cc, rfl, hc, hrm, hat, hrx⟩ := hl.at hlt
      obtain ⟨hce, hsg⟩ := hat wr hBr
      have hix := index_rows b off l.length c (I : Int) I rfl hlt
      obtain ⟨r, hr⟩ : ∃ r, r = l.getD I [] := ⟨_, rfl⟩
      rw [← hr] at hce hsg hrx hrm hat
      unfold maxLen at hrm
      clear hr
      by_cases hbig : 4096 < r.length
      · have i2 : (4096 : Int) < (r.length : Int) := by omega
        go_wp2_with fail
        go_ret
        exact ⟨rfl, hBr⟩
      have i2 : ¬ (4096 : Int) < (r.length : Int) := by omega
      by_cases hfit : lc.b.length + r.length + 5 ≤ 6272
      · have i3 : (r.length : Int) + 5 ≤ 6272 - (lc.b.length : Int) := by omega
        go_wp2_with fail
        refine (at_append hPr _ r hsg (by omega) hrx).mono ?_
        rintro e w7 ⟨rfl, hP7, hb7⟩
        rw [append_calm hst r (by omega) (by rw [hsz]; exact hfit)] at hP7 ⊢
        have hst7 := append_stand hst r (by rw [hsz]; exact hfit)
        have hB7 := hBr.trans hb7
        obtain ⟨hce7, -⟩ := hat w7 hB7
        have hln : (lc.b ++ pieceB 3 r).length = lc.b.length + r.length + 5 := by rw [List.length_append, pieceB_len]; omega
        obtain ⟨ld, hld⟩ : ∃ ld : LS, ld = { lc with b := lc.b ++ pieceB 3 r } := ⟨_, rfl⟩
        have hdl : ld.b.length = lc.b.length + r.length + 5 := by rw [hld]; exact hln
        have hP7 : LogAt w.heap.size w7 G L t ld := by rw [hld]; exact hP7
        have hst7 : Stand t 100 ld := by rw [hld]; exact hst7
        clear hld hln hPr hst hBr hb7 hce hsg
        go_wp2_with fail
        refine (at_room hP7).mono ?_
        rintro e w8 ⟨rfl, hb8⟩
        rw [room_stand hst7, hsz, hdl]
        have hP8 := hP7.after hb8
        have hB8 := blift hB7 hb8 hB7.size
        go_wp2_with fail
        go_roundw
        case rel => exact ⟨I + 1, ld, by go_num, hlt, by rw [hdl]; go_num, hP8, hst7, hB8⟩
        case measure => simp [intOf]; omega
      have i3 : ¬ (r.length : Int) + 5 ≤ 6272 - (lc.b.length : Int) := by omega
      go_wp2_with fail
      refine (at_append hPr _ r hsg (by omega) hrx).mono ?_
      rintro e w7 ⟨rfl, hP7, hb7⟩
      rw [append_full hst r (by omega) (by rw [hsz]; exact hfit)] at hP7 ⊢
      have hB7 := hBr.trans hb7
      clear hPr hBr hb7 hce hsg
      go_wp2_with fail
      refine (at_room hP7).mono ?_
      rintro e w8 ⟨rfl, hb8⟩
      rw [room_stand hst, hsz]
      have hP8 := hP7.after hb8
      have hB8 := blift hB7 hb8 hB7.size
      go_wp2_with fail
      go_roundw
      case rel => exact ⟨I + 1, lc, by go_num, hlt, rfl, hP8, hst, hB8⟩
      case measure => simp [intOf]; omega
    · have i1 : ¬ (I : Int) < (l.length : Int) := by omega
      go_wp2_with fail
      go_ret
      exact ⟨rfl, hBr⟩
end Go.Proofs.Ytcfnbmphonkbpaa
