/-
  What is proved here: of all slices of slices of bytes, the statement FrameReads answers true: what comes off any stream, in any parts, is what the document says.
  Conditions: the variable fourBits holds the sixteen words.
-/
import Derived.Test.YtchbfhckocfjhaaDoorRefFeed
import Derived.Test.YtchbfhckocfjhaaDoorFrameAwake
namespace Go.Proofs.YtchbfhckocfjhaaDoor
open Go.RowKit

/-- Rows of bytes: a slice of slices that came in. -/
def SegsF (w : World) (v : Value) (L : List (List UInt8)) : Prop :=
  ∃ ao c, v = .slice ao L.length c ∧ L.length ≤ maxLen ∧ (0 < L.length → ∃ b off, ao = some ⟨b, off, none⟩ ∧ b < w.heap.size ∧ L.length ≤ c ∧ ∀ i r, L[i]? = some r → ∃ a n cc, w.cell? ⟨b, off + i, none⟩ = some (.slice a n cc) ∧ r.length = n ∧ n ≤ maxLen ∧ Seg w (.slice a n cc) r)
theorem Off.symm {v hv : Value} (h : Off v hv) : Off hv v := fun k hk e => h k e hk
theorem Told.fresh {w : World} {lo : Nat} {tv hv hw : Value} {vs : List Value} {L : List (List UInt8)} (h : Told w lo tv hv vs L) (hl : ∀ k, hw.ownBlock = some k → k < lo) : Told w lo tv hw vs L :=
  ⟨h.row, h.len, fun j v b h1 h2 => ⟨(h.each j v b h1 h2).1, fun k hk e => by have := ((h.each j v b h1 h2).1.blocks k hk).1; have := hl k e; omega⟩⟩

set_option maxRecDepth 100000 in
set_option maxHeartbeats 4000000 in
theorem frameReads_any (x : Value) (L : List (List UInt8)) (w : World) (hL : SegsF w x L) (hgf : 0 < w.heap.size) (hf : Tab w 0 (fours.map v32)) :
    Calls Tryd.prog 4 #[x] w fun e w' => e = .returned (.bool true) ∧ Below w.heap.size w w' := by
  obtain ⟨ao, c, rfl, hm, hL⟩ := hL
  unfold maxLen at hm
  go_enter Tryd.func4, Tryd.ntmps4
  go_wp2_with fail
  refine (fawake_any _).mono ?_
  rintro e w1 ⟨rfl, hb1⟩
  have s1 := hb1.size
  go_wp2_with fail
  refine (new_any _).mono ?_
  rintro e w2 ⟨rfl, rfl⟩
  have hRr := (rd_new 45 w1 w.heap.size s1).alloc (.cells #[.slice none 0 0, .bool false] 33)
  have hRw := rd_new 33 (w1.alloc (.cells #[.slice none 0 0, .bool false] 45)) w.heap.size (by simp; omega)
  rw [World.size_alloc] at hRw
  have hB2 : Below w.heap.size w ((w1.alloc (.cells #[.slice none 0 0, .bool false] 45)).alloc (.cells #[.slice none 0 0, .bool false] 33)) := (hb1.alloc s1 _).alloc (by simp; omega) _
  have hok0 : FS.ok ⟨[], false, [], 0⟩ := ⟨by simp, fun h => by cases h⟩
  go_wp2_with fail
  go_loopw [6, 7] (fun nv iv wr => ∃ (k N : Nat) (hvr hvw : Value) (st : FS), iv = .int .i64 (k : Int) ∧ k ≤ L.length ∧ nv = .int .i64 (N : Int) ∧ N ≤ 30000 ∧ Rd 45 wr w.heap.size w1.heap.size hvr st.held st.sp ∧ Rd 33 wr w.heap.size (w1.heap.size + 1) hvw st.held st.sp ∧ FS.ok ⟨st.held, st.sp, [], 0⟩ ∧ Off hvw hvr ∧ Below w.heap.size w wr) (fun _ iv _ => L.length - (intOf iv).toNat)
  case atStart => exact ⟨0, 0, .slice none 0 0, .slice none 0 0, ⟨[], false, [], 0⟩, rfl, Nat.zero_le _, rfl, by omega, hRr, hRw, hok0, Off.nil _, hB2⟩
  case round =>
    obtain ⟨k, N, hvr, hvw, st, rfl, hk, rfl, hN, hRr, hRw, hok, hoff, hB⟩ := hrel
    have sB := hB.size
    by_cases hkl : k < L.length
    · obtain ⟨b, off, rfl, hbl, hlc, hrows⟩ := hL (by omega)
      obtain ⟨ak, nk, ck, hck, hrl, hnk, hsk⟩ := hrows k L[k] (List.getElem?_eq_getElem hkl)
      have hcw : wr.cell? ⟨b, off + k, none⟩ = some (.slice ak nk ck) := (hB.cell (p := ⟨b, off + k, none⟩) hbl).trans hck
      unfold maxLen at hnk
      by_cases h100 : k < 100
      · by_cases hbig : 10000 < nk
        · go_wp2
          go_ret
          exact ⟨rfl, hB⟩
        by_cases hbig2 : 30000 < N + nk
        · have hq : decide ((30000 : Int) < (N : Int) + (nk : Int)) = true := by rw [decide_eq_true_eq]; omega
          go_wp2
          go_ret
          exact ⟨rfl, hB⟩
        have hq : decide ((30000 : Int) < (N : Int) + (nk : Int)) = false := by rw [decide_eq_false_iff_not]; omega
        have hxt := seg_block hsk
        have HF1 := feed_any w.heap.size w1.heap.size hvr st.held st.sp (.slice ak nk ck) L[k] wr (by omega) hRr hok sB (hsk.below hB (Nat.le_refl _)) (fun h q hq ht => by have := hxt h q _ _ hq; have := hRr.touch q ht; omega) hgf (hf.below hB hgf)
        obtain ⟨F, hF⟩ : ∃ F, F = feedS ⟨st.held, st.sp, [], 0⟩ L[k] := ⟨_, rfl⟩
        have hokF := FS.ok_feed L[k] _ hok
        have hFl := feedS_len L[k] ⟨st.held, st.sp, [], 0⟩
        rw [← hF] at HF1 hokF hFl
        simp only [List.length_nil, Nat.zero_add] at hFl
        have HFF : Hid (F = feedS ⟨st.held, st.sp, [], 0⟩ L[k]) := hF
        have HFH : Hid (Calls Tryd.prog 11 #[.pointer (some ⟨w1.heap.size, 0, none⟩), .slice ak nk ck] wr (feedPost 45 wr w.heap.size w1.heap.size hvr F)) := HF1
        clear hF HF1
        go_wp2_with fail
        refine HFH.out.mono ?_
        rintro e w2 ⟨tv2, vs2, hv2, rfl, hRr2, hT2, hC2, hG2⟩
        clear HFH
        have hB3 : Below w.heap.size w w2 := hB.trans (hC2.below (fun q hq => hRr.touch q hq) sB)
        have s2 := hB3.size
        have hRw2 := hRw.beside hRr (by omega) hoff (by decide) (by decide) hC2
        have hoff2 := hoff.goes hRw.own hG2
        have hT2' := hT2.fresh (hw := hvw) (fun q hq => (hRw.own.blocks q hq).2)
        have HF2 := refFeed_any w.heap.size (w1.heap.size + 1) hvw st.held st.sp (.slice ak nk ck) L[k] w2 (by omega) hRw2 hok s2 (hsk.below hB3 (Nat.le_refl _)) (fun h q hq ht => by have := hxt h q _ _ hq; have := hRw2.touch q ht; omega)
        rw [← HFF.out] at HF2
        have hcw2 : w2.cell? ⟨b, off + k, none⟩ = some (.slice ak nk ck) := (hB3.cell (p := ⟨b, off + k, none⟩) hbl).trans hck
        clear hT2 hC2 hG2 hRr hRw hoff hcw
        go_wp2_with fail
        refine HF2.mono ?_
        rintro e w3 ⟨tv3, vs3, hv3, rfl, hRw3, hT3, hC3, hG3⟩
        clear HF2
        have hB4 : Below w.heap.size w w3 := hB3.trans (hC3.below (fun q hq => hRw2.touch q hq) s2)
        have hRr3 := hRr2.beside hRw2 (by omega) hoff2.symm (by decide) (by decide) hC3
        have hoff3 := (hoff2.symm.goes hRr2.own hG3).symm
        have hT2s := hT2'.step hRw2 (by decide) (by decide) hC3 hG3
        have HS := same_any tv2 tv3 F.told F.told w3 hT2s.rowsIn hT3.rowsIn (by omega)
        rw [decide_eq_true rfl] at HS
        clear hT2' hC3 hG3 hRr2 hRw2 hoff2 hcw2
        go_wp2_with fail
        refine HS.mono ?_
        rintro e w5 ⟨rfl, nq, rfl⟩
        have hRrd : Rd 45 (w3.drewN nq) w.heap.size w1.heap.size hv2 F.held F.sp := ⟨hRr3.blk, hRr3.own, hRr3.low⟩
        have hRwd : Rd 33 (w3.drewN nq) w.heap.size (w1.heap.size + 1) hv3 F.held F.sp := ⟨hRw3.blk, hRw3.own, hRw3.low⟩
        have hBd : Below w.heap.size w (w3.drewN nq) := Below.drewN hB4 nq
        clear HS hT2s hT3 hRr3 hRw3 hB4
        generalize w3.drewN nq = W9 at *
        have KH : ∀ j, Calls Tryd.prog 14 #[.pointer (some ⟨w1.heap.size, 0, none⟩)] (W9.drewN j) fun e w' => e = .returned (.int .i64 (F.held.length : Int)) ∧ w' = W9.drewN j := fun j => held_any w.heap.size w1.heap.size hv2 F.held F.sp (W9.drewN j) ⟨hRrd.blk, hRrd.own, hRrd.low⟩
        obtain ⟨a5, c5, rfl⟩ := hRwd.own.seg.shapeF
        have c05 := hRwd.blk.cell (j := 0) rfl
        go_wp2_with fail
        go_quiet (first | (go_at_call 14; refine Calls.quiet_of_same (KH _)))
        clear KH
        go_wp2
        go_roundw
        case rel => exact ⟨k + 1, N + nk, hv2, _, F, by simp, by omega, by simp, by omega, ⟨hRrd.blk, hRrd.own, hRrd.low⟩, ⟨hRwd.blk, hRwd.own, hRwd.low⟩, hokF, hoff3, Below.drewN hBd _⟩
        case measure => simp only [intOf]; omega
      · go_wp2
        go_ret
        exact ⟨rfl, hB⟩
    · go_wp2
      go_ret
      exact ⟨rfl, hB⟩
end Go.Proofs.YtchbfhckocfjhaaDoor
