/-
  What is proved here: the program's log: the bytes of a bank that a head lets count.
  Conditions: the disk and the log lie in memory, the power is on.
-/
import Derived.Test.YtcfnbmphonkbpaaPWalFind
import Derived.Laws.MakeOwn
namespace Go.Proofs.Ytcfnbmphonkbpaa
open Go.RowKit

set_option maxRecDepth 100000 in
set_option maxHeartbeats 2000000 in
theorem readBank_any {w : World} {G n gen len : Nat} {bg bk : Bool} {tv : Value} {L : PLay} {C : Nat → Prop} {s : DS} (h : LogB w G L.g (sizeS s) n gen len bg bk tv) (hD : OD w L C s) (hdn : s.down = false) (hl : len ≤ sizeS s) :
    Calls Try.prog 42 #[.pointer (some ⟨G, 0, none⟩)] w fun e w' => ∃ v, e = .returned v ∧ Seg w' v ((bankS s (gen % 2)).take len) ∧ (∀ q, v.ownBlock = some q → w.heap.size ≤ q) ∧ Below w.heap.size w w' := by
  have hGl : G < w.heap.size := Blk.lt h
  have ok : s.ok L.n := hD.d.ok
  have hn4 : L.n ≤ 4096 := hD.d.lay.max
  have hsz := size_lt ok hn4
  obtain ⟨i0, hi, hz0, hz1, hz2⟩ := info_parts Try.info5
  obtain ⟨w1, hmk, hO0, hg1⟩ : ∃ w', (Instr.makeSlice 30 (.int .i64 0) (.int .i64 (sizeS s : Int))).run Try.prog w = .ok (.slice (some ⟨w.heap.size, 0, none⟩) 0 (sizeS s)) w' ∧ Own w' w.heap.size (.slice (some ⟨w.heap.size, 0, none⟩) 0 (sizeS s)) [] ∧ w.grownBy w' none := run_make_own (P := Try.prog) w w.heap.size 30 5 i0 (.int .u8 0) 1 Try.underlying30 hi hz0 hz1 .i64 .i64 (sizeS s) (by rw [hz2]; omega) (by unfold maxLen; omega) (Nat.le_refl _)
  clear hi hz0 hz1 hz2
  have hB1 : Below w.heap.size w w1 := below_grown (Below.refl _ w) hg1 (Nat.le_refl _) (fun q hq => by cases hq)
  have HSE : Hid (∀ (W : World) (i : Nat), Below w.heap.size w W → i ≤ 1000000 → Calls Try.prog 47 #[.pointer (some ⟨G, 0, none⟩), .int .i64 (gen : Int), .int .i64 (i : Int)] W fun e w' => e = .returned (.int .i64 ((2 + gen % 2 * (sizeS s / 128) + i : Nat) : Int)) ∧ w' = W) := fun W i hW hi => sector_any (Blk.below h hW hGl) (by omega) gen i hi
  have HRS : Hid (∀ (W : World) (k : Nat), Below w.heap.size w W → k < s.now.length → Calls Try.prog 56 #[.pointer (some ⟨G, 0, none⟩), .int .i64 (k : Int)] W fun e w' => ∃ v, e = .returned v ∧ Own w' W.heap.size v (s.now.getD k []) ∧ Below W.heap.size W w') := fun W k hW hk => by
    have := readSec_any (Blk.below h hW hGl) (hD.after hW) (k : Int)
    rw [readS_on hdn hk] at this
    exact this
  have hh : sizeS s / 128 = halfS s := by unfold sizeS; omega
  rw [hh] at HSE
  have c4 : ∀ W : World, Below w.heap.size w W → W.cell? ⟨G, 4, none⟩ = some (.int .i64 (len : Int)) := fun W hW => (Blk.below h hW hGl).cell (j := 4) rfl
  have c3 : ∀ W : World, Below w.heap.size w W → W.cell? ⟨G, 3, none⟩ = some (.int .i64 (gen : Int)) := fun W hW => (Blk.below h hW hGl).cell (j := 3) rfl
  have c1 : w.cell? ⟨G, 1, none⟩ = some (.int .i64 (sizeS s : Int)) := h.cell (j := 1) rfl
  have HC : Hid ((∀ W : World, Below w.heap.size w W → W.cell? ⟨G, 4, none⟩ = some (.int .i64 (len : Int))) ∧ ∀ W : World, Below w.heap.size w W → W.cell? ⟨G, 3, none⟩ = some (.int .i64 (gen : Int))) := ⟨c4, c3⟩
  clear c4 c3
  have HBL : Hid (∀ i, i ≤ halfS s → (bankTo s (gen % 2) i).length = i * 128) := bankTo_len ok (Nat.mod_lt _ (by decide))
  have HIN : Hid (∀ i, i < halfS s → 2 + gen % 2 * halfS s + i < s.now.length) := fun i hi => by have := half_in ok (Nat.mod_lt gen (by decide : 0 < 2)) hi; rw [ok.now]; exact this
  have HS2 : Hid (sizeS s = halfS s * 128) := rfl
  have HBS : Hid (bankS s (gen % 2) = bankTo s (gen % 2) (halfS s)) := rfl
  have HST : Hid (∀ i, bankTo s (gen % 2) (i + 1) = bankTo s (gen % 2) i ++ s.now.getD (2 + gen % 2 * halfS s + i) []) := fun i => rfl
  have HLN : Hid (∀ i, i < halfS s → (s.now.getD (2 + gen % 2 * halfS s + i) []).length = 128) := fun i hi => getD_len ok.nows (HIN.out i hi)
  have HTK : Hid (∀ i, i ≤ halfS s → len ≤ i * 128 → (bankTo s (gen % 2) (halfS s)).take len = (bankTo s (gen % 2) i).take len) := fun i hi hli => by
    have key : ∀ d, i + d ≤ halfS s → (bankTo s (gen % 2) (i + d)).take len = (bankTo s (gen % 2) i).take len := fun d => by
      induction d with
      | zero => intro _; rfl
      | succ d ih =>
        intro hd
        show (bankTo s (gen % 2) (i + d) ++ _).take len = _
        rw [List.take_append_of_le_length (by rw [HBL.out _ (by omega)]; omega)]
        exact ih (by omega)
    have := key (halfS s - i) (by omega)
    rwa [show i + (halfS s - i) = halfS s by omega] at this
  rw [HBS.out]
  have hhm : halfS s ≤ 2047 := by unfold sizeS at hsz; omega
  clear h hD ok hh
  generalize sizeS s = SZ at *
  generalize halfS s = H at *
  go_enter Try.func42, Try.ntmps42
  go_wp2_with fail
  go_loopw [3, 4] (fun bv i wr => ∃ I : Nat, i = .int .i64 (I : Int) ∧ I ≤ H ∧ Own wr w.heap.size bv (bankTo s (gen % 2) I) ∧ Below w.heap.size w wr) (fun _ i _ => H - (intOf i).toNat)
  case atStart => exact ⟨0, rfl, Nat.zero_le _, hO0, hB1⟩
  case round =>
    obtain ⟨I, rfl, hI, hO, hB⟩ := hrel
    clear hO0 hB1
    have d4 := HC.out.1 wr hB
    have hbl := HBL.out I hI
    obtain ⟨ab, cb, rfl⟩ := Seg.shapeD hO.seg
    by_cases hlt : I * 128 < len
    · have i1 : (((bankTo s (gen % 2) I).length : Nat) : Int) < (len : Int) := by rw [hbl]; omega
      have hIH : I < H := by have := HS2.out; omega
      have d3 := HC.out.2 wr hB
      have HS := HSE.out wr I hB (by omega)
      have HR := HRS.out wr (2 + gen % 2 * H + I) hB (HIN.out I hIH)
      have hst := HST.out I
      have HL0 : Hid ((bankTo s (gen % 2) I).length = I * 128 ∧ (s.now.getD (2 + gen % 2 * H + I) []).length = 128) := ⟨hbl, HLN.out I hIH⟩
      clear hbl
      clear HSE HRS HC HBL HIN HLN HST HTK HBS
      generalize 2 + gen % 2 * H + I = KK at *
      generalize s.now.getD KK [] = ROW at *
      obtain ⟨BB, hBB⟩ : ∃ BB, BB = bankTo s (gen % 2) I := ⟨_, rfl⟩
      rw [← hBB] at hO i1 hst HL0 ⊢
      have HN : Hid (bankTo s (gen % 2) (I + 1) = BB ++ ROW) := hst
      clear hBB hst
      go_wp2_with fail
      refine HS.mono ?_
      rintro e w2 ⟨rfl, rfl⟩
      clear HS
      go_wp2_with fail
      refine HR.mono ?_
      rintro e w3 ⟨v3, rfl, ho3, hb3⟩
      clear HR
      have hO3 := hO.below hb3 (Nat.le_refl _)
      have hB3 : Below w.heap.size w w3 := hB.trans (hb3.mono hB.size)
      go_wp2_with (at_builtin; refine app_own w3 rfl (.tmp 20) (.tmp 30) rfl w.heap.size _ BB rfl hO3 v3 ROW rfl ho3.seg (by have := HL0.out; omega) hB3.size ?_; intro v4 w4 ho4 hg4 hv4)
      go_roundw
      case rel => exact ⟨I + 1, by go_num, hIH, by rw [HN.out]; exact ho4, below_grown hB3 hg4 hB3.size (fun q hq => (hO3.blocks q hq).1)⟩
      case measure => simp [intOf]; omega
    · have i1 : ¬ (((bankTo s (gen % 2) I).length : Nat) : Int) < (len : Int) := by rw [hbl]; omega
      have htk := hO.seg.takesD len (by omega)
      have l1 := slice_toD ab (bankTo s (gen % 2) I).length cb len htk.2
      have hblk : ∀ q, (Value.slice ab len cb).ownBlock = some q → w.heap.size ≤ q := fun q hq => (hO.blocks q (by cases ab with | none => simp [Value.ownBlock] at hq | some a => exact hq)).1
      clear hbl
      have HTT : Hid _ := HTK.out I hI (by omega)
      clear HSE HRS HC HBL HIN HLN HST HTK HBS
      go_wp2_with fail
      go_ret
      rw [HTT.out]
      exact ⟨_, rfl, htk.1, hblk, hB⟩
end Go.Proofs.Ytcfnbmphonkbpaa
