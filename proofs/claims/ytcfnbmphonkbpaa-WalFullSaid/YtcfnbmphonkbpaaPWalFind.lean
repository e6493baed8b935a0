/-
  What is proved here: the program's log: the head that counts.
  Conditions: the disk and the log lie in memory, the power is on.
-/
import Derived.Test.YtcfnbmphonkbpaaPWalHead
namespace Go.Proofs.Ytcfnbmphonkbpaa
open Go.RowKit

theorem sees_next (s : DS) (k : Nat) (t : Nat × Nat × Nat) : nextH s k t = if seesB (sizeS s) k (s.now.getD k []) = true ∧ t.1 < of4 (s.now.getD k []) then (of4 (s.now.getD k []), of4 ((s.now.getD k []).drop 4), of4 ((s.now.getD k []).drop 8)) else t := by
  unfold nextH
  have key : (t.1 < of4 (s.now.getD k []) ∧ standsB s k (s.now.getD k []) = true) ↔ (seesB (sizeS s) k (s.now.getD k []) = true ∧ t.1 < of4 (s.now.getD k [])) := by
    unfold standsB seesB inB
    simp only [Bool.and_eq_true, decide_eq_true_eq]
    constructor
    · rintro ⟨h1, ⟨⟨⟨⟨h2, h3⟩, h4⟩, h5⟩, h6⟩, h7⟩
      exact ⟨⟨h7, ⟨⟨⟨by omega, h2⟩, h4⟩, h5⟩, h6, h3⟩, h1⟩
    · rintro ⟨⟨h7, ⟨⟨⟨-, h2⟩, h4⟩, h5⟩, h6, h3⟩, h1⟩
      exact ⟨h1, ⟨⟨⟨⟨h2, h3⟩, h4⟩, h5⟩, h6⟩, h7⟩
  by_cases h : t.1 < of4 (s.now.getD k []) ∧ standsB s k (s.now.getD k []) = true
  · rw [if_pos h, if_pos (key.1 h)]
  · rw [if_neg h, if_neg (fun e => h (key.2 e))]
def hcells (t : Nat × Nat × Nat) : Array Value := #[.int .i64 (t.1 : Int), .int .i64 (t.2.1 : Int), .int .i64 (t.2.2 : Int)]
set_option maxRecDepth 100000 in
set_option maxHeartbeats 2000000 in
theorem findHead_any {w : World} {G n gen len : Nat} {bg bk : Bool} {tv : Value} {L : PLay} {C : Nat → Prop} {s : DS} (h : LogB w G L.g (sizeS s) n gen len bg bk tv) (hD : OD w L C s) (h2 : 2 ≤ s.now.length) (hdn : s.down = false) :
    Calls Try.prog 25 #[.pointer (some ⟨G, 0, none⟩)] w fun e w' => e = .returned (headV (thereS s).1 (thereS s).2.1 (thereS s).2.2) ∧ Below w.heap.size w w' := by
  have hGl : G < w.heap.size := Blk.lt h
  have hB0 := ((Below.refl w.heap.size w).alloc (Nat.le_refl _) (.cells #[.int .i64 0, .int .i64 0, .int .i64 0] 55)).alloc (by simp) (.cells #[.int .i64 0, .int .i64 0, .int .i64 0] 55)
  have hT2 : Blk ((w.alloc (.cells #[.int .i64 0, .int .i64 0, .int .i64 0] 55)).alloc (.cells #[.int .i64 0, .int .i64 0, .int .i64 0] 55)) w.heap.size 55 #[.int .i64 0, .int .i64 0, .int .i64 0] := (Blk.new _ _ _).alloc _
  have hT3 : Blk ((w.alloc (.cells #[.int .i64 0, .int .i64 0, .int .i64 0] 55)).alloc (.cells #[.int .i64 0, .int .i64 0, .int .i64 0] 55)) (w.heap.size + 1) 55 (hcells (thereTo s 0)) := Blk.newAt _ _ _ _ (by simp)
  have HRH : Hid (∀ (W : World) (k : Nat), Below w.heap.size w W → k < 2 → Calls Try.prog 40 #[.pointer (some ⟨G, 0, none⟩), .int .i64 (k : Int)] W fun e w' => e = .returned (.tuple #[headV (of4 (s.now.getD k [])) (of4 ((s.now.getD k []).drop 4)) (of4 ((s.now.getD k []).drop 8)), .bool (seesB (sizeS s) k (s.now.getD k []))]) ∧ Below W.heap.size W w') := fun W k hW hk => readHead_any (Blk.below h hW hGl) (hD.after hW) k (by omega) hdn
  have HNX : Hid (∀ k, thereTo s (k + 1) = if seesB (sizeS s) k (s.now.getD k []) = true ∧ (thereTo s k).1 < of4 (s.now.getD k []) then (of4 (s.now.getD k []), of4 ((s.now.getD k []).drop 4), of4 ((s.now.getD k []).drop 8)) else thereTo s k) := fun k => sees_next s k (thereTo s k)
  have HTH : Hid (thereS s = thereTo s 2) := rfl
  generalize thereS s = TS at *
  clear h hD h2 hdn
  go_enter Try.func25, Try.ntmps25
  go_wp2_with fail
  go_loopw [7] (fun i wr => ∃ K : Nat, i = .int .i64 (K : Int) ∧ K ≤ 2 ∧ Blk wr w.heap.size 55 #[.int .i64 0, .int .i64 0, .int .i64 0] ∧ Blk wr (w.heap.size + 1) 55 (hcells (thereTo s K)) ∧ Below w.heap.size w wr) (fun i _ => 2 - (intOf i).toNat)
  case atStart => exact ⟨0, rfl, by omega, hT2, hT3, hB0⟩
  case round =>
    obtain ⟨K, rfl, hK, hA, hF, hB⟩ := hrel
    clear hT2 hT3 hB0
    by_cases hk : K < 2
    · have i1 : (K : Int) < 2 := by omega
      have HR := HRH.out wr K hB hk
      have HX : Hid _ := HNX.out K
      clear HNX HRH
      obtain ⟨T, hT⟩ : ∃ T, T = thereTo s K := ⟨_, rfl⟩
      obtain ⟨T', hT'⟩ : ∃ T', T' = thereTo s (K + 1) := ⟨_, rfl⟩
      have HT' : Hid (thereTo s (K + 1) = T') := hT'.symm
      rw [← hT] at HX hF
      have HX2 : Hid (T' = if seesB (sizeS s) K (s.now.getD K []) = true ∧ T.1 < of4 (s.now.getD K []) then (of4 (s.now.getD K []), of4 ((s.now.getD K []).drop 4), of4 ((s.now.getD K []).drop 8)) else T) := by show _ = _; rw [hT']; exact HX.out
      clear HX hT hT'
      generalize seesB (sizeS s) K (s.now.getD K []) = SB at *
      generalize of4 (s.now.getD K []) = N0 at *
      generalize of4 ((s.now.getD K []).drop 4) = G0 at *
      generalize of4 ((s.now.getD K []).drop 8) = M0 at *
      obtain ⟨t1, t2, t3⟩ := T
      unfold hcells at hF
      dsimp only at hF HX2
      go_wp2_with fail
      refine HR.mono ?_
      rintro e W1 ⟨rfl, hb1⟩
      have hB1 : Below w.heap.size w W1 := hB.trans (hb1.mono hB.size)
      have hA1 := hA.below hb1 hA.lt
      have hF1 := hF.below hb1 hF.lt
      clear HR hA hF hB
      have hs1 : w.heap.size + 1 < W1.heap.size := hF1.lt
      unfold headV
      have c0 := hF1.cell (j := 0) rfl
      have hnew : Blk (W1.alloc (.cells #[.int .i64 (N0 : Int), .int .i64 (G0 : Int), .int .i64 (M0 : Int)] 55)) W1.heap.size 55 #[.int .i64 (N0 : Int), .int .i64 (G0 : Int), .int .i64 (M0 : Int)] := Blk.new _ _ _
      have hF2 := hF1.alloc (.cells #[.int .i64 (N0 : Int), .int .i64 (G0 : Int), .int .i64 (M0 : Int)] 55)
      have hA2 := hA1.alloc (.cells #[.int .i64 (N0 : Int), .int .i64 (G0 : Int), .int .i64 (M0 : Int)] 55)
      have hB2 := hB1.alloc hB1.size (.cells #[.int .i64 (N0 : Int), .int .i64 (G0 : Int), .int .i64 (M0 : Int)] 55)
      have hne : W1.heap.size ≠ w.heap.size + 1 := by omega
      have hlt : w.heap.size + 1 < W1.heap.size := hs1
      have hall : (#[Value.int .i64 (N0 : Int), .int .i64 (G0 : Int), .int .i64 (M0 : Int)] : Array Value).all (·.oneCell') = true := by simp [Value.oneCell']
      cases SB with
      | false =>
        have HE : Hid (T' = (t1, t2, t3)) := by show _ = _; rw [HX2.out, if_neg (fun h => by cases h.1)]
        clear HX2
        go_wp2_with fail
        go_roundw
        case rel => exact ⟨K + 1, by go_num, hk, hA2, by rw [HT'.out, HE.out]; exact hF2, hB2⟩
        case measure => simp [intOf]; omega
      | true =>
        by_cases hlt2 : t1 < N0
        · have j1 : (t1 : Int) < (N0 : Int) := by omega
          have HE : Hid (T' = (N0, G0, M0)) := by show _ = _; rw [HX2.out, if_pos ⟨rfl, hlt2⟩]
          clear HX2 hlt2
          have d1 := hF1.cell (j := 1) rfl
          have d2 := hF1.cell (j := 2) rfl
          have f0 := hF1.frozen 0
          have f1 := hF1.frozen 1
          have f2 := hF1.frozen 2
          have HF3 : Hid (∀ V : World, Blk V (w.heap.size + 1) 55 #[.int .i64 (t1 : Int), .int .i64 (t2 : Int), .int .i64 (t3 : Int)] → Blk (((V.setCell ⟨w.heap.size + 1, 0, none⟩ (.int .i64 (N0 : Int))).setCell ⟨w.heap.size + 1, 1, none⟩ (.int .i64 (G0 : Int))).setCell ⟨w.heap.size + 1, 2, none⟩ (.int .i64 (M0 : Int))) (w.heap.size + 1) 55 #[.int .i64 (N0 : Int), .int .i64 (G0 : Int), .int .i64 (M0 : Int)]) := fun V h => (((h.set 0 _).set 1 _).set 2 _).of_eq rfl
          have HA3 : Hid (∀ V : World, Blk V w.heap.size 55 #[.int .i64 0, .int .i64 0, .int .i64 0] → Blk (((V.setCell ⟨w.heap.size + 1, 0, none⟩ (.int .i64 (N0 : Int))).setCell ⟨w.heap.size + 1, 1, none⟩ (.int .i64 (G0 : Int))).setCell ⟨w.heap.size + 1, 2, none⟩ (.int .i64 (M0 : Int))) w.heap.size 55 #[.int .i64 0, .int .i64 0, .int .i64 0]) := fun V h => ((h.setOther _ _ (by show w.heap.size ≠ w.heap.size + 1; omega)).setOther _ _ (by show w.heap.size ≠ w.heap.size + 1; omega)).setOther _ _ (by show w.heap.size ≠ w.heap.size + 1; omega)
          have HB3 : Hid (∀ V : World, Below w.heap.size w V → Below w.heap.size w (((V.setCell ⟨w.heap.size + 1, 0, none⟩ (.int .i64 (N0 : Int))).setCell ⟨w.heap.size + 1, 1, none⟩ (.int .i64 (G0 : Int))).setCell ⟨w.heap.size + 1, 2, none⟩ (.int .i64 (M0 : Int)))) := fun V h => ((h.setCell (p := ⟨w.heap.size + 1, 0, none⟩) (by show _ ≤ w.heap.size + 1; omega) _).setCell (p := ⟨w.heap.size + 1, 1, none⟩) (by show _ ≤ w.heap.size + 1; omega) _).setCell (p := ⟨w.heap.size + 1, 2, none⟩) (by show _ ≤ w.heap.size + 1; omega) _
          go_wp2_with fail
          go_roundw
          case rel => exact ⟨K + 1, by go_num, hk, (HA3.out _ hA1).alloc _, by rw [HT'.out, HE.out]; exact (HF3.out _ hF1).alloc _, (HB3.out _ hB1).alloc (HB3.out _ hB1).size _⟩
          case measure => simp [intOf]; omega
        · have j1 : ¬ (t1 : Int) < (N0 : Int) := by omega
          have HE : Hid (T' = (t1, t2, t3)) := by show _ = _; rw [HX2.out, if_neg (fun h => hlt2 h.2)]
          clear HX2 hlt2
          go_wp2_with fail
          go_roundw
          case rel => exact ⟨K + 1, by go_num, hk, hA2, by rw [HT'.out, HE.out]; exact hF2, hB2⟩
          case measure => simp [intOf]; omega
    · have i1 : ¬ (K : Int) < 2 := by omega
      obtain rfl : K = 2 := by omega
      clear HNX HRH
      rw [← HTH.out] at hF
      obtain ⟨t1, t2, t3⟩ := TS
      unfold hcells at hF
      dsimp only at hF
      have d0 := hF.cell (j := 0) rfl
      have d1 := hF.cell (j := 1) rfl
      have d2 := hF.cell (j := 2) rfl
      have e0 := hA.cell (j := 0) rfl
      have e1 := hA.cell (j := 1) rfl
      have e2 := hA.cell (j := 2) rfl
      have f0 := hA.frozen 0
      have f1 := hA.frozen 1
      have f2 := hA.frozen 2
      have hb3 : Blk (((wr.setCell ⟨w.heap.size, 0, none⟩ (.int .i64 (t1 : Int))).setCell ⟨w.heap.size, 1, none⟩ (.int .i64 (t2 : Int))).setCell ⟨w.heap.size, 2, none⟩ (.int .i64 (t3 : Int))) w.heap.size 55 #[.int .i64 (t1 : Int), .int .i64 (t2 : Int), .int .i64 (t3 : Int)] := (((hA.set 0 _).set 1 _).set 2 _).of_eq rfl
      have hB3 : Below w.heap.size w (((wr.setCell ⟨w.heap.size, 0, none⟩ (.int .i64 (t1 : Int))).setCell ⟨w.heap.size, 1, none⟩ (.int .i64 (t2 : Int))).setCell ⟨w.heap.size, 2, none⟩ (.int .i64 (t3 : Int))) := ((hB.setCell (p := ⟨w.heap.size, 0, none⟩) (Nat.le_refl _) _).setCell (p := ⟨w.heap.size, 1, none⟩) (Nat.le_refl _) _).setCell (p := ⟨w.heap.size, 2, none⟩) (Nat.le_refl _) _
      go_wp2_with fail
      (try simp only [Exit.inBlock, Exit.then])
      refine bodyPost_ret (results_one rfl _ _ w.heap.size 55 #[.int .i64 (t1 : Int), .int .i64 (t2 : Int), .int .i64 (t3 : Int)] (0, 0) _ rfl hb3 Try.underlying55 rfl Try.info55s) rfl ?_
      exact ⟨rfl, hB3⟩
end Go.Proofs.Ytcfnbmphonkbpaa
