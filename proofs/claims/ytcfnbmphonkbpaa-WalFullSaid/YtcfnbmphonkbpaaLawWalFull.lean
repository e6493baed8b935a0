/-
  What is proved here: of all numbers and bytes, the statement WalFull answers true.
  Conditions: none.
-/
import Derived.Test.YtcfnbmphonkbpaaWalMore
namespace Go.Proofs.Ytcfnbmphonkbpaa
open Go.RowKit

set_option maxRecDepth 100000 in
set_option maxHeartbeats 16000000 in
theorem walFull_any (z : Int) (x : Value) (st : List UInt8) (y : Value) (bs : List UInt8) (w : World) (hz : -9223372036854775808 ≤ z ∧ z < 9223372036854775808) (hm : st.length ≤ maxLen) (hS : Seg w x st) (hmb : bs.length ≤ maxLen) (hT : Seg w y bs) :
    Calls Try.prog 5 #[.int .i64 z, x, y] w fun e w' => e = .returned (.bool true) ∧ Below w.heap.size w w' := by
  have hTx : 0 < bs.length → ∀ q, y.ownBlock = some q → q < w.heap.size := fun h0 q hq => hT.own_lt h0 q hq
  obtain ⟨ax, cx, rfl⟩ := Seg.shapeD hS
  obtain ⟨ay, cy, rfl⟩ := Seg.shapeD hT
  unfold maxLen at hm hmb
  go_enter Try.func5, Try.ntmps5
  go_wp2_with fail
  refine (awake7_any w).mono ?_
  rintro e w1 ⟨rfl, hB1⟩
  by_cases h1 : z < 6
  · go_wp2_with fail
    go_ret
    exact ⟨rfl, hB1⟩
  by_cases h2 : 100 < z
  · go_wp2_with fail
    go_ret
    exact ⟨rfl, hB1⟩
  by_cases h3 : 10000 < st.length
  · have j3 : (10000 : Int) < (st.length : Int) := by omega
    go_wp2_with fail
    go_ret
    exact ⟨rfl, hB1⟩
  have j3 : ¬ (10000 : Int) < (st.length : Int) := by omega
  by_cases h4 : 6000 < bs.length
  · have j4 : (6000 : Int) < (bs.length : Int) := by omega
    go_wp2_with fail
    go_ret
    exact ⟨rfl, hB1⟩
  have j4 : ¬ (6000 : Int) < (bs.length : Int) := by omega
  obtain ⟨N, hN⟩ : ∃ N : Nat, z = (N : Int) := ⟨z.toNat, by omega⟩
  subst hN
  have hN6 : 6 ≤ N := by omega
  have hN100 : N ≤ 100 := by omega
  have h256 : 256 ≤ sizeS (newS N) := by rw [newS_size]; omega
  obtain ⟨ho, hol⟩ := newS_open N h256
  have hbl := stateB_len st
  obtain ⟨t1, ht1, hst1, -, hsz1⟩ := check_calm (st := [1]) (l := ⟨0, 0, [], 0, false, false⟩) (newS_calm N) (newS_ok N) (by omega) h256 rfl (by rw [newS_there]) (by decide) (by decide) (by rw [stateB_len]; exact Nat.le_trans (by decide) h256)
  go_wp2_with fail
  refine (at_new w.heap.size N w1 (by omega) (by omega) hB1.size).mono ?_
  rintro e w2 ⟨L, rfl, hD, hb2, hLn⟩
  have hB2 := blift hB1 hb2 hB1.size
  clear hB1 hb2 hLn
  go_wp2_with fail
  refine (at_open hD ho).mono ?_
  rintro e w3 ⟨G, sv, rv, vs, rfl, hP, _, _, hb3⟩
  rw [hol] at hP
  have hB3 := blift hB2 hb3 hB2.size
  clear ho hol hB2 hb3 hD
  obtain ⟨SZ, hSZ⟩ : ∃ SZ, SZ = sizeS (newS N) := ⟨_, rfl⟩
  rw [← hSZ] at h256 hsz1
  clear hSZ
  have hba := (Below.refl w3.heap.size w3).alloc (Nat.le_refl _) (.cells #[v8 1] 5)
  have hP5 := hP.after hba
  have hB5 := blift hB3 hba hB3.size
  clear hP hB3 hba
  go_wp2_with fail
  refine (at_check hP5 _ [1] (one_seg w3 1) (by decide)).mono ?_
  rintro e w6 ⟨rfl, hP6, hb6⟩
  rw [ht1] at hP6 ⊢
  have hB6 := hB5.trans hb6
  clear ht1 hP5 hB5 hb6
  go_wp2_with fail
  by_cases hf : (stateB st).length ≤ SZ
  ·
    obtain ⟨t, ht, hst, -, hsz⟩ := check_calm (st := st) (l := ⟨0 + 1, 0 + 1, stateB [1], (stateB [1]).length, true, false⟩) hst1.calm hst1.ok (by omega) (by rw [hsz1]; exact h256) rfl (by rw [hst1.there]) (by decide) (by decide) (by rw [hsz1]; exact hf)
    have i5 : (st.length : Int) + 5 * max (((st.length : Int) + 1023) / 1024) 1 ≤ (SZ : Int) := by omega
    refine (at_check hP6 _ st (hS.below hB6 (Nat.le_refl _)) (by omega)).mono ?_
    rintro e w7 ⟨rfl, hP7, hb7⟩
    rw [ht] at hP7 ⊢
    have hB7 := hB6.trans hb7
    obtain ⟨lN, hlN0⟩ : ∃ lN : LS, lN = ⟨0 + 1 + 1, 0 + 1 + 1, stateB st, (stateB st).length, true, false⟩ := ⟨_, rfl⟩
    have hlb : Hid (lN.b = stateB st) := by show _ = _; rw [hlN0]
    have hlN : lN.n ≤ 2 := by rw [hlN0]; exact Nat.le_refl 2
    have hP7 : LogAt w.heap.size w7 G L t lN := by rw [hlN0]; exact hP7
    have hst : Stand t N lN := by rw [hlN0]; exact hst
    rw [hsz1] at hsz
    clear hlN0
    clear ht hP6 hB6 hb7 hst1 hsz1
    go_wp2_with fail
    refine (at_size hP7).mono ?_
    rintro e w8 ⟨rfl, hw8⟩
    obtain rfl := hw8.symm
    clear hw8
    rw [hsz]
    go_wp2_with fail
    refine (at_room hP7).mono ?_
    rintro e w9 ⟨rfl, hb9⟩
    rw [room_stand hst, hsz]
    have hP9 := hP7.after hb9
    have hB9 := blift hB7 hb9 hB7.size
    clear hP7 hB7 hb9
    by_cases h6 : 4096 < bs.length
    · have j6 : (4096 : Int) < (bs.length : Int) := by omega
      go_wp2_with fail
      refine (at_append hP9 _ bs (hT.below hB9 (Nat.le_refl _)) (by omega) hTx).mono ?_
      rintro e w10 ⟨rfl, hP10, hb10⟩
      rw [append_arg hst bs h6] at hP10 ⊢
      have hB10 := hB9.trans hb10
      have hst10 := hst
      have htold : toldB lN.b = (st, []) := by rw [hlb.out]; exact told_state _
      have hnM := hlN
      obtain ⟨lM, hlM⟩ : ∃ lM : LS, lM = lN := ⟨_, rfl⟩
      rw [← hlM] at hP10 hst10 htold hnM
      clear hlM
      clear hP9 hB9 hb10 hst hlb hlN
      obtain ⟨t', l', hcw, hst', -, -, hfo, hsz', -⟩ := commit_calm hst10 (by omega) (by rw [hsz]; exact h256) (.inr (by omega))
      rw [htold] at hfo
      have hoE := open_stand hst' (by rw [hsz', hsz]; exact h256)
      go_wp2_with fail
      refine (at_commit hP10).mono ?_
      rintro e w11 ⟨rfl, hP11, hb11⟩
      rw [hcw] at hP11 ⊢
      have hB11 := hB10.trans hb11
      clear hP10 hB10 hb11 hcw htold
      go_wp2_with fail
      refine (at_open hP11.disk hoE).mono ?_
      rintro e w12 ⟨G2, sv2, rv2, vs2, rfl, -, hO, hA, hb12⟩
      rw [hfo] at hO hA
      have hP12 := hP11.after hb12
      have hB12 := blift hB11 hb12 hB11.size
      obtain ⟨ga, gc, rfl⟩ := hA.sl
      have k1 := seg_stringD hO.seg 9 Try.underlying9
      have k2 := seg_stringD (hS.below hB12 (Nat.le_refl _)) 9 Try.underlying9
      have hbr := hst'.broke
      clear hP11 hB11 hb12 hO hA hoE hfo hst10
      go_wp2_with fail
      refine (at_broken hP12).mono ?_
      rintro e w13 ⟨rfl, hw13⟩
      obtain rfl := hw13.symm
      clear hw13
      rw [hbr]
      go_wp2_with fail
      go_ret
      exact ⟨rfl, hB12⟩
    have j6 : ¬ (4096 : Int) < (bs.length : Int) := by omega
    by_cases h7 : lN.b.length + bs.length + 5 ≤ SZ
    · have j7 : ¬ (SZ : Int) - (lN.b.length : Int) < (bs.length : Int) + 5 := by omega
      go_wp2_with fail
      refine (at_append hP9 _ bs (hT.below hB9 (Nat.le_refl _)) (by omega) hTx).mono ?_
      rintro e w10 ⟨rfl, hP10, hb10⟩
      rw [append_calm hst bs (by omega) (by rw [hsz]; exact h7)] at hP10 ⊢
      have hB10 := hB9.trans hb10
      have hst10 := append_stand hst bs (by rw [hsz]; exact h7)
      obtain ⟨lM, hlM⟩ : ∃ lM : LS, lM = { lN with b := lN.b ++ pieceB 3 bs } := ⟨_, rfl⟩
      have htold : toldB lM.b = (st, [bs]) := by rw [hlM]; show toldB (lN.b ++ pieceB 3 bs) = _; rw [hlb.out]; exact told_one _ _ (by omega)
      have hnM : lM.n ≤ 2 := by rw [hlM]; exact hlN
      rw [← hlM] at hP10 hst10
      clear hlM
      clear hP9 hB9 hb10 hst hlb hlN
      obtain ⟨t', l', hcw, hst', -, -, hfo, hsz', -⟩ := commit_calm hst10 (by omega) (by rw [hsz]; exact h256) (.inr (by omega))
      rw [htold] at hfo
      have hoE := open_stand hst' (by rw [hsz', hsz]; exact h256)
      go_wp2_with fail
      refine (at_commit hP10).mono ?_
      rintro e w11 ⟨rfl, hP11, hb11⟩
      rw [hcw] at hP11 ⊢
      have hB11 := hB10.trans hb11
      clear hP10 hB10 hb11 hcw htold
      go_wp2_with fail
      refine (at_open hP11.disk hoE).mono ?_
      rintro e w12 ⟨G2, sv2, rv2, vs2, rfl, -, hO, hA, hb12⟩
      rw [hfo] at hO hA
      have hP12 := hP11.after hb12
      have hB12 := blift hB11 hb12 hB11.size
      obtain ⟨ga, gc, rfl⟩ := hA.sl
      have k1 := seg_stringD hO.seg 9 Try.underlying9
      have k2 := seg_stringD (hS.below hB12 (Nat.le_refl _)) 9 Try.underlying9
      have hbr := hst'.broke
      clear hP11 hB11 hb12 hO hA hoE hfo hst10
      go_wp2_with fail
      refine (at_broken hP12).mono ?_
      rintro e w13 ⟨rfl, hw13⟩
      obtain rfl := hw13.symm
      clear hw13
      rw [hbr]
      go_wp2_with fail
      go_ret
      exact ⟨rfl, hB12⟩
    have j7 : (SZ : Int) - (lN.b.length : Int) < (bs.length : Int) + 5 := by omega
    go_wp2_with fail
    refine (at_append hP9 _ bs (hT.below hB9 (Nat.le_refl _)) (by omega) hTx).mono ?_
    rintro e w10 ⟨rfl, hP10, hb10⟩
    rw [append_full hst bs (by omega) (by rw [hsz]; exact h7)] at hP10 ⊢
    have hB10 := hB9.trans hb10
    have hst10 := hst
    have htold : toldB lN.b = (st, []) := by rw [hlb.out]; exact told_state _
    have hnM := hlN
    obtain ⟨lM, hlM⟩ : ∃ lM : LS, lM = lN := ⟨_, rfl⟩
    rw [← hlM] at hP10 hst10 htold hnM
    clear hlM
    clear hP9 hB9 hb10 hst hlb hlN
    obtain ⟨t', l', hcw, hst', -, -, hfo, hsz', -⟩ := commit_calm hst10 (by omega) (by rw [hsz]; exact h256) (.inr (by omega))
    rw [htold] at hfo
    have hoE := open_stand hst' (by rw [hsz', hsz]; exact h256)
    go_wp2_with fail
    refine (at_commit hP10).mono ?_
    rintro e w11 ⟨rfl, hP11, hb11⟩
    rw [hcw] at hP11 ⊢
    have hB11 := hB10.trans hb11
    clear hP10 hB10 hb11 hcw htold
    go_wp2_with fail
    refine (at_open hP11.disk hoE).mono ?_
    rintro e w12 ⟨G2, sv2, rv2, vs2, rfl, -, hO, hA, hb12⟩
    rw [hfo] at hO hA
    have hP12 := hP11.after hb12
    have hB12 := blift hB11 hb12 hB11.size
    obtain ⟨ga, gc, rfl⟩ := hA.sl
    have k1 := seg_stringD hO.seg 9 Try.underlying9
    have k2 := seg_stringD (hS.below hB12 (Nat.le_refl _)) 9 Try.underlying9
    have hbr := hst'.broke
    clear hP11 hB11 hb12 hO hA hoE hfo hst10
    go_wp2_with fail
    refine (at_broken hP12).mono ?_
    rintro e w13 ⟨rfl, hw13⟩
    obtain rfl := hw13.symm
    clear hw13
    rw [hbr]
    go_wp2_with fail
    go_ret
    exact ⟨rfl, hB12⟩
  have ht := check_full (st := st) (s := t1) (l := ⟨0 + 1, 0 + 1, stateB [1], (stateB [1]).length, true, false⟩) rfl (by rw [hsz1]; omega)
  have i5 : ¬ (st.length : Int) + 5 * max (((st.length : Int) + 1023) / 1024) 1 ≤ (SZ : Int) := by omega
  refine (at_check hP6 _ st (hS.below hB6 (Nat.le_refl _)) (by omega)).mono ?_
  rintro e w7 ⟨rfl, hP7, hb7⟩
  rw [ht] at hP7 ⊢
  have hB7 := hB6.trans hb7
  obtain ⟨lN, hlN0⟩ : ∃ lN : LS, lN = ⟨0 + 1, 0 + 1, stateB [1], (stateB [1]).length, true, false⟩ := ⟨_, rfl⟩
  have hlb : Hid (lN.b = stateB [1]) := by show _ = _; rw [hlN0]
  have hlN : lN.n ≤ 2 := by rw [hlN0]; decide
  obtain ⟨t, ht1⟩ : ∃ t, t = t1 := ⟨_, rfl⟩
  have hP7 : LogAt w.heap.size w7 G L t lN := by rw [hlN0, ht1]; exact hP7
  have hst : Stand t N lN := by rw [hlN0, ht1]; exact hst1
  have hsz : sizeS t = SZ := by rw [ht1]; exact hsz1
  clear hlN0 ht1
  clear ht hP6 hB6 hb7 hst1 hsz1
  go_wp2_with fail
  refine (at_size hP7).mono ?_
  rintro e w8 ⟨rfl, hw8⟩
  obtain rfl := hw8.symm
  clear hw8
  rw [hsz]
  go_wp2_with fail
  refine (at_room hP7).mono ?_
  rintro e w9 ⟨rfl, hb9⟩
  rw [room_stand hst, hsz]
  have hP9 := hP7.after hb9
  have hB9 := blift hB7 hb9 hB7.size
  clear hP7 hB7 hb9
  by_cases h6 : 4096 < bs.length
  · have j6 : (4096 : Int) < (bs.length : Int) := by omega
    go_wp2_with fail
    refine (at_append hP9 _ bs (hT.below hB9 (Nat.le_refl _)) (by omega) hTx).mono ?_
    rintro e w10 ⟨rfl, hP10, hb10⟩
    rw [append_arg hst bs h6] at hP10 ⊢
    have hB10 := hB9.trans hb10
    have hst10 := hst
    have htold : toldB lN.b = ([1], []) := by rw [hlb.out]; exact told_state _
    have hnM := hlN
    obtain ⟨lM, hlM⟩ : ∃ lM : LS, lM = lN := ⟨_, rfl⟩
    rw [← hlM] at hP10 hst10 htold hnM
    clear hlM
    clear hP9 hB9 hb10 hst hlb hlN
    obtain ⟨t', l', hcw, hst', -, -, hfo, hsz', -⟩ := commit_calm hst10 (by omega) (by rw [hsz]; exact h256) (.inr (by omega))
    rw [htold] at hfo
    have hoE := open_stand hst' (by rw [hsz', hsz]; exact h256)
    go_wp2_with fail
    refine (at_commit hP10).mono ?_
    rintro e w11 ⟨rfl, hP11, hb11⟩
    rw [hcw] at hP11 ⊢
    have hB11 := hB10.trans hb11
    clear hP10 hB10 hb11 hcw htold
    go_wp2_with fail
    refine (at_open hP11.disk hoE).mono ?_
    rintro e w12 ⟨G2, sv2, rv2, vs2, rfl, -, hO, hA, hb12⟩
    rw [hfo] at hO hA
    have hP12 := hP11.after hb12
    have hB12 := blift hB11 hb12 hB11.size
    obtain ⟨ga, gc, rfl⟩ := hA.sl
    have k1 := seg_stringD hO.seg 9 Try.underlying9
    have k2 := seg_stringD (hS.below hB12 (Nat.le_refl _)) 9 Try.underlying9
    have hbr := hst'.broke
    clear hP11 hB11 hb12 hO hA hoE hfo hst10
    go_wp2_with fail
    refine (at_broken hP12).mono ?_
    rintro e w13 ⟨rfl, hw13⟩
    obtain rfl := hw13.symm
    clear hw13
    rw [hbr]
    go_wp2_with fail
    go_ret
    exact ⟨rfl, hB12⟩
  have j6 : ¬ (4096 : Int) < (bs.length : Int) := by omega
  by_cases h7 : lN.b.length + bs.length + 5 ≤ SZ
  · have j7 : ¬ (SZ : Int) - (lN.b.length : Int) < (bs.length : Int) + 5 := by omega
    go_wp2_with fail
    refine (at_append hP9 _ bs (hT.below hB9 (Nat.le_refl _)) (by omega) hTx).mono ?_
    rintro e w10 ⟨rfl, hP10, hb10⟩
    rw [append_calm hst bs (by omega) (by rw [hsz]; exact h7)] at hP10 ⊢
    have hB10 := hB9.trans hb10
    have hst10 := append_stand hst bs (by rw [hsz]; exact h7)
    obtain ⟨lM, hlM⟩ : ∃ lM : LS, lM = { lN with b := lN.b ++ pieceB 3 bs } := ⟨_, rfl⟩
    have htold : toldB lM.b = ([1], [bs]) := by rw [hlM]; show toldB (lN.b ++ pieceB 3 bs) = _; rw [hlb.out]; exact told_one _ _ (by omega)
    have hnM : lM.n ≤ 2 := by rw [hlM]; exact hlN
    rw [← hlM] at hP10 hst10
    clear hlM
    clear hP9 hB9 hb10 hst hlb hlN
    obtain ⟨t', l', hcw, hst', -, -, hfo, hsz', -⟩ := commit_calm hst10 (by omega) (by rw [hsz]; exact h256) (.inr (by omega))
    rw [htold] at hfo
    have hoE := open_stand hst' (by rw [hsz', hsz]; exact h256)
    go_wp2_with fail
    refine (at_commit hP10).mono ?_
    rintro e w11 ⟨rfl, hP11, hb11⟩
    rw [hcw] at hP11 ⊢
    have hB11 := hB10.trans hb11
    clear hP10 hB10 hb11 hcw htold
    go_wp2_with fail
    refine (at_open hP11.disk hoE).mono ?_
    rintro e w12 ⟨G2, sv2, rv2, vs2, rfl, -, hO, hA, hb12⟩
    rw [hfo] at hO hA
    have hP12 := hP11.after hb12
    have hB12 := blift hB11 hb12 hB11.size
    obtain ⟨ga, gc, rfl⟩ := hA.sl
    have k1 := seg_stringD hO.seg 9 Try.underlying9
    have k2 := seg_stringD (hS.below hB12 (Nat.le_refl _)) 9 Try.underlying9
    have hbr := hst'.broke
    clear hP11 hB11 hb12 hO hA hoE hfo hst10
    go_wp2_with fail
    refine (at_broken hP12).mono ?_
    rintro e w13 ⟨rfl, hw13⟩
    obtain rfl := hw13.symm
    clear hw13
    rw [hbr]
    go_wp2_with fail
    go_ret
    exact ⟨rfl, hB12⟩
  have j7 : (SZ : Int) - (lN.b.length : Int) < (bs.length : Int) + 5 := by omega
  go_wp2_with fail
  refine (at_append hP9 _ bs (hT.below hB9 (Nat.le_refl _)) (by omega) hTx).mono ?_
  rintro e w10 ⟨rfl, hP10, hb10⟩
  rw [append_full hst bs (by omega) (by rw [hsz]; exact h7)] at hP10 ⊢
  have hB10 := hB9.trans hb10
  have hst10 := hst
  have htold : toldB lN.b = ([1], []) := by rw [hlb.out]; exact told_state _
  have hnM := hlN
  obtain ⟨lM, hlM⟩ : ∃ lM : LS, lM = lN := ⟨_, rfl⟩
  rw [← hlM] at hP10 hst10 htold hnM
  clear hlM
  clear hP9 hB9 hb10 hst hlb hlN
  obtain ⟨t', l', hcw, hst', -, -, hfo, hsz', -⟩ := commit_calm hst10 (by omega) (by rw [hsz]; exact h256) (.inr (by omega))
  rw [htold] at hfo
  have hoE := open_stand hst' (by rw [hsz', hsz]; exact h256)
  go_wp2_with fail
  refine (at_commit hP10).mono ?_
  rintro e w11 ⟨rfl, hP11, hb11⟩
  rw [hcw] at hP11 ⊢
  have hB11 := hB10.trans hb11
  clear hP10 hB10 hb11 hcw htold
  go_wp2_with fail
  refine (at_open hP11.disk hoE).mono ?_
  rintro e w12 ⟨G2, sv2, rv2, vs2, rfl, -, hO, hA, hb12⟩
  rw [hfo] at hO hA
  have hP12 := hP11.after hb12
  have hB12 := blift hB11 hb12 hB11.size
  obtain ⟨ga, gc, rfl⟩ := hA.sl
  have k1 := seg_stringD hO.seg 9 Try.underlying9
  have k2 := seg_stringD (hS.below hB12 (Nat.le_refl _)) 9 Try.underlying9
  have hbr := hst'.broke
  clear hP11 hB11 hb12 hO hA hoE hfo hst10
  go_wp2_with fail
  refine (at_broken hP12).mono ?_
  rintro e w13 ⟨rfl, hw13⟩
  obtain rfl := hw13.symm
  clear hw13
  rw [hbr]
  go_wp2_with fail
  go_ret
  exact ⟨rfl, hB12⟩
end Go.Proofs.Ytcfnbmphonkbpaa
