/-
  What is proved here: of all bytes and rows of bytes, the statement WalBack answers true.
  Conditions: none.
-/
import Derived.Test.YtcfnbmphonkbpaaWalOff
namespace Go.Proofs.Ytcfnbmphonkbpaa
open Go.RowKit

set_option maxRecDepth 100000 in
set_option maxHeartbeats 16000000 in
theorem walBack_any (x : Value) (st : List UInt8) (v : Value) (l : List (List UInt8)) (w : World) (hm : st.length ≤ maxLen) (hS : Seg w x st) (hl : Segs7 w v l) :
    Calls Try.prog 4 #[x, v] w fun e w' => e = .returned (.bool true) ∧ Below w.heap.size w w' := by
  obtain ⟨ax, cx, rfl⟩ := Seg.shapeD hS
  obtain ⟨ao, c, rfl, hlm, -⟩ := id hl
  unfold maxLen at hlm hm
  have h256 : 256 ≤ sizeS (newS 400) := by rw [newS_size]; decide
  obtain ⟨ho, hol⟩ := newS_open 400 h256
  go_enter Try.func4, Try.ntmps4
  go_wp2_with fail
  refine (awake7_any w).mono ?_
  rintro e w1 ⟨rfl, hB1⟩
  go_wp2_with fail
  refine (at_new w.heap.size 400 w1 (by decide) (by decide) hB1.size).mono ?_
  rintro e w2 ⟨L, rfl, hD, hb2, hLn⟩
  have hB2 := blift hB1 hb2 hB1.size
  clear hB1 hb2 hLn
  by_cases h1 : 10000 < st.length
  · have j1 : (10000 : Int) < (st.length : Int) := by omega
    go_wp2_with fail
    go_ret
    exact ⟨rfl, hB2⟩
  have j1 : ¬ (10000 : Int) < (st.length : Int) := by omega
  by_cases h2 : 20 < l.length
  · have j2 : (20 : Int) < (l.length : Int) := by omega
    go_wp2_with fail
    go_ret
    exact ⟨rfl, hB2⟩
  have j2 : ¬ (20 : Int) < (l.length : Int) := by omega
  obtain ⟨t, ht, hst, -, hsz⟩ := check_calm (st := st) (l := ⟨0, 0, [], 0, false, false⟩) (newS_calm 400) (newS_ok 400) (by decide) h256 rfl (by rw [newS_there]) (by decide) (by decide) (by rw [newS_size, stateB_len]; omega)
  rw [newS_size] at hsz
  have hsz : sizeS t = 25472 := hsz
  go_wp2_with fail
  refine (at_open hD ho).mono ?_
  rintro e w3 ⟨G, sv, rv, vs, rfl, hP, _, _, hb3⟩
  rw [hol] at hP
  have hB3 := blift hB2 hb3 hB2.size
  clear ho hol hB2 hb3 hD
  go_wp2_with fail
  refine (at_check hP _ st (hS.below hB3 (Nat.le_refl _)) (by omega)).mono ?_
  rintro e w5 ⟨rfl, hP5, hb5⟩
  rw [ht] at hP5 ⊢
  have hB5 := hB3.trans hb5
  clear ht hP hB3 hb5
  obtain ⟨lc, hlc⟩ : ∃ lc : LS, lc = ⟨0 + 1, 0 + 1, stateB st, (stateB st).length, true, false⟩ := ⟨_, rfl⟩
  have hlb : Hid (lc.b = stateB st ++ recsB []) := by show _ = _; rw [hlc, show recsB [] = [] from rfl, List.append_nil]
  have hln : lc.n ≤ 1 := by rw [hlc]; exact Nat.le_refl 1
  rw [← hlc] at hP5 hst
  clear hlc
  have hX5 : LogX w.heap.size (OwnOf (.slice none 0 0)) w5 G L t lc := hP5.x _ (fun q hq => by cases hq)
  clear hP5
  go_wp2_with fail
  go_loopw [13, 14] (fun gv iv wr => ∃ (I : Nat) (lc : LS) (rs : List (List UInt8)) (vs : List Value), iv = .int .i64 (I : Int) ∧ I ≤ l.length ∧ Kept w wr gv vs rs ∧ rs.length ≤ I ∧ (∀ r ∈ rs, r.length ≤ 2000) ∧ Hid (lc.b = stateB st ++ recsB rs) ∧ LogX w.heap.size (OwnOf gv) wr G L t lc ∧ Stand t 400 lc ∧ lc.n ≤ 1 ∧ Below w.heap.size w wr) (fun _ iv _ => l.length - (intOf iv).toNat)
  case atStart => exact ⟨0, lc, [], [], rfl, Nat.zero_le _, Kept.nil _ _, Nat.le_refl _, fun r hr => (by cases hr), hlb, hX5, hst, hln, hB5⟩
  case round =>
    clear hX5 hst hB5 hlb hln
    obtain ⟨I, lc, rs, vs, rfl, hI, hK, hrl, hrs, hlb, hXr, hst, hln, hBr⟩ := hrel
    obtain ⟨ga, gc, rfl⟩ := hK.sl
    by_cases hlt : I < l.length
    · have i1 : (I : Int) < (l.length : Int) := by omega
      obtain ⟨b, off, ra, cc, rfl, hc, hrm, hat, hrx⟩ := hl.at hlt
      obtain ⟨hce, hsg⟩ := hat wr hBr
      have hsg0 := (hat w (Below.refl _ _)).2
      have hix := index_rows b off l.length c (I : Int) I rfl hlt
      obtain ⟨r, hr⟩ : ∃ r, r = l.getD I [] := ⟨_, rfl⟩
      rw [← hr] at hce hsg hrx hrm hat hsg0
      unfold maxLen at hrm
      clear hr
      by_cases hbig : 2000 < r.length
      · have i2 : (2000 : Int) < (r.length : Int) := by omega
        go_wp2_with fail
        go_ret
        exact ⟨rfl, hBr⟩
      have i2 : ¬ (2000 : Int) < (r.length : Int) := by omega
      go_wp2_with fail
      refine (x_append hXr _ r hsg (by omega) hrx).mono ?_
      rintro e w7 ⟨rfl, hX7, hc7⟩
      have hB7 := hBr.trans (off_below hc7 hXr.le)
      have hK7 := hK.chg hc7
      have hce7 := (hat w7 hB7).1
      by_cases hfit : lc.b.length + r.length + 5 ≤ 25472
      · rw [append_calm hst r (by omega) (by rw [hsz]; exact hfit)] at hX7 ⊢
        have hst7 := append_stand hst r (by rw [hsz]; exact hfit)
        obtain ⟨ld, hld⟩ : ∃ ld : LS, ld = { lc with b := lc.b ++ pieceB 3 r } := ⟨_, rfl⟩
        have hX7 : LogX w.heap.size (OwnOf (.slice ga rs.length gc)) w7 G L t ld := by rw [hld]; exact hX7
        have hst7 : Stand t 400 ld := by rw [hld]; exact hst7
        have hlb7 : Hid (ld.b = stateB st ++ recsB (rs ++ [r])) := by show _ = _; rw [hld, recsB_snoc, ← List.append_assoc, ← hlb.out]
        have hln7 : ld.n ≤ 1 := by rw [hld]; exact hln
        have hrs7 : ∀ y ∈ rs ++ [r], y.length ≤ 2000 := fun y hy => by
          rcases List.mem_append.1 hy with h | h
          · exact hrs y h
          · rw [List.mem_singleton.1 h]; omega
        have hba := (Below.refl w7.heap.size w7).alloc (Nat.le_refl _) (.cells #[.slice ra r.length cc] 30)
        have hX8 := hX7.after hba
        have hK8 := hK7.after hba
        have hB8 := blift hB7 hba hB7.size
        have hc8 : (w7.alloc (.cells #[.slice ra r.length cc] 30)).cell? ⟨w7.heap.size, 0, none⟩ = some (.slice ra r.length cc) := (Blk.new w7 30 #[.slice ra r.length cc]).cell (j := 0) rfl
        clear hld hXr hst hBr hce hsg hK hK7 hX7 hB7 hc7 hlb hln hba
        go_wp2_with (at_builtin; refine app_kept _ rfl (.tmp 90) (.tmp 95) rfl w _ vs rs rfl hK8 _ 1 (.slice ra r.length cc) r rfl hc8 hsg0 (by omega) hB8.size ?_; intro v9 w9 hK9 hg9 hv9)
        have hX9 := hX8.grow hg9 hv9 hK9.lt
        have hB9 := below_grown hB8 hg9 hB8.size (fun q hq => hK8.ge q hq)
        go_roundw
        case rel => exact ⟨I + 1, ld, rs ++ [r], _, by go_num, hlt, hK9, by rw [List.length_append]; simp; omega, hrs7, hlb7, hX9, hst7, hln7, hB9⟩
        case measure => simp [intOf]; omega
      · rw [append_full hst r (by omega) (by rw [hsz]; exact hfit)] at hX7 ⊢
        clear hXr hBr hce hsg hK hc7
        go_wp2_with fail
        go_roundw
        case rel => exact ⟨I + 1, lc, rs, vs, by go_num, hlt, hK7, by omega, hrs, hlb, hX7, hst, hln, hB7⟩
        case measure => simp [intOf]; omega
    · have i1 : ¬ (I : Int) < (l.length : Int) := by omega
      have hml : rs.length ≤ maxLen := by unfold maxLen; omega
      obtain ⟨t', l', hcw, hst', -, -, hfo, hsz', -⟩ := commit_calm hst (by decide) (by rw [hsz]; decide) (.inr (by omega))
      rw [hlb.out, told_put st rs (fun y hy => by have := hrs y hy; omega)] at hfo
      have hoE := open_stand hst' (by rw [hsz', hsz]; decide)
      have hcr := crash_clean hst'.calm hst'.clean [] (-1) 0
      go_wp2_with fail
      refine (x_commit hXr).mono ?_
      rintro e w7 ⟨rfl, hX7, hc7⟩
      rw [hcw] at hX7 ⊢
      have hB7 := hBr.trans (off_below hc7 hXr.le)
      have hK7 := hK.chg hc7
      clear hcw hXr hc7 hBr hK hst hst' hsz'
      go_wp2_with fail
      refine (x_crash hX7.disk (.slice none 0 0) [] (-1) 0 ⟨none, 0, rfl, fun j b h => by simp at h⟩).mono ?_
      rintro e w8 ⟨rfl, hD8, hc8⟩
      rw [hcr] at hD8
      have hB8 := hB7.trans (off_below hc8 hX7.le)
      have hK8 := hK7.chg hc8
      clear hX7 hB7 hK7 hc8 hcr
      go_wp2_with fail
      refine (at_open hD8.d hoE).mono ?_
      rintro e w9 ⟨G2, sv2, rv2, vs2, rfl, -, hO, hA, hb9⟩
      rw [hfo] at hO hA
      have hB9 := blift hB8 hb9 hB8.size
      have hK9 := hK8.after hb9
      have hR1 := hA.rowsV hml
      have hR2 := hK9.rowsV hB9 hml
      clear hD8 hB8 hK8 hb9 hoE hfo
      go_wp2_with fail
      refine (same7_any _ _ rs rs w9 hR1 hR2).mono ?_
      rintro e w10 ⟨rfl, hb10⟩
      rw [decide_eq_true (Eq.refl rs)]
      have hB10 := blift hB9 hb10 hB9.size
      have k1 := seg_stringD (hO.seg.below hb10 (Nat.le_refl _)) 9 Try.underlying9
      have k2 := seg_stringD (hS.below hB10 (Nat.le_refl _)) 9 Try.underlying9
      clear hR1 hR2 hK9 hA hO hB9 hb10
      go_wp2_with fail
      go_ret
      exact ⟨rfl, hB10⟩
end Go.Proofs.Ytcfnbmphonkbpaa
