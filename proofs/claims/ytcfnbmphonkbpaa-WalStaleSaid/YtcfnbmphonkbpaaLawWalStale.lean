/-
  What is proved here: of all rows of bytes, the statement WalStale answers true.
  Conditions: none.
-/
import Derived.Test.YtcfnbmphonkbpaaWalOff
import Derived.BigQuiet
import Derived.Deep.QuietTactic
namespace Go.Proofs.Ytcfnbmphonkbpaa
open Go.RowKit

theorem LogX.at {B : Nat} {D : Nat → Prop} {w : World} {G : Nat} {L : PLay} {s : DS} {l : LS} (h : LogX B D w G L s l) : LogAt B w G L s l := by
  obtain ⟨C, h1, h2, _, h4⟩ := h
  exact ⟨C, h1, fun q hq => (h2 q hq).1, h4⟩
/-- What the next state finds. -/
structure Ready (s : DS) (l : LS) (I : Nat) : Prop where
  calm : calmS s
  ok : s.ok 60
  size : sizeS s = 3712
  broke : l.broke = false
  there : (thereS s).1 = l.n
  n : l.n ≤ 2 * I
  gen : l.gen ≤ I
set_option maxRecDepth 100000 in
set_option maxHeartbeats 16000000 in
theorem walStale_any (v : Value) (l : List (List UInt8)) (u : Value) (m : List (List UInt8)) (w : World) (hl : Segs7 w v l) (hm : Segs7 w u m) :
    Calls Try.prog 6 #[v, u] w fun e w' => e = .returned (.bool true) ∧ Below w.heap.size w w' := by
  obtain ⟨ao, c, rfl, hlm, -⟩ := id hl
  obtain ⟨bo, d, rfl, hmm, -⟩ := id hm
  unfold maxLen at hlm hmm
  have h256 : 256 ≤ sizeS (newS 60) := by rw [newS_size]; decide
  obtain ⟨ho, hol⟩ := newS_open 60 h256
  go_enter Try.func6, Try.ntmps6
  go_wp2_with fail
  refine (awake7_any w).mono ?_
  rintro e w1 ⟨rfl, hB1⟩
  go_wp2_with fail
  refine (at_new w.heap.size 60 w1 (by decide) (by decide) hB1.size).mono ?_
  rintro e w2 ⟨L, rfl, hD, hb2, hLn⟩
  have hB2 := blift hB1 hb2 hB1.size
  clear hB1 hb2 hLn
  by_cases h1 : 30 < l.length
  · have j1 : (30 : Int) < (l.length : Int) := by omega
    go_wp2_with fail
    go_ret
    exact ⟨rfl, hB2⟩
  have j1 : ¬ (30 : Int) < (l.length : Int) := by omega
  by_cases h2 : 30 < m.length
  · have j2 : (30 : Int) < (m.length : Int) := by omega
    go_wp2_with fail
    go_ret
    exact ⟨rfl, hB2⟩
  have j2 : ¬ (30 : Int) < (m.length : Int) := by omega
  go_wp2_with fail
  refine (at_open hD ho).mono ?_
  rintro e w3 ⟨G, sv, rv, vs, rfl, hP, _, _, hb3⟩
  rw [hol] at hP
  have hB3 := blift hB2 hb3 hB2.size
  have hR0 : Ready (newS 60) ⟨0, 0, [], 0, false, false⟩ 0 := ⟨newS_calm 60, newS_ok 60, by rw [newS_size], rfl, by rw [newS_there], Nat.le_refl _, Nat.le_refl _⟩
  clear ho hol hB2 hb3 hD h256
  go_wp2_with fail
  go_loopw [8, 12] (fun pv iv wr => ∃ (I G : Nat) (s : DS) (lc : LS), pv = .pointer (some ⟨G, 0, none⟩) ∧ iv = .int .i64 (I : Int) ∧ I ≤ l.length ∧ LogAt w.heap.size wr G L s lc ∧ Ready s lc I ∧ Below w.heap.size w wr) (fun _ iv _ => l.length - (intOf iv).toNat)
  case atStart => exact ⟨0, G, _, _, rfl, rfl, Nat.zero_le _, hP, hR0, hB3⟩
  case round =>
    clear hP hR0 hB3
    obtain ⟨I, G, s, lc, rfl, rfl, hI, hPr, hRr, hBr⟩ := hrel
    by_cases hlt : I < l.length
    · have i1 : (I : Int) < (l.length : Int) := by omega
      obtain ⟨b, off, ra, cc, rfl, hc, hrm, hat, hrx⟩ := hl.at hlt
      obtain ⟨hce, hsg⟩ := hat wr hBr
      have hix := index_rows b off l.length c (I : Int) I rfl hlt
      obtain ⟨st, hr⟩ : ∃ r, r = l.getD I [] := ⟨_, rfl⟩
      rw [← hr] at hce hsg hrx hrm hat
      unfold maxLen at hrm
      clear hr
      by_cases hbig : 800 < st.length
      · have i2 : (800 : Int) < (st.length : Int) := by omega
        go_wp2_with fail
        go_ret
        exact ⟨rfl, hBr⟩
      have i2 : ¬ (800 : Int) < (st.length : Int) := by omega
      obtain ⟨t, ht, hst, -, hsz⟩ := check_calm (st := st) hRr.calm hRr.ok (by decide) (by rw [hRr.size]; decide) hRr.broke hRr.there (by have := hRr.n; omega) (by have := hRr.gen; omega) (by rw [hRr.size, stateB_len]; omega)
      rw [hRr.size] at hsz
      go_wp2_with fail
      refine (at_check hPr _ st hsg (by omega)).mono ?_
      rintro e w5 ⟨rfl, hP5, hb5⟩
      rw [ht] at hP5 ⊢
      have hB5 := hBr.trans hb5
      have hRn := hRr.n
      have hRg := hRr.gen
      obtain ⟨la, hla⟩ : ∃ la : LS, la = ⟨lc.n + 1, lc.gen + 1, stateB st, (stateB st).length, true, false⟩ := ⟨_, rfl⟩
      have hlb : Hid (la.b = stateB st ++ recsB []) := by show _ = _; rw [hla, show recsB [] = [] from rfl, List.append_nil]
      have hln : la.n ≤ 2 * I + 1 := by rw [hla]; exact Nat.succ_le_succ hRn
      have hlg : la.gen ≤ I + 1 := by rw [hla]; exact Nat.succ_le_succ hRg
      rw [← hla] at hP5 hst
      clear hla ht hPr hBr hb5 hRr hRn hRg hce hsg
      have hX5 : LogX w.heap.size (OwnOf (.slice none 0 0)) w5 G L t la := hP5.x _ (fun q hq => by cases hq)
      clear hP5
      go_wp2_with fail
      go_loopw [14, 15] (fun gv kv wk => ∃ (J : Nat) (lc : LS) (rs : List (List UInt8)) (vs : List Value), kv = .int .i64 (J : Int) ∧ J ≤ m.length ∧ Kept w wk gv vs rs ∧ rs.length ≤ J ∧ (∀ r ∈ rs, r.length ≤ 30) ∧ Hid (lc.b = stateB st ++ recsB rs) ∧ LogX w.heap.size (OwnOf gv) wk G L t lc ∧ Stand t 60 lc ∧ lc.n ≤ 2 * I + 1 ∧ lc.gen ≤ I + 1 ∧ Below w.heap.size w wk) (fun _ kv _ => m.length - (intOf kv).toNat)
      case atStart => exact ⟨0, la, [], [], rfl, Nat.zero_le _, Kept.nil _ _, Nat.le_refl _, fun r hr => (by cases hr), hlb, hX5, hst, hln, hlg, hB5⟩
      case round =>
        clear hX5 hst hB5 hlb hln hlg
        obtain ⟨J, lc, rs, vs, rfl, hJ, hK, hrl, hrs, hlb, hXk, hst, hln, hlg, hBk⟩ := hrel
        obtain ⟨ga, gc, rfl⟩ := hK.sl
        have wsub : IntKind.i64.wrap ((m.length : Int) - (I : Int)) = (m.length : Int) - (I : Int) := by rw [IntKind.wrap_i64]; omega
        by_cases hjt : (J : Int) < (m.length : Int) - (I : Int)
        · have hjm : J < m.length := by omega
          obtain ⟨b2, off2, ra2, cc2, rfl, hc2, hrm2, hat2, hrx2⟩ := hm.at hjm
          obtain ⟨hce2, hsg2⟩ := hat2 wr hBk
          have hsg0 := (hat2 w (Below.refl _ _)).2
          have hix2 := index_rows b2 off2 m.length d (J : Int) J rfl hjm
          obtain ⟨r, hr⟩ : ∃ r, r = m.getD J [] := ⟨_, rfl⟩
          rw [← hr] at hce2 hsg2 hrx2 hrm2 hat2 hsg0
          unfold maxLen at hrm2
          clear hr
          by_cases hbg2 : 30 < r.length
          · have i4 : (30 : Int) < (r.length : Int) := by omega
            go_wp2_with fail
            go_ret
            exact ⟨rfl, hBk⟩
          have i4 : ¬ (30 : Int) < (r.length : Int) := by omega
          go_wp2_with fail
          refine (x_append hXk _ r hsg2 (by omega) hrx2).mono ?_
          rintro e w7 ⟨rfl, hX7, hc7⟩
          have hB7 := hBk.trans (off_below hc7 hXk.le)
          have hK7 := hK.chg hc7
          have hce7 := (hat2 w7 hB7).1
          by_cases hfit : lc.b.length + r.length + 5 ≤ 3712
          · rw [append_calm hst r (by omega) (by rw [hsz]; exact hfit)] at hX7 ⊢
            have hst7 := append_stand hst r (by rw [hsz]; exact hfit)
            obtain ⟨ld, hld⟩ : ∃ ld : LS, ld = { lc with b := lc.b ++ pieceB 3 r } := ⟨_, rfl⟩
            have hX7 : LogX w.heap.size (OwnOf (.slice ga rs.length gc)) w7 G L t ld := by rw [hld]; exact hX7
            have hst7 : Stand t 60 ld := by rw [hld]; exact hst7
            have hlb7 : Hid (ld.b = stateB st ++ recsB (rs ++ [r])) := by show _ = _; rw [hld, recsB_snoc, ← List.append_assoc, ← hlb.out]
            have hln7 : ld.n ≤ 2 * I + 1 := by rw [hld]; exact hln
            have hlg7 : ld.gen ≤ I + 1 := by rw [hld]; exact hlg
            have hrs7 : ∀ y ∈ rs ++ [r], y.length ≤ 30 := fun y hy => by
              rcases List.mem_append.1 hy with h | h
              · exact hrs y h
              · rw [List.mem_singleton.1 h]; omega
            have hba := (Below.refl w7.heap.size w7).alloc (Nat.le_refl _) (.cells #[.slice ra2 r.length cc2] 30)
            have hX8 := hX7.after hba
            have hK8 := hK7.after hba
            have hB8 := blift hB7 hba hB7.size
            have hc8 : (w7.alloc (.cells #[.slice ra2 r.length cc2] 30)).cell? ⟨w7.heap.size, 0, none⟩ = some (.slice ra2 r.length cc2) := (Blk.new w7 30 #[.slice ra2 r.length cc2]).cell (j := 0) rfl
            clear hld hXk hst hBk hce2 hsg2 hK hK7 hX7 hB7 hc7 hlb hln hlg hba
            go_wp2_with (at_builtin; refine app_kept _ rfl (.tmp 110) (.tmp 115) rfl w _ vs rs rfl hK8 _ 1 (.slice ra2 r.length cc2) r rfl hc8 hsg0 (by omega) hB8.size ?_; intro v9 w9 hK9 hg9 hv9)
            have hX9 := hX8.grow hg9 hv9 hK9.lt
            have hB9 := below_grown hB8 hg9 hB8.size (fun q hq => hK8.ge q hq)
            go_roundw
            case rel => exact ⟨J + 1, ld, rs ++ [r], _, by go_num, hjm, hK9, by rw [List.length_append]; simp; omega, hrs7, hlb7, hX9, hst7, hln7, hlg7, hB9⟩
            case measure => simp [intOf]; omega
          · rw [append_full hst r (by omega) (by rw [hsz]; exact hfit)] at hX7 ⊢
            go_wp2_with fail
            go_ret
            exact ⟨rfl, hB7⟩
        · have hml : rs.length ≤ maxLen := by unfold maxLen; omega
          obtain ⟨t', l', hcw, hst', -, -, hfo, hsz', hg', hn'⟩ := commit_calm hst (by decide) (by rw [hsz]; decide) (.inr (by omega))
          rw [hlb.out, told_put st rs (fun y hy => by have := hrs y hy; omega)] at hfo
          have hoE := open_stand hst' (by rw [hsz', hsz]; decide)
          have hoL := openL_stand hst'
          rw [hsz] at hsz'
          have hRa : Ready t' l' (I + 1) := ⟨hst'.calm, hst'.ok, hsz', hst'.broke, by rw [hst'.there], by omega, by omega⟩
          have hRb : Ready t' ⟨l'.n, l'.gen, [], 0, false, false⟩ (I + 1) := ⟨hst'.calm, hst'.ok, hsz', rfl, by rw [hst'.there], hRa.n, hRa.gen⟩
          have HR : Hid (Ready t' l' (I + 1) ∧ Ready t' ⟨l'.n, l'.gen, [], 0, false, false⟩ (I + 1)) := ⟨hRa, hRb⟩
          clear hRa hRb hst' hg' hn' hsz'
          go_wp2_with fail
          refine (x_commit hXk).mono ?_
          rintro e w7 ⟨rfl, hX7, hc7⟩
          rw [hcw] at hX7 ⊢
          have hB7 := hBk.trans (off_below hc7 hXk.le)
          have hK7 := hK.chg hc7
          clear hcw hXk hc7 hBk hK hst
          go_wp2_with fail
          refine (at_open hX7.disk.d hoE).mono ?_
          rintro e w9 ⟨G2, sv2, rv2, vs2, rfl, hPx, hO, hA, hb9⟩
          rw [hfo] at hO hA
          rw [hoL] at hPx
          have hB9 := blift hB7 hb9 hB7.size
          have hK9 := hK7.after hb9
          have hPw := (hX7.after hb9).at
          have hR1 := hA.rowsV hml
          have hR2 := hK9.rowsV hB9 hml
          clear hX7 hB7 hK7 hb9 hoE hfo hoL
          go_wp2_with fail
          refine (same7_any _ _ rs rs w9 hR1 hR2).mono ?_
          rintro e w10 ⟨rfl, hb10⟩
          rw [decide_eq_true (Eq.refl rs)]
          have hB10 := blift hB9 hb10 hB9.size
          have hPx := hPx.after hb10
          have hPw := hPw.after hb10
          have hO2 := hO.seg.below hb10 (Nat.le_refl _)
          obtain ⟨hce, hsg⟩ := hat w10 hB10
          obtain ⟨sa, sc, rfl⟩ := Seg.shapeD hO2
          have k1 := fun q => seg_stringD (show Seg (w10.drewN q) _ _ from hO2) 9 Try.underlying9
          have k2 := fun q => seg_stringD (show Seg (w10.drewN q) _ _ from hsg) 9 Try.underlying9
          have hce' : ∀ q, (w10.drewN q).cell? ⟨b, off + I, none⟩ = some (.slice ra st.length cc) := fun _ => hce
          generalize (⟨st.toArray⟩ : ByteArray) = BX at k1 k2
          clear hR1 hR2 hK9 hA hO hB9 hb10 hO2 hsg hce
          go_wp2_with fail
          go_quiet (fail)
          have hBn : Below w.heap.size w (w10.drewN nq) := Below.drewN hB10 nq
          have hPx : LogAt w.heap.size (w10.drewN nq) G2 L t' ⟨l'.n, l'.gen, [], 0, false, false⟩ := hPx.after (Below.drewN (Below.refl _ w10) nq)
          have hPw : LogAt w.heap.size (w10.drewN nq) G L t' l' := hPw.after (Below.drewN (Below.refl _ w10) nq)
          generalize w10.drewN nq = w11 at hBn hPx hPw ⊢
          clear k1 k2 hce' hB10
          by_cases hp : I % 2 = 1
          · have hp2 : (I : Int) % 2 = 1 := by omega
            have hp3 : ((I : Int).tmod 2) = 1 := by rw [Int.tmod_eq_emod_of_nonneg (by omega)]; exact hp2
            go_wp2_with fail
            go_roundw
            case rel => exact ⟨I + 1, G2, _, _, rfl, by go_num, hlt, hPx, HR.out.2, hBn⟩
            case measure => simp [intOf]; omega
          · have hp2 : (I : Int) % 2 = 0 := by omega
            have hp3 : ((I : Int).tmod 2) = 0 := by rw [Int.tmod_eq_emod_of_nonneg (by omega)]; exact hp2
            go_wp2_with fail
            go_roundw
            case rel => exact ⟨I + 1, G, _, _, rfl, by go_num, hlt, hPw, HR.out.1, hBn⟩
            case measure => simp [intOf]; omega
    · have i1 : ¬ (I : Int) < (l.length : Int) := by omega
      go_wp2_with fail
      go_ret
      exact ⟨rfl, hBr⟩
end Go.Proofs.Ytcfnbmphonkbpaa
