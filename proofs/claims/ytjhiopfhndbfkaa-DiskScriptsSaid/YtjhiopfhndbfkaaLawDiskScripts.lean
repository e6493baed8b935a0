/-
  What is proved here: of all numbers and acts, the statement DiskScripts answers true: a disk does any acts, and fails, and loses its power, as the document says.
  Conditions: none.
-/
import Derived.Test.YtjhiopfhndbfkaaDiskDoes
import Derived.Test.YtjhiopfhndbfkaaRefDiskNew
import Derived.BigQuiet
import Derived.Deep.QuietTactic
namespace Go.Proofs.Ytjhiopfhndbfkaa
open Go.RowKit Go.Maps

theorem Try.info38s : (Try.prog.info? 38).map (·.size) = some 5 := by kernel_rfl
/-- An act's five cells. -/
def actL (a : ActP) (bv sv : Value) : List Value := [.int .i64 a.act, .int .i64 a.k, .int .i64 a.n, bv, sv]
theorem ActCells.range {W : World} {q off : Nat} {a : ActP} (h : ActCells W q off a) : ∃ bv sv, W.rangeAt q off (actL a bv sv) ∧ ActAt W bv sv a := by
  obtain ⟨_, h0, h1, h2, bv, sv, h3, h4, h5⟩ := h
  refine ⟨bv, sv, fun j v hj => ?_, h5⟩
  unfold actL at hj
  match j, hj with
  | 0, hj => cases hj; exact h0
  | 1, hj => cases hj; exact h1
  | 2, hj => cases hj; exact h2
  | 3, hj => cases hj; exact h3
  | 4, hj => cases hj; exact h4
  | (j + 5), hj => simp at hj
set_option maxRecDepth 100000 in
theorem off_any (L : PLay) (s : DS) (w : World) (hD : PDisk w L s) : Calls Try.prog 18 #[.pointer (some ⟨L.g, 0, none⟩)] w fun e w' => e = .returned (.bool s.down) ∧ w' = w := by
  obtain ⟨xv, hx, _⟩ := hD.head
  unfold PLay.head at hx
  have c3 := hx.cell (j := 3) rfl
  go_enter Try.func18, Try.ntmps18
  go_wp2
  go_ret
  exact ⟨rfl, rfl⟩
theorem Pair.drewN {w : World} {L : PLay} {M : RLay} {s : DS} (h : Pair w L M s) (n : Nat) : Pair (w.drewN n) L M s := h.after (Below.drewN (Below.refl _ w) n)
/-- Two new disks. -/
theorem pair_new {w3 w4 : World} {L : PLay} {M : RLay} {n : Nat} (hD : PDisk w3 L (newS n)) (hb : Blk w3 L.g 60 (L.head (.slice none 0 0) false)) (hb4 : Below w3.heap.size w3 w4) (hR : RDisk w4 M (newS n)) (hE : M.E = L.T) (hT : ∀ q, M.T q → w3.heap.size ≤ q) : Pair w4 { L with E := M.T } M (newS n) := by
  have h4 := (hD.after hb4).avoid (hb.below hb4 hb.lt) M.T hR.lt
  exact ⟨h4, hR, fun _ h => h, fun q hq => by rw [hE]; exact hq, fun q hq e => by have h1 := hD.lt q hq; have h2 := hT q e; omega⟩

set_option maxRecDepth 100000 in
set_option maxHeartbeats 8000000 in
theorem diskScripts_any (z : Int) (v : Value) (l : List ActP) (w : World) (_hz : z ≤ 9223372036854775807) (hl : ActsIn w v l) :
    Calls Try.prog 4 #[.int .i64 z, v] w fun e w' => e = .returned (.bool true) ∧ Below w.heap.size w w' := by
  obtain ⟨ao, c, rfl, hlm, hlc⟩ := id hl
  unfold maxLen at hlm
  go_enter Try.func4, Try.ntmps4
  go_wp2_with fail
  refine (awake5_any _).mono ?_
  rintro e w1 ⟨rfl, hB1⟩
  go_wp2_with fail
  refine (much_any _ l _ (hl.below hB1 (Nat.le_refl _))).mono ?_
  rintro e w2 ⟨rfl, rfl⟩
  by_cases hmu : muchB l = true
  · rw [hmu]
    go_wp2
    go_ret
    exact ⟨rfl, hB1⟩
  have hmu : muchB l = false := by simpa using hmu
  rw [hmu]
  by_cases hz1 : z < 1
  · go_wp2
    go_ret
    exact ⟨rfl, hB1⟩
  by_cases hz2 : 100 < z
  · go_wp2
    go_ret
    exact ⟨rfl, hB1⟩
  obtain ⟨m, rfl⟩ : ∃ m : Nat, z = (m : Int) := ⟨z.toNat, by omega⟩
  go_wp2_with fail
  refine (new_any m _ (by omega) (by omega)).mono ?_
  rintro e w3 ⟨L0, rfl, hLn, hD3, hb3, hT3, hhd⟩
  go_wp2_with fail
  refine (refNew_any m w3 (by omega) (by omega) L0.T hD3.lt).mono ?_
  rintro e w4 ⟨M, rfl, hMn, hME, hR4, hb4, hT4⟩
  have hP4 := pair_new hD3 hhd hb4 hR4 hME hT4
  have hB3 : Below w.heap.size w w3 := hB1.trans (hb3.mono hB1.size)
  have hB4 : Below w.heap.size w w4 := hB3.trans (hb4.mono hB3.size)
  obtain ⟨L, hL⟩ : ∃ L : PLay, { L0 with E := M.T } = L := ⟨_, rfl⟩
  have hg : L0.g = L.g := by rw [← hL]
  have hTb : ∀ q, both L M q → w.heap.size ≤ q := fun q hq => by
    rcases hq with hq | hq
    · rw [← hL] at hq; exact Nat.le_trans hB1.size (hT3 q hq)
    · exact Nat.le_trans hB3.size (hT4 q hq)
  rw [hL] at hP4
  rw [hg]
  clear hL hg hhd hD3 hb3 hT3 hR4 hb4 hT4 hME hB3 hB1 hLn hMn
  go_wp2_with fail
  go_loopw [11] (fun i wr => ∃ (I : Nat) (s : DS), i = .int .i64 (I : Int) ∧ I ≤ l.length ∧ I ≤ 200 ∧ Pair wr L M s ∧ Below w.heap.size w wr) (fun i _ => 200 - (intOf i).toNat)
  case atStart => exact ⟨0, _, rfl, Nat.zero_le _, by omega, hP4, hB4⟩
  case round =>
    obtain ⟨I, s, rfl, hI, hI1, hP, hB⟩ := hrel
    clear hP4 hB4
    by_cases hgo : I < l.length ∧ I < 200
    · obtain ⟨h1, h2⟩ := hgo
      have i1 : (I : Int) < (l.length : Int) := by omega
      have i2 : (I : Int) < 200 := by omega
      have hg : l[I]? = some l[I] := List.getElem?_eq_getElem h1
      obtain ⟨A, hA⟩ : ∃ A, l[I] = A := ⟨_, rfl⟩
      rw [hA] at hg
      clear hA
      obtain ⟨q, off, rfl, hcells⟩ := hlc I A hg
      obtain ⟨hbd, hsd⟩ := muchB_false hmu hg (by omega)
      obtain ⟨bvI, svI, hrg, hat⟩ := hcells.range
      have hq := hcells.1
      have hrgr : wr.rangeAt q (off + I * 5) (actL A bvI svI) := fun j u hu => by
        rw [hB.cell (p := ⟨q, off + I * 5 + j, none⟩) hq, Nat.mul_comm I 5]
        exact hrg j u hu
      have HDO : Hid (Calls Try.prog 14 #[.pointer (some ⟨L.g, 0, none⟩), .pointer (some ⟨M.g, 0, none⟩), .agg (actL A bvI svI).toArray] wr fun e w' => e = .returned (.bool true) ∧ Pair w' L M (actS s A) ∧ Chg (both L M) wr w') := does_any L M s A bvI svI wr hP (hat.b.below hB (Nat.le_refl _)) hbd (hat.b.apart hTb) (hat.s.apart hB hTb) hsd
      clear hrg hat hcells hlc hg
      go_wp2_with (first | (go_at_call 14; refine HDO.out.mono ?_; rintro e w5 ⟨rfl, hP5, hc5⟩) | (go_at_call 16; refine (dirty_any L _ _ hP5.p).mono ?_; rintro e w6 ⟨v6, rfl, ho6, hb6⟩; have hP6 := hP5.after hb6) | (go_at_call 17; refine (refDirty_any M _ _ hP6.r).mono ?_; rintro e w7 ⟨v7, rfl, ho7, hb7⟩; have hP7 := hP6.after hb7; have ho6' := ho6.after hb7 (Nat.le_refl _)) | (go_at_call 15; refine (sameInts_any _ _ _ _ w7 ho6'.at ho7.at (by have := dirtyAt_len (actS s A).dirt 0; have h8 := hP7.p.ok.dirt; have := hP7.p.lay.max; unfold dirtyS; omega)).mono ?_; rintro e w8 ⟨rfl, nq, rfl⟩) | (refine wpList_load_mid rfl 38 _ rfl q (off + I * 5) rfl (actL A bvI svI) _ hrgr Try.underlying38 rfl Try.info38s ?_))
      have hP8 := hP7.drewN nq
      have hB8 : Below w.heap.size w (w7.drewN nq) := Below.drewN ((((hB.trans (hc5.below hTb hB.size)).trans (hb6.mono (Nat.le_trans hB.size hc5.size))).trans (hb7.mono (Nat.le_trans (Nat.le_trans hB.size hc5.size) hb6.size)))) nq
      clear HDO hP5 hP6 hP7 ho6 ho6' ho7 hb6 hb7 hc5
      generalize w7.drewN nq = W9 at *
      generalize actS s A = S1 at *
      have KH : ∀ j, Calls Try.prog 18 #[.pointer (some ⟨L.g, 0, none⟩)] (W9.drewN j) fun e w' => e = .returned (.bool S1.down) ∧ w' = W9.drewN j := fun j => off_any L S1 _ (hP8.drewN j).p
      obtain ⟨xv, hhm, -⟩ := hP8.r.head
      unfold RLay.head at hhm
      have c4 := hhm.cell (j := 4) rfl
      clear hhm
      cases hdn : S1.down with
      | true =>
        rw [hdn] at KH c4
        clear hdn
        go_quiet (first | (go_at_call 18; refine Calls.quiet_of_same (KH _)))
        clear KH
        go_wp2
        go_roundw
        case rel => exact ⟨I + 1, S1, by go_num, h1, h2, hP8.drewN _, Below.drewN hB8 _⟩
        case measure => simp [intOf]; omega
      | false =>
        rw [hdn] at KH c4
        clear hdn
        go_quiet (first | (go_at_call 18; refine Calls.quiet_of_same (KH _)))
        clear KH
        go_wp2
        go_roundw
        case rel => exact ⟨I + 1, S1, by go_num, h1, h2, hP8.drewN _, Below.drewN hB8 _⟩
        case measure => simp [intOf]; omega
    · have hnt : ¬ ((I : Int) < (l.length : Int) ∧ (I : Int) < 200) := by omega
      clear hgo hlc
      by_cases h1 : I < l.length
      · have i1 : (I : Int) < (l.length : Int) := by omega
        have i2 : ¬ (I : Int) < 200 := by omega
        clear hnt
        go_wp2_with fail
        go_loopw [14] (fun k wr => ∃ K : Nat, k = .int .i64 (K : Int) ∧ K ≤ m ∧ Pair wr L M s ∧ Below w.heap.size w wr) (fun k _ => m - (intOf k).toNat)
        case atStart => exact ⟨0, rfl, Nat.zero_le _, hP, hB⟩
        case round =>
          obtain ⟨K, rfl, hK, hPk, hBk⟩ := hrel
          clear hP hB
          by_cases hk : K < m
          · have j1 : (K : Int) < (m : Int) := by omega
            go_wp2_with fail
            refine (read_any L s (K : Int) _ hPk.p).mono ?_
            rintro e w5 ⟨v5, rfl, ho5, hb5⟩
            have hP5 := hPk.after hb5
            have hB5 : Below w.heap.size w w5 := hBk.trans (hb5.mono hBk.size)
            go_wp2_with fail
            refine (refRead_any M s (K : Int) _ hP5.r).mono ?_
            rintro e w6 ⟨v6, rfl, ho6, hb6⟩
            have hP6 := hP5.after hb6
            have hB6 : Below w.heap.size w w6 := hB5.trans (hb6.mono hB5.size)
            have k1 := seg_stringD (ho5.below hb6 (Nat.le_refl _)).seg 9 Try.underlying9
            have k2 := seg_stringD ho6.seg 9 Try.underlying9
            obtain ⟨a5, c5, rfl⟩ := Seg.shapeD ho5.seg
            obtain ⟨a6, c6, rfl⟩ := Seg.shapeD ho6.seg
            clear ho5 ho6
            generalize (readS s (K : Int)).1 = BB at *
            generalize (readS s (K : Int)).2 = EE at *
            generalize (⟨BB.toArray⟩ : ByteArray) = X at k1 k2
            go_wp2
            go_roundw
            case rel => exact ⟨K + 1, by go_num, hk, hP6, hB6⟩
            case measure => simp [intOf]; omega
          · have j1 : ¬ (K : Int) < (m : Int) := by omega
            go_wp2
            go_ret
            exact ⟨rfl, hBk⟩
      · have i1 : ¬ (I : Int) < (l.length : Int) := by omega
        clear hnt
        go_wp2_with fail
        go_loopw [14] (fun k wr => ∃ K : Nat, k = .int .i64 (K : Int) ∧ K ≤ m ∧ Pair wr L M s ∧ Below w.heap.size w wr) (fun k _ => m - (intOf k).toNat)
        case atStart => exact ⟨0, rfl, Nat.zero_le _, hP, hB⟩
        case round =>
          obtain ⟨K, rfl, hK, hPk, hBk⟩ := hrel
          clear hP hB
          by_cases hk : K < m
          · have j1 : (K : Int) < (m : Int) := by omega
            go_wp2_with fail
            refine (read_any L s (K : Int) _ hPk.p).mono ?_
            rintro e w5 ⟨v5, rfl, ho5, hb5⟩
            have hP5 := hPk.after hb5
            have hB5 : Below w.heap.size w w5 := hBk.trans (hb5.mono hBk.size)
            go_wp2_with fail
            refine (refRead_any M s (K : Int) _ hP5.r).mono ?_
            rintro e w6 ⟨v6, rfl, ho6, hb6⟩
            have hP6 := hP5.after hb6
            have hB6 : Below w.heap.size w w6 := hB5.trans (hb6.mono hB5.size)
            have k1 := seg_stringD (ho5.below hb6 (Nat.le_refl _)).seg 9 Try.underlying9
            have k2 := seg_stringD ho6.seg 9 Try.underlying9
            obtain ⟨a5, c5, rfl⟩ := Seg.shapeD ho5.seg
            obtain ⟨a6, c6, rfl⟩ := Seg.shapeD ho6.seg
            clear ho5 ho6
            generalize (readS s (K : Int)).1 = BB at *
            generalize (readS s (K : Int)).2 = EE at *
            generalize (⟨BB.toArray⟩ : ByteArray) = X at k1 k2
            go_wp2
            go_roundw
            case rel => exact ⟨K + 1, by go_num, hk, hP6, hB6⟩
            case measure => simp [intOf]; omega
          · have j1 : ¬ (K : Int) < (m : Int) := by omega
            go_wp2
            go_ret
            exact ⟨rfl, hBk⟩
end Go.Proofs.Ytjhiopfhndbfkaa
