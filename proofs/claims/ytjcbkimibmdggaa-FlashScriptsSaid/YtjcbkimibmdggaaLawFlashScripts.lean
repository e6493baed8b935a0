/-
  What is proved here: of all numbers and acts, the statement FlashScripts answers true: a flash does any acts, and loses its power in the middle of one, as the document says.
  Conditions: the program's flash keeps to what is asked of it.
-/
import Derived.Test.YtjcbkimibmdggaaFlashCalm
import Derived.Test.YtjcbkimibmdggaaFlashIWear
import Derived.BigQuiet
import Derived.Deep.QuietTactic
namespace Go.Proofs.Ytjcbkimibmdggaa
open Go.RowKit

/-- It tells whether its power is off. -/
def HasOff (P : PF) : Prop := ∀ (L : P.Lay) (s : FS) (w : World), P.Rel w L s → Calls Try.prog 17 #[.pointer (some ⟨P.g L, 0, none⟩)] w fun e w' => e = .returned (.bool s.down) ∧ w' = w
theorem Pair6.drewN {P : PF} {w : World} {L : P.Lay} {M : FLay} {s t : FS} (h : Pair6 P w L M s t) (n : Nat) : Pair6 P (w.drewN n) L M s t := h.after (Below.drewN (Below.refl _ w) n)

set_option maxRecDepth 100000 in
set_option maxHeartbeats 8000000 in
theorem flashScripts_any (P : PF) (hW : HasWear P) (hO : HasOff P) (z y : Int) (v : Value) (l : List Act6) (w : World) (hl : Acts6 w v l) :
    Calls Try.prog 4 #[.int .i64 z, .int .i64 y, v] w fun e w' => e = .returned (.bool true) ∧ Below w.heap.size w w' := by
  obtain ⟨ao, c, rfl, hlm, hlc⟩ := id hl
  unfold maxLen at hlm
  go_enter Try.func4, Try.ntmps4
  go_wp2_with fail
  refine (awake6_any P _).mono ?_
  rintro e w1 ⟨rfl, hB1⟩
  go_wp2_with fail
  refine (much6_any _ l _ (hl.below hB1 (Nat.le_refl _))).mono ?_
  rintro e w2 ⟨⟨mb, rfl⟩, rfl⟩
  cases mb with
  | true =>
    go_wp2
    go_ret
    exact ⟨rfl, hB1⟩
  | false =>
  by_cases hz1 : z < 1
  · go_wp2
    go_ret
    exact ⟨rfl, hB1⟩
  by_cases hz2 : 6 < z
  · go_wp2
    go_ret
    exact ⟨rfl, hB1⟩
  by_cases hy1 : y < 1
  · go_wp2
    go_ret
    exact ⟨rfl, hB1⟩
  by_cases hy2 : 10000 < y
  · go_wp2
    go_ret
    exact ⟨rfl, hB1⟩
  obtain ⟨m, rfl⟩ : ∃ m : Nat, z = (m : Int) := ⟨z.toNat, by omega⟩
  obtain ⟨u, rfl⟩ : ∃ u : Nat, y = (u : Int) := ⟨y.toNat, by omega⟩
  have hm6 : m ≤ 6 := by omega
  go_wp2_with fail
  refine (P.new_any m u _ (by omega) (by omega) (by omega) (by omega)).mono ?_
  rintro e w3 ⟨L, rfl, hLn, hD3, hb3, hT3⟩
  go_wp2_with fail
  refine (ref6New_any m u w3 (by omega) (by omega) (by omega) (by omega)).mono ?_
  rintro e w4 ⟨M, rfl, hMn, hR4, hb4, hT4⟩
  have hP4 := pair6_new hD3 hb4 hR4 hT4
  have hB3 : Below w.heap.size w w3 := hB1.trans (hb3.mono hB1.size)
  have hB4 : Below w.heap.size w w4 := hB3.trans (hb4.mono hB3.size)
  have hTb : ∀ q, both6 P L M q → w.heap.size ≤ q := fun q hq => by
    rcases hq with hq | hq
    · exact Nat.le_trans hB1.size (hT3 q hq)
    · exact Nat.le_trans hB3.size (hT4 q hq)
  clear hD3 hb3 hT3 hR4 hb4 hT4 hB3 hB1 hLn hMn
  go_wp2_with fail
  go_loopw [13] (fun i wr => ∃ (I : Nat) (s : FS), i = .int .i64 (I : Int) ∧ I ≤ l.length ∧ I ≤ 150 ∧ Pair6 P wr L M s s ∧ Below w.heap.size w wr) (fun i _ => 150 - (intOf i).toNat)
  case atStart => exact ⟨0, _, rfl, Nat.zero_le _, by omega, hP4, hB4⟩
  case round =>
    obtain ⟨I, s, rfl, hI, hI1, hP, hB⟩ := hrel
    clear hP4 hB4
    by_cases hgo : I < l.length ∧ I < 150
    · obtain ⟨h1, h2⟩ := hgo
      have i1 : (I : Int) < (l.length : Int) := by omega
      have i2 : (I : Int) < 150 := by omega
      have hg : l[I]? = some l[I] := List.getElem?_eq_getElem h1
      obtain ⟨A, hA⟩ : ∃ A, l[I] = A := ⟨_, rfl⟩
      rw [hA] at hg
      clear hA
      obtain ⟨q, off, rfl, hcells⟩ := hlc I A hg
      obtain ⟨bvI, hrg, hat⟩ := hcells.range
      have hq := hcells.1
      have hkR := hat.k
      have hrgr : wr.rangeAt q (off + I * 4) (actL6 A bvI) := fun j u hu => by
        rw [hB.cell (p := ⟨q, off + I * 4 + j, none⟩) hq, Nat.mul_comm I 4]
        exact hrg j u hu
      have HC : Hid (∀ W, Below w.heap.size w W → W.cell? ⟨q, off + I * 4 + 1, none⟩ = some (.int .i64 A.k)) := fun W hb => by
        rw [hb.cell (p := ⟨q, off + I * 4 + 1, none⟩) hq, Nat.mul_comm I 4]
        exact hrg 1 _ rfl
      have HDO : Hid (Calls Try.prog 14 #[.pointer (some ⟨P.g L, 0, none⟩), .pointer (some ⟨M.g, 0, none⟩), .agg (actL6 A bvI).toArray] wr fun e w' => Tells e (s = s) ∧ Pair6 P w' L M (actF s A) (actF s A) ∧ Chg (both6 P L M) wr w') := does6_any P L M _ _ A bvI wr hP (hat.below hB (Nat.le_refl _)) (hat.b.apart6 hTb)
      clear hrg hat hcells hlc hg
      go_wp2_with (first | (go_at_call 14; refine HDO.out.mono ?_; rintro e w5 ⟨⟨bb, rfl, hbb⟩, hP5, hc5⟩; obtain rfl := hbb rfl; have hB5 : Below w.heap.size w w5 := hB.trans (hc5.below hTb hB.size); have d5 := HC.out w5 hB5) | (refine wpList_load_mid rfl 37 _ rfl q (off + I * 4) rfl (actL6 A bvI) _ hrgr Try.underlying37 rfl Try.info37s ?_))
      clear HDO
      generalize actF s A = S1 at *
      refine (hW L S1 A.k w5 hP5.p hkR).mono ?_
      rintro e w6 ⟨rfl, hb6⟩
      have hB6 : Below w.heap.size w w6 := hB5.trans (hb6.mono hB5.size)
      have hP6 := hP5.after hb6
      have d6 := HC.out w6 hB6
      clear hP5 hB5 d5
      go_wp2_with fail
      refine (ref6Wear_any M S1 A.k w6 hP6.r).mono ?_
      rintro e w7 ⟨rfl, rfl⟩
      generalize ((wearF S1 A.k).1 : Int) = N at *
      generalize (wearF S1 A.k).2 = E at *
      have KH : ∀ j, Calls Try.prog 17 #[.pointer (some ⟨P.g L, 0, none⟩)] (w6.drewN j) fun e w' => e = .returned (.bool S1.down) ∧ w' = w6.drewN j := fun j => hO L S1 _ (hP6.drewN j).p
      have hhm := hP6.r.head
      unfold FLay.head at hhm
      have c5 := hhm.cell (j := 5) rfl
      clear hhm d6
      cases hdn : S1.down with
      | true =>
        rw [hdn] at KH c5
        clear hdn
        go_wp2_with fail
        go_quiet (first | (go_at_call 17; refine Calls.quiet_of_same (KH _)))
        clear KH
        go_wp2
        go_roundw
        case rel => exact ⟨I + 1, S1, by go_num, h1, h2, hP6.drewN _, Below.drewN hB6 _⟩
        case measure => simp [intOf]; omega
      | false =>
        rw [hdn] at KH c5
        clear hdn
        go_wp2_with fail
        go_quiet (first | (go_at_call 17; refine Calls.quiet_of_same (KH _)))
        clear KH
        go_wp2
        go_roundw
        case rel => exact ⟨I + 1, S1, by go_num, h1, h2, hP6.drewN _, Below.drewN hB6 _⟩
        case measure => simp [intOf]; omega
    · have hnt : ¬ ((I : Int) < (l.length : Int) ∧ (I : Int) < 150) := by omega
      clear hgo hlc
      by_cases h1 : I < l.length
      · have i1 : (I : Int) < (l.length : Int) := by omega
        have i2 : ¬ (I : Int) < 150 := by omega
        clear hnt
        go_wp2_with fail
        refine (P.power L s _ hP.p).mono ?_
        rintro e w5 ⟨rfl, hD5, hc5⟩
        have hr5 := hP.stepP hc5
        go_wp2_with fail
        refine (ref6Power_any M s _ hr5).mono ?_
        rintro e w6 ⟨rfl, hD6, hc6⟩
        have hP6 := hP.stepR hD5 hD6 hc6
        have hB6 : Below w.heap.size w w6 := hB.trans ((both6_chg hc5 hc6).below hTb hB.size)
        clear hP hB hD5 hD6 hr5 hc5 hc6
        generalize powerF s = S2 at *
        go_wp2_with fail
        go_loopw [19] (fun k wr => ∃ K : Nat, k = .int .i64 (K : Int) ∧ K ≤ m ∧ Pair6 P wr L M S2 S2 ∧ Below w.heap.size w wr) (fun k _ => m - (intOf k).toNat)
        case atStart => exact ⟨0, rfl, Nat.zero_le _, hP6, hB6⟩
        case round =>
          obtain ⟨K, rfl, hK, hPk, hBk⟩ := hrel
          clear hP6 hB6
          by_cases hk : K < m
          · have j1 : (K : Int) < (m : Int) := by omega
            go_wp2_with fail
            refine (P.read L S2 (1024 * (K : Int)) 1024 _ hPk.p (r64_small _ (by omega) (by omega)) (r64_small _ (by omega) (by omega))).mono ?_
            rintro e w7 ⟨v7, rfl, ho7, hb7⟩
            have hP7 := hPk.after hb7
            have hB7 : Below w.heap.size w w7 := hBk.trans (hb7.mono hBk.size)
            go_wp2_with fail
            refine (ref6Read_any M S2 (1024 * (K : Int)) 1024 _ hP7.r).mono ?_
            rintro e w8 ⟨v8', rfl, ho8, hb8⟩
            have hP8 := hP7.after hb8
            have hB8 : Below w.heap.size w w8 := hB7.trans (hb8.mono hB7.size)
            have k1 := seg_stringD (ho7.below hb8 (Nat.le_refl _)).seg 9 Try.underlying9
            have k2 := seg_stringD ho8.seg 9 Try.underlying9
            obtain ⟨a5, c5, rfl⟩ := Seg.shapeD ho7.seg
            obtain ⟨a6, c6, rfl⟩ := Seg.shapeD ho8.seg
            clear ho7 ho8
            generalize (readF S2 (1024 * (K : Int)) 1024).1 = BB at *
            generalize (readF S2 (1024 * (K : Int)) 1024).2 = EE at *
            generalize (⟨BB.toArray⟩ : ByteArray) = X at k1 k2
            go_wp2
            go_roundw
            case rel => exact ⟨K + 1, by go_num, hk, hP8, hB8⟩
            case measure => simp [intOf]; omega
          · have j1 : ¬ (K : Int) < (m : Int) := by omega
            go_wp2
            go_ret
            exact ⟨rfl, hBk⟩
      · have i1 : ¬ (I : Int) < (l.length : Int) := by omega
        clear hnt
        go_wp2_with fail
        refine (P.power L s _ hP.p).mono ?_
        rintro e w5 ⟨rfl, hD5, hc5⟩
        have hr5 := hP.stepP hc5
        go_wp2_with fail
        refine (ref6Power_any M s _ hr5).mono ?_
        rintro e w6 ⟨rfl, hD6, hc6⟩
        have hP6 := hP.stepR hD5 hD6 hc6
        have hB6 : Below w.heap.size w w6 := hB.trans ((both6_chg hc5 hc6).below hTb hB.size)
        clear hP hB hD5 hD6 hr5 hc5 hc6
        generalize powerF s = S2 at *
        go_wp2_with fail
        go_loopw [19] (fun k wr => ∃ K : Nat, k = .int .i64 (K : Int) ∧ K ≤ m ∧ Pair6 P wr L M S2 S2 ∧ Below w.heap.size w wr) (fun k _ => m - (intOf k).toNat)
        case atStart => exact ⟨0, rfl, Nat.zero_le _, hP6, hB6⟩
        case round =>
          obtain ⟨K, rfl, hK, hPk, hBk⟩ := hrel
          clear hP6 hB6
          by_cases hk : K < m
          · have j1 : (K : Int) < (m : Int) := by omega
            go_wp2_with fail
            refine (P.read L S2 (1024 * (K : Int)) 1024 _ hPk.p (r64_small _ (by omega) (by omega)) (r64_small _ (by omega) (by omega))).mono ?_
            rintro e w7 ⟨v7, rfl, ho7, hb7⟩
            have hP7 := hPk.after hb7
            have hB7 : Below w.heap.size w w7 := hBk.trans (hb7.mono hBk.size)
            go_wp2_with fail
            refine (ref6Read_any M S2 (1024 * (K : Int)) 1024 _ hP7.r).mono ?_
            rintro e w8 ⟨v8', rfl, ho8, hb8⟩
            have hP8 := hP7.after hb8
            have hB8 : Below w.heap.size w w8 := hB7.trans (hb8.mono hB7.size)
            have k1 := seg_stringD (ho7.below hb8 (Nat.le_refl _)).seg 9 Try.underlying9
            have k2 := seg_stringD ho8.seg 9 Try.underlying9
            obtain ⟨a5, c5, rfl⟩ := Seg.shapeD ho7.seg
            obtain ⟨a6, c6, rfl⟩ := Seg.shapeD ho8.seg
            clear ho7 ho8
            generalize (readF S2 (1024 * (K : Int)) 1024).1 = BB at *
            generalize (readF S2 (1024 * (K : Int)) 1024).2 = EE at *
            generalize (⟨BB.toArray⟩ : ByteArray) = X at k1 k2
            go_wp2
            go_roundw
            case rel => exact ⟨K + 1, by go_num, hk, hP8, hB8⟩
            case measure => simp [intOf]; omega
          · have j1 : ¬ (K : Int) < (m : Int) := by omega
            go_wp2
            go_ret
            exact ⟨rfl, hBk⟩
end Go.Proofs.Ytjcbkimibmdggaa
