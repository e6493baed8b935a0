/-
  What is proved here: of all acts, the statement DiskLasts answers true: what was synced is there behind any crash, in each sector that was not written since; a sector that was is one of both, or, the torn one, a beginning of the new and the end of the old.
  Conditions: none.
-/
import Derived.Test.YtjhiopfhndbfkaaDiskPair
import Derived.Test.YtjhiopfhndbfkaaDiskGat
import Derived.Test.YtjhiopfhndbfkaaDiskWrites
import Derived.BigQuiet
import Derived.Deep.QuietTactic
namespace Go.Proofs.Ytjhiopfhndbfkaa
open Go.RowKit Go.Maps

theorem take_snoc (l : List (List UInt8)) (K : Nat) (h : K < l.length) : l.take (K + 1) = l.take K ++ [l.getD K []] := by
  rw [List.take_add_one, List.getD_eq_getElem?_getD, List.getElem?_eq_getElem h]
  rfl
theorem writesS_sure : ∀ (l : List ActP) (s : DS), (writesS l s).sure = s.sure
  | [], _ => rfl
  | a :: l, s => by
    refine (writesS_sure l _).trans ?_
    split
    · exact writeS_sure _ _ _
    · rfl
theorem calm_crash (s : DS) (stay : List Bool) (torn cut : Int) : calm (crashS s stay torn cut) := ⟨rfl, rfl⟩
theorem bools_nil (w : World) (T : Nat → Prop) : BoolsA w T (.slice none 0 0) [] := ⟨none, 0, rfl, fun j b h => by simp at h⟩
theorem Gat.cell {w : World} {base : Nat} {b n c : Nat} {vs : List Value} {rs : List (List UInt8)} (h : Gat w base (.slice (some ⟨b, 0, none⟩) n c) vs rs) {k : Nat} (hk : k < rs.length) : ∃ a cc, w.cell? ⟨b, k, none⟩ = some (.slice a (rs.getD k []).length cc) ∧ Seg w (.slice a (rs.getD k []).length cc) (rs.getD k []) := by
  obtain ⟨b', c', a, cc, e, h1, h2⟩ := h.at hk
  cases e
  exact ⟨a, cc, h1, h2⟩
theorem read_calm {s : DS} (h : calm s) {n : Nat} (hn : s.now.length = n) {K : Nat} (hK : K < n) : readS s (K : Int) = (s.now.getD K [], 0) := by
  rw [readS_calm h, hn, if_neg (by omega)]
  rfl
theorem str_ne {a b : List UInt8} (h : a ≠ b) : ((⟨a.toArray⟩ : ByteArray).toList == (⟨b.toArray⟩ : ByteArray).toList) = false := by
  rw [str_beq]
  simpa using h

set_option maxRecDepth 100000 in
set_option maxHeartbeats 16000000 in
theorem diskLasts_any (v : Value) (l : List ActP) (v' : Value) (more : List ActP) (bv sv : Value) (x : ActP) (w : World) (hl : ActsIn w v l) (hm : ActsIn w v' more) (hx : ActAt w bv sv x) :
    Calls Try.prog 5 #[v, v', .agg #[.int .i64 x.act, .int .i64 x.k, .int .i64 x.n, bv, sv]] w fun e w' => e = .returned (.bool true) ∧ Below w.heap.size w w' := by
  obtain ⟨ao, c, rfl, hlm, -⟩ := id hl
  obtain ⟨ao', c', rfl, hmm, -⟩ := id hm
  obtain ⟨as5, cs5, rfl, -⟩ := id hx.s
  unfold maxLen at hlm hmm
  have hBx : Below w.heap.size w (w.alloc (.cells #[.int .i64 x.act, .int .i64 x.k, .int .i64 x.n, bv, .slice as5 x.stay.length cs5] 38)) := (Below.refl _ w).alloc (Nat.le_refl _) _
  have hbox : Blk (w.alloc (.cells #[.int .i64 x.act, .int .i64 x.k, .int .i64 x.n, bv, .slice as5 x.stay.length cs5] 38)) w.heap.size 38 #[.int .i64 x.act, .int .i64 x.k, .int .i64 x.n, bv, .slice as5 x.stay.length cs5] := Blk.new _ _ _
  have hl0 := hl.below hBx (Nat.le_refl _)
  have hm0 := hm.below hBx (Nat.le_refl _)
  have hx0 := hx.below hBx (Nat.le_refl _)
  clear hl hm hx
  go_enter Try.func5, Try.ntmps5
  go_wp2_with fail
  generalize w.alloc (.cells #[.int .i64 x.act, .int .i64 x.k, .int .i64 x.n, bv, .slice as5 x.stay.length cs5] 38) = w0 at *
  refine (awake5_any _).mono ?_
  rintro e w1 ⟨rfl, hB1⟩
  go_wp2_with fail
  refine (much_any _ l _ (hl0.below hB1 (Nat.le_refl _))).mono ?_
  rintro e w2 ⟨rfl, rfl⟩
  have hend : ∀ W, Below w0.heap.size w0 W → Below w.heap.size w W := fun W hW => hBx.trans (hW.mono hBx.size)
  have HEND : Hid (∀ W, Below w0.heap.size w0 W → Below w.heap.size w W) := hend
  clear hend
  by_cases hmu : muchB l = true
  · rw [hmu]
    go_wp2
    go_ret
    exact ⟨rfl, HEND.out _ hB1⟩
  have hmu : muchB l = false := by simpa using hmu
  rw [hmu]
  go_wp2_with fail
  refine (much_any _ more _ (hm0.below hB1 (Nat.le_refl _))).mono ?_
  rintro e w2 ⟨rfl, rfl⟩
  by_cases hmv : muchB more = true
  · rw [hmv]
    go_wp2
    go_ret
    exact ⟨rfl, HEND.out _ hB1⟩
  have hmv : muchB more = false := by simpa using hmv
  rw [hmv]
  go_wp2_with fail
  refine (new_at 12 12 rfl _ (by decide) (by decide)).mono ?_
  rintro e w3 ⟨L0, rfl, hLn, hD3, hb3, hT3, hhd⟩
  go_wp2_with fail
  refine (refNew_at 12 12 rfl w3 (by decide) (by decide) L0.T hD3.lt).mono ?_
  rintro e w4 ⟨M, rfl, -, hME, hR4, hb4, hT4⟩
  have hP4 := pair_new hD3 hhd hb4 hR4 hME hT4
  have hB3 : Below w0.heap.size w0 w3 := hB1.trans (hb3.mono hB1.size)
  have hB4 : Below w0.heap.size w0 w4 := hB3.trans (hb4.mono hB3.size)
  obtain ⟨L, hL⟩ : ∃ L : PLay, { L0 with E := M.T } = L := ⟨_, rfl⟩
  have hg : L0.g = L.g := by rw [← hL]
  have hLn : L.n = 12 := by rw [← hL]; exact hLn
  have hTb : ∀ q, both L M q → w0.heap.size ≤ q := fun q hq => by
    rcases hq with hq | hq
    · rw [← hL] at hq; exact Nat.le_trans hB1.size (hT3 q hq)
    · exact Nat.le_trans hB3.size (hT4 q hq)
  have hT' : ∀ q, L.T q → w0.heap.size ≤ q := fun q hq => hTb q (.inl hq)
  rw [hL] at hP4
  rw [hg]
  clear hL hg hhd hD3 hb3 hT3 hR4 hb4 hT4 hME hB3 hB1
  obtain ⟨_, _, hle, _, hlc⟩ := id hl0
  cases hle
  obtain ⟨_, _, hme, _, hmc⟩ := id hm0
  cases hme
  go_wp2_with fail
  go_loopw [13] (fun i wr => ∃ (I : Nat) (s : DS), i = .int .i64 (I : Int) ∧ I ≤ l.length ∧ I ≤ 100 ∧ Pair wr L M s ∧ Below w0.heap.size w0 wr) (fun i _ => 100 - (intOf i).toNat)
  case atStart => exact ⟨0, _, rfl, Nat.zero_le _, by omega, hP4, hB4⟩
  case round =>
    obtain ⟨I, s, rfl, hI, hI1, hP, hB⟩ := hrel
    clear hP4 hB4
    by_cases hgo : I < l.length ∧ I < 100
    · obtain ⟨h1, h2⟩ := hgo
      have i1 : (I : Int) < (l.length : Int) := by omega
      have i2 : (I : Int) < 100 := by omega
      have hg : l[I]? = some l[I] := List.getElem?_eq_getElem h1
      obtain ⟨A, hA⟩ : ∃ A, l[I] = A := ⟨_, rfl⟩
      rw [hA] at hg
      clear hA
      obtain ⟨q, off, rfl, hcells⟩ := hlc I A hg
      obtain ⟨hbd, hsd⟩ := muchB_false hmu hg (by omega)
      obtain ⟨bvI, svI, hrg, hat⟩ := hcells.range
      have hq := hcells.1
      have hrgr : wr.rangeAt q (off + I * 5) (actL A bvI svI) := fun j u hu => by
        rw [hB.cell (p := ⟨q, off + I * 5 + j, none⟩) hq, Nat.mul_comm I 5]
        exact hrg j u hu
      have HDO : Hid (Calls Try.prog 14 #[.pointer (some ⟨L.g, 0, none⟩), .pointer (some ⟨M.g, 0, none⟩), .agg (actL A bvI svI).toArray] wr fun e w' => e = .returned (.bool true) ∧ Pair w' L M (actS s A) ∧ Chg (both L M) wr w') := does_any L M s A bvI svI wr hP (hat.b.below hB (Nat.le_refl _)) hbd (hat.b.apart hTb) (hat.s.apart hB hTb) hsd
      clear hrg hat hcells hlc hmc hg
      go_wp2_with (first | (go_at_call 14; refine HDO.out.mono ?_; rintro e w5 ⟨rfl, hP5, hc5⟩) | (refine wpList_load_mid rfl 38 _ rfl q (off + I * 5) rfl (actL A bvI svI) _ hrgr Try.underlying38 rfl Try.info38s ?_))
      go_roundw
      case rel => exact ⟨I + 1, _, by go_num, h1, h2, hP5, hB.trans (hc5.below hTb hB.size)⟩
      case measure => simp [intOf]; omega
    · have hnt : ¬ ((I : Int) < (l.length : Int) ∧ (I : Int) < 100) := by omega
      clear hgo hlc
      by_cases h1 : I < l.length
      · have i1 : (I : Int) < (l.length : Int) := by omega
        have i2 : ¬ (I : Int) < 100 := by omega
        clear hnt
        go_wp2_with fail
        refine (crash_any L s (.slice none 0 0) [] (-1) 0 _ hP.p (bools_nil _ _)).mono ?_
        rintro e w5 ⟨rfl, hD5, hc5⟩
        have hB5 : Below w0.heap.size w0 w5 := below_chg hB hc5 hT' (Nat.le_refl _)
        have hcm5 := calm_crash s [] (-1) 0
        clear hP hB hc5
        generalize crashS s [] (-1) 0 = s1 at *
        go_wp2_with fail
        refine (sync_any L s1 _ hD5).mono ?_
        rintro e w6 ⟨rfl, hD6, hc6⟩
        have hsy : syncS s1 = (0, syncedS s1) := by unfold syncS; rw [mayS_calm hcm5]; rfl
        replace hD6 : PDisk w6 L (syncedS s1) := by rw [hsy] at hD6; exact hD6
        have hB6 : Below w0.heap.size w0 w6 := below_chg hB5 hc6 hT' (Nat.le_refl _)
        have hcm6 : calm (syncedS s1) := hcm5
        have HSU : Hid ((syncedS s1).sure = (syncedS s1).now) := rfl
        generalize (syncS s1).1 = E6 at *
        clear hsy hD5 hB5 hc6 hcm5
        generalize syncedS s1 = s2 at *
        have hn2 : s2.now.length = 12 := hD6.ok.now.trans hLn
        have hl2 : ∀ k, k < 12 → (s2.now.getD k []).length = 128 := fun k hk => getD_len hD6.ok.nows (by omega)
        have hT6 := hD6.lt
        have HR2 : Hid (∀ (K : Nat) (W : World), K < 12 → PDisk W L s2 → Calls Try.prog 19 #[.pointer (some ⟨L.g, 0, none⟩), .int .i64 (K : Int)] W fun e w' => ∃ v, e = .returned (.tuple #[v, .int .i64 0]) ∧ Own w' W.heap.size v (s2.now.getD K []) ∧ Below W.heap.size W w') := fun K W hK hW => by
          have := read_any L s2 (K : Int) W hW
          rw [read_calm hcm6 hn2 hK] at this
          exact this
        go_wp2_with fail
        go_loopw [14, 16] (fun sv k wr => ∃ (K : Nat) (vs : List Value), k = .int .i64 (K : Int) ∧ K ≤ 12 ∧ Gat wr w6.heap.size sv vs (s2.now.take K) ∧ Below w6.heap.size w6 wr) (fun _ k _ => 12 - (intOf k).toNat)
        case atStart => exact ⟨0, [], rfl, Nat.zero_le _, Gat.nil _ _, Below.refl _ _⟩
        case round =>
          obtain ⟨K, vs, rfl, hK, hG, hBk⟩ := hrel
          by_cases hk : K < 12
          · have j1 : (K : Int) < 12 := by omega
            have HTK : Hid (s2.now.take (K + 1) = s2.now.take K ++ [s2.now.getD K []]) := take_snoc _ _ (by omega)
            have hlk : (s2.now.take K).length ≤ 1000000 := by rw [List.length_take]; omega
            have hsk := hBk.size
            have HRK : Hid (Calls Try.prog 19 #[.pointer (some ⟨L.g, 0, none⟩), .int .i64 (K : Int)] wr fun e w' => ∃ v, e = .returned (.tuple #[v, .int .i64 0]) ∧ Own w' wr.heap.size v (s2.now.getD K []) ∧ Below wr.heap.size wr w') := HR2.out K _ hk (hD6.after hBk)
            generalize s2.now.take K = TK at *
            generalize s2.now.getD K [] = RK at *
            go_wp2_with (first | (go_at_call 19; refine HRK.out.mono ?_; rintro e w7 ⟨v7, rfl, ho7, hb7⟩; obtain ⟨a7, c7, rfl⟩ := Seg.shapeD ho7.seg; have hB7 := hBk.trans (hb7.mono hsk); have hG7 := (hG.below hb7 (Nat.le_refl _)).below ((Below.refl _ w7).alloc (Nat.le_refl _) (.cells #[.slice a7 RK.length c7] 35)) (Nat.le_refl _); have ho7' := (ho7.mono hsk).alloc (.cells #[.slice a7 RK.length c7] 35); have hB7' := hB7.alloc hB7.size (.cells #[.slice a7 RK.length c7] 35)) | (at_builtin; refine app_row _ rfl (.tmp 86) (.tmp 88) rfl w6.heap.size _ _ _ rfl hG7 w7.heap.size _ (.slice a7 RK.length c7) RK rfl ((Blk.new w7 35 _).cell rfl) ho7' hlk hB7'.size ?_; intro v8 w8 hG8 hg8))
            have hB8 : Below w6.heap.size w6 w8 := below_grown hB7' hg8 hB7'.size (fun q hq => (World.ownsRow.lt hG7.own q hq).1)
            go_roundw
            case rel => exact ⟨K + 1, _, by go_num, hk, by rw [HTK.out]; exact hG8, hB8⟩
            case measure => simp [intOf]; omega
          · obtain rfl : K = 12 := by omega
            have j1 : ¬ ((12 : Nat) : Int) < 12 := by omega
            rw [List.take_of_length_le (by omega)] at hG
            have hDk := hD6.after hBk
            have hBw : Below w0.heap.size w0 wr := hB6.trans (hBk.mono hB6.size)
            have hTk : ∀ q, L.T q → q < w6.heap.size := hT6
            have hb6k := hBk.size
            clear HR2 hBk hD6 hB6
            obtain ⟨wk, rfl⟩ : ∃ wk : World, wk = wr := ⟨_, rfl⟩
            obtain ⟨sa, sc, rfl⟩ := hG.sl
            go_wp2_with fail
            go_loopw [19] (fun i wr => ∃ I : Nat, i = .int .i64 (I : Int) ∧ I ≤ more.length ∧ I ≤ 50 ∧ PDisk wr L (writesS (more.take I) s2) ∧ Chg L.T wk wr ∧ Below w0.heap.size w0 wr) (fun i _ => 50 - (intOf i).toNat)
            case atStart => exact ⟨0, rfl, Nat.zero_le _, by omega, hDk, Chg.refl _ _, hBw⟩
            case round =>
              obtain ⟨J, rfl, hJ, hJ1, hDj, hcj, hBj⟩ := hrel
              clear hDk hBw
              by_cases hgo : J < more.length ∧ J < 50
              · obtain ⟨h1', h2⟩ := hgo
                have i1' : (J : Int) < (more.length : Int) := by omega
                have i2' : (J : Int) < 50 := by omega
                have hg : more[J]? = some more[J] := List.getElem?_eq_getElem h1'
                obtain ⟨A, hA⟩ : ∃ A, more[J] = A := ⟨_, rfl⟩
                rw [hA] at hg
                clear hA
                obtain ⟨q, off, rfl, hq, d0, d1, d2, bvI, svI, d3, d4, hat⟩ := hmc J A hg
                have hcell : ∀ o, wr.cell? ⟨q, o, none⟩ = w0.cell? ⟨q, o, none⟩ := fun o => hBj.cell (p := ⟨q, o, none⟩) hq
                rw [← hcell, Nat.mul_comm] at d0 d1 d3
                have hbd := (muchB_false hmv hg (by omega)).1
                have hsb := hat.b.below hBj (Nat.le_refl _)
                have hap := hat.b.apart hT'
                obtain ⟨aI, cI, rfl⟩ := Seg.shapeD hat.b
                have HST : Hid (writesS (more.take (J + 1)) s2 = if A.act = 0 then (writeS (writesS (more.take J) s2) A.k A.b).2 else writesS (more.take J) s2) := writesS_step hg s2
                clear hmc d2 d4 hcell hg
                by_cases h0 : A.act = 0
                · rw [h0] at d0
                  go_wp2_with fail
                  go_still_tail 11, (by kernel_rfl)
                  go_wp2_with fail
                  refine (write_any L _ A.k _ A.b wr.drew (hDj.after ((Below.refl _ wr).drew)) hsb.drew hap).mono ?_
                  rintro e w5 ⟨rfl, hD5, hc5⟩
                  have hB5 : Below w0.heap.size w0 w5 := below_chg hBj.drew hc5 hT' (Nat.le_refl _)
                  have hcr5 : Chg L.T wk w5 := hcj.drew.trans (S' := L.T) hc5 (fun _ _ h => h)
                  go_wp2
                  go_roundw
                  case rel => exact ⟨J + 1, by go_num, h1', h2, by rw [HST.out, if_pos h0]; exact hD5, hcr5, hB5⟩
                  case measure => simp [intOf]; omega
                · have h0' : (A.act == 0) = false := by simpa using h0
                  go_wp2
                  go_roundw
                  case rel => exact ⟨J + 1, by go_num, h1', h2, by rw [HST.out, if_neg h0]; exact hDj, hcj, hBj⟩
                  case measure => simp [intOf]; omega
              · have hnt : ¬ ((J : Int) < (more.length : Int) ∧ (J : Int) < 50) := by omega
                clear hgo hmc
                have hcm3 := calm_writes (more.take J) s2 hcm6
                have HS3 : Hid ((writesS (more.take J) s2).sure = s2.now) := (writesS_sure _ _).trans HSU.out
                have hGs := hG.chg hcj hTk
                generalize writesS (more.take J) s2 = s3 at *
                clear hcj
                by_cases h9 : J < more.length
                · have i9 : (J : Int) < (more.length : Int) := by omega
                  have i8 : ¬ (J : Int) < 50 := by omega
                  clear hnt
                  have hn3 : s3.now.length = 12 := hDj.ok.now.trans hLn
                  have hl3 : ∀ k, k < 12 → (s3.now.getD k []).length = 128 := fun k hk => getD_len hDj.ok.nows (by omega)
                  have hT9 := hDj.lt
                  have HR3 : Hid (∀ (K : Nat) (W : World), K < 12 → PDisk W L s3 → Calls Try.prog 19 #[.pointer (some ⟨L.g, 0, none⟩), .int .i64 (K : Int)] W fun e w' => ∃ v, e = .returned (.tuple #[v, .int .i64 0]) ∧ Own w' W.heap.size v (s3.now.getD K []) ∧ Below W.heap.size W w') := fun K W hK hW => by
                    have := read_any L s3 (K : Int) W hW
                    rw [read_calm hcm3 hn3 hK] at this
                    exact this
                  obtain ⟨w9, rfl⟩ : ∃ w9 : World, w9 = wr := ⟨_, rfl⟩
                  go_wp2_with fail
                  go_loopw [15, 20] (fun nv k wr => ∃ (K : Nat) (vs : List Value), k = .int .i64 (K : Int) ∧ K ≤ 12 ∧ Gat wr w9.heap.size nv vs (s3.now.take K) ∧ Below w9.heap.size w9 wr) (fun _ k _ => 12 - (intOf k).toNat)
                  case atStart => exact ⟨0, [], rfl, Nat.zero_le _, Gat.nil _ _, Below.refl _ _⟩
                  case round =>
                    obtain ⟨K, us, rfl, hK, hN, hBk⟩ := hrel
                    by_cases hk : K < 12
                    · have j2 : (K : Int) < 12 := by omega
                      have HTK : Hid (s3.now.take (K + 1) = s3.now.take K ++ [s3.now.getD K []]) := take_snoc _ _ (by omega)
                      have hlk : (s3.now.take K).length ≤ 1000000 := by rw [List.length_take]; omega
                      have hsk := hBk.size
                      have HRK : Hid (Calls Try.prog 19 #[.pointer (some ⟨L.g, 0, none⟩), .int .i64 (K : Int)] wr fun e w' => ∃ v, e = .returned (.tuple #[v, .int .i64 0]) ∧ Own w' wr.heap.size v (s3.now.getD K []) ∧ Below wr.heap.size wr w') := HR3.out K _ hk (hDj.after hBk)
                      generalize s3.now.take K = TK at *
                      generalize s3.now.getD K [] = RK at *
                      go_wp2_with (first | (go_at_call 19; refine HRK.out.mono ?_; rintro e w7 ⟨v7, rfl, ho7, hb7⟩; obtain ⟨a7, c7, rfl⟩ := Seg.shapeD ho7.seg; have hB7 := hBk.trans (hb7.mono hsk); have hG7 := (hN.below hb7 (Nat.le_refl _)).below ((Below.refl _ w7).alloc (Nat.le_refl _) (.cells #[.slice a7 RK.length c7] 35)) (Nat.le_refl _); have ho7' := (ho7.mono hsk).alloc (.cells #[.slice a7 RK.length c7] 35); have hB7' := hB7.alloc hB7.size (.cells #[.slice a7 RK.length c7] 35)) | (at_builtin; refine app_row _ rfl (.tmp 128) (.tmp 130) rfl w9.heap.size _ _ _ rfl hG7 w7.heap.size _ (.slice a7 RK.length c7) RK rfl ((Blk.new w7 35 _).cell rfl) ho7' hlk hB7'.size ?_; intro v8 w8 hG8 hg8))
                      have hB8 : Below w9.heap.size w9 w8 := below_grown hB7' hg8 hB7'.size (fun q hq => (World.ownsRow.lt hG7.own q hq).1)
                      go_roundw
                      case rel => exact ⟨K + 1, _, by go_num, hk, by rw [HTK.out]; exact hG8, hB8⟩
                      case measure => simp [intOf]; omega
                    · obtain rfl : K = 12 := by omega
                      have j2 : ¬ ((12 : Nat) : Int) < 12 := by omega
                      rw [List.take_of_length_le (by omega)] at hN
                      have hDk := hDj.after hBk
                      have hBw : Below w0.heap.size w0 wr := hBj.trans (hBk.mono hBj.size)
                      have hGk := hGs.below hBk (Nat.le_refl _)
                      clear HR3 hBk hDj hBj hGs
                      have hbx := hbox.below hBw hbox.lt
                      have b1 := hbx.cell (j := 1) rfl
                      have b2 := hbx.cell (j := 2) rfl
                      have b4 := hbx.cell (j := 4) rfl
                      obtain ⟨na, nc, rfl⟩ := hN.sl
                      go_wp2_with fail
                      refine (crash_any L s3 _ x.stay x.k x.n _ hDk (hx0.s.apart hBw hT')).mono ?_
                      rintro e wc ⟨rfl, hDc, hcc⟩
                      have hBc : Below w0.heap.size w0 wc := below_chg hBw hcc hT' (Nat.le_refl _)
                      have hGc := hGk.chg hcc hTk
                      have hNc := hN.chg hcc hT9
                      have hbxc := hbox.below hBc hbox.lt
                      have HROW : Hid (∀ k, k < 12 → (crashS s3 x.stay x.k x.n).now.getD k [] = s2.now.getD k [] ∨ (crashS s3 x.stay x.k x.n).now.getD k [] = s3.now.getD k [] ∨ ((crashS s3 x.stay x.k x.n).now.getD k [] = (s3.now.getD k []).take (max 0 (min x.n 128)).toNat ++ (s2.now.getD k []).drop (max 0 (min x.n 128)).toNat ∧ tornAt s3 x.k k)) := fun k hk => by
                        have := crash_row hDk.ok x.stay x.k x.n (k := k) (by rw [hLn]; exact hk)
                        rw [HS3.out] at this
                        exact this
                      have hcm4 := calm_crash s3 x.stay x.k x.n
                      clear hDk hBw hcc hGk hN hbx b1 b2 b4
                      generalize crashS s3 x.stay x.k x.n = s4 at *
                      have hn4 : s4.now.length = 12 := hDc.ok.now.trans hLn
                      have HLEN : Hid (∀ k, k < 12 → (s4.now.getD k []).length = 128 ∧ (s2.now.getD k []).length = 128 ∧ (s3.now.getD k []).length = 128) := fun k hk => ⟨getD_len hDc.ok.nows (by omega), hl2 k hk, hl3 k hk⟩
                      have HR4 : Hid (∀ (K : Nat) (W : World), K < 12 → PDisk W L s4 → Calls Try.prog 19 #[.pointer (some ⟨L.g, 0, none⟩), .int .i64 (K : Int)] W fun e w' => ∃ v, e = .returned (.tuple #[v, .int .i64 0]) ∧ Own w' W.heap.size v (s4.now.getD K []) ∧ Below W.heap.size W w') := fun K W hK hW => by
                        have := read_any L s4 (K : Int) W hW
                        rw [read_calm hcm4 hn4 hK] at this
                        exact this
                      have hSb := hGc.at (k := 0) (by omega)
                      obtain ⟨sb, sc', _, _, he, _, _⟩ := hSb
                      cases he
                      have hNb := hNc.at (k := 0) (by omega)
                      obtain ⟨nb, nc', _, _, he, _, _⟩ := hNb
                      cases he
                      have hdd : min (max x.n 0) 128 = ((max 0 (min x.n 128)).toNat : Int) := by omega
                      have hnn : (max 0 (min x.n 128)).toNat ≤ 128 := by omega
                      generalize (max 0 (min x.n 128)).toNat = nn at *
                      go_wp2_with fail
                      go_loopw [23, 24] (fun t k wr => ∃ (K T : Nat), k = .int .i64 (K : Int) ∧ K ≤ 12 ∧ t = .int .i64 (T : Int) ∧ T ≤ 1 ∧ (T = 1 → ∃ j, j < K ∧ tornAt s3 x.k j) ∧ Below wc.heap.size wc wr) (fun _ k _ => 12 - (intOf k).toNat)
                      case atStart => exact ⟨0, 0, rfl, Nat.zero_le _, rfl, by omega, fun h => by omega, Below.refl _ _⟩
                      case round =>
                        obtain ⟨K, T, rfl, hK, rfl, hT1, hTT, hBk⟩ := hrel
                        have HTT : Hid (T = 1 → ∃ j, j < K ∧ tornAt s3 x.k j) := hTT
                        clear hTT
                        by_cases hk : K < 12
                        · have j3 : (K : Int) < 12 := by omega
                          obtain ⟨a1, c1, e1, g1⟩ := (hGc.below hBk (Nat.le_refl _)).cell (k := K) (by omega)
                          obtain ⟨a2, c2, e2, g2⟩ := (hNc.below hBk (Nat.le_refl _)).cell (k := K) (by omega)
                          obtain ⟨lb, ls, ln⟩ := HLEN.out K hk
                          have HRK : Hid (Calls Try.prog 19 #[.pointer (some ⟨L.g, 0, none⟩), .int .i64 (K : Int)] wr fun e w' => ∃ v, e = .returned (.tuple #[v, .int .i64 0]) ∧ Own w' wr.heap.size v (s4.now.getD K []) ∧ Below wr.heap.size wr w') := HR4.out K _ hk (hDc.after hBk)
                          have HRW := HROW.out K hk
                          have hbk := hbxc.below hBk hbxc.lt
                          have b2 := hbk.cell (j := 2) rfl
                          have hbl := hbk.lt
                          generalize s4.now.getD K [] = B at *
                          generalize s2.now.getD K [] = SU at *
                          generalize s3.now.getD K [] = NW at *
                          rw [ls] at e1 g1
                          rw [ln] at e2 g2
                          replace HRW : Hid (B = SU ∨ B = NW ∨ (B = NW.take nn ++ SU.drop nn ∧ tornAt s3 x.k K)) := HRW
                          clear HROW HLEN HR4
                          go_wp2_with fail
                          refine HRK.out.mono ?_
                          rintro e w7 ⟨v7, rfl, ho7, hb7⟩
                          have g7 := ho7.seg
                          obtain ⟨a7, c7, hv7⟩ := Seg.shapeD g7
                          rw [lb] at hv7
                          subst hv7
                          have g1' := g1.below hb7 (Nat.le_refl _)
                          have g2' := g2.below hb7 (Nat.le_refl _)
                          have e1' : w7.cell? ⟨sb, K, none⟩ = some (.slice a1 128 c1) := by rw [hb7.cell (p := ⟨sb, K, none⟩) (block_lt_of_cell e1)]; exact e1
                          have e2' : w7.cell? ⟨nb, K, none⟩ = some (.slice a2 128 c2) := by rw [hb7.cell (p := ⟨nb, K, none⟩) (block_lt_of_cell e2)]; exact e2
                          have b2' : w7.cell? ⟨w.heap.size, 2, none⟩ = some (.int .i64 x.n) := by rw [hb7.cell (p := ⟨w.heap.size, 2, none⟩) hbl]; exact b2
                          have hB7 : Below wc.heap.size wc w7 := hBk.trans (hb7.mono hBk.size)
                          have k7 := fun q => seg_stringD (show Seg (w7.drewN q) _ _ from g7) 9 Try.underlying9
                          have k1 := fun q => seg_stringD (show Seg (w7.drewN q) _ _ from g1') 9 Try.underlying9
                          have k2 := fun q => seg_stringD (show Seg (w7.drewN q) _ _ from g2') 9 Try.underlying9
                          clear ho7 hb7 HRK e1 e2 b2 hbk hbl g1 g2
                          by_cases eS : B = SU
                          · subst eS
                            generalize (⟨B.toArray⟩ : ByteArray) = X at k7 k1
                            clear k2 HRW
                            go_wp2_with fail
                            go_quiet (fail)
                            go_wp2
                            go_roundw
                            case rel => exact ⟨K + 1, T, by go_num, hk, rfl, hT1, fun h => by obtain ⟨j, hj, ht⟩ := HTT.out h; exact ⟨j, by omega, ht⟩, Below.drewN hB7 _⟩
                            case measure => simp [intOf]; omega
                          have hne1 := str_ne eS
                          by_cases eN : B = NW
                          · subst eN
                            clear HRW eS
                            generalize (⟨SU.toArray⟩ : ByteArray) = XS at k1 hne1
                            generalize (⟨B.toArray⟩ : ByteArray) = X at k7 k2 hne1
                            go_wp2_with fail
                            go_quiet (fail)
                            go_wp2
                            go_roundw
                            case rel => exact ⟨K + 1, T, by go_num, hk, rfl, hT1, fun h => by obtain ⟨j, hj, ht⟩ := HTT.out h; exact ⟨j, by omega, ht⟩, Below.drewN hB7 _⟩
                            case measure => simp [intOf]; omega
                          have hne2 := str_ne eN
                          obtain ⟨hBB, hTor⟩ : B = NW.take nn ++ SU.drop nn ∧ tornAt s3 x.k K := by
                            rcases HRW.out with h | h | h
                            · exact absurd h eS
                            · exact absurd h eN
                            · exact h
                          obtain rfl : T = 0 := by
                            by_cases h : T = 1
                            · obtain ⟨j, hj, ht⟩ := HTT.out h
                              have := tornAt_one ht hTor
                              omega
                            · omega
                          have HTOR : Hid (tornAt s3 x.k K) := hTor
                          have hlt : (NW.take nn).length = nn := by rw [List.length_take]; omega
                          have tB : B.take nn = NW.take nn := by rw [hBB, List.take_append_of_le_length (by omega), List.take_of_length_le (by omega)]
                          have dB : B.drop nn = SU.drop nn := by rw [hBB, List.drop_append_of_le_length (by omega), List.drop_of_length_le (by omega), List.nil_append]
                          obtain ⟨q7, hc7⟩ := Seg.takesD g7 nn hnn
                          obtain ⟨q2, hc2⟩ := Seg.takesD g2' nn hnn
                          have r7 := Seg.dropsD g7 nn hnn
                          have r1 := Seg.dropsD g1' nn hnn
                          rw [tB] at q7
                          rw [dB] at r7
                          have s7 := slice_toD a7 128 c7 nn hc7
                          have s2' := slice_toD a2 128 c2 nn hc2
                          have u7 := slice_restD a7 128 c7 nn hnn
                          have u1 := slice_restD a1 128 c1 nn hnn
                          generalize restD a7 c7 nn = ra7 at *
                          generalize restD a1 c1 nn = ra1 at *
                          generalize 128 - nn = dn at *
                          generalize c7 - nn = cc7 at *
                          generalize c1 - nn = cc1 at *
                          clear HRW eS eN hBB hTor hlt tB dB
                          generalize (⟨SU.toArray⟩ : ByteArray) = XS at k1 hne1
                          generalize (⟨NW.toArray⟩ : ByteArray) = XN at k2 hne2
                          generalize (⟨B.toArray⟩ : ByteArray) = X at k7 hne1 hne2
                          go_wp2_with fail
                          go_quiet (fail)
                          have m7 := fun q => seg_stringD (show Seg ((w7.drewN nq).drewN q) _ _ from q7) 9 Try.underlying9
                          have m2 := fun q => seg_stringD (show Seg ((w7.drewN nq).drewN q) _ _ from q2) 9 Try.underlying9
                          have n7 := fun q => seg_stringD (show Seg ((w7.drewN nq).drewN q) _ _ from r7) 9 Try.underlying9
                          have n1 := fun q => seg_stringD (show Seg ((w7.drewN nq).drewN q) _ _ from r1) 9 Try.underlying9
                          have e1'' : (w7.drewN nq).cell? ⟨sb, K, none⟩ = some (.slice a1 128 c1) := e1'
                          have e2'' : (w7.drewN nq).cell? ⟨nb, K, none⟩ = some (.slice a2 128 c2) := e2'
                          have b2'' : (w7.drewN nq).cell? ⟨w.heap.size, 2, none⟩ = some (.int .i64 x.n) := b2'
                          have hB8 : Below wc.heap.size wc (w7.drewN nq) := Below.drewN hB7 nq
                          clear k7 k1 k2 g7 g1' g2' q7 q2 r7 r1 e1' e2' b2' hB7 hne1 hne2
                          generalize w7.drewN nq = W8 at *
                          generalize (⟨(NW.take nn).toArray⟩ : ByteArray) = X1 at m7 m2
                          generalize (⟨(SU.drop nn).toArray⟩ : ByteArray) = X2 at n7 n1
                          go_wp2_with fail
                          go_quiet (fail)
                          go_wp2
                          go_roundw
                          case rel => exact ⟨K + 1, 1, by go_num, hk, by go_num, by omega, fun _ => ⟨K, by omega, HTOR.out⟩, Below.drewN hB8 _⟩
                          case measure => simp [intOf]; omega
                        · have j3 : ¬ (K : Int) < 12 := by omega
                          have t1 : (T : Int) ≤ 1 := by omega
                          go_wp2
                          go_ret
                          exact ⟨rfl, HEND.out _ (hBc.trans (hBk.mono hBc.size))⟩
                · have i9 : ¬ (J : Int) < (more.length : Int) := by omega
                  clear hnt
                  have hn3 : s3.now.length = 12 := hDj.ok.now.trans hLn
                  have hl3 : ∀ k, k < 12 → (s3.now.getD k []).length = 128 := fun k hk => getD_len hDj.ok.nows (by omega)
                  have hT9 := hDj.lt
                  have HR3 : Hid (∀ (K : Nat) (W : World), K < 12 → PDisk W L s3 → Calls Try.prog 19 #[.pointer (some ⟨L.g, 0, none⟩), .int .i64 (K : Int)] W fun e w' => ∃ v, e = .returned (.tuple #[v, .int .i64 0]) ∧ Own w' W.heap.size v (s3.now.getD K []) ∧ Below W.heap.size W w') := fun K W hK hW => by
                    have := read_any L s3 (K : Int) W hW
                    rw [read_calm hcm3 hn3 hK] at this
                    exact this
                  obtain ⟨w9, rfl⟩ : ∃ w9 : World, w9 = wr := ⟨_, rfl⟩
                  go_wp2_with fail
                  go_loopw [15, 20] (fun nv k wr => ∃ (K : Nat) (vs : List Value), k = .int .i64 (K : Int) ∧ K ≤ 12 ∧ Gat wr w9.heap.size nv vs (s3.now.take K) ∧ Below w9.heap.size w9 wr) (fun _ k _ => 12 - (intOf k).toNat)
                  case atStart => exact ⟨0, [], rfl, Nat.zero_le _, Gat.nil _ _, Below.refl _ _⟩
                  case round =>
                    obtain ⟨K, us, rfl, hK, hN, hBk⟩ := hrel
                    by_cases hk : K < 12
                    · have j2 : (K : Int) < 12 := by omega
                      have HTK : Hid (s3.now.take (K + 1) = s3.now.take K ++ [s3.now.getD K []]) := take_snoc _ _ (by omega)
                      have hlk : (s3.now.take K).length ≤ 1000000 := by rw [List.length_take]; omega
                      have hsk := hBk.size
                      have HRK : Hid (Calls Try.prog 19 #[.pointer (some ⟨L.g, 0, none⟩), .int .i64 (K : Int)] wr fun e w' => ∃ v, e = .returned (.tuple #[v, .int .i64 0]) ∧ Own w' wr.heap.size v (s3.now.getD K []) ∧ Below wr.heap.size wr w') := HR3.out K _ hk (hDj.after hBk)
                      generalize s3.now.take K = TK at *
                      generalize s3.now.getD K [] = RK at *
                      go_wp2_with (first | (go_at_call 19; refine HRK.out.mono ?_; rintro e w7 ⟨v7, rfl, ho7, hb7⟩; obtain ⟨a7, c7, rfl⟩ := Seg.shapeD ho7.seg; have hB7 := hBk.trans (hb7.mono hsk); have hG7 := (hN.below hb7 (Nat.le_refl _)).below ((Below.refl _ w7).alloc (Nat.le_refl _) (.cells #[.slice a7 RK.length c7] 35)) (Nat.le_refl _); have ho7' := (ho7.mono hsk).alloc (.cells #[.slice a7 RK.length c7] 35); have hB7' := hB7.alloc hB7.size (.cells #[.slice a7 RK.length c7] 35)) | (at_builtin; refine app_row _ rfl (.tmp 128) (.tmp 130) rfl w9.heap.size _ _ _ rfl hG7 w7.heap.size _ (.slice a7 RK.length c7) RK rfl ((Blk.new w7 35 _).cell rfl) ho7' hlk hB7'.size ?_; intro v8 w8 hG8 hg8))
                      have hB8 : Below w9.heap.size w9 w8 := below_grown hB7' hg8 hB7'.size (fun q hq => (World.ownsRow.lt hG7.own q hq).1)
                      go_roundw
                      case rel => exact ⟨K + 1, _, by go_num, hk, by rw [HTK.out]; exact hG8, hB8⟩
                      case measure => simp [intOf]; omega
                    · obtain rfl : K = 12 := by omega
                      have j2 : ¬ ((12 : Nat) : Int) < 12 := by omega
                      rw [List.take_of_length_le (by omega)] at hN
                      have hDk := hDj.after hBk
                      have hBw : Below w0.heap.size w0 wr := hBj.trans (hBk.mono hBj.size)
                      have hGk := hGs.below hBk (Nat.le_refl _)
                      clear HR3 hBk hDj hBj hGs
                      have hbx := hbox.below hBw hbox.lt
                      have b1 := hbx.cell (j := 1) rfl
                      have b2 := hbx.cell (j := 2) rfl
                      have b4 := hbx.cell (j := 4) rfl
                      obtain ⟨na, nc, rfl⟩ := hN.sl
                      go_wp2_with fail
                      refine (crash_any L s3 _ x.stay x.k x.n _ hDk (hx0.s.apart hBw hT')).mono ?_
                      rintro e wc ⟨rfl, hDc, hcc⟩
                      have hBc : Below w0.heap.size w0 wc := below_chg hBw hcc hT' (Nat.le_refl _)
                      have hGc := hGk.chg hcc hTk
                      have hNc := hN.chg hcc hT9
                      have hbxc := hbox.below hBc hbox.lt
                      have HROW : Hid (∀ k, k < 12 → (crashS s3 x.stay x.k x.n).now.getD k [] = s2.now.getD k [] ∨ (crashS s3 x.stay x.k x.n).now.getD k [] = s3.now.getD k [] ∨ ((crashS s3 x.stay x.k x.n).now.getD k [] = (s3.now.getD k []).take (max 0 (min x.n 128)).toNat ++ (s2.now.getD k []).drop (max 0 (min x.n 128)).toNat ∧ tornAt s3 x.k k)) := fun k hk => by
                        have := crash_row hDk.ok x.stay x.k x.n (k := k) (by rw [hLn]; exact hk)
                        rw [HS3.out] at this
                        exact this
                      have hcm4 := calm_crash s3 x.stay x.k x.n
                      clear hDk hBw hcc hGk hN hbx b1 b2 b4
                      generalize crashS s3 x.stay x.k x.n = s4 at *
                      have hn4 : s4.now.length = 12 := hDc.ok.now.trans hLn
                      have HLEN : Hid (∀ k, k < 12 → (s4.now.getD k []).length = 128 ∧ (s2.now.getD k []).length = 128 ∧ (s3.now.getD k []).length = 128) := fun k hk => ⟨getD_len hDc.ok.nows (by omega), hl2 k hk, hl3 k hk⟩
                      have HR4 : Hid (∀ (K : Nat) (W : World), K < 12 → PDisk W L s4 → Calls Try.prog 19 #[.pointer (some ⟨L.g, 0, none⟩), .int .i64 (K : Int)] W fun e w' => ∃ v, e = .returned (.tuple #[v, .int .i64 0]) ∧ Own w' W.heap.size v (s4.now.getD K []) ∧ Below W.heap.size W w') := fun K W hK hW => by
                        have := read_any L s4 (K : Int) W hW
                        rw [read_calm hcm4 hn4 hK] at this
                        exact this
                      have hSb := hGc.at (k := 0) (by omega)
                      obtain ⟨sb, sc', _, _, he, _, _⟩ := hSb
                      cases he
                      have hNb := hNc.at (k := 0) (by omega)
                      obtain ⟨nb, nc', _, _, he, _, _⟩ := hNb
                      cases he
                      have hdd : min (max x.n 0) 128 = ((max 0 (min x.n 128)).toNat : Int) := by omega
                      have hnn : (max 0 (min x.n 128)).toNat ≤ 128 := by omega
                      generalize (max 0 (min x.n 128)).toNat = nn at *
                      go_wp2_with fail
                      go_loopw [23, 24] (fun t k wr => ∃ (K T : Nat), k = .int .i64 (K : Int) ∧ K ≤ 12 ∧ t = .int .i64 (T : Int) ∧ T ≤ 1 ∧ (T = 1 → ∃ j, j < K ∧ tornAt s3 x.k j) ∧ Below wc.heap.size wc wr) (fun _ k _ => 12 - (intOf k).toNat)
                      case atStart => exact ⟨0, 0, rfl, Nat.zero_le _, rfl, by omega, fun h => by omega, Below.refl _ _⟩
                      case round =>
                        obtain ⟨K, T, rfl, hK, rfl, hT1, hTT, hBk⟩ := hrel
                        have HTT : Hid (T = 1 → ∃ j, j < K ∧ tornAt s3 x.k j) := hTT
                        clear hTT
                        by_cases hk : K < 12
                        · have j3 : (K : Int) < 12 := by omega
                          obtain ⟨a1, c1, e1, g1⟩ := (hGc.below hBk (Nat.le_refl _)).cell (k := K) (by omega)
                          obtain ⟨a2, c2, e2, g2⟩ := (hNc.below hBk (Nat.le_refl _)).cell (k := K) (by omega)
                          obtain ⟨lb, ls, ln⟩ := HLEN.out K hk
                          have HRK : Hid (Calls Try.prog 19 #[.pointer (some ⟨L.g, 0, none⟩), .int .i64 (K : Int)] wr fun e w' => ∃ v, e = .returned (.tuple #[v, .int .i64 0]) ∧ Own w' wr.heap.size v (s4.now.getD K []) ∧ Below wr.heap.size wr w') := HR4.out K _ hk (hDc.after hBk)
                          have HRW := HROW.out K hk
                          have hbk := hbxc.below hBk hbxc.lt
                          have b2 := hbk.cell (j := 2) rfl
                          have hbl := hbk.lt
                          generalize s4.now.getD K [] = B at *
                          generalize s2.now.getD K [] = SU at *
                          generalize s3.now.getD K [] = NW at *
                          rw [ls] at e1 g1
                          rw [ln] at e2 g2
                          replace HRW : Hid (B = SU ∨ B = NW ∨ (B = NW.take nn ++ SU.drop nn ∧ tornAt s3 x.k K)) := HRW
                          clear HROW HLEN HR4
                          go_wp2_with fail
                          refine HRK.out.mono ?_
                          rintro e w7 ⟨v7, rfl, ho7, hb7⟩
                          have g7 := ho7.seg
                          obtain ⟨a7, c7, hv7⟩ := Seg.shapeD g7
                          rw [lb] at hv7
                          subst hv7
                          have g1' := g1.below hb7 (Nat.le_refl _)
                          have g2' := g2.below hb7 (Nat.le_refl _)
                          have e1' : w7.cell? ⟨sb, K, none⟩ = some (.slice a1 128 c1) := by rw [hb7.cell (p := ⟨sb, K, none⟩) (block_lt_of_cell e1)]; exact e1
                          have e2' : w7.cell? ⟨nb, K, none⟩ = some (.slice a2 128 c2) := by rw [hb7.cell (p := ⟨nb, K, none⟩) (block_lt_of_cell e2)]; exact e2
                          have b2' : w7.cell? ⟨w.heap.size, 2, none⟩ = some (.int .i64 x.n) := by rw [hb7.cell (p := ⟨w.heap.size, 2, none⟩) hbl]; exact b2
                          have hB7 : Below wc.heap.size wc w7 := hBk.trans (hb7.mono hBk.size)
                          have k7 := fun q => seg_stringD (show Seg (w7.drewN q) _ _ from g7) 9 Try.underlying9
                          have k1 := fun q => seg_stringD (show Seg (w7.drewN q) _ _ from g1') 9 Try.underlying9
                          have k2 := fun q => seg_stringD (show Seg (w7.drewN q) _ _ from g2') 9 Try.underlying9
                          clear ho7 hb7 HRK e1 e2 b2 hbk hbl g1 g2
                          by_cases eS : B = SU
                          · subst eS
                            generalize (⟨B.toArray⟩ : ByteArray) = X at k7 k1
                            clear k2 HRW
                            go_wp2_with fail
                            go_quiet (fail)
                            go_wp2
                            go_roundw
                            case rel => exact ⟨K + 1, T, by go_num, hk, rfl, hT1, fun h => by obtain ⟨j, hj, ht⟩ := HTT.out h; exact ⟨j, by omega, ht⟩, Below.drewN hB7 _⟩
                            case measure => simp [intOf]; omega
                          have hne1 := str_ne eS
                          by_cases eN : B = NW
                          · subst eN
                            clear HRW eS
                            generalize (⟨SU.toArray⟩ : ByteArray) = XS at k1 hne1
                            generalize (⟨B.toArray⟩ : ByteArray) = X at k7 k2 hne1
                            go_wp2_with fail
                            go_quiet (fail)
                            go_wp2
                            go_roundw
                            case rel => exact ⟨K + 1, T, by go_num, hk, rfl, hT1, fun h => by obtain ⟨j, hj, ht⟩ := HTT.out h; exact ⟨j, by omega, ht⟩, Below.drewN hB7 _⟩
                            case measure => simp [intOf]; omega
                          have hne2 := str_ne eN
                          obtain ⟨hBB, hTor⟩ : B = NW.take nn ++ SU.drop nn ∧ tornAt s3 x.k K := by
                            rcases HRW.out with h | h | h
                            · exact absurd h eS
                            · exact absurd h eN
                            · exact h
                          obtain rfl : T = 0 := by
                            by_cases h : T = 1
                            · obtain ⟨j, hj, ht⟩ := HTT.out h
                              have := tornAt_one ht hTor
                              omega
                            · omega
                          have HTOR : Hid (tornAt s3 x.k K) := hTor
                          have hlt : (NW.take nn).length = nn := by rw [List.length_take]; omega
                          have tB : B.take nn = NW.take nn := by rw [hBB, List.take_append_of_le_length (by omega), List.take_of_length_le (by omega)]
                          have dB : B.drop nn = SU.drop nn := by rw [hBB, List.drop_append_of_le_length (by omega), List.drop_of_length_le (by omega), List.nil_append]
                          obtain ⟨q7, hc7⟩ := Seg.takesD g7 nn hnn
                          obtain ⟨q2, hc2⟩ := Seg.takesD g2' nn hnn
                          have r7 := Seg.dropsD g7 nn hnn
                          have r1 := Seg.dropsD g1' nn hnn
                          rw [tB] at q7
                          rw [dB] at r7
                          have s7 := slice_toD a7 128 c7 nn hc7
                          have s2' := slice_toD a2 128 c2 nn hc2
                          have u7 := slice_restD a7 128 c7 nn hnn
                          have u1 := slice_restD a1 128 c1 nn hnn
                          generalize restD a7 c7 nn = ra7 at *
                          generalize restD a1 c1 nn = ra1 at *
                          generalize 128 - nn = dn at *
                          generalize c7 - nn = cc7 at *
                          generalize c1 - nn = cc1 at *
                          clear HRW eS eN hBB hTor hlt tB dB
                          generalize (⟨SU.toArray⟩ : ByteArray) = XS at k1 hne1
                          generalize (⟨NW.toArray⟩ : ByteArray) = XN at k2 hne2
                          generalize (⟨B.toArray⟩ : ByteArray) = X at k7 hne1 hne2
                          go_wp2_with fail
                          go_quiet (fail)
                          have m7 := fun q => seg_stringD (show Seg ((w7.drewN nq).drewN q) _ _ from q7) 9 Try.underlying9
                          have m2 := fun q => seg_stringD (show Seg ((w7.drewN nq).drewN q) _ _ from q2) 9 Try.underlying9
                          have n7 := fun q => seg_stringD (show Seg ((w7.drewN nq).drewN q) _ _ from r7) 9 Try.underlying9
                          have n1 := fun q => seg_stringD (show Seg ((w7.drewN nq).drewN q) _ _ from r1) 9 Try.underlying9
                          have e1'' : (w7.drewN nq).cell? ⟨sb, K, none⟩ = some (.slice a1 128 c1) := e1'
                          have e2'' : (w7.drewN nq).cell? ⟨nb, K, none⟩ = some (.slice a2 128 c2) := e2'
                          have b2'' : (w7.drewN nq).cell? ⟨w.heap.size, 2, none⟩ = some (.int .i64 x.n) := b2'
                          have hB8 : Below wc.heap.size wc (w7.drewN nq) := Below.drewN hB7 nq
                          clear k7 k1 k2 g7 g1' g2' q7 q2 r7 r1 e1' e2' b2' hB7 hne1 hne2
                          generalize w7.drewN nq = W8 at *
                          generalize (⟨(NW.take nn).toArray⟩ : ByteArray) = X1 at m7 m2
                          generalize (⟨(SU.drop nn).toArray⟩ : ByteArray) = X2 at n7 n1
                          go_wp2_with fail
                          go_quiet (fail)
                          go_wp2
                          go_roundw
                          case rel => exact ⟨K + 1, 1, by go_num, hk, by go_num, by omega, fun _ => ⟨K, by omega, HTOR.out⟩, Below.drewN hB8 _⟩
                          case measure => simp [intOf]; omega
                        · have j3 : ¬ (K : Int) < 12 := by omega
                          have t1 : (T : Int) ≤ 1 := by omega
                          go_wp2
                          go_ret
                          exact ⟨rfl, HEND.out _ (hBc.trans (hBk.mono hBc.size))⟩
      · have i1 : ¬ (I : Int) < (l.length : Int) := by omega
        clear hnt
        go_wp2_with fail
        refine (crash_any L s (.slice none 0 0) [] (-1) 0 _ hP.p (bools_nil _ _)).mono ?_
        rintro e w5 ⟨rfl, hD5, hc5⟩
        have hB5 : Below w0.heap.size w0 w5 := below_chg hB hc5 hT' (Nat.le_refl _)
        have hcm5 := calm_crash s [] (-1) 0
        clear hP hB hc5
        generalize crashS s [] (-1) 0 = s1 at *
        go_wp2_with fail
        refine (sync_any L s1 _ hD5).mono ?_
        rintro e w6 ⟨rfl, hD6, hc6⟩
        have hsy : syncS s1 = (0, syncedS s1) := by unfold syncS; rw [mayS_calm hcm5]; rfl
        replace hD6 : PDisk w6 L (syncedS s1) := by rw [hsy] at hD6; exact hD6
        have hB6 : Below w0.heap.size w0 w6 := below_chg hB5 hc6 hT' (Nat.le_refl _)
        have hcm6 : calm (syncedS s1) := hcm5
        have HSU : Hid ((syncedS s1).sure = (syncedS s1).now) := rfl
        generalize (syncS s1).1 = E6 at *
        clear hsy hD5 hB5 hc6 hcm5
        generalize syncedS s1 = s2 at *
        have hn2 : s2.now.length = 12 := hD6.ok.now.trans hLn
        have hl2 : ∀ k, k < 12 → (s2.now.getD k []).length = 128 := fun k hk => getD_len hD6.ok.nows (by omega)
        have hT6 := hD6.lt
        have HR2 : Hid (∀ (K : Nat) (W : World), K < 12 → PDisk W L s2 → Calls Try.prog 19 #[.pointer (some ⟨L.g, 0, none⟩), .int .i64 (K : Int)] W fun e w' => ∃ v, e = .returned (.tuple #[v, .int .i64 0]) ∧ Own w' W.heap.size v (s2.now.getD K []) ∧ Below W.heap.size W w') := fun K W hK hW => by
          have := read_any L s2 (K : Int) W hW
          rw [read_calm hcm6 hn2 hK] at this
          exact this
        go_wp2_with fail
        go_loopw [14, 16] (fun sv k wr => ∃ (K : Nat) (vs : List Value), k = .int .i64 (K : Int) ∧ K ≤ 12 ∧ Gat wr w6.heap.size sv vs (s2.now.take K) ∧ Below w6.heap.size w6 wr) (fun _ k _ => 12 - (intOf k).toNat)
        case atStart => exact ⟨0, [], rfl, Nat.zero_le _, Gat.nil _ _, Below.refl _ _⟩
        case round =>
          obtain ⟨K, vs, rfl, hK, hG, hBk⟩ := hrel
          by_cases hk : K < 12
          · have j1 : (K : Int) < 12 := by omega
            have HTK : Hid (s2.now.take (K + 1) = s2.now.take K ++ [s2.now.getD K []]) := take_snoc _ _ (by omega)
            have hlk : (s2.now.take K).length ≤ 1000000 := by rw [List.length_take]; omega
            have hsk := hBk.size
            have HRK : Hid (Calls Try.prog 19 #[.pointer (some ⟨L.g, 0, none⟩), .int .i64 (K : Int)] wr fun e w' => ∃ v, e = .returned (.tuple #[v, .int .i64 0]) ∧ Own w' wr.heap.size v (s2.now.getD K []) ∧ Below wr.heap.size wr w') := HR2.out K _ hk (hD6.after hBk)
            generalize s2.now.take K = TK at *
            generalize s2.now.getD K [] = RK at *
            go_wp2_with (first | (go_at_call 19; refine HRK.out.mono ?_; rintro e w7 ⟨v7, rfl, ho7, hb7⟩; obtain ⟨a7, c7, rfl⟩ := Seg.shapeD ho7.seg; have hB7 := hBk.trans (hb7.mono hsk); have hG7 := (hG.below hb7 (Nat.le_refl _)).below ((Below.refl _ w7).alloc (Nat.le_refl _) (.cells #[.slice a7 RK.length c7] 35)) (Nat.le_refl _); have ho7' := (ho7.mono hsk).alloc (.cells #[.slice a7 RK.length c7] 35); have hB7' := hB7.alloc hB7.size (.cells #[.slice a7 RK.length c7] 35)) | (at_builtin; refine app_row _ rfl (.tmp 86) (.tmp 88) rfl w6.heap.size _ _ _ rfl hG7 w7.heap.size _ (.slice a7 RK.length c7) RK rfl ((Blk.new w7 35 _).cell rfl) ho7' hlk hB7'.size ?_; intro v8 w8 hG8 hg8))
            have hB8 : Below w6.heap.size w6 w8 := below_grown hB7' hg8 hB7'.size (fun q hq => (World.ownsRow.lt hG7.own q hq).1)
            go_roundw
            case rel => exact ⟨K + 1, _, by go_num, hk, by rw [HTK.out]; exact hG8, hB8⟩
            case measure => simp [intOf]; omega
          · obtain rfl : K = 12 := by omega
            have j1 : ¬ ((12 : Nat) : Int) < 12 := by omega
            rw [List.take_of_length_le (by omega)] at hG
            have hDk := hD6.after hBk
            have hBw : Below w0.heap.size w0 wr := hB6.trans (hBk.mono hB6.size)
            have hTk : ∀ q, L.T q → q < w6.heap.size := hT6
            have hb6k := hBk.size
            clear HR2 hBk hD6 hB6
            obtain ⟨wk, rfl⟩ : ∃ wk : World, wk = wr := ⟨_, rfl⟩
            obtain ⟨sa, sc, rfl⟩ := hG.sl
            go_wp2_with fail
            go_loopw [19] (fun i wr => ∃ I : Nat, i = .int .i64 (I : Int) ∧ I ≤ more.length ∧ I ≤ 50 ∧ PDisk wr L (writesS (more.take I) s2) ∧ Chg L.T wk wr ∧ Below w0.heap.size w0 wr) (fun i _ => 50 - (intOf i).toNat)
            case atStart => exact ⟨0, rfl, Nat.zero_le _, by omega, hDk, Chg.refl _ _, hBw⟩
            case round =>
              obtain ⟨J, rfl, hJ, hJ1, hDj, hcj, hBj⟩ := hrel
              clear hDk hBw
              by_cases hgo : J < more.length ∧ J < 50
              · obtain ⟨h1', h2⟩ := hgo
                have i1' : (J : Int) < (more.length : Int) := by omega
                have i2' : (J : Int) < 50 := by omega
                have hg : more[J]? = some more[J] := List.getElem?_eq_getElem h1'
                obtain ⟨A, hA⟩ : ∃ A, more[J] = A := ⟨_, rfl⟩
                rw [hA] at hg
                clear hA
                obtain ⟨q, off, rfl, hq, d0, d1, d2, bvI, svI, d3, d4, hat⟩ := hmc J A hg
                have hcell : ∀ o, wr.cell? ⟨q, o, none⟩ = w0.cell? ⟨q, o, none⟩ := fun o => hBj.cell (p := ⟨q, o, none⟩) hq
                rw [← hcell, Nat.mul_comm] at d0 d1 d3
                have hbd := (muchB_false hmv hg (by omega)).1
                have hsb := hat.b.below hBj (Nat.le_refl _)
                have hap := hat.b.apart hT'
                obtain ⟨aI, cI, rfl⟩ := Seg.shapeD hat.b
                have HST : Hid (writesS (more.take (J + 1)) s2 = if A.act = 0 then (writeS (writesS (more.take J) s2) A.k A.b).2 else writesS (more.take J) s2) := writesS_step hg s2
                clear hmc d2 d4 hcell hg
                by_cases h0 : A.act = 0
                · rw [h0] at d0
                  go_wp2_with fail
                  go_still_tail 11, (by kernel_rfl)
                  go_wp2_with fail
                  refine (write_any L _ A.k _ A.b wr.drew (hDj.after ((Below.refl _ wr).drew)) hsb.drew hap).mono ?_
                  rintro e w5 ⟨rfl, hD5, hc5⟩
                  have hB5 : Below w0.heap.size w0 w5 := below_chg hBj.drew hc5 hT' (Nat.le_refl _)
                  have hcr5 : Chg L.T wk w5 := hcj.drew.trans (S' := L.T) hc5 (fun _ _ h => h)
                  go_wp2
                  go_roundw
                  case rel => exact ⟨J + 1, by go_num, h1', h2, by rw [HST.out, if_pos h0]; exact hD5, hcr5, hB5⟩
                  case measure => simp [intOf]; omega
                · have h0' : (A.act == 0) = false := by simpa using h0
                  go_wp2
                  go_roundw
                  case rel => exact ⟨J + 1, by go_num, h1', h2, by rw [HST.out, if_neg h0]; exact hDj, hcj, hBj⟩
                  case measure => simp [intOf]; omega
              · have hnt : ¬ ((J : Int) < (more.length : Int) ∧ (J : Int) < 50) := by omega
                clear hgo hmc
                have hcm3 := calm_writes (more.take J) s2 hcm6
                have HS3 : Hid ((writesS (more.take J) s2).sure = s2.now) := (writesS_sure _ _).trans HSU.out
                have hGs := hG.chg hcj hTk
                generalize writesS (more.take J) s2 = s3 at *
                clear hcj
                by_cases h9 : J < more.length
                · have i9 : (J : Int) < (more.length : Int) := by omega
                  have i8 : ¬ (J : Int) < 50 := by omega
                  clear hnt
                  have hn3 : s3.now.length = 12 := hDj.ok.now.trans hLn
                  have hl3 : ∀ k, k < 12 → (s3.now.getD k []).length = 128 := fun k hk => getD_len hDj.ok.nows (by omega)
                  have hT9 := hDj.lt
                  have HR3 : Hid (∀ (K : Nat) (W : World), K < 12 → PDisk W L s3 → Calls Try.prog 19 #[.pointer (some ⟨L.g, 0, none⟩), .int .i64 (K : Int)] W fun e w' => ∃ v, e = .returned (.tuple #[v, .int .i64 0]) ∧ Own w' W.heap.size v (s3.now.getD K []) ∧ Below W.heap.size W w') := fun K W hK hW => by
                    have := read_any L s3 (K : Int) W hW
                    rw [read_calm hcm3 hn3 hK] at this
                    exact this
                  obtain ⟨w9, rfl⟩ : ∃ w9 : World, w9 = wr := ⟨_, rfl⟩
                  go_wp2_with fail
                  go_loopw [15, 20] (fun nv k wr => ∃ (K : Nat) (vs : List Value), k = .int .i64 (K : Int) ∧ K ≤ 12 ∧ Gat wr w9.heap.size nv vs (s3.now.take K) ∧ Below w9.heap.size w9 wr) (fun _ k _ => 12 - (intOf k).toNat)
                  case atStart => exact ⟨0, [], rfl, Nat.zero_le _, Gat.nil _ _, Below.refl _ _⟩
                  case round =>
                    obtain ⟨K, us, rfl, hK, hN, hBk⟩ := hrel
                    by_cases hk : K < 12
                    · have j2 : (K : Int) < 12 := by omega
                      have HTK : Hid (s3.now.take (K + 1) = s3.now.take K ++ [s3.now.getD K []]) := take_snoc _ _ (by omega)
                      have hlk : (s3.now.take K).length ≤ 1000000 := by rw [List.length_take]; omega
                      have hsk := hBk.size
                      have HRK : Hid (Calls Try.prog 19 #[.pointer (some ⟨L.g, 0, none⟩), .int .i64 (K : Int)] wr fun e w' => ∃ v, e = .returned (.tuple #[v, .int .i64 0]) ∧ Own w' wr.heap.size v (s3.now.getD K []) ∧ Below wr.heap.size wr w') := HR3.out K _ hk (hDj.after hBk)
                      generalize s3.now.take K = TK at *
                      generalize s3.now.getD K [] = RK at *
                      go_wp2_with (first | (go_at_call 19; refine HRK.out.mono ?_; rintro e w7 ⟨v7, rfl, ho7, hb7⟩; obtain ⟨a7, c7, rfl⟩ := Seg.shapeD ho7.seg; have hB7 := hBk.trans (hb7.mono hsk); have hG7 := (hN.below hb7 (Nat.le_refl _)).below ((Below.refl _ w7).alloc (Nat.le_refl _) (.cells #[.slice a7 RK.length c7] 35)) (Nat.le_refl _); have ho7' := (ho7.mono hsk).alloc (.cells #[.slice a7 RK.length c7] 35); have hB7' := hB7.alloc hB7.size (.cells #[.slice a7 RK.length c7] 35)) | (at_builtin; refine app_row _ rfl (.tmp 128) (.tmp 130) rfl w9.heap.size _ _ _ rfl hG7 w7.heap.size _ (.slice a7 RK.length c7) RK rfl ((Blk.new w7 35 _).cell rfl) ho7' hlk hB7'.size ?_; intro v8 w8 hG8 hg8))
                      have hB8 : Below w9.heap.size w9 w8 := below_grown hB7' hg8 hB7'.size (fun q hq => (World.ownsRow.lt hG7.own q hq).1)
                      go_roundw
                      case rel => exact ⟨K + 1, _, by go_num, hk, by rw [HTK.out]; exact hG8, hB8⟩
                      case measure => simp [intOf]; omega
                    · obtain rfl : K = 12 := by omega
                      have j2 : ¬ ((12 : Nat) : Int) < 12 := by omega
                      rw [List.take_of_length_le (by omega)] at hN
                      have hDk := hDj.after hBk
                      have hBw : Below w0.heap.size w0 wr := hBj.trans (hBk.mono hBj.size)
                      have hGk := hGs.below hBk (Nat.le_refl _)
                      clear HR3 hBk hDj hBj hGs
                      have hbx := hbox.below hBw hbox.lt
                      have b1 := hbx.cell (j := 1) rfl
                      have b2 := hbx.cell (j := 2) rfl
                      have b4 := hbx.cell (j := 4) rfl
                      obtain ⟨na, nc, rfl⟩ := hN.sl
                      go_wp2_with fail
                      refine (crash_any L s3 _ x.stay x.k x.n _ hDk (hx0.s.apart hBw hT')).mono ?_
                      rintro e wc ⟨rfl, hDc, hcc⟩
                      have hBc : Below w0.heap.size w0 wc := below_chg hBw hcc hT' (Nat.le_refl _)
                      have hGc := hGk.chg hcc hTk
                      have hNc := hN.chg hcc hT9
                      have hbxc := hbox.below hBc hbox.lt
                      have HROW : Hid (∀ k, k < 12 → (crashS s3 x.stay x.k x.n).now.getD k [] = s2.now.getD k [] ∨ (crashS s3 x.stay x.k x.n).now.getD k [] = s3.now.getD k [] ∨ ((crashS s3 x.stay x.k x.n).now.getD k [] = (s3.now.getD k []).take (max 0 (min x.n 128)).toNat ++ (s2.now.getD k []).drop (max 0 (min x.n 128)).toNat ∧ tornAt s3 x.k k)) := fun k hk => by
                        have := crash_row hDk.ok x.stay x.k x.n (k := k) (by rw [hLn]; exact hk)
                        rw [HS3.out] at this
                        exact this
                      have hcm4 := calm_crash s3 x.stay x.k x.n
                      clear hDk hBw hcc hGk hN hbx b1 b2 b4
                      generalize crashS s3 x.stay x.k x.n = s4 at *
                      have hn4 : s4.now.length = 12 := hDc.ok.now.trans hLn
                      have HLEN : Hid (∀ k, k < 12 → (s4.now.getD k []).length = 128 ∧ (s2.now.getD k []).length = 128 ∧ (s3.now.getD k []).length = 128) := fun k hk => ⟨getD_len hDc.ok.nows (by omega), hl2 k hk, hl3 k hk⟩
                      have HR4 : Hid (∀ (K : Nat) (W : World), K < 12 → PDisk W L s4 → Calls Try.prog 19 #[.pointer (some ⟨L.g, 0, none⟩), .int .i64 (K : Int)] W fun e w' => ∃ v, e = .returned (.tuple #[v, .int .i64 0]) ∧ Own w' W.heap.size v (s4.now.getD K []) ∧ Below W.heap.size W w') := fun K W hK hW => by
                        have := read_any L s4 (K : Int) W hW
                        rw [read_calm hcm4 hn4 hK] at this
                        exact this
                      have hSb := hGc.at (k := 0) (by omega)
                      obtain ⟨sb, sc', _, _, he, _, _⟩ := hSb
                      cases he
                      have hNb := hNc.at (k := 0) (by omega)
                      obtain ⟨nb, nc', _, _, he, _, _⟩ := hNb
                      cases he
                      have hdd : min (max x.n 0) 128 = ((max 0 (min x.n 128)).toNat : Int) := by omega
                      have hnn : (max 0 (min x.n 128)).toNat ≤ 128 := by omega
                      generalize (max 0 (min x.n 128)).toNat = nn at *
                      go_wp2_with fail
                      go_loopw [23, 24] (fun t k wr => ∃ (K T : Nat), k = .int .i64 (K : Int) ∧ K ≤ 12 ∧ t = .int .i64 (T : Int) ∧ T ≤ 1 ∧ (T = 1 → ∃ j, j < K ∧ tornAt s3 x.k j) ∧ Below wc.heap.size wc wr) (fun _ k _ => 12 - (intOf k).toNat)
                      case atStart => exact ⟨0, 0, rfl, Nat.zero_le _, rfl, by omega, fun h => by omega, Below.refl _ _⟩
                      case round =>
                        obtain ⟨K, T, rfl, hK, rfl, hT1, hTT, hBk⟩ := hrel
                        have HTT : Hid (T = 1 → ∃ j, j < K ∧ tornAt s3 x.k j) := hTT
                        clear hTT
                        by_cases hk : K < 12
                        · have j3 : (K : Int) < 12 := by omega
                          obtain ⟨a1, c1, e1, g1⟩ := (hGc.below hBk (Nat.le_refl _)).cell (k := K) (by omega)
                          obtain ⟨a2, c2, e2, g2⟩ := (hNc.below hBk (Nat.le_refl _)).cell (k := K) (by omega)
                          obtain ⟨lb, ls, ln⟩ := HLEN.out K hk
                          have HRK : Hid (Calls Try.prog 19 #[.pointer (some ⟨L.g, 0, none⟩), .int .i64 (K : Int)] wr fun e w' => ∃ v, e = .returned (.tuple #[v, .int .i64 0]) ∧ Own w' wr.heap.size v (s4.now.getD K []) ∧ Below wr.heap.size wr w') := HR4.out K _ hk (hDc.after hBk)
                          have HRW := HROW.out K hk
                          have hbk := hbxc.below hBk hbxc.lt
                          have b2 := hbk.cell (j := 2) rfl
                          have hbl := hbk.lt
                          generalize s4.now.getD K [] = B at *
                          generalize s2.now.getD K [] = SU at *
                          generalize s3.now.getD K [] = NW at *
                          rw [ls] at e1 g1
                          rw [ln] at e2 g2
                          replace HRW : Hid (B = SU ∨ B = NW ∨ (B = NW.take nn ++ SU.drop nn ∧ tornAt s3 x.k K)) := HRW
                          clear HROW HLEN HR4
                          go_wp2_with fail
                          refine HRK.out.mono ?_
                          rintro e w7 ⟨v7, rfl, ho7, hb7⟩
                          have g7 := ho7.seg
                          obtain ⟨a7, c7, hv7⟩ := Seg.shapeD g7
                          rw [lb] at hv7
                          subst hv7
                          have g1' := g1.below hb7 (Nat.le_refl _)
                          have g2' := g2.below hb7 (Nat.le_refl _)
                          have e1' : w7.cell? ⟨sb, K, none⟩ = some (.slice a1 128 c1) := by rw [hb7.cell (p := ⟨sb, K, none⟩) (block_lt_of_cell e1)]; exact e1
                          have e2' : w7.cell? ⟨nb, K, none⟩ = some (.slice a2 128 c2) := by rw [hb7.cell (p := ⟨nb, K, none⟩) (block_lt_of_cell e2)]; exact e2
                          have b2' : w7.cell? ⟨w.heap.size, 2, none⟩ = some (.int .i64 x.n) := by rw [hb7.cell (p := ⟨w.heap.size, 2, none⟩) hbl]; exact b2
                          have hB7 : Below wc.heap.size wc w7 := hBk.trans (hb7.mono hBk.size)
                          have k7 := fun q => seg_stringD (show Seg (w7.drewN q) _ _ from g7) 9 Try.underlying9
                          have k1 := fun q => seg_stringD (show Seg (w7.drewN q) _ _ from g1') 9 Try.underlying9
                          have k2 := fun q => seg_stringD (show Seg (w7.drewN q) _ _ from g2') 9 Try.underlying9
                          clear ho7 hb7 HRK e1 e2 b2 hbk hbl g1 g2
                          by_cases eS : B = SU
                          · subst eS
                            generalize (⟨B.toArray⟩ : ByteArray) = X at k7 k1
                            clear k2 HRW
                            go_wp2_with fail
                            go_quiet (fail)
                            go_wp2
                            go_roundw
                            case rel => exact ⟨K + 1, T, by go_num, hk, rfl, hT1, fun h => by obtain ⟨j, hj, ht⟩ := HTT.out h; exact ⟨j, by omega, ht⟩, Below.drewN hB7 _⟩
                            case measure => simp [intOf]; omega
                          have hne1 := str_ne eS
                          by_cases eN : B = NW
                          · subst eN
                            clear HRW eS
                            generalize (⟨SU.toArray⟩ : ByteArray) = XS at k1 hne1
                            generalize (⟨B.toArray⟩ : ByteArray) = X at k7 k2 hne1
                            go_wp2_with fail
                            go_quiet (fail)
                            go_wp2
                            go_roundw
                            case rel => exact ⟨K + 1, T, by go_num, hk, rfl, hT1, fun h => by obtain ⟨j, hj, ht⟩ := HTT.out h; exact ⟨j, by omega, ht⟩, Below.drewN hB7 _⟩
                            case measure => simp [intOf]; omega
                          have hne2 := str_ne eN
                          obtain ⟨hBB, hTor⟩ : B = NW.take nn ++ SU.drop nn ∧ tornAt s3 x.k K := by
                            rcases HRW.out with h | h | h
                            · exact absurd h eS
                            · exact absurd h eN
                            · exact h
                          obtain rfl : T = 0 := by
                            by_cases h : T = 1
                            · obtain ⟨j, hj, ht⟩ := HTT.out h
                              have := tornAt_one ht hTor
                              omega
                            · omega
                          have HTOR : Hid (tornAt s3 x.k K) := hTor
                          have hlt : (NW.take nn).length = nn := by rw [List.length_take]; omega
                          have tB : B.take nn = NW.take nn := by rw [hBB, List.take_append_of_le_length (by omega), List.take_of_length_le (by omega)]
                          have dB : B.drop nn = SU.drop nn := by rw [hBB, List.drop_append_of_le_length (by omega), List.drop_of_length_le (by omega), List.nil_append]
                          obtain ⟨q7, hc7⟩ := Seg.takesD g7 nn hnn
                          obtain ⟨q2, hc2⟩ := Seg.takesD g2' nn hnn
                          have r7 := Seg.dropsD g7 nn hnn
                          have r1 := Seg.dropsD g1' nn hnn
                          rw [tB] at q7
                          rw [dB] at r7
                          have s7 := slice_toD a7 128 c7 nn hc7
                          have s2' := slice_toD a2 128 c2 nn hc2
                          have u7 := slice_restD a7 128 c7 nn hnn
                          have u1 := slice_restD a1 128 c1 nn hnn
                          generalize restD a7 c7 nn = ra7 at *
                          generalize restD a1 c1 nn = ra1 at *
                          generalize 128 - nn = dn at *
                          generalize c7 - nn = cc7 at *
                          generalize c1 - nn = cc1 at *
                          clear HRW eS eN hBB hTor hlt tB dB
                          generalize (⟨SU.toArray⟩ : ByteArray) = XS at k1 hne1
                          generalize (⟨NW.toArray⟩ : ByteArray) = XN at k2 hne2
                          generalize (⟨B.toArray⟩ : ByteArray) = X at k7 hne1 hne2
                          go_wp2_with fail
                          go_quiet (fail)
                          have m7 := fun q => seg_stringD (show Seg ((w7.drewN nq).drewN q) _ _ from q7) 9 Try.underlying9
                          have m2 := fun q => seg_stringD (show Seg ((w7.drewN nq).drewN q) _ _ from q2) 9 Try.underlying9
                          have n7 := fun q => seg_stringD (show Seg ((w7.drewN nq).drewN q) _ _ from r7) 9 Try.underlying9
                          have n1 := fun q => seg_stringD (show Seg ((w7.drewN nq).drewN q) _ _ from r1) 9 Try.underlying9
                          have e1'' : (w7.drewN nq).cell? ⟨sb, K, none⟩ = some (.slice a1 128 c1) := e1'
                          have e2'' : (w7.drewN nq).cell? ⟨nb, K, none⟩ = some (.slice a2 128 c2) := e2'
                          have b2'' : (w7.drewN nq).cell? ⟨w.heap.size, 2, none⟩ = some (.int .i64 x.n) := b2'
                          have hB8 : Below wc.heap.size wc (w7.drewN nq) := Below.drewN hB7 nq
                          clear k7 k1 k2 g7 g1' g2' q7 q2 r7 r1 e1' e2' b2' hB7 hne1 hne2
                          generalize w7.drewN nq = W8 at *
                          generalize (⟨(NW.take nn).toArray⟩ : ByteArray) = X1 at m7 m2
                          generalize (⟨(SU.drop nn).toArray⟩ : ByteArray) = X2 at n7 n1
                          go_wp2_with fail
                          go_quiet (fail)
                          go_wp2
                          go_roundw
                          case rel => exact ⟨K + 1, 1, by go_num, hk, by go_num, by omega, fun _ => ⟨K, by omega, HTOR.out⟩, Below.drewN hB8 _⟩
                          case measure => simp [intOf]; omega
                        · have j3 : ¬ (K : Int) < 12 := by omega
                          have t1 : (T : Int) ≤ 1 := by omega
                          go_wp2
                          go_ret
                          exact ⟨rfl, HEND.out _ (hBc.trans (hBk.mono hBc.size))⟩
                · have i9 : ¬ (J : Int) < (more.length : Int) := by omega
                  clear hnt
                  have hn3 : s3.now.length = 12 := hDj.ok.now.trans hLn
                  have hl3 : ∀ k, k < 12 → (s3.now.getD k []).length = 128 := fun k hk => getD_len hDj.ok.nows (by omega)
                  have hT9 := hDj.lt
                  have HR3 : Hid (∀ (K : Nat) (W : World), K < 12 → PDisk W L s3 → Calls Try.prog 19 #[.pointer (some ⟨L.g, 0, none⟩), .int .i64 (K : Int)] W fun e w' => ∃ v, e = .returned (.tuple #[v, .int .i64 0]) ∧ Own w' W.heap.size v (s3.now.getD K []) ∧ Below W.heap.size W w') := fun K W hK hW => by
                    have := read_any L s3 (K : Int) W hW
                    rw [read_calm hcm3 hn3 hK] at this
                    exact this
                  obtain ⟨w9, rfl⟩ : ∃ w9 : World, w9 = wr := ⟨_, rfl⟩
                  go_wp2_with fail
                  go_loopw [15, 20] (fun nv k wr => ∃ (K : Nat) (vs : List Value), k = .int .i64 (K : Int) ∧ K ≤ 12 ∧ Gat wr w9.heap.size nv vs (s3.now.take K) ∧ Below w9.heap.size w9 wr) (fun _ k _ => 12 - (intOf k).toNat)
                  case atStart => exact ⟨0, [], rfl, Nat.zero_le _, Gat.nil _ _, Below.refl _ _⟩
                  case round =>
                    obtain ⟨K, us, rfl, hK, hN, hBk⟩ := hrel
                    by_cases hk : K < 12
                    · have j2 : (K : Int) < 12 := by omega
                      have HTK : Hid (s3.now.take (K + 1) = s3.now.take K ++ [s3.now.getD K []]) := take_snoc _ _ (by omega)
                      have hlk : (s3.now.take K).length ≤ 1000000 := by rw [List.length_take]; omega
                      have hsk := hBk.size
                      have HRK : Hid (Calls Try.prog 19 #[.pointer (some ⟨L.g, 0, none⟩), .int .i64 (K : Int)] wr fun e w' => ∃ v, e = .returned (.tuple #[v, .int .i64 0]) ∧ Own w' wr.heap.size v (s3.now.getD K []) ∧ Below wr.heap.size wr w') := HR3.out K _ hk (hDj.after hBk)
                      generalize s3.now.take K = TK at *
                      generalize s3.now.getD K [] = RK at *
                      go_wp2_with (first | (go_at_call 19; refine HRK.out.mono ?_; rintro e w7 ⟨v7, rfl, ho7, hb7⟩; obtain ⟨a7, c7, rfl⟩ := Seg.shapeD ho7.seg; have hB7 := hBk.trans (hb7.mono hsk); have hG7 := (hN.below hb7 (Nat.le_refl _)).below ((Below.refl _ w7).alloc (Nat.le_refl _) (.cells #[.slice a7 RK.length c7] 35)) (Nat.le_refl _); have ho7' := (ho7.mono hsk).alloc (.cells #[.slice a7 RK.length c7] 35); have hB7' := hB7.alloc hB7.size (.cells #[.slice a7 RK.length c7] 35)) | (at_builtin; refine app_row _ rfl (.tmp 128) (.tmp 130) rfl w9.heap.size _ _ _ rfl hG7 w7.heap.size _ (.slice a7 RK.length c7) RK rfl ((Blk.new w7 35 _).cell rfl) ho7' hlk hB7'.size ?_; intro v8 w8 hG8 hg8))
                      have hB8 : Below w9.heap.size w9 w8 := below_grown hB7' hg8 hB7'.size (fun q hq => (World.ownsRow.lt hG7.own q hq).1)
                      go_roundw
                      case rel => exact ⟨K + 1, _, by go_num, hk, by rw [HTK.out]; exact hG8, hB8⟩
                      case measure => simp [intOf]; omega
                    · obtain rfl : K = 12 := by omega
                      have j2 : ¬ ((12 : Nat) : Int) < 12 := by omega
                      rw [List.take_of_length_le (by omega)] at hN
                      have hDk := hDj.after hBk
                      have hBw : Below w0.heap.size w0 wr := hBj.trans (hBk.mono hBj.size)
                      have hGk := hGs.below hBk (Nat.le_refl _)
                      clear HR3 hBk hDj hBj hGs
                      have hbx := hbox.below hBw hbox.lt
                      have b1 := hbx.cell (j := 1) rfl
                      have b2 := hbx.cell (j := 2) rfl
                      have b4 := hbx.cell (j := 4) rfl
                      obtain ⟨na, nc, rfl⟩ := hN.sl
                      go_wp2_with fail
                      refine (crash_any L s3 _ x.stay x.k x.n _ hDk (hx0.s.apart hBw hT')).mono ?_
                      rintro e wc ⟨rfl, hDc, hcc⟩
                      have hBc : Below w0.heap.size w0 wc := below_chg hBw hcc hT' (Nat.le_refl _)
                      have hGc := hGk.chg hcc hTk
                      have hNc := hN.chg hcc hT9
                      have hbxc := hbox.below hBc hbox.lt
                      have HROW : Hid (∀ k, k < 12 → (crashS s3 x.stay x.k x.n).now.getD k [] = s2.now.getD k [] ∨ (crashS s3 x.stay x.k x.n).now.getD k [] = s3.now.getD k [] ∨ ((crashS s3 x.stay x.k x.n).now.getD k [] = (s3.now.getD k []).take (max 0 (min x.n 128)).toNat ++ (s2.now.getD k []).drop (max 0 (min x.n 128)).toNat ∧ tornAt s3 x.k k)) := fun k hk => by
                        have := crash_row hDk.ok x.stay x.k x.n (k := k) (by rw [hLn]; exact hk)
                        rw [HS3.out] at this
                        exact this
                      have hcm4 := calm_crash s3 x.stay x.k x.n
                      clear hDk hBw hcc hGk hN hbx b1 b2 b4
                      generalize crashS s3 x.stay x.k x.n = s4 at *
                      have hn4 : s4.now.length = 12 := hDc.ok.now.trans hLn
                      have HLEN : Hid (∀ k, k < 12 → (s4.now.getD k []).length = 128 ∧ (s2.now.getD k []).length = 128 ∧ (s3.now.getD k []).length = 128) := fun k hk => ⟨getD_len hDc.ok.nows (by omega), hl2 k hk, hl3 k hk⟩
                      have HR4 : Hid (∀ (K : Nat) (W : World), K < 12 → PDisk W L s4 → Calls Try.prog 19 #[.pointer (some ⟨L.g, 0, none⟩), .int .i64 (K : Int)] W fun e w' => ∃ v, e = .returned (.tuple #[v, .int .i64 0]) ∧ Own w' W.heap.size v (s4.now.getD K []) ∧ Below W.heap.size W w') := fun K W hK hW => by
                        have := read_any L s4 (K : Int) W hW
                        rw [read_calm hcm4 hn4 hK] at this
                        exact this
                      have hSb := hGc.at (k := 0) (by omega)
                      obtain ⟨sb, sc', _, _, he, _, _⟩ := hSb
                      cases he
                      have hNb := hNc.at (k := 0) (by omega)
                      obtain ⟨nb, nc', _, _, he, _, _⟩ := hNb
                      cases he
                      have hdd : min (max x.n 0) 128 = ((max 0 (min x.n 128)).toNat : Int) := by omega
                      have hnn : (max 0 (min x.n 128)).toNat ≤ 128 := by omega
                      generalize (max 0 (min x.n 128)).toNat = nn at *
                      go_wp2_with fail
                      go_loopw [23, 24] (fun t k wr => ∃ (K T : Nat), k = .int .i64 (K : Int) ∧ K ≤ 12 ∧ t = .int .i64 (T : Int) ∧ T ≤ 1 ∧ (T = 1 → ∃ j, j < K ∧ tornAt s3 x.k j) ∧ Below wc.heap.size wc wr) (fun _ k _ => 12 - (intOf k).toNat)
                      case atStart => exact ⟨0, 0, rfl, Nat.zero_le _, rfl, by omega, fun h => by omega, Below.refl _ _⟩
                      case round =>
                        obtain ⟨K, T, rfl, hK, rfl, hT1, hTT, hBk⟩ := hrel
                        have HTT : Hid (T = 1 → ∃ j, j < K ∧ tornAt s3 x.k j) := hTT
                        clear hTT
                        by_cases hk : K < 12
                        · have j3 : (K : Int) < 12 := by omega
                          obtain ⟨a1, c1, e1, g1⟩ := (hGc.below hBk (Nat.le_refl _)).cell (k := K) (by omega)
                          obtain ⟨a2, c2, e2, g2⟩ := (hNc.below hBk (Nat.le_refl _)).cell (k := K) (by omega)
                          obtain ⟨lb, ls, ln⟩ := HLEN.out K hk
                          have HRK : Hid (Calls Try.prog 19 #[.pointer (some ⟨L.g, 0, none⟩), .int .i64 (K : Int)] wr fun e w' => ∃ v, e = .returned (.tuple #[v, .int .i64 0]) ∧ Own w' wr.heap.size v (s4.now.getD K []) ∧ Below wr.heap.size wr w') := HR4.out K _ hk (hDc.after hBk)
                          have HRW := HROW.out K hk
                          have hbk := hbxc.below hBk hbxc.lt
                          have b2 := hbk.cell (j := 2) rfl
                          have hbl := hbk.lt
                          generalize s4.now.getD K [] = B at *
                          generalize s2.now.getD K [] = SU at *
                          generalize s3.now.getD K [] = NW at *
                          rw [ls] at e1 g1
                          rw [ln] at e2 g2
                          replace HRW : Hid (B = SU ∨ B = NW ∨ (B = NW.take nn ++ SU.drop nn ∧ tornAt s3 x.k K)) := HRW
                          clear HROW HLEN HR4
                          go_wp2_with fail
                          refine HRK.out.mono ?_
                          rintro e w7 ⟨v7, rfl, ho7, hb7⟩
                          have g7 := ho7.seg
                          obtain ⟨a7, c7, hv7⟩ := Seg.shapeD g7
                          rw [lb] at hv7
                          subst hv7
                          have g1' := g1.below hb7 (Nat.le_refl _)
                          have g2' := g2.below hb7 (Nat.le_refl _)
                          have e1' : w7.cell? ⟨sb, K, none⟩ = some (.slice a1 128 c1) := by rw [hb7.cell (p := ⟨sb, K, none⟩) (block_lt_of_cell e1)]; exact e1
                          have e2' : w7.cell? ⟨nb, K, none⟩ = some (.slice a2 128 c2) := by rw [hb7.cell (p := ⟨nb, K, none⟩) (block_lt_of_cell e2)]; exact e2
                          have b2' : w7.cell? ⟨w.heap.size, 2, none⟩ = some (.int .i64 x.n) := by rw [hb7.cell (p := ⟨w.heap.size, 2, none⟩) hbl]; exact b2
                          have hB7 : Below wc.heap.size wc w7 := hBk.trans (hb7.mono hBk.size)
                          have k7 := fun q => seg_stringD (show Seg (w7.drewN q) _ _ from g7) 9 Try.underlying9
                          have k1 := fun q => seg_stringD (show Seg (w7.drewN q) _ _ from g1') 9 Try.underlying9
                          have k2 := fun q => seg_stringD (show Seg (w7.drewN q) _ _ from g2') 9 Try.underlying9
                          clear ho7 hb7 HRK e1 e2 b2 hbk hbl g1 g2
                          by_cases eS : B = SU
                          · subst eS
                            generalize (⟨B.toArray⟩ : ByteArray) = X at k7 k1
                            clear k2 HRW
                            go_wp2_with fail
                            go_quiet (fail)
                            go_wp2
                            go_roundw
                            case rel => exact ⟨K + 1, T, by go_num, hk, rfl, hT1, fun h => by obtain ⟨j, hj, ht⟩ := HTT.out h; exact ⟨j, by omega, ht⟩, Below.drewN hB7 _⟩
                            case measure => simp [intOf]; omega
                          have hne1 := str_ne eS
                          by_cases eN : B = NW
                          · subst eN
                            clear HRW eS
                            generalize (⟨SU.toArray⟩ : ByteArray) = XS at k1 hne1
                            generalize (⟨B.toArray⟩ : ByteArray) = X at k7 k2 hne1
                            go_wp2_with fail
                            go_quiet (fail)
                            go_wp2
                            go_roundw
                            case rel => exact ⟨K + 1, T, by go_num, hk, rfl, hT1, fun h => by obtain ⟨j, hj, ht⟩ := HTT.out h; exact ⟨j, by omega, ht⟩, Below.drewN hB7 _⟩
                            case measure => simp [intOf]; omega
                          have hne2 := str_ne eN
                          obtain ⟨hBB, hTor⟩ : B = NW.take nn ++ SU.drop nn ∧ tornAt s3 x.k K := by
                            rcases HRW.out with h | h | h
                            · exact absurd h eS
                            · exact absurd h eN
                            · exact h
                          obtain rfl : T = 0 := by
                            by_cases h : T = 1
                            · obtain ⟨j, hj, ht⟩ := HTT.out h
                              have := tornAt_one ht hTor
                              omega
                            · omega
                          have HTOR : Hid (tornAt s3 x.k K) := hTor
                          have hlt : (NW.take nn).length = nn := by rw [List.length_take]; omega
                          have tB : B.take nn = NW.take nn := by rw [hBB, List.take_append_of_le_length (by omega), List.take_of_length_le (by omega)]
                          have dB : B.drop nn = SU.drop nn := by rw [hBB, List.drop_append_of_le_length (by omega), List.drop_of_length_le (by omega), List.nil_append]
                          obtain ⟨q7, hc7⟩ := Seg.takesD g7 nn hnn
                          obtain ⟨q2, hc2⟩ := Seg.takesD g2' nn hnn
                          have r7 := Seg.dropsD g7 nn hnn
                          have r1 := Seg.dropsD g1' nn hnn
                          rw [tB] at q7
                          rw [dB] at r7
                          have s7 := slice_toD a7 128 c7 nn hc7
                          have s2' := slice_toD a2 128 c2 nn hc2
                          have u7 := slice_restD a7 128 c7 nn hnn
                          have u1 := slice_restD a1 128 c1 nn hnn
                          generalize restD a7 c7 nn = ra7 at *
                          generalize restD a1 c1 nn = ra1 at *
                          generalize 128 - nn = dn at *
                          generalize c7 - nn = cc7 at *
                          generalize c1 - nn = cc1 at *
                          clear HRW eS eN hBB hTor hlt tB dB
                          generalize (⟨SU.toArray⟩ : ByteArray) = XS at k1 hne1
                          generalize (⟨NW.toArray⟩ : ByteArray) = XN at k2 hne2
                          generalize (⟨B.toArray⟩ : ByteArray) = X at k7 hne1 hne2
                          go_wp2_with fail
                          go_quiet (fail)
                          have m7 := fun q => seg_stringD (show Seg ((w7.drewN nq).drewN q) _ _ from q7) 9 Try.underlying9
                          have m2 := fun q => seg_stringD (show Seg ((w7.drewN nq).drewN q) _ _ from q2) 9 Try.underlying9
                          have n7 := fun q => seg_stringD (show Seg ((w7.drewN nq).drewN q) _ _ from r7) 9 Try.underlying9
                          have n1 := fun q => seg_stringD (show Seg ((w7.drewN nq).drewN q) _ _ from r1) 9 Try.underlying9
                          have e1'' : (w7.drewN nq).cell? ⟨sb, K, none⟩ = some (.slice a1 128 c1) := e1'
                          have e2'' : (w7.drewN nq).cell? ⟨nb, K, none⟩ = some (.slice a2 128 c2) := e2'
                          have b2'' : (w7.drewN nq).cell? ⟨w.heap.size, 2, none⟩ = some (.int .i64 x.n) := b2'
                          have hB8 : Below wc.heap.size wc (w7.drewN nq) := Below.drewN hB7 nq
                          clear k7 k1 k2 g7 g1' g2' q7 q2 r7 r1 e1' e2' b2' hB7 hne1 hne2
                          generalize w7.drewN nq = W8 at *
                          generalize (⟨(NW.take nn).toArray⟩ : ByteArray) = X1 at m7 m2
                          generalize (⟨(SU.drop nn).toArray⟩ : ByteArray) = X2 at n7 n1
                          go_wp2_with fail
                          go_quiet (fail)
                          go_wp2
                          go_roundw
                          case rel => exact ⟨K + 1, 1, by go_num, hk, by go_num, by omega, fun _ => ⟨K, by omega, HTOR.out⟩, Below.drewN hB8 _⟩
                          case measure => simp [intOf]; omega
                        · have j3 : ¬ (K : Int) < 12 := by omega
                          have t1 : (T : Int) ≤ 1 := by omega
                          go_wp2
                          go_ret
                          exact ⟨rfl, HEND.out _ (hBc.trans (hBk.mono hBc.size))⟩
end Go.Proofs.Ytjhiopfhndbfkaa
