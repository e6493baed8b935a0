/-
  What is proved here: of all acts, the statement DiskSynced answers true: behind a Sync that was OK no crash changes anything.
  Conditions: none.
-/
import Derived.Test.YtjhiopfhndbfkaaPDiskAwake
import Derived.Test.YtjhiopfhndbfkaaPDiskCrash
import Derived.Test.YtjhiopfhndbfkaaDiskActsB
namespace Go.Proofs.Ytjhiopfhndbfkaa
open Go.RowKit Go.Maps

theorem flat_step (l : List (List UInt8)) (K : Nat) (h : K < l.length) : (l.take (K + 1)).flatten = (l.take K).flatten ++ l.getD K [] := by
  rw [List.take_add_one, List.flatten_append, List.getD_eq_getElem?_getD, List.getElem?_eq_getElem h]
  simp
set_option maxRecDepth 100000 in
set_option maxHeartbeats 2000000 in
theorem all_any (L : PLay) (s : DS) (w : World) (hD : PDisk w L s) (hn : L.n = 10) (hd : s.down = false) :
    Calls Try.prog 24 #[.pointer (some ⟨L.g, 0, none⟩)] w fun e w' => e = .returned (.string ⟨s.now.flatten.toArray⟩) ∧ Below w.heap.size w w' := by
  have hnl := hD.ok.now
  rw [hn] at hnl
  have HRD : Hid (∀ (K : Nat) (W : World), K < 10 → PDisk W L s → Calls Try.prog 19 #[.pointer (some ⟨L.g, 0, none⟩), .int .i64 (K : Int)] W fun e w' => ∃ v, e = .returned (.tuple #[v, .int .i64 0]) ∧ Own w' W.heap.size v (s.now.getD K []) ∧ Below W.heap.size W w') := fun K W hK hW => by
    have := read_any L s (K : Int) W hW
    have e : readS s (K : Int) = (s.now.getD K [], 0) := by
      unfold readS
      rw [hd, hnl, if_neg (by simp), if_neg (by omega)]
      rfl
    rw [e] at this
    exact this
  have HFS : Hid (∀ K, K < 10 → (s.now.take (K + 1)).flatten = (s.now.take K).flatten ++ s.now.getD K [] ∧ (s.now.getD K []).length = 128) := fun K hK => ⟨flat_step _ _ (by omega), getD_len hD.ok.nows (by omega)⟩
  have HFT : Hid (s.now.take 10 = s.now) := List.take_of_length_le (by omega)
  obtain ⟨FF, hFF⟩ : ∃ FF, FF = s.now.flatten := ⟨_, rfl⟩
  rw [← hFF]
  have HFF : Hid (s.now.flatten = FF) := hFF.symm
  clear hFF
  go_enter Try.func24, Try.ntmps24
  go_wp2
  go_loopw [3, 4] (fun v k wr => ∃ K : Nat, K ≤ 10 ∧ k = .int .i64 (K : Int) ∧ Own wr w.heap.size v (s.now.take K).flatten ∧ (s.now.take K).flatten.length = 128 * K ∧ Below w.heap.size w wr) (fun _ k _ => 10 - (intOf k).toNat)
  case atStart => exact ⟨0, Nat.zero_le _, rfl, ⟨rfl, .inl ⟨rfl, rfl⟩⟩, rfl, Below.refl _ _⟩
  case round =>
    obtain ⟨K, hK, rfl, hO, hlen, hB⟩ := hrel
    by_cases hlt : K < 10
    · have i1 : (K : Int) < 10 := by omega
      obtain ⟨hs1, hs2⟩ := HFS.out K hlt
      have HS1 : Hid ((s.now.take (K + 1)).flatten = (s.now.take K).flatten ++ s.now.getD K []) := hs1
      have HL : Hid ((s.now.take K).flatten.length = 128 * K) := hlen
      have hle : (s.now.take K).flatten.length + (s.now.getD K []).length ≤ 1000000000 := by omega
      have hs := hB.size
      clear hs1 hlen
      generalize (s.now.take K).flatten = F at *
      go_wp2_with (first | (go_at_call 19; refine (HRD.out K _ hlt (hD.after hB)).mono ?_; rintro e w2 ⟨v2, rfl, ho2, hb2⟩; have hO2 := hO.below hb2 (Nat.le_refl _); have hB2 := hB.trans (hb2.mono hs)) | (at_builtin; refine app_own _ rfl (.tmp 17) (.tmp 18) rfl w.heap.size _ F rfl hO2 _ _ rfl ho2.seg hle hB2.size ?_; intro v3 w3 ho3 hg3 hv3; have hB3 := below_grown hB2 hg3 hB2.size (fun q hq => (hO2.blocks q hq).1)))
      go_roundw
      case rel => exact ⟨K + 1, hlt, by go_num, by rw [HS1.out]; exact ho3, by rw [HS1.out, List.length_append, HL.out, hs2]; omega, hB3⟩
      case measure => simp [intOf]; omega
    · obtain rfl : K = 10 := by omega
      have i1 : ¬ ((10 : Nat) : Int) < 10 := by omega
      rw [HFT.out, HFF.out] at hO
      have k1 := seg_stringD hO.seg 9 Try.underlying9
      obtain ⟨a3, c3, rfl⟩ := Seg.shapeD hO.seg
      clear hlen
      go_wp2
      go_ret
      exact ⟨rfl, hB⟩
/-- Writes alone, one behind the other. -/
def writesS : List ActP → DS → DS
  | [], s => s
  | a :: l, s => writesS l (if a.act = 0 then (writeS s a.k a.b).2 else s)
theorem writesS_snoc (l : List ActP) (a : ActP) (s : DS) : writesS (l ++ [a]) s = if a.act = 0 then (writeS (writesS l s) a.k a.b).2 else writesS l s := by
  induction l generalizing s with
  | nil => rfl
  | cons b l ih => exact ih _
theorem writesS_step {l : List ActP} {I : Nat} {a : ActP} (h : l[I]? = some a) (s : DS) : writesS (l.take (I + 1)) s = if a.act = 0 then (writeS (writesS (l.take I) s) a.k a.b).2 else writesS (l.take I) s := by
  rw [List.take_add_one, h]
  exact writesS_snoc _ _ _
theorem calm_writes : ∀ (l : List ActP) (s : DS), calm s → calm (writesS l s)
  | [], _, h => h
  | a :: l, s, h => calm_writes l _ (by split; exact calm_write h _ _; exact h)
theorem synced_dirty (s : DS) : dirtyS (syncedS s) = [] := by
  have h : ∀ (n i : Nat), dirtyAt i (List.replicate n false) = [] := by
    intro n
    induction n with
    | zero => intro i; rfl
    | succ n ih => intro i; rw [List.replicate_succ]; exact ih (i + 1)
  exact h _ 0
theorem crash_synced {s : DS} (stay : List Bool) (torn cut : Int) : crashS (syncedS s) stay torn cut = { syncedS s with next := [], down := false } := by
  unfold crashS
  rw [synced_dirty]
  rfl
set_option maxRecDepth 100000 in
set_option maxHeartbeats 8000000 in
theorem diskSynced_any (v : Value) (l : List ActP) (bv sv : Value) (x : ActP) (w : World) (hl : ActsIn w v l) (hx : ActAt w bv sv x) :
    Calls Try.prog 7 #[v, .agg #[.int .i64 x.act, .int .i64 x.k, .int .i64 x.n, bv, sv]] w fun e w' => e = .returned (.bool true) ∧ Below w.heap.size w w' := by
  obtain ⟨ao, c, rfl, hlm, hlc⟩ := id hl
  obtain ⟨as5, cs5, rfl, hbo⟩ := id hx.s
  unfold maxLen at hlm
  go_enter Try.func7, Try.ntmps7
  go_wp2_with fail
  refine (awake5_any _).mono ?_
  rintro e w1 ⟨rfl, hb1⟩
  have hBx : Below w.heap.size w (w.alloc (.cells #[.int .i64 x.act, .int .i64 x.k, .int .i64 x.n, bv, .slice as5 x.stay.length cs5] 38)) := (Below.refl _ w).alloc (Nat.le_refl _) _
  have hbox : Blk w1 w.heap.size 38 #[.int .i64 x.act, .int .i64 x.k, .int .i64 x.n, bv, .slice as5 x.stay.length cs5] := (Blk.new w 38 _).below hb1 (by simp)
  have hB1 : Below w.heap.size w w1 := hBx.trans (hb1.mono hBx.size)
  have hw1 : w.heap.size < w1.heap.size := hbox.lt
  clear hb1 hBx
  have b4 := hbox.cell (j := 4) rfl
  go_wp2_with fail
  refine (much_any _ l _ (hl.below hB1 (Nat.le_refl _))).mono ?_
  rintro e w2 ⟨rfl, rfl⟩
  by_cases hmany : muchB l = true ∨ 5000 < x.stay.length
  · by_cases hmu : muchB l = true
    · rw [hmu]
      clear hmany
      go_wp2_with fail
      refine (new_at 10 10 rfl _ (by decide) (by decide)).mono ?_
      rintro e w3 ⟨L, rfl, -, -, hb3, -, -⟩
      go_wp2
      go_ret
      exact ⟨rfl, hB1.trans (hb3.mono hB1.size)⟩
    · have hs : (5000 : Int) < (x.stay.length : Int) := by rcases hmany with h | h; exact absurd h hmu; omega
      rw [show muchB l = false by simpa using hmu]
      clear hmany hmu
      go_wp2_with fail
      refine (new_at 10 10 rfl _ (by decide) (by decide)).mono ?_
      rintro e w3 ⟨L, rfl, -, -, hb3, -, -⟩
      go_wp2
      go_ret
      exact ⟨rfl, hB1.trans (hb3.mono hB1.size)⟩
  have hmu : muchB l = false := by simpa using fun h => hmany (.inl h)
  have hs : ¬ (5000 : Int) < (x.stay.length : Int) := by omega
  rw [hmu]
  clear hmany
  go_wp2_with fail
  refine (new_at 10 10 rfl _ (by decide) (by decide)).mono ?_
  rintro e w3 ⟨L, rfl, hn, hD3, hb3, hT3, -⟩
  have hB3 : Below w.heap.size w w3 := hB1.trans (hb3.mono hB1.size)
  have hT : ∀ q, L.T q → w.heap.size < q := fun q hq => Nat.lt_of_lt_of_le hw1 (hT3 q hq)
  have hbox3 := hbox.below hb3 hw1
  clear hbox b4 hb3 hT3 hB1
  have hT' : ∀ q, L.T q → w.heap.size ≤ q := fun q hq => Nat.le_of_lt (hT q hq)
  go_wp2_with fail
  go_loopw [9] (fun i wr => ∃ I : Nat, i = .int .i64 (I : Int) ∧ I ≤ l.length ∧ I ≤ 100 ∧ PDisk wr L (writesS (l.take I) (newS 10)) ∧ Below w.heap.size w wr ∧ Chg L.T w3 wr) (fun i _ => 100 - (intOf i).toNat)
  case atStart => exact ⟨0, rfl, Nat.zero_le _, by omega, hD3, hB3, Chg.refl _ _⟩
  case round =>
    obtain ⟨I, rfl, hI, hI1, hD, hB, hcr⟩ := hrel
    clear hD3 hB3
    by_cases hgo : I < l.length ∧ I < 100
    · obtain ⟨h1, h2⟩ := hgo
      have i1 : (I : Int) < (l.length : Int) := by omega
      have i2 : (I : Int) < 100 := by omega
      have hg : l[I]? = some l[I] := List.getElem?_eq_getElem h1
      obtain ⟨A, hA⟩ : ∃ A, l[I] = A := ⟨_, rfl⟩
      rw [hA] at hg
      clear hA
      obtain ⟨q, off, rfl, hq, d0, d1, d2, bvI, svI, d3, d4, hat⟩ := hlc I A hg
      have hcell : ∀ o, wr.cell? ⟨q, o, none⟩ = w.cell? ⟨q, o, none⟩ := fun o => hB.cell (p := ⟨q, o, none⟩) hq
      rw [← hcell, Nat.mul_comm] at d0 d1 d3
      have hbd := (muchB_false hmu hg (by omega)).1
      have hst := writesS_step hg (newS 10)
      have hsb := hat.b.below hB (Nat.le_refl _)
      have hap := hat.b.apart hT'
      obtain ⟨aI, cI, rfl⟩ := Seg.shapeD hat.b
      have HST : Hid (writesS (l.take (I + 1)) (newS 10) = if A.act = 0 then (writeS (writesS (l.take I) (newS 10)) A.k A.b).2 else writesS (l.take I) (newS 10)) := hst
      clear hst hlc d2 d4 hcell hg
      by_cases h0 : A.act = 0
      · rw [h0] at d0
        go_wp2_with fail
        go_still_tail 11, (by kernel_rfl)
        go_wp2_with fail
        refine (write_any L _ A.k _ A.b wr.drew (hD.after ((Below.refl _ wr).drew)) hsb.drew hap).mono ?_
        rintro e w5 ⟨rfl, hD5, hc5⟩
        have hB5 : Below w.heap.size w w5 := below_chg hB.drew hc5 hT' (Nat.le_refl _)
        have hcr5 : Chg L.T w3 w5 := hcr.drew.trans (S' := L.T) hc5 (fun _ _ h => h)
        go_wp2
        go_roundw
        case rel => exact ⟨I + 1, by go_num, h1, h2, by rw [HST.out, if_pos h0]; exact hD5, hB5, hcr5⟩
        case measure => simp [intOf]; omega
      · have h0' : (A.act == 0) = false := by simpa using h0
        go_wp2
        go_roundw
        case rel => exact ⟨I + 1, by go_num, h1, h2, by rw [HST.out, if_neg h0]; exact hD, hB, hcr⟩
        case measure => simp [intOf]; omega
    · have hbr : Blk wr w.heap.size 38 #[.int .i64 x.act, .int .i64 x.k, .int .i64 x.n, bv, .slice as5 x.stay.length cs5] := hbox3.chg hcr (fun e => by have := hT _ e; omega)
      have hcm := calm_writes (l.take I) (newS 10) (newS_calm 10)
      generalize writesS (l.take I) (newS 10) = s at *
      have hsy : syncS s = (0, syncedS s) := by unfold syncS; rw [mayS_calm hcm]; rfl
      have HSY : Hid (Calls Try.prog 22 #[.pointer (some ⟨L.g, 0, none⟩)] wr fun e w' => e = .returned (.int .i64 0) ∧ PDisk w' L (syncedS s) ∧ Chg L.T wr w') := by
        have := sync_any L s wr hD
        rw [hsy] at this
        exact this
      have hdn : (syncedS s).down = false := hcm.1
      have hBA : ∀ W : World, Below w.heap.size w W → BoolsA W L.T (.slice as5 x.stay.length cs5) x.stay := fun W hW => hx.s.apart hW hT'
      have HBA : Hid (∀ W : World, Below w.heap.size w W → BoolsA W L.T (.slice as5 x.stay.length cs5) x.stay) := hBA
      clear hBA hsy hlc
      have HA1 : Hid (∀ W : World, PDisk W L (syncedS s) → Calls Try.prog 24 #[.pointer (some ⟨L.g, 0, none⟩)] W fun e w' => e = .returned (.string ⟨s.now.flatten.toArray⟩) ∧ Below W.heap.size W w') := fun W hW => all_any L (syncedS s) W hW hn hdn
      have HA2 : Hid (∀ W : World, PDisk W L { syncedS s with next := [], down := false } → Calls Try.prog 24 #[.pointer (some ⟨L.g, 0, none⟩)] W fun e w' => e = .returned (.string ⟨s.now.flatten.toArray⟩) ∧ Below W.heap.size W w') := fun W hW => all_any L { syncedS s with next := [], down := false } W hW hn rfl
      have HCR : Hid (∀ W : World, PDisk W L (syncedS s) → Below w.heap.size w W → Calls Try.prog 21 #[.pointer (some ⟨L.g, 0, none⟩), .slice as5 x.stay.length cs5, .int .i64 x.k, .int .i64 x.n] W fun e w' => e = .returned (.tuple #[]) ∧ PDisk w' L { syncedS s with next := [], down := false } ∧ Chg L.T W w') := fun W hW hWB => by
        have := crash_any L (syncedS s) (.slice as5 x.stay.length cs5) x.stay x.k x.n W hW (HBA.out W hWB)
        rw [crash_synced] at this
        exact this
      have HDY : Hid (∀ W : World, PDisk W L (syncedS s) → Calls Try.prog 16 #[.pointer (some ⟨L.g, 0, none⟩)] W fun e w' => ∃ a c, e = .returned (.slice a 0 c) ∧ Below W.heap.size W w') := fun W hW => by
        refine (dirty_any L (syncedS s) W hW).mono ?_
        rintro e w' ⟨v, rfl, ho, hb⟩
        rw [synced_dirty] at ho
        obtain ⟨a, c, rfl⟩ := ho.sl
        exact ⟨a, c, rfl, hb⟩
      generalize (⟨s.now.flatten.toArray⟩ : ByteArray) = X at HA1 HA2
      have hnt : ¬ ((I : Int) < (l.length : Int) ∧ (I : Int) < 100) := by omega
      clear hgo
      by_cases h1 : I < l.length
      · have i1 : (I : Int) < (l.length : Int) := by omega
        have i2 : ¬ (I : Int) < 100 := by omega
        clear hnt
        go_wp2_with fail
        refine HSY.out.mono ?_
        rintro e w4 ⟨rfl, hD4, hc4⟩
        have hB4 : Below w.heap.size w w4 := below_chg hB hc4 hT' (Nat.le_refl _)
        have hbx4 := hbr.chg hc4 (fun e => by have := hT _ e; omega)
        go_wp2_with fail
        refine (HA1.out w4 hD4).mono ?_
        rintro e w5 ⟨rfl, hb5⟩
        have hD5 := hD4.after hb5
        have hB5 : Below w.heap.size w w5 := hB4.trans (hb5.mono hB4.size)
        have hbx5 := hbx4.below hb5 hbx4.lt
        clear hD4 hB4 hbx4 hb5
        go_wp2_with fail
        refine (HDY.out w5 hD5).mono ?_
        rintro e w6 ⟨a6, c6, rfl, hb6⟩
        have hD6 := hD5.after hb6
        have hB6 : Below w.heap.size w w6 := hB5.trans (hb6.mono hB5.size)
        have hbx6 := hbx5.below hb6 hbx5.lt
        have b1 := hbx6.cell (j := 1) rfl
        have b2 := hbx6.cell (j := 2) rfl
        have b4 := hbx6.cell (j := 4) rfl
        clear hD5 hB5 hbx5 hb6
        go_wp2_with fail
        refine (HCR.out w6 hD6 hB6).mono ?_
        rintro e w7 ⟨rfl, hD7, hc7⟩
        have hB7 : Below w.heap.size w w7 := below_chg hB6 hc7 hT' (Nat.le_refl _)
        go_wp2_with fail
        refine (HA2.out w7 hD7).mono ?_
        rintro e w8 ⟨rfl, hb8⟩
        have hB8 : Below w.heap.size w w8 := hB7.trans (hb8.mono hB7.size)
        go_wp2
        go_ret
        exact ⟨rfl, hB8⟩
      · have i1 : ¬ (I : Int) < (l.length : Int) := by omega
        clear hnt
        go_wp2_with fail
        refine HSY.out.mono ?_
        rintro e w4 ⟨rfl, hD4, hc4⟩
        have hB4 : Below w.heap.size w w4 := below_chg hB hc4 hT' (Nat.le_refl _)
        have hbx4 := hbr.chg hc4 (fun e => by have := hT _ e; omega)
        go_wp2_with fail
        refine (HA1.out w4 hD4).mono ?_
        rintro e w5 ⟨rfl, hb5⟩
        have hD5 := hD4.after hb5
        have hB5 : Below w.heap.size w w5 := hB4.trans (hb5.mono hB4.size)
        have hbx5 := hbx4.below hb5 hbx4.lt
        clear hD4 hB4 hbx4 hb5
        go_wp2_with fail
        refine (HDY.out w5 hD5).mono ?_
        rintro e w6 ⟨a6, c6, rfl, hb6⟩
        have hD6 := hD5.after hb6
        have hB6 : Below w.heap.size w w6 := hB5.trans (hb6.mono hB5.size)
        have hbx6 := hbx5.below hb6 hbx5.lt
        have b1 := hbx6.cell (j := 1) rfl
        have b2 := hbx6.cell (j := 2) rfl
        have b4 := hbx6.cell (j := 4) rfl
        clear hD5 hB5 hbx5 hb6
        go_wp2_with fail
        refine (HCR.out w6 hD6 hB6).mono ?_
        rintro e w7 ⟨rfl, hD7, hc7⟩
        have hB7 : Below w.heap.size w w7 := below_chg hB6 hc7 hT' (Nat.le_refl _)
        go_wp2_with fail
        refine (HA2.out w7 hD7).mono ?_
        rintro e w8 ⟨rfl, hb8⟩
        have hB8 : Below w.heap.size w w8 := hB7.trans (hb8.mono hB7.size)
        go_wp2
        go_ret
        exact ⟨rfl, hB8⟩
end Go.Proofs.Ytjhiopfhndbfkaa
