/-
  What is proved here: of all numbers and bytes, the statement DiskApart answers true: a write changes its own sector alone, and what is read is the reader's own.
  Conditions: none.
-/
import Derived.Test.YtjhiopfhndbfkaaPDiskAwake
import Derived.BigQuiet
import Derived.Deep.QuietTactic
namespace Go.Proofs.Ytjhiopfhndbfkaa
open Go.RowKit Go.Maps

set_option maxRecDepth 100000 in
set_option maxHeartbeats 4000000 in
theorem diskApart_any (k : Int) (x : Value) (bs : List UInt8) (ao : Option Addr) (len c : Nat) (other : Int) (w : World) (hk : k ≤ 9223372036854775807) (hx : x = .slice ao len c) (hl : bs.length = len) (hm : len ≤ maxLen) (hseg : Seg w x bs) (ho : other ≤ 9223372036854775807) :
    Calls Try.prog 6 #[.int .i64 k, x, .int .i64 other] w fun e w' => e = .returned (.bool true) ∧ Below w.heap.size w w' := by
  subst hx
  unfold maxLen at hm
  go_enter Try.func6, Try.ntmps6
  go_wp2_with fail
  refine (awake5_any _).mono ?_
  rintro e w1 ⟨rfl, hb1⟩
  go_wp2_with fail
  refine (new_at 8 8 rfl _ (by decide) (by decide)).mono ?_
  rintro e w2 ⟨L, rfl, hn, hD2, hb2, hT2, -⟩
  have hT : ∀ q, L.T q → w.heap.size ≤ q := fun q hq => Nat.le_trans hb1.size (hT2 q hq)
  have hB2 : Below w.heap.size w w2 := hb1.trans (hb2.mono hb1.size)
  clear hb1 hb2 hT2
  by_cases hbig : 1000 < len
  · go_wp2
    go_ret
    exact ⟨rfl, hB2⟩
  go_wp2_with fail
  have hA2 := (Below.refl _ w2).alloc (Nat.le_refl _) (.cells #[.int .u8 1, .int .u8 2, .int .u8 3] 5)
  refine (write_any L (newS 8) other _ [1, 2, 3] _ (hD2.after hA2) (own_new w2 [1, 2, 3]) (fun _ q hq e => by have := hD2.lt q e; simp [Value.ownBlock] at hq; omega)).mono ?_
  rintro e w3 ⟨rfl, hD3, hc3⟩
  have hB3 : Below w.heap.size w w3 := below_chg (hB2.alloc hB2.size _) hc3 hT (Nat.le_refl _)
  have hcm3 := calm_write (newS_calm 8) other [1, 2, 3]
  have hl3 : (writeS (newS 8) other [1, 2, 3]).2.now.length = 8 := writeS_len _ _ _
  clear hA2 hD2 hc3 hB2
  generalize (writeS (newS 8) other [1, 2, 3]).2 = s1 at *
  generalize (writeS (newS 8) other [1, 2, 3]).1 = e1 at *
  go_wp2_with fail
  refine (read_any L s1 other _ hD3).mono ?_
  rintro e w4 ⟨v4, rfl, ho4, hb4⟩
  have hD4 := hD3.after hb4
  have hlt4 : ∀ q, v4.ownBlock = some q → ¬ L.T q := fun q hq e => by have := (ho4.blocks q hq).1; have := hD3.lt q e; omega
  have hB4 : Below w.heap.size w w4 := hB3.trans (hb4.mono hB3.size)
  have hsg4 : Seg w4 (.slice ao len c) bs := hseg.below hB4 (Nat.le_refl _)
  have hxT : 0 < bs.length → ∀ q, (Value.slice ao len c).ownBlock = some q → ¬ L.T q := fun h0 q hq e => by
    rcases hseg with ⟨h, _⟩ | ⟨b, off, c', h, _, _, h4⟩
    · rw [h] at h0; cases h0
    · rw [h] at hq; simp [Value.ownBlock] at hq; have := hT q e; omega
  go_wp2_with fail
  refine (write_any L s1 k _ bs _ hD4 hsg4 hxT).mono ?_
  rintro e w5 ⟨rfl, hD5, hc5⟩
  have ho5 := ho4.chg hc5 hlt4
  have hB5 : Below w.heap.size w w5 := below_chg hB4 hc5 hT (Nat.le_refl _)
  go_wp2_with fail
  refine (read_any L (writeS s1 k bs).2 other _ hD5).mono ?_
  rintro e w6 ⟨v6, rfl, ho6, hb6⟩
  have hD6 := hD5.after hb6
  have ho5' := ho5.below hb6 (Nat.le_refl _)
  have hB6 : Below w.heap.size w w6 := hB5.trans (hb6.mono hB5.size)
  clear hD3 hb4 hD4 hsg4 hc5 hD5 ho4 ho5 hb6 hB3 hB4 hB5
  by_cases hbo : other < 0 ∨ 8 ≤ other
  · have g1 : (readS s1 other).2 = 1 := by rw [readS_calm hcm3, hl3, if_pos (by omega)]
    rw [g1]
    go_wp2
    go_ret
    exact ⟨rfl, hB6⟩
  have r1 : readS s1 other = (s1.now.getD other.toNat [], 0) := by rw [readS_calm hcm3, hl3, if_neg (by omega)]
  rw [r1] at ho5' ⊢
  by_cases hbk : k < 0 ∨ 8 ≤ k ∨ 128 < bs.length
  · have hw : writeS s1 k bs = (1, s1) := by rw [writeS_calm hcm3, hl3, if_pos (by omega)]
    rw [hw] at ho6 ⊢
    rw [r1] at ho6
    have k1 := seg_stringD ho5'.seg 9 Try.underlying9
    have k2 := seg_stringD ho6.seg 9 Try.underlying9
    generalize s1.now.getD other.toNat [] = BF at *
    obtain ⟨a5, c5, rfl⟩ := Seg.shapeD ho5'.seg
    obtain ⟨a6, c6, rfl⟩ := Seg.shapeD ho6.seg
    clear hbk hbo hw r1 ho6 hD6 ho5' hxT
    go_wp2
    go_ret
    exact ⟨rfl, hB6⟩
  have hw : writeS s1 k bs = (0, putS s1 k.toNat bs) := by rw [writeS_calm hcm3, hl3, if_neg (by omega)]
  rw [hw] at ho6 hD6 ⊢
  have hcm6 := calm_put hcm3 k.toNat bs
  have hl6 : (putS s1 k.toNat bs).now.length = 8 := by show (s1.now.set _ _).length = 8; rw [List.length_set]; exact hl3
  have r2 : readS (putS s1 k.toNat bs) other = ((putS s1 k.toNat bs).now.getD other.toNat [], 0) := by rw [readS_calm hcm6, hl6, if_neg (by omega)]
  have r3 : readS (putS s1 k.toNat bs) k = (padS bs, 0) := by
    rw [readS_calm hcm6, hl6, if_neg (by omega)]
    show ((s1.now.set k.toNat (padS bs)).getD k.toNat [], (0 : Int)) = _
    rw [getD_set _ _ _ _ _ (by omega), if_pos rfl]
  have r4 : k ≠ other → (putS s1 k.toNat bs).now.getD other.toNat [] = s1.now.getD other.toNat [] := fun h => by
    show (s1.now.set k.toNat (padS bs)).getD other.toNat [] = _
    rw [getD_set _ _ _ _ _ (by omega), if_neg (by omega)]
  rw [r2] at ho6 ⊢
  have hbx : bs.length ≤ 128 := by omega
  have hpl := padS_length hbx
  clear hw hbk hbo
  go_wp2_with fail
  refine (read_any L _ k _ hD6).mono ?_
  rw [r3]
  rintro e w7 ⟨v7, rfl, ho7, hb7⟩
  obtain ⟨g7, c7, rfl, hg7, hl7, hc7, hr7⟩ := ho7.form (by show 0 < (padS bs).length; omega)
  have hB7 : Below w.heap.size w w7 := hB6.trans (hb7.mono hB6.size)
  obtain ⟨X7, d7⟩ : ∃ X : Int, w7.cell? ⟨g7, 0, none⟩ = some (.int .u8 X) := ⟨_, hr7 0 (by show 0 < (padS bs).length; omega)⟩
  have f7 : w7.frozen? ⟨g7, 0, none⟩ = false := by
    rcases ho7.2 with ⟨h0, _⟩ | ⟨g', cap', cur, h1, _, h3, _⟩
    · cases h0
    · cases h1; exact Blk.frozen h3 0
  have hc7' : 128 ≤ c7 := by have h : (padS bs).length ≤ c7 := hc7; omega
  have e7 : ((padS bs, (0 : Int)).1).length = 128 := hpl
  rw [e7]
  go_wp2_with fail
  have hb8 : Below w6.heap.size w6 (w7.setCell ⟨g7, 0, none⟩ (.int .u8 ((X7 + 1) % 256))) := hb7.setCell (p := ⟨g7, 0, none⟩) hg7 _
  generalize w7.setCell ⟨g7, 0, none⟩ (.int .u8 ((X7 + 1) % 256)) = w8 at *
  have hD8 := hD6.after hb8
  have q5 := ho5'.below hb8 (Nat.le_refl _)
  have q6 := ho6.below hb8 (Nat.le_refl _)
  have hB8 : Below w.heap.size w w8 := hB6.trans (hb8.mono hB6.size)
  clear hr7 d7 f7 hb7 ho7 hD6 ho5' ho6 hb8 hB6 hB7
  refine (read_any L _ k _ hD8).mono ?_
  rw [r3]
  rintro e w9 ⟨v9, rfl, ho9, hb9⟩
  have hB9 : Below w.heap.size w w9 := hB8.trans (hb9.mono hB8.size)
  have p5 := (q5.below hb9 (Nat.le_refl _)).seg
  have p6 := (q6.below hb9 (Nat.le_refl _)).seg
  have p9 : Seg w9 v9 (padS bs) := ho9.seg
  have px := hseg.below hB9 (Nat.le_refl _)
  obtain ⟨a5, c5, rfl⟩ := Seg.shapeD p5
  obtain ⟨a6, c6, rfl⟩ := Seg.shapeD p6
  obtain ⟨a9, c9, hv9⟩ := Seg.shapeD p9
  rw [hpl] at hv9
  subst hv9
  obtain ⟨p9t, hc9⟩ := Seg.takesD p9 len (by omega)
  have et : (padS bs).take len = bs := by unfold padS; rw [← hl, List.take_left]
  rw [et] at p9t
  have hsl := slice_toD a9 128 c9 len hc9
  have k5 := fun q => seg_stringD (show Seg (w9.drewN q) _ _ from p5) 9 Try.underlying9
  have k6 := fun q => seg_stringD (show Seg (w9.drewN q) _ _ from p6) 9 Try.underlying9
  have k9 := fun q => seg_stringD (show Seg (w9.drewN q) _ _ from p9t) 9 Try.underlying9
  have kx := fun q => seg_stringD (show Seg (w9.drewN q) _ _ from px) 9 Try.underlying9
  clear p5 p6 p9 px p9t q5 q6 hD8 ho9 hseg hxT hb9 hB8 et hpl r1 r2 r3
  generalize s1.now.getD other.toNat [] = BF at *
  generalize (putS s1 k.toNat bs).now.getD other.toNat [] = AF at *
  generalize (⟨bs.toArray⟩ : ByteArray) = BX at k9 kx
  by_cases hko : k = other
  · subst hko
    clear r4 k5 k6
    go_wp2_with fail
    go_quiet (fail)
    go_wp2
    go_ret
    exact ⟨rfl, Below.drewN hB9 _⟩
  · obtain rfl := r4 hko
    have hko' : (k == other) = false := by simpa using hko
    clear r4 hko
    generalize (⟨AF.toArray⟩ : ByteArray) = AX at k5 k6
    go_wp2_with fail
    go_quiet (fail)
    go_wp2
    go_ret
    exact ⟨rfl, Below.drewN hB9 _⟩
end Go.Proofs.Ytjhiopfhndbfkaa
