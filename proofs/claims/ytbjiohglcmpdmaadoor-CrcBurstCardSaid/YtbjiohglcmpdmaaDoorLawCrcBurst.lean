/-
  What is proved here: of all texts, places and turns, the statement CrcBurst answers true: texts of one length that are unlike only within 24 bits have unlike sums, and the Seal of the one with the other's bytes in it is opened by nobody.
  Conditions: the variable fourBits holds the sixteen words.
-/
import Derived.Test.YtbjiohglcmpdmaaDoorCrcOpen
namespace Go.Proofs.YtbjiohglcmpdmaaDoor
open Go.RowKit

theorem Own.store {w : World} {base g n c : Nat} {bs : List UInt8} (h : Own w base (.slice (some ⟨g, 0, none⟩) n c) bs) (hn : bs.length = n) (i : Nat) (y : UInt8) :
    Own (w.setCell ⟨g, i, none⟩ (v8 y)) base (.slice (some ⟨g, 0, none⟩) n c) (bs.set i y) := by
  subst hn
  have := (World.ownsRow.stored h i (v8 y)).1
  unfold Own
  rw [List.length_set, List.map_set]
  exact this
theorem Own.cell {w : World} {base g n c : Nat} {bs : List UInt8} (h : Own w base (.slice (some ⟨g, 0, none⟩) n c) bs) (hn : bs.length = n) (i : Nat) (hi : i < n) :
    w.cell? ⟨g, i, none⟩ = some (v8 (bs.getD i 0)) ∧ w.frozen? ⟨g, i, none⟩ = false := by
  subst hn
  refine ⟨?_, World.ownsRow.frozenAt h i⟩
  rw [World.ownsRow.cellAt h i (by simpa using hi)]
  simp [hi, List.getD]
theorem shr128 (r : Nat) : (128 : Int) / 2 ^ r = n8 (UInt8.ofNat (128 / 2 ^ r)) := by
  have h : 128 / 2 ^ r ≤ 128 := Nat.div_le_self _ _
  have e : (UInt8.ofNat (128 / 2 ^ r)).toNat = 128 / 2 ^ r := by simp; omega
  unfold n8
  rw [e, natPow, show (128 : Int) = ((128 : Nat) : Int) from rfl, ← Int.natCast_ediv]
/-- The first i bytes of one text, the rest of another. -/
def mix (a b : List UInt8) (i : Nat) : List UInt8 := a.take i ++ b.drop i
theorem mix_len (a b : List UInt8) (i : Nat) (h : i ≤ a.length) (hb : a.length ≤ b.length) : (mix a b i).length = b.length := by
  simp [mix]; omega
theorem mix_set (a b : List UInt8) (i : Nat) (h : i < a.length) (hb : a.length ≤ b.length) : (mix a b i).set i (a.getD i 0) = mix a b (i + 1) := by
  unfold mix
  rw [List.set_append_right _ _ (by simp; omega), List.length_take, Nat.min_eq_left (by omega), Nat.sub_self, List.drop_eq_getElem_cons (i := i) (by omega), List.set_cons_zero, List.take_succ_eq_append_getElem h, List.append_assoc]
  simp [List.getD, h]
theorem open_unlike (a b : List UInt8) (hab : crcOf a ≠ crcOf b) : openOf (a ++ sumB (crcOf b)) = none := by
  have h3 : (sumB (crcOf b)).length = 3 := rfl
  have hl : (a ++ sumB (crcOf b)).length - 3 = a.length := by simp [h3]
  refine openOf_no _ (by simp [h3]) ?_
  rw [hl, List.take_left, List.drop_left]
  exact fun h => hab (sumB_inj _ _ (crcOf_lt a) (crcOf_lt b) h)
theorem bit_form (T : BitVec 32) (n : Nat) : bits .and .u32 (n32 T / 2 ^ n) 1 = if T.getLsbD n then 1 else 0 := by
  rw [natPow, shr32, show (1 : Int) = n32 1#32 from rfl, bits_and32]
  have e : (T >>> n) &&& 1#32 = if T.getLsbD n then 1#32 else 0#32 := by
    apply BitVec.eq_of_getLsbD_eq
    intro j hj
    rw [BitVec.getLsbD_and, BitVec.getLsbD_ushiftRight]
    by_cases h0 : j = 0
    · subst h0
      cases T.getLsbD n <;> simp
    · have : (1#32).getLsbD j = false := by simp [h0]
      rw [this]
      cases T.getLsbD n <;> simp [h0]
  rw [e]
  cases T.getLsbD n <;> rfl

set_option maxRecDepth 100000 in
set_option maxHeartbeats 1000000 in
theorem crcBurst_any (x : Value) (bs : List UInt8) (ao : Option Addr) (len c : Nat) (at_ : Int) (t : BitVec 32) (w : World) (hx : x = .slice ao len c) (hl : bs.length = len) (hm : len ≤ maxLen) (hseg : Seg w x bs) (hat : at_ ≤ 9223372036854775807) (hgf : 0 < w.heap.size) (hf : Tab w 0 (fours.map v32)) :
    Calls Tryd.prog 6 #[x, .int .i64 at_, v32 t] w fun e w' => e = .returned (.bool true) ∧ Below w.heap.size w w' := by
  subst hx
  unfold maxLen at hm
  have ha := and24 t
  have hT := low24_lt t
  generalize low24 t = T at ha hT
  by_cases hlow : len < 4
  · go_enter Tryd.func6, Tryd.ntmps6
    go_wp2_with (go_at_call 9; refine (cawake_any _ hgf hf).mono ?_; rintro e w1 ⟨rfl, hb1⟩)
    all_goals (go_ret; exact ⟨rfl, hb1⟩)
  by_cases hbig : 10000 < len
  · go_enter Tryd.func6, Tryd.ntmps6
    go_wp2_with (go_at_call 9; refine (cawake_any _ hgf hf).mono ?_; rintro e w1 ⟨rfl, hb1⟩)
    all_goals (go_ret; exact ⟨rfl, hb1⟩)
  by_cases hneg : at_ < 0
  · go_enter Tryd.func6, Tryd.ntmps6
    go_wp2_with (go_at_call 9; refine (cawake_any _ hgf hf).mono ?_; rintro e w1 ⟨rfl, hb1⟩)
    all_goals (go_ret; exact ⟨rfl, hb1⟩)
  by_cases hz : T = 0#32
  · rw [hz, show n32 0#32 = 0 from rfl] at ha
    go_enter Tryd.func6, Tryd.ntmps6
    go_wp2_with (go_at_call 9; refine (cawake_any _ hgf hf).mono ?_; rintro e w1 ⟨rfl, hb1⟩)
    all_goals (go_ret; exact ⟨rfl, hb1⟩)
  have h0 : (n32 T == 0) = false := by
    rw [show (0 : Int) = n32 0#32 from rfl, n32_beq]; simp [hz]
  obtain ⟨A, rfl⟩ := Int.eq_ofNat_of_zero_le (Int.not_lt.1 hneg)
  obtain ⟨K, hK, hK24⟩ : ∃ K : Nat, (A : Int) % (8 * ((len : Int) - 3)) = (K : Int) ∧ K + 24 ≤ 8 * len := by
    refine ⟨A % (8 * (len - 3)), ?_, ?_⟩
    · rw [show (8 * ((len : Int) - 3)) = ((8 * (len - 3) : Nat) : Int) by omega]; simp
    · have := Nat.mod_lt A (show 0 < 8 * (len - 3) by omega)
      omega
  go_enter Tryd.func6, Tryd.ntmps6
  go_wp2_with fail
  refine (cawake_any _ hgf hf).mono ?_
  rintro e w1 ⟨rfl, hb1⟩
  have s1 := hb1.size
  have hs1 := hseg.below hb1 (Nat.le_refl _)
  go_wp2_with (first | (at_builtin; refine app_own _ rfl (.tmp 39) (.tmp 40) rfl w1.heap.size _ [] rfl (by exact own_empty _ _ _ rfl (Nat.le_refl _)) _ bs rfl (by exact hs1.alloc _) (by simp; omega) (by simp) ?_; intro v2 w2 ho2 hg2 hv2; rw [List.nil_append] at ho2; have hB2 := below_grown ((Below.refl w1.heap.size w1).alloc (Nat.le_refl _) _) hg2 (by simp) (fun q hq => by have h2 : w1.heap.size = q := Option.some.inj hq; omega); have s2 := hB2.size; clear hg2 hv2; obtain ⟨g2, c2, rfl, hgb2, hgl2, hc2, hr2⟩ := ho2.form (by omega); rw [hl] at ho2 ⊢) | fail)
  have HT : Hid (T.toNat < 16777216 ∧ T ≠ 0#32) := ⟨hT, hz⟩
  rw [hK]
  clear ha hT hz h0 hK hr2
  go_loopw [10] (fun i wr => ∃ n : Nat, n ≤ 24 ∧ i = .int .i64 n ∧ Own wr w1.heap.size (.slice (some ⟨g2, 0, none⟩) len c2) (burst bs K T n) ∧ Below w1.heap.size w1 wr) (fun i _ => 24 - (intOf i).toNat)
  case atStart => exact ⟨0, by omega, rfl, ho2, hB2⟩
  case round =>
    clear ho2 hB2 hs1
    obtain ⟨n, hn, rfl, ho, hb⟩ := hrel
    by_cases hlt : n < 24
    · have hlB : (burst bs K T n).length = len := by rw [burst_len, hl]
      obtain ⟨hc, hfz⟩ := ho.cell hlB ((K + n) / 8) (by omega)
      have hbt := bit_form T n
      have hO : ∀ y, Own (wr.setCell ⟨g2, (K + n) / 8, none⟩ (v8 y)) w1.heap.size (.slice (some ⟨g2, 0, none⟩) len c2) ((burst bs K T n).set ((K + n) / 8) y) := fun y => ho.store hlB _ y
      have HB : Hid (burst bs K T (n + 1) = if T.getLsbD n then (burst bs K T n).set ((K + n) / 8) ((burst bs K T n).getD ((K + n) / 8) 0 ^^^ UInt8.ofNat (128 / 2 ^ ((K + n) % 8))) else burst bs K T n) := rfl
      generalize (burst bs K T n).getD ((K + n) / 8) 0 = y0 at hc HB
      have hsh : Hid ((128 : Int) / 2 ^ ((K + n) % 8) = n8 (UInt8.ofNat (128 / 2 ^ ((K + n) % 8)))) := shr128 _
      generalize UInt8.ofNat (128 / 2 ^ ((K + n) % 8)) = y1 at HB hsh
      cases hbit : T.getLsbD n
      · rw [hbit] at hbt HB
        simp only [Bool.false_eq_true, if_false] at hbt HB
        go_wp2
        go_roundw
        case rel => exact ⟨n + 1, by omega, by go_num, by rw [HB.out]; exact ho, hb⟩
        case measure => simp [intOf]; omega
      · rw [hbit] at hbt HB
        simp only [if_true] at hbt HB
        go_wp2
        rw [hsh.out, xor8]
        go_roundw
        case rel => exact ⟨n + 1, by omega, by go_num, by rw [HB.out]; exact hO _, hb.setCell (by simp; omega) _⟩
        case measure => simp [intOf]; omega
    · obtain hn24 : n = 24 := by omega
      rw [hn24] at ho
      have hB : Below w.heap.size w wr := hb1.trans (hb.mono s1)
      have hBs := hB.size
      have hlB : (burst bs K T 24).length = len := by rw [burst_len, hl]
      have HN : Hid (crcOf (burst bs K T 24) ≠ crcOf bs) := crc_burst_ne bs K T (by omega) HT.out.1 HT.out.2 _
      have hgl : g2 < wr.heap.size := (ho.blocks g2 rfl).2
      generalize burst bs K T 24 = cs at ho HN hlB
      have hfr := hf.below hB hgf
      go_wp2_with fail
      refine (seal_any _ bs _ (by omega) (hseg.below hB (Nat.le_refl _)) (by omega) hfr).mono ?_
      rintro e w4 ⟨v4, rfl, ho4, hb4⟩
      have hl4 : (bs ++ sumB (crcOf bs)).length = len + 3 := by rw [List.length_append, sumB_len, hl]
      obtain ⟨g4, c4, rfl, hgb4, hgl4, hc4, hr4⟩ := ho4.form (by omega)
      rw [hl4] at ho4 hc4 ⊢
      have s4 := hb4.size
      have HM : Hid (mix cs (bs ++ sumB (crcOf bs)) len = cs ++ sumB (crcOf bs)) := by
        show _ = _
        unfold mix
        rw [List.take_of_length_le (by omega), List.drop_left' hl]
      have HO : Hid (openOf (cs ++ sumB (crcOf bs)) = none) := open_unlike cs bs HN.out
      have hlM : (cs ++ sumB (crcOf bs)).length ≤ 100000000 := by rw [List.length_append, sumB_len]; omega
      have h0 : Own w4 wr.heap.size (.slice (some ⟨g4, 0, none⟩) (len + 3) c4) (mix cs (bs ++ sumB (crcOf bs)) 0) := ho4
      clear hr4 ho4
      generalize bs ++ sumB (crcOf bs) = SL at hl4 HM h0
      generalize cs ++ sumB (crcOf bs) = SM at HM HO hlM
      go_wp2_with fail
      obtain ⟨wa, hwa⟩ : ∃ wa, wa = wr := ⟨_, rfl⟩
      subst hwa
      go_loopw [12] (fun i W => ∃ m : Nat, m ≤ len ∧ i = .int .i64 m ∧ Own W wa.heap.size (.slice (some ⟨g4, 0, none⟩) (len + 3) c4) (mix cs SL m) ∧ Below wa.heap.size wa W) (fun i _ => len - (intOf i).toNat)
      case atStart => exact ⟨0, by omega, rfl, h0, hb4⟩
      case round =>
        clear h0 hb4
        obtain ⟨m, hm2, rfl, hoM, hbM⟩ := hrel
        have hlX : (mix cs SL m).length = len + 3 := by rw [mix_len _ _ _ (by omega) (by omega), hl4]
        by_cases hlm : m < len
        · obtain ⟨hc, hfz⟩ := hoM.cell hlX m (by omega)
          obtain ⟨hcc, _⟩ := (ho.below hbM (Nat.le_refl _)).cell hlB m hlm
          have hst := hoM.store hlX m (cs.getD m 0)
          rw [mix_set _ _ _ (by omega) (by omega)] at hst
          generalize cs.getD m 0 = y at hcc hst
          generalize (mix cs SL m).getD m 0 = y' at hc
          clear hoM
          go_wp2
          go_roundw
          case rel => exact ⟨m + 1, by omega, by go_num, hst, hbM.setCell (by simp; omega) _⟩
          case measure => simp [intOf]; omega
        · obtain hml : m = len := by omega
          rw [hml, HM.out] at hoM
          have hBW : Below w.heap.size w wr := hB.trans (hbM.mono hBs)
          have hfW := hf.below hBW hgf
          have sWs := hBW.size
          go_wp2_with fail
          refine (open_any _ SM _ hlM hoM.seg (by omega) hfW).mono ?_
          rintro e w6 ⟨v6, rfl, _, hb6⟩
          rw [HO.out]
          have hB6 : Below w.heap.size w w6 := hBW.trans (hb6.mono sWs)
          have hf6 := hf.below hB6 hgf
          have sc6 := (ho.seg.below hbM (Nat.le_refl _)).below hb6 (Nat.le_refl _)
          go_wp2_with fail
          refine (csum_any _ bs _ (by omega) (hseg.below hB6 (Nat.le_refl _)) hf6).mono ?_
          rintro e w7 ⟨rfl, rfl⟩
          go_wp2_with fail
          refine (csum_any _ cs _ (by omega) sc6 hf6).mono ?_
          rintro e w8 ⟨rfl, rfl⟩
          have hne : (n32 (crcOf bs) != n32 (crcOf cs)) = true := by rw [bne, n32_beq, decide_eq_false fun h => HN.out h.symm]; rfl
          generalize crcOf bs = S1 at hne ⊢
          generalize crcOf cs = S2 at hne ⊢
          go_wp2
          go_ret
          exact ⟨rfl, hB6⟩
end Go.Proofs.YtbjiohglcmpdmaaDoor
