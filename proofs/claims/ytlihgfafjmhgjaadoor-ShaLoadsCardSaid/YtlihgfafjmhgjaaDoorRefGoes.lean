/-
  What is proved here: the document's Is tells whether bytes are a saved state, and its Goes the hash of one that goes on from them.
  Conditions: at most ten thousand bytes each.
-/
import Derived.Test.YtlihgfafjmhgjaaDoorRefSum
import Derived.Test.YtlihgfafjmhgjaaDoorShaBack
import Derived.Test.YtlihgfafjmhgjaaDoorRefSave
namespace Go.Proofs.YtlihgfafjmhgjaaDoor
open Go.RowKit

instance (bs : List UInt8) : Decidable (saveOk bs) := by unfold saveOk; infer_instance

set_option maxRecDepth 100000 in
set_option maxHeartbeats 1000000 in
theorem refIs_any (x : Value) (bs : List UInt8) (w : World) (hm : bs.length ≤ 1000000) (hseg : Seg w x bs) :
    Calls Tryd.prog 17 #[x] w fun e w' => e = .returned (.int .i64 (if saveOk bs then 0 else 2)) ∧ w' = w := by
  have hlx : ∃ ao c, x = .slice ao bs.length c := by
    rcases hseg with ⟨rfl, ao, c, rfl, _⟩ | ⟨b, off, c, rfl, _, _, _⟩
    · exact ⟨ao, c, rfl⟩
    · exact ⟨_, c, rfl⟩
  obtain ⟨ao, c, rfl⟩ := hlx
  by_cases h40 : bs.length < 40
  · have hn : ¬ saveOk bs := fun h => by have := h.1; omega
    rw [if_neg hn]
    go_enter Tryd.func17, Tryd.ntmps17
    go_wp2
    go_ret
    exact ⟨rfl, rfl⟩
  obtain ⟨b, off, rfl, hc, hr, hb⟩ : ∃ b off, ao = some ⟨b, off, none⟩ ∧ bs.length ≤ c ∧ Row w b off bs ∧ b < w.heap.size := by
    rcases hseg with ⟨h, _⟩ | ⟨b, off, c', h, h2, h3, h4⟩
    · rw [h] at h40; simp at h40
    · cases h; exact ⟨b, off, rfl, h2, h3, h4⟩
  have HOK : Hid (saveOk bs ↔ (lenIn bs ≤ 1099511627776 ∧ bs.length - 40 = lenIn bs % 64)) := ⟨fun h => h.2, fun h => ⟨by omega, h⟩⟩
  have HL : Hid (lenIn bs = beNat ((bs.drop 32).take 8)) := rfl
  have hdl : (bs.drop 32).length = bs.length - 32 := by simp
  obtain ⟨len, hlen⟩ : ∃ len, bs.length = len := ⟨_, rfl⟩
  rw [hlen] at hm h40 hc hdl ⊢
  go_enter Tryd.func17, Tryd.ntmps17
  go_wp2
  go_loop [3, 4] (fun n i => ∃ k : Nat, k ≤ 8 ∧ i = .int .i64 ((32 + k : Nat) : Int) ∧ n = .int .u64 (beNat ((bs.drop 32).take k) : Int)) (fun _ i => 40 - (intOf i).toNat)
  case atStart => exact ⟨0, Nat.zero_le _, rfl, rfl⟩
  case round =>
    obtain ⟨k, hk, rfl, rfl⟩ := hrel
    by_cases hlt : k < 8
    · have hkd : k < (bs.drop 32).length := by omega
      have hce := (hr.drop 32) k hkd
      rw [Nat.add_assoc] at hce
      have hb2 : beNat ((bs.drop 32).take k) < 72057594037927936 := Nat.lt_of_lt_of_le (beNat_take_lt (bs.drop 32) k (by omega)) (Nat.pow_le_pow_right (n := 256) (by omega) (show k ≤ 7 by omega))
      have hx := lt8 (bs.drop 32)[k]
      have hx0 := ge8 (bs.drop 32)[k]
      have HT : Hid (beNat ((bs.drop 32).take (k + 1)) = beNat ((bs.drop 32).take k) * 256 + (bs.drop 32)[k].toNat) := by show _ = _; rw [beNat_take_succ (bs.drop 32) k hkd]
      have HX : Hid (n8 (bs.drop 32)[k] = ((bs.drop 32)[k].toNat : Int)) := rfl
      generalize beNat ((bs.drop 32).take k) = N at *
      generalize (bs.drop 32)[k] = X at *
      go_wp2
      go_round
      case rel => exact ⟨k + 1, by omega, by go_num, by rw [HT.out]; simp [HX.out]⟩
      case measure => simp [intOf]; omega
    · obtain hk8 : k = 8 := by omega
      rw [hk8, ← HL.out]
      have hlt : lenIn bs < 18446744073709551616 := Nat.lt_of_lt_of_le (beNat_lt _) (Nat.pow_le_pow_right (n := 256) (by omega) (show _ ≤ 8 by simp; omega))
      by_cases hbig : 1099511627776 < lenIn bs
      · have hn : ¬ saveOk bs := fun h => by have := HOK.out.1 h; omega
        have HN : Hid (¬ saveOk bs) := hn
        clear hn
        generalize lenIn bs = N at *
        go_wp2
        go_ret
        exact ⟨rfl, rfl⟩
      by_cases hmod : len - 40 = lenIn bs % 64
      · have hn : saveOk bs := HOK.out.2 (by rw [hlen]; omega)
        have HN : Hid (saveOk bs) := hn
        clear hn
        generalize lenIn bs = N at *
        have he : (((len : Int) - 40) != (N : Int) % 64) = false := by
          have : ((len : Int) - 40) = (N : Int) % 64 := by omega
          simpa using this
        go_wp2
        go_ret
        exact ⟨rfl, rfl⟩
      · have hn : ¬ saveOk bs := fun h => by have := HOK.out.1 h; rw [hlen] at this; omega
        have HN : Hid (¬ saveOk bs) := hn
        clear hn
        generalize lenIn bs = N at *
        have he : (((len : Int) - 40) != (N : Int) % 64) = true := by
          have : ¬ ((len : Int) - 40) = (N : Int) % 64 := by omega
          simpa using this
        go_wp2
        go_ret
        exact ⟨rfl, rfl⟩

/-- The number of those of a word's bytes that are among the first i. -/
def pwn (bs : List UInt8) (i j : Nat) : Nat := beNat ((bs.drop (4 * j)).take (min 4 (i - 4 * j)))
theorem pwn_step (bs : List UInt8) (i : Nat) (h : i < bs.length) : pwn bs (i + 1) (i / 4) = pwn bs i (i / 4) * 256 + bs[i].toNat := by
  unfold pwn
  have e1 : min 4 (i + 1 - 4 * (i / 4)) = min 4 (i - 4 * (i / 4)) + 1 := by omega
  have hk : min 4 (i - 4 * (i / 4)) < (bs.drop (4 * (i / 4))).length := by simp; omega
  rw [e1, beNat_take_succ _ _ hk]
  have e2 : (bs.drop (4 * (i / 4)))[min 4 (i - 4 * (i / 4))] = bs[i] := by
    rw [List.getElem_drop]
    congr 1
    omega
  rw [e2]
theorem pwn_other (bs : List UInt8) (i j : Nat) (h : j ≠ i / 4) : pwn bs (i + 1) j = pwn bs i j := by
  unfold pwn
  have e1 : min 4 (i + 1 - 4 * j) = min 4 (i - 4 * j) := by omega
  rw [e1]
theorem pwn_lt (bs : List UInt8) (i j : Nat) : pwn bs i j < 256 ^ (min 4 (i - 4 * j)) :=
  Nat.lt_of_lt_of_le (beNat_lt _) (Nat.pow_le_pow_right (n := 256) (by omega) (by simp; omega))
theorem pwn_lt24 (bs : List UInt8) (i : Nat) : pwn bs i (i / 4) < 16777216 :=
  Nat.lt_of_lt_of_le (pwn_lt bs i (i / 4)) (Nat.pow_le_pow_right (n := 256) (by omega) (show _ ≤ 3 by omega))
def pwCells (bs : List UInt8) (i : Nat) : Array Value := ((List.range 8).map fun j => Value.int .u32 (pwn bs i j : Int)).toArray
theorem pwCells_at (bs : List UInt8) (i j : Nat) (h : j < 8) : (pwCells bs i)[j]? = some (.int .u32 (pwn bs i j : Int)) := by
  unfold pwCells
  simp [h]
theorem pwCells_set (bs : List UInt8) (i : Nat) (h : i / 4 < 8) : (pwCells bs i).setIfInBounds (i / 4) (.int .u32 (pwn bs (i + 1) (i / 4) : Int)) = pwCells bs (i + 1) := by
  apply Array.ext_getElem?
  intro j
  rw [Array.getElem?_setIfInBounds]
  by_cases hj : i / 4 = j
  · subst hj
    rw [if_pos rfl, pwCells_at bs (i + 1) _ h, if_pos (by simp [pwCells]; omega)]
  · rw [if_neg hj]
    by_cases h8 : j < 8
    · rw [pwCells_at bs i j h8, pwCells_at bs (i + 1) j h8, pwn_other bs i j (by omega)]
    · simp [pwCells, h8]
theorem pwCells_full (bs : List UInt8) : pwCells bs 32 = ((stIn bs).list.map v32).toArray := by
  have h : ∀ j, j < 8 → Value.int .u32 (pwn bs 32 j : Int) = v32 (wordAt bs j) := fun j hj => by
    have h1 := pwn_lt bs 32 j
    have h2 : min 4 (32 - 4 * j) = 4 := by omega
    have h3 : pwn bs 32 j = beNat ((bs.drop (4 * j)).take 4) := by unfold pwn; rw [h2]
    rw [h2] at h1
    show _ = Value.int .u32 ((BitVec.ofNat 32 (beNat ((bs.drop (4 * j)).take 4))).toNat : Int)
    rw [BitVec.toNat_ofNat, ← h3, Nat.mod_eq_of_lt h1]
  unfold pwCells
  show [_, _, _, _, _, _, _, _].toArray = [_, _, _, _, _, _, _, _].toArray
  simp only [h 0 (by omega), h 1 (by omega), h 2 (by omega), h 3 (by omega), h 4 (by omega), h 5 (by omega), h 6 (by omega), h 7 (by omega)]
  rfl
theorem pwCells_none (bs : List UInt8) : pwCells bs 0 = (List.replicate 8 (Value.int .u32 0)).toArray := by
  have h : ∀ j, Value.int .u32 (pwn bs 0 j : Int) = .int .u32 0 := fun j => by
    unfold pwn
    rw [show min 4 (0 - 4 * j) = 0 by omega]; rfl
  unfold pwCells
  show [_, _, _, _, _, _, _, _].toArray = [_, _, _, _, _, _, _, _].toArray
  simp only [h 0, h 1, h 2, h 3, h 4, h 5, h 6, h 7]

set_option maxRecDepth 100000 in
set_option maxHeartbeats 1000000 in
theorem refGoes_any (x : Value) (bs : List UInt8) (x' : Value) (ms : List UInt8) (w : World) (hm : bs.length ≤ 10000) (hm' : ms.length ≤ 10000) (hseg : Seg w x bs) (hseg' : Seg w x' ms) (hok : saveOk bs) :
    Calls Tryd.prog 18 #[x, x'] w fun e w' => e = .returned (.agg ((sumOf (stIn bs) (bs.drop 40 ++ ms) (lenIn bs + ms.length)).map v8).toArray) ∧ Below w.heap.size w w' := by
  obtain ⟨h40, hN1, hN2⟩ := hok
  obtain ⟨b, off, c, rfl, hc, hr, hb⟩ : ∃ b off c, x = .slice (some ⟨b, off, none⟩) bs.length c ∧ bs.length ≤ c ∧ Row w b off bs ∧ b < w.heap.size := by
    rcases hseg with ⟨h, _⟩ | ⟨b, off, c', h, h2, h3, h4⟩
    · rw [h] at h40; simp at h40
    · exact ⟨b, off, c', h, h2, h3, h4⟩
  have hlx : ∃ ao c, x' = .slice ao ms.length c := by
    rcases hseg' with ⟨rfl, ao, c, rfl, _⟩ | ⟨b, off, c, rfl, _, _, _⟩
    · exact ⟨ao, c, rfl⟩
    · exact ⟨_, c, rfl⟩
  obtain ⟨ao, cx, rfl⟩ := hlx
  obtain ⟨len, hlen⟩ : ∃ len, bs.length = len := ⟨_, rfl⟩
  obtain ⟨ml, hml⟩ : ∃ ml, ms.length = ml := ⟨_, rfl⟩
  rw [hlen] at hm h40 hc hN2 ⊢
  rw [hml] at hm' ⊢
  go_enter Tryd.func18, Tryd.ntmps18
  have HL : Hid (lenIn bs = beNat ((bs.drop 32).take 8)) := rfl
  have hdl : (bs.drop 32).length = len - 32 := by simp; omega
  have HN2 : Hid (len - 40 = lenIn bs % 64) := hN2
  clear hN2
  go_wp2
  go_loopw [6] (fun i wr => ∃ I : Nat, I ≤ 32 ∧ i = .int .i64 (I : Int) ∧ Blk wr w.heap.size 34 (upTo 32 0 (fun _ => Value.int .u8 0) (.int .u8 0)) ∧ Blk wr (w.heap.size + 1) 44 (pwCells bs I) ∧ Below w.heap.size w wr) (fun i _ => 32 - (intOf i).toNat)
  case atStart =>
    refine ⟨0, Nat.zero_le _, rfl, ((Blk.new w 34 _).of_eq ?_).alloc _, (Blk.newAt _ 44 _ _ (by simp)).of_eq (pwCells_none bs).symm, ((Below.refl w.heap.size w).alloc (Nat.le_refl _) _).alloc (by simp) _⟩
    rfl
  case round =>
    obtain ⟨I, hI, rfl, hA, hB, hb1⟩ := hrel
    by_cases hlt : I < 32
    · have hce := (hr.below hb1 hb) I (by omega)
      have hlt24 := pwn_lt24 bs I
      have HS := pwn_step bs I (by omega)
      have hcw := hB.cell (pwCells_at bs I (I / 4) (by omega))
      have R := hB.set (I / 4) (.int .u32 (pwn bs (I + 1) (I / 4) : Int))
      rw [pwCells_set bs I (by omega), HS] at R
      have hx := lt8 bs[I]
      have hx0 := ge8 bs[I]
      have hq : (I : Int).tdiv 4 = ((I / 4 : Nat) : Int) := by rw [Int.tdiv_eq_ediv_of_nonneg (by omega)]; omega
      have hq' : (I : Int) / 4 = ((I / 4 : Nat) : Int) := by omega
      have hJ : I / 4 < 8 := by omega
      have HR : Hid (Blk (wr.setCell ⟨w.heap.size + 1, I / 4, none⟩ (.int .u32 ((pwn bs I (I / 4) * 256 + bs[I].toNat : Nat) : Int))) (w.heap.size + 1) 44 (pwCells bs (I + 1))) := R
      clear R HS
      generalize pwn bs I (I / 4) = PW at *
      have HX : Hid (n8 bs[I] = (bs[I].toNat : Int)) := rfl
      generalize bs[I] = X at *
      have hfz := hB.frozen (I / 4)
      generalize I / 4 = J at *
      go_wp2
      go_region
      go_wp2
      go_roundw
      case rel =>
        refine ⟨I + 1, hlt, by go_num, (hA.setOther _ _ (by simp)).drew, ?_, (hb1.setCell (by simp) _).drew⟩
        have h := HR.out
        rw [show ((PW * 256 + X.toNat : Nat) : Int) = (PW : Int) * 256 + n8 X by rw [HX.out]; omega] at h
        exact h.drew
      case measure => simp [intOf]; omega
    · obtain hI32 : I = 32 := by omega
      have hB' : Blk wr (w.heap.size + 1) 44 ((stIn bs).list.map v32).toArray := hB.of_eq (by rw [hI32]; exact pwCells_full bs)
      clear hB
      obtain ⟨wo, rfl⟩ : ∃ wo : World, wo = wr := ⟨_, rfl⟩
      go_wp2
      go_loopw [7, 8] (fun n i wr => ∃ k : Nat, k ≤ 8 ∧ i = .int .i64 ((32 + k : Nat) : Int) ∧ n = .int .u64 (beNat ((bs.drop 32).take k) : Int) ∧ wr = wo) (fun _ i _ => 40 - (intOf i).toNat)
      case atStart => exact ⟨0, Nat.zero_le _, rfl, rfl, rfl⟩
      case round =>
        obtain ⟨k, hk, rfl, rfl, hwo⟩ := hrel
        subst hwo
        by_cases hlt : k < 8
        · have hkd : k < (bs.drop 32).length := by omega
          have hce := ((hr.below hb1 hb).drop 32) k hkd
          rw [Nat.add_assoc] at hce
          have hb2 : beNat ((bs.drop 32).take k) < 72057594037927936 := Nat.lt_of_lt_of_le (beNat_take_lt (bs.drop 32) k (by omega)) (Nat.pow_le_pow_right (n := 256) (by omega) (show k ≤ 7 by omega))
          have hx := lt8 (bs.drop 32)[k]
          have hx0 := ge8 (bs.drop 32)[k]
          have HT : Hid (beNat ((bs.drop 32).take (k + 1)) = beNat ((bs.drop 32).take k) * 256 + (bs.drop 32)[k].toNat) := by show _ = _; rw [beNat_take_succ (bs.drop 32) k hkd]
          have HX : Hid (n8 (bs.drop 32)[k] = ((bs.drop 32)[k].toNat : Int)) := rfl
          generalize beNat ((bs.drop 32).take k) = N at *
          generalize (bs.drop 32)[k] = X at *
          go_wp2
          go_roundw
          case rel => exact ⟨k + 1, by omega, by go_num, by rw [HT.out]; simp [HX.out], trivial⟩
          case measure => simp [intOf]; omega
        · obtain hk8 : k = 8 := by omega
          rw [hk8, ← HL.out]
          obtain ⟨v40, hv40, hs40⟩ := seg_tail (x := .slice (some ⟨b, off, none⟩) len c) (bs := bs) (ao := some ⟨b, off, none⟩) (c := c) (I := 40) (w := w) (by rw [hlen]) (by rw [← hlen]; exact hseg) (by omega)
          have hv40' : ∀ W, (Instr.slice 26 (.slice (some ⟨b, off, none⟩) len c) (some (.int .i64 40)) none none).run Tryd.prog W = .ok v40 W := hv40
          have sg40 := hs40 w (by rw [← hlen]; exact hseg)
          have sr1 := sg40.below hb1 (Nat.le_refl _)
          have sm1 : Seg wr (.slice ao ml cx) ms := by rw [← hml]; exact hseg'.below hb1 (Nat.le_refl _)
          have hd40 : (bs.drop 40).length ≤ 10000 := by simp; omega
          have s1 := hb1.size
          have hAl := hA.lt
          have hBl := hB'.lt
          clear hv40 hs40 hk8
          obtain ⟨LN, hLN⟩ : ∃ LN, LN = lenIn bs := ⟨_, rfl⟩
          rw [← hLN]
          have HLN : Hid (LN = lenIn bs) := hLN
          rw [← hLN] at hN1
          clear hLN
          go_wp2_with (first | (at_builtin; refine app_own _ rfl (.tmp 41) (.tmp 43) rfl wr.heap.size _ [] rfl (by exact own_empty _ _ _ rfl (Nat.le_refl _)) _ (bs.drop 40) rfl (by exact sr1.alloc _) (by simp; omega) (by simp) ?_; intro u2 w2 ho2 hg2 hv2; rw [List.nil_append] at ho2; have hB2 := below_grown ((Below.refl wr.heap.size wr).alloc (Nat.le_refl _) _) hg2 (by simp) (fun q hq => by have h2 : wr.heap.size = q := Option.some.inj hq; omega); have s2 := hB2.size; clear hg2 hv2) | (at_builtin; refine app_own _ rfl (.tmp 44) (.tmp 45) rfl wr.heap.size _ (bs.drop 40) rfl ho2 _ ms rfl (by exact sm1.below hB2 (Nat.le_refl _)) (by omega) s2 ?_; intro u3 w3 ho3 hg3 hv3; have hB3 := below_grown hB2 hg3 s2 (fun q hq => (ho2.blocks q hq).1); have s3 := hB3.size; clear hg3 hv3 ho2 hB2) | (at_builtin; refine app_own _ rfl (.tmp 52) (.tmp 53) rfl wr.heap.size _ (bs.drop 40 ++ ms) rfl (ho3.alloc _) _ [128] rfl (by exact Seg.of_row (row_one _ 128 _) rfl (by simp) (by simp)) (by simp; omega) (by simp; omega) ?_; intro u4 w4 ho4 hg4 hv4; have hB4 := below_grown (hB3.alloc s3 _) hg4 (by simp; omega) (fun q hq => (ho3.blocks q hq).1); clear hg4 hv4 ho3 hB3) | fail)
          obtain ⟨D0, hD0⟩ : ∃ D0, D0 = bs.drop 40 ++ ms := ⟨_, rfl⟩
          have hDlen : D0.length = len - 40 + ml := by rw [hD0]; simp; omega
          have HD0 : Hid (D0 = bs.drop 40 ++ ms) := hD0
          rw [← hD0] at ho4
          clear hD0
          obtain ⟨T, hT⟩ : ∃ T, T = LN + ml := ⟨_, rfl⟩
          have hTb : T ≤ 1099511637776 := by omega
          have hTm : D0.length % 64 = T % 64 := by have h1 := HN2.out; have h2 := HLN.out; omega
          obtain ⟨m, hmm⟩ : ∃ m, m = (119 - T % 64) % 64 := ⟨_, rfl⟩
          have hm64 : m < 64 := by omega
          have HE : Hid (endOf T = 128 :: (List.replicate m 0 ++ be8 (8 * T))) := by show _ = _; rw [hmm]; rfl
          have HM : Hid ((D0.length + 1 + m) % 64 = 56 ∧ ∀ k, k < m → (D0.length + 1 + k) % 64 ≠ 56) := ⟨by omega, fun k hk => by omega⟩
          have HT : Hid (T = LN + ml) := hT
          obtain ⟨DN, hDN⟩ : ∃ DN, D0.length = DN := ⟨_, rfl⟩
          rw [hDN] at HM hTm hDlen
          have hDNb : DN ≤ 20000 := by omega
          have HDN : Hid (D0.length = DN) := hDN
          obtain ⟨g4, c4, hv4e, hgb4, hgl4, hc4, hr4⟩ := ho4.form (by simp)
          rw [hv4e]
          rw [hv4e] at ho4
          have hel : (D0 ++ [128]).length = DN + 1 := by simp [hDN]
          rw [hel] at ho4 hc4 ⊢
          have hA4 := hA.below hB4 hAl
          have hH4 := hB'.below hB4 hBl
          have hBB4 : Below w.heap.size w w4 := hb1.trans (hB4.mono s1)
          have s4 := hB4.size
          have hgb4' : w.heap.size + 2 ≤ g4 := by omega
          obtain ⟨hg, hhg⟩ : ∃ hg, hg = w.heap.size + 1 := ⟨_, rfl⟩
          have ho4' := ho4.mono (base' := w.heap.size + 2) (by omega)
          clear hmm hT hTm hr4 hc4 hgb4 hA hB' hb1 hB4 hv4e hDN hDlen sr1 sm1 sg40 ho4 hel hv40'
          go_loopw [9] (fun v wr => ∃ k N g c : Nat, k ≤ m ∧ Hid (N = DN + 1 + k) ∧ v = .slice (some ⟨g, 0, none⟩) N c ∧ Own wr (w.heap.size + 2) (.slice (some ⟨g, 0, none⟩) N c) (D0 ++ 128 :: List.replicate k 0) ∧ Blk wr w.heap.size 34 (upTo 32 0 (fun _ => Value.int .u8 0) (.int .u8 0)) ∧ Blk wr (w.heap.size + 1) 44 ((stIn bs).list.map v32).toArray ∧ Below w.heap.size w wr) (fun v _ => DN + 1 + m - sliceLen v)
          case atStart => exact ⟨0, DN + 1, g4, c4, Nat.zero_le _, rfl, rfl, by simpa using ho4', hA4, hH4, hBB4⟩
          case round =>
            clear ho4' hA4 hH4 hBB4 s4 hgl4 hgb4' s1 hAl hBl
            obtain ⟨k, N, g, c, hk, HN, rfl, ho, hA, hH, hB⟩ := hrel
            have hAl := hA.lt
            have hHl := hH.lt
            by_cases hlt : k < m
            · have ht : (((N : Int) % 64) != 56) = true := by have := HM.out.2 k hlt; have e := HN.out; rw [bne_iff_ne]; omega
              have hNb : N ≤ 1000100 := by have e := HN.out; omega
              have HO : Hid (D0 ++ 128 :: List.replicate (k + 1) 0 = (D0 ++ 128 :: List.replicate k 0) ++ [0]) := by show _ = _; rw [List.replicate_succ']; simp
              have hbl := ho.blocks g rfl
              have hOl : (D0 ++ 128 :: List.replicate k (0 : UInt8)).length ≤ 1000100 := by have := HDN.out; simp; omega
              go_wp2_with (at_builtin; refine app_own _ rfl (.tmp 59) (.tmp 60) rfl (w.heap.size + 2) _ _ rfl (ho.alloc _) _ [0] rfl (by exact Seg.of_row (row_one _ 0 _) rfl (by simp) (by simp)) (by simp only [List.length_singleton]; omega) (by simp; omega) ?_; intro v2 w2 ho2 hg2 hv2; obtain ⟨g2, c2, hv2e, hgb2, hgl2, hc2, hr2⟩ := ho2.form (by simp only [List.length_append, List.length_cons]; omega); rw [hv2e]; rw [hv2e] at ho2)
              go_roundw
              case rel =>
                refine ⟨k + 1, _, g2, c2, hlt, ?_, rfl, ?_, (hA.alloc _).grown hg2 (fun h => by have h2 : w.heap.size = g := Option.some.inj h; omega), (hH.alloc _).grown hg2 (fun h => by have h2 : w.heap.size + 1 = g := Option.some.inj h; omega), ?_⟩
                · show _ = _
                  have := HDN.out
                  omega
                · rw [HO.out]
                  have e : (D0 ++ 128 :: List.replicate k 0 ++ [(0 : UInt8)]).length = D0.length + (k + 1 + 1) := by simp
                  rw [e] at ho2
                  exact ho2
                · exact below_grown (hB.alloc (by omega) _) hg2 (by simp; omega) (fun q hq => by have h2 : g = q := Option.some.inj hq; omega)
              case measure =>
                have e := HN.out
                have := HDN.out
                simp [sliceLen]; omega
            · have HK : Hid (k = m) := by show k = m; omega
              have ht : (((N : Int) % 64) != 56) = false := by
                have := HM.out.1; have e := HN.out; have e2 := HK.out
                simp only [bne_eq_false_iff_eq]; omega
              have hbl := ho.blocks g rfl
              have hOl : (D0 ++ 128 :: List.replicate k (0 : UInt8)).length ≤ 1000100 := by have := HDN.out; simp; omega
              have HD : Hid (D0 ++ endOf T = (D0 ++ 128 :: List.replicate k 0) ++ be8 (8 * T)) := by show _ = _; rw [HE.out, HK.out]; simp
              have hTe : (LN : Int) + (ml : Int) = (T : Int) := by have := HT.out; omega
              have hDl : (D0 ++ endOf T).length % 64 = 0 := by
                have := HM.out.1; have h2 := HK.out; have h3 := HDN.out
                rw [HD.out]; simp [be8_len]; omega
              have hDlb : (D0 ++ endOf T).length = DN + 1 + m + 8 := by
                have h2 := HK.out; have h3 := HDN.out
                rw [HD.out]; simp [be8_len]; omega
              go_wp2_with (first | (go_at_call 26; refine (eight_any _ (8 * T) (by omega) (by omega) _).mono ?_; rintro e w3 ⟨rfl, hb3, hbel3⟩) | (at_builtin; refine app_own _ rfl (.tmp 62) (.tmp 65) rfl (w.heap.size + 2) _ _ rfl (ho.below hbel3 (Nat.le_refl _)) _ (be8 (8 * T)) rfl (by exact Seg.of_row hb3.row (be8_len _) (Nat.le_refl _) hb3.lt) (by rw [be8_len]; omega) (by have := hbel3.size; omega) ?_; intro v4 w4 ho4 hg4 hv4))
              rw [← HD.out] at ho4
              obtain ⟨g4, c4, hv4e, hgb4, hgl4, hc4, hr4⟩ := ho4.form (by omega)
              rw [hv4e]
              have s3 := hbel3.size
              have s4 := hg4.size
              have hB4 := below_grown (hB.trans (hbel3.mono (by omega))) hg4 (by omega) (fun q hq => by have h2 : g = q := Option.some.inj hq; omega)
              have hA4 := (hA.below hbel3 (by omega)).grown hg4 (fun h => by have h2 : w.heap.size = g := Option.some.inj h; omega)
              have hH4 := (hH.below hbel3 (by omega)).grown hg4 (fun h => by have h2 : w.heap.size + 1 = g := Option.some.inj h; omega)
              have HSH : Hid (sumOf (stIn bs) D0 T = wbytes (blocks (stIn bs) (D0 ++ endOf T) ((D0 ++ endOf T).length / 64)).list) := rfl
              have HRES : Hid (sumOf (stIn bs) (bs.drop 40 ++ ms) (lenIn bs + ml) = sumOf (stIn bs) D0 T) := by show _ = _; rw [HT.out, HLN.out, HD0.out]
              clear hg4 hv4 hbel3 hb3 s3 s4 ho hA hB hH hbl hOl HD HK HN HE HM ht ho4 HDN
              generalize D0 ++ endOf T = D at *
              generalize sumOf (stIn bs) D0 T = SM at *
              obtain ⟨S00, hS00⟩ : ∃ S00, S00 = stIn bs := ⟨_, rfl⟩
              rw [← hS00] at HSH hH4
              clear hS00
              obtain ⟨DL, hDL⟩ : ∃ DL, DL = D.length := ⟨_, rfl⟩
              rw [← hDL] at hc4 hDl hDlb ⊢
              have HDL : Hid (DL = D.length) := hDL
              clear hDL
              have hDm : DL ≤ 1000200 := by omega
              clear hDlb
              obtain ⟨gh, hgh⟩ : ∃ gh, gh = w.heap.size + 1 := ⟨_, rfl⟩
              rw [← hgh] at hH4 ⊢
              have hg4h : gh < g4 := by omega
              have hghw : w.heap.size < gh := by omega
              have HGH : Hid (gh = w.heap.size + 1) := hgh
              clear hgh hgb4
              obtain ⟨wo, rfl⟩ : ∃ wo : World, wo = wr := ⟨_, rfl⟩
              go_loopw [10] (fun i wr => ∃ k I : Nat, Hid (I = 64 * k) ∧ I ≤ DL ∧ i = .int .i64 (I : Int) ∧ Blk wr gh 44 ((blocks S00 D k).list.map v32).toArray ∧ Blk wr w.heap.size 34 (upTo 32 0 (fun _ => Value.int .u8 0) (.int .u8 0)) ∧ Row wr g4 0 D ∧ Below w.heap.size w wr ∧ g4 < wr.heap.size) (fun i _ => DL - (intOf i).toNat)
              case atStart => exact ⟨0, 0, rfl, Nat.zero_le _, rfl, hH4, hA4, hr4, hB4, hgl4⟩
              case round =>
                clear hH4 hA4 hr4 hB4
                obtain ⟨k, I, HI, hI, rfl, hbh, hA, hr, hB, hgl⟩ := hrel
                by_cases hlt : I < DL
                · have h64 : I + 64 ≤ DL := by have := HI.out; omega
                  have hsl := fun w' => slice_mid g4 0 DL c4 I ((I : Int) + 64) rfl (by omega) w'
                  rw [Nat.zero_add] at hsl
                  have hrb : Row wr g4 I ((D.drop I).take 64) := by
                    have := (hr.drop I).take 64
                    rwa [Nat.zero_add] at this
                  have hbl : ((D.drop I).take 64).length = 64 := by have := HDL.out; simp; omega
                  have HST : Hid (blocks S00 D (k + 1) = compress (blocks S00 D k) ((D.drop I).take 64)) := by show _ = _; rw [HI.out]; rfl
                  have HCL : Hid (∀ W : World, Row W g4 I ((D.drop I).take 64) → g4 < W.heap.size → Calls Tryd.prog 24 #[.agg ((blocks S00 D k).list.map v32).toArray, .slice (some ⟨g4, I, none⟩) 64 (c4 - I)] W fun e w' => e = .returned (.agg ((compress (blocks S00 D k) ((D.drop I).take 64)).list.map v32).toArray) ∧ Below W.heap.size W w') := fun W h1 h2 => block_aux _ _ hbl g4 I (c4 - I) W h1 h2
                  generalize compress (blocks S00 D k) ((D.drop I).take 64) = S1 at HST HCL
                  generalize (D.drop I).take 64 = blk at hrb HCL
                  generalize blocks S00 D k = S0 at hbh HCL
                  have rW := hbh.drew.range 0 (S0.list.map v32) (fun j v hv => by rw [Nat.zero_add]; simpa using hv)
                  have i64 : (I : Int) < (DL : Int) := by omega
                  have hI2 : I ≤ 1000200 := by omega
                  have hwr : IntKind.i64.wrap ((I : Int) + 64) = (I : Int) + 64 := by rw [IntKind.wrap_i64]; omega
                  have HROW : Hid (Row wr g4 0 D) := hr
                  clear hr hbl
                  go_wp2_with fail
                  refine region_tail 6 (by kernel_rfl) (by kernel_rfl) ?_
                  simp only [List.take_succ_cons, List.take_zero, List.drop_succ_cons, List.drop_zero]
                  refine still_load rfl 44 _ rfl gh 0 rfl (S0.list.map v32) _ rW Tryd.underlying44 rfl Tryd.info44s ?_
                  repeat still_step
                  refine wpStill_nil ?_
                  go_wp2_with (first | (go_at_call 24; refine (HCL.out _ (by exact hrb) (by exact hgl)).mono ?_; rintro e w7 ⟨rfl, hb7⟩) | (refine store_blk rfl 44 _ _ rfl rfl gh (S1.list.map v32).toArray rfl rfl 44 _ (by exact hbh.drew.below hb7 hbh.lt) Tryd.info44s ((size8 S0).trans (size8 S1).symm) (one32 S1.list) ?_; intro w8 hb8 hg8 hs8))
                  go_roundw
                  case rel =>
                    replace hb7 : Below wr.heap.size wr w7 := ⟨hb7.os, hb7.tape, hb7.output, hb7.size, hb7.block⟩
                    have s7 := hb7.size
                    refine ⟨k + 1, I + 64, ?_, h64, by go_num, ?_, (hA.below hb7 hA.lt).grown hg8 (by simp; omega), ?_, ?_, ?_⟩
                    · show _ = _
                      have := HI.out; omega
                    · rw [HST.out]; exact hb8
                    · exact ((HROW.out).below hb7 hgl).grown hg8 (by simp; omega)
                    · exact below_grown (hB.trans (hb7.mono (by exact Nat.le_of_lt hA.lt))) hg8 (by have := hA.lt; exact Nat.le_trans (Nat.le_of_lt this) s7) (fun q hq => by cases hq; omega)
                    · rw [hs8]; exact Nat.lt_of_lt_of_le hgl s7
                  case measure => simp [intOf]; omega
                · as_aux_lemma =>
                  have HK : Hid (I = DL) := by show I = DL; omega
                  have HB : Hid (((blocks S00 D k).list.map v32).toArray = ((blocks S00 D (D.length / 64)).list.map v32).toArray) := by
                    show _ = _
                    have h1 := HI.out; have h2 := HK.out; have h3 := HDL.out
                    rw [show D.length / 64 = k by omega]
                  have hbh' := hbh.of_eq HB.out
                  generalize blocks S00 D (D.length / 64) = S0 at hbh' HSH
                  have hwb := fun W => words_any S0.list rfl W
                  rw [← HSH.out] at hwb
                  have hsl : SM.length = 32 := by rw [HSH.out]; exact wbytes_len _
                  have HW : Hid (∀ W : World, Calls Tryd.prog 25 #[.agg (S0.list.map v32).toArray] W fun e w' => e = .returned (.agg (SM.map v8).toArray) ∧ Below W.heap.size W w') := hwb
                  have hi24 : (Tryd.prog.info? 34).map (·.size) = some (SM.map v8).toArray.size := by rw [List.size_toArray, List.length_map, hsl]; exact Tryd.info34s
                  have hst : (upTo 32 0 (fun _ => Value.int .u8 0) (.int .u8 0)).size = (SM.map v8).toArray.size := by rw [upTo_size, List.size_toArray, List.length_map, hsl]
                  have hone := one8 SM
                  have i64 : ¬ (I : Int) < (DL : Int) := by omega
                  clear hwb hbh HB HSH hsl
                  go_wp2_with (first | (refine wpList_load_row rfl 44 _ rfl gh rfl 44 _ (0, 0) _ hbh' Tryd.underlying44 rfl Tryd.info44s ?_) | (go_at_call 25; refine (HW.out _).mono ?_; rintro e w7 ⟨rfl, hb7⟩) | (refine store_blk rfl 34 _ _ rfl rfl w.heap.size (SM.map v8).toArray rfl rfl 34 _ (by exact hA.below hb7 hA.lt) hi24 hst hone ?_; intro w8 hb8 hg8 hs8))
                  refine bodyPost_ret (v := .agg (SM.map v8).toArray) (results_cell_row Tryd.results18 _ _ w.heap.size 34 _ (0, 0) _ rfl hb8 Tryd.underlying34 rfl hi24) rfl ⟨ret_agg (by rw [HRES.out]), ?_⟩
                  exact below_grown (hB.trans (hb7.mono (Nat.le_of_lt hA.lt))) hg8 (Nat.le_trans (Nat.le_of_lt hA.lt) hb7.size) (fun q hq => by cases hq; omega)
end Go.Proofs.YtlihgfafjmhgjaaDoor
