/-
  What is proved here: the document's lot of a device, which of two devices comes ahead, and whether parts may be.
  Conditions: those that each fact names.
-/
import Derived.Test.YtnagdgkkkkpekaaDoorWaveLot
import Derived.Test.YtnagdgkkkkpekaaDoorRefAdd
import Derived.BigQuiet
import Derived.Deep.QuietTactic
namespace Go.Proofs.YtnagdgkkkkpekaaDoor
open Go.RowKit

theorem lotB_at (c d I K : Nat) (hI : I < 2) (hK : K < 4) : (lotB c d)[4 * I + K]? = some (UInt8.ofNat ((if I = 0 then c else d) / 256 ^ K)) := by
  unfold lotB b4W
  rw [Int.toNat_natCast, Int.toNat_natCast]
  match I, hI, K, hK with
  | 0, _, 0, _ => simp
  | 0, _, 1, _ => simp
  | 0, _, 2, _ => simp
  | 0, _, 3, _ => simp
  | 1, _, 0, _ => simp
  | 1, _, 1, _ => simp
  | 1, _, 2, _ => simp
  | 1, _, 3, _ => simp
set_option maxRecDepth 100000 in
set_option maxHeartbeats 1000000 in
theorem rlot_any (c d : Nat) (w : World) (hc : c ≤ 1073741824) (hd : d ≤ 1073741824) :
    Calls Tryd.prog 37 #[.int .i64 (c : Int), .int .i64 (d : Int)] w fun e w' => e = .returned (v32 (lotW c d)) ∧ Below w.heap.size w w' := by
  have hB0 : Below w.heap.size w (w.alloc (.cells #[vI c, vI d] 3)) := (Below.refl _ _).alloc (Nat.le_refl _) _
  have k0 := Blk.new w 3 #[vI c, vI d]
  have HL8 : Hid ((lotB c d).length = 8) := rfl
  have HAT : Hid (∀ I K, I < 2 → K < 4 → (lotB c d).take (4 * I + (K + 1)) = (lotB c d).take (4 * I + K) ++ [UInt8.ofNat ((if I = 0 then c else d) / 256 ^ K)]) := fun I K hI hK => by
    rw [← Nat.add_assoc, List.take_add_one, lotB_at c d I K hI hK]; rfl
  have HC : Hid (c ≤ 1073741824 ∧ d ≤ 1073741824) := ⟨hc, hd⟩
  have HCO : Hid (lotW c d = crcOf (lotB c d)) := rfl
  obtain ⟨T, hT⟩ : ∃ T, T = lotB c d := ⟨_, rfl⟩
  rw [← hT] at HL8 HAT HCO
  clear hc hd hT
  go_enter Tryd.func37, Tryd.ntmps37
  go_wp2_with fail
  have hix0 := fun w => index_intsI w.heap.size 0 2 2 0 w (by decide)
  generalize hW0 : w.alloc (.cells #[vI c, vI d] 3) = w0 at *
  have hs0 : w0.heap.size = w.heap.size + 1 := by rw [← hW0, World.size_alloc]
  have HS0 : Hid (w0.heap.size = w.heap.size + 1) := hs0
  have HK0 : Hid (Blk w0 w.heap.size 3 #[vI c, vI d]) := k0
  obtain ⟨g, hg⟩ : ∃ g, g = w.heap.size := ⟨_, rfl⟩
  rw [← hg] at HS0 HK0 hB0 ⊢
  have HGW : Hid (g = w.heap.size) := hg
  clear hW0 hs0 k0 hix0 hg
  go_loopw [6, 7, 8, 9] (fun b i _ _ wr => ∃ I : Nat, I ≤ 2 ∧ i = .int .i64 (I : Int) ∧ Own wr (g + 1) b (T.take (4 * I)) ∧ Below g w wr ∧ g + 1 ≤ wr.heap.size ∧ Blk wr g 3 #[vI c, vI d]) (fun _ i _ _ _ => 2 - (Go.RowKit.intOf i).toNat)
  case atStart => exact ⟨0, by omega, rfl, (show Own _ _ _ [] from ⟨rfl, .inl ⟨rfl, rfl⟩⟩), hB0, by rw [HS0.out]; exact Nat.le_refl _, HK0.out⟩
  case round =>
    clear hB0 HS0 HK0
    obtain ⟨I, hI, rfl, hO, hB, hS, hK⟩ := hrel
    by_cases hlt : I < 2
    · obtain ⟨X, hX⟩ : ∃ X, X = if I = 0 then c else d := ⟨_, rfl⟩
      have hXl : X ≤ 1073741824 := by
        rw [hX]
        have := HC.out
        split <;> omega
      have ix : ∀ w, (Instr.indexAt 22 (.slice (some ⟨g, 0, none⟩) 2 2) (.int .i64 (I : Int))).run Tryd.prog w = .ok (.pointer (some ⟨g, I, none⟩)) w := fun w => by
        have := index_intsI g 0 2 2 I w hlt
        rwa [Nat.zero_add] at this
      have hcx : wr.cell? ⟨g, I, none⟩ = some (vI X) := by
        rw [hX]
        rcases (show I = 0 ∨ I = 1 by omega) with rfl | rfl
        · exact hK.cell rfl
        · exact hK.cell rfl
      have HA2 : Hid (∀ K, K < 4 → T.take (4 * I + (K + 1)) = T.take (4 * I + K) ++ [UInt8.ofNat (X / 256 ^ K)]) := fun K hK => by rw [hX]; exact HAT.out I K hlt hK
      have i1 : (I : Int) < 2 := by omega
      clear hX
      obtain ⟨wo, rfl⟩ : ∃ wo : World, wo = wr := ⟨_, rfl⟩
      go_wp2_with fail
      go_loopw [6, 8, 9] (fun b n k wr => ∃ K : Nat, K ≤ 4 ∧ k = .int .i64 (K : Int) ∧ n = .int .i64 ((X / 256 ^ K : Nat) : Int) ∧ Own wr (g + 1) b (T.take (4 * I + K)) ∧ Below g w wr ∧ g + 1 ≤ wr.heap.size ∧ Blk wr g 3 #[vI c, vI d]) (fun _ _ k _ => 4 - (Go.RowKit.intOf k).toNat)
      case atStart => exact ⟨0, by omega, rfl, by simp, hO, hB, hS, hK⟩
      case round =>
        clear hO hB hS hK hcx
        obtain ⟨K, hK4, rfl, rfl, hO, hB, hS, hK⟩ := hrel
        by_cases hkt : K < 4
        · have j1 : (K : Int) < 4 := by omega
          have HN := HA2.out K hkt
          have hY : X / 256 ^ (K + 1) = X / 256 ^ K / 256 := by rw [Nat.pow_succ, Nat.div_div_eq_div_mul]
          have hYl : X / 256 ^ K ≤ 1073741824 := Nat.le_trans (Nat.div_le_self _ _) hXl
          generalize X / 256 ^ K = Y at *
          have HTN : Hid (T.take (4 * I + (K + 1)) = T.take (4 * I + K) ++ [UInt8.ofNat Y]) := HN
          have HYY : Hid (X / 256 ^ (K + 1) = Y / 256) := hY
          clear HN hY
          have hE8 : v8 (UInt8.ofNat Y) = .int .u8 ((Y : Int) % 256) := by unfold v8; rw [n8_ofNat]
          have hBA : Below g w (wr.alloc (.cells #[.int .u8 ((Y : Int) % 256)] 5)) := hB.alloc (Nat.le_trans (Nat.le_succ g) hS) _
          have HOA : Hid (Own (wr.alloc (.cells #[.int .u8 ((Y : Int) % 256)] 5)) (g + 1) u6 (T.take (4 * I + K))) := hO.alloc _
          have HKA : Hid (Blk (wr.alloc (.cells #[.int .u8 ((Y : Int) % 256)] 5)) g 3 #[vI c, vI d]) := hK.alloc _
          have HSG : Hid (Seg (wr.alloc (.cells #[.int .u8 ((Y : Int) % 256)] 5)) (.slice (some ⟨wr.heap.size, 0, none⟩) 1 1) [UInt8.ofNat Y]) := by
            have := Seg.of_row (row_one wr (UInt8.ofNat Y) 5) (n := 1) (c := 1) rfl (Nat.le_refl _) (by simp)
            rw [hE8] at this
            exact this
          have HLK : Hid ((T.take (4 * I + K)).length + [UInt8.ofNat Y].length ≤ 1000000000) := (by have := HL8.out; simp; omega : (T.take (4 * I + K)).length + [UInt8.ofNat Y].length ≤ 1000000000)
          have HSA : Hid (g + 1 ≤ (wr.alloc (.cells #[.int .u8 ((Y : Int) % 256)] 5)).heap.size) := (by simp; omega : g + 1 ≤ (wr.alloc (.cells #[.int .u8 ((Y : Int) % 256)] 5)).heap.size)
          have HPB : Hid (∀ q, u6.ownBlock = some q → g + 1 ≤ q) := fun q hq => (hO.blocks q hq).1
          clear hO hK hE8
          go_wp2_with (at_builtin; refine app_own _ rfl (.tmp 25) (.tmp 29) rfl (g + 1) _ (T.take (4 * I + K)) rfl (by exact HOA.out) _ [UInt8.ofNat Y] rfl (by exact HSG.out) (by exact HLK.out) (by exact HSA.out) ?_; intro v2 w2 ho2 hg2 hv2)
          have hB2 : Below g w w2 := hBA.grown hg2 (by have := HSA.out; omega) (fun q hq => by have := HPB.out q hq; omega)
          have hK2 : Blk w2 g 3 #[vI c, vI d] := HKA.out.grown hg2 (fun q => by have := HPB.out g q.symm; omega)
          have HS2 : Hid (g + 1 ≤ w2.heap.size) := Nat.le_trans HSA.out hg2.size
          clear hB hS
          go_roundw
          case rel => exact ⟨K + 1, hkt, by go_num, by rw [HYY.out]; go_num, by rw [HTN.out]; exact ho2, hB2, HS2.out, hK2⟩
          case measure => simp [Go.RowKit.intOf] <;> omega
        · have hk4 : K = 4 := by omega
          subst hk4
          go_wp2
          go_roundw
          case rel => exact ⟨I + 1, hlt, by go_num, hO, hB, hS, hK⟩
          case measure => simp [Go.RowKit.intOf] <;> omega
    · have hI2 : I = 2 := by omega
      subst hI2
      rw [List.take_of_length_le (by rw [HL8.out]; exact Nat.le_refl _)] at hO
      have HSU : Hid (Calls Tryd.prog 44 #[u6] wr fun e w' => e = .returned (v32 (lotW c d)) ∧ w' = wr) := by
        have := refCsum_any u6 T wr (by rw [HL8.out]; decide) hO.seg
        rw [← HCO.out] at this
        exact this
      clear hO
      go_wp2_with fail
      refine HSU.out.mono ?_
      rintro e w1 ⟨rfl, rfl⟩
      go_wp2
      go_ret
      exact ⟨rfl, by rw [← HGW.out]; exact hB⟩
set_option maxRecDepth 100000 in
set_option maxHeartbeats 1000000 in
theorem rbefore_any (c a b : Nat) (w : World) (hc : c ≤ 1073741824) (ha : a ≤ 1073741824) (hb : b ≤ 1073741824) :
    Calls Tryd.prog 24 #[.int .i64 (c : Int), .int .i64 (a : Int), .int .i64 (b : Int)] w fun e w' => e = .returned (.bool (befW c a b)) ∧ Below w.heap.size w w' := by
  have H2 : Hid (∀ W, Calls Tryd.prog 37 #[.int .i64 (c : Int), .int .i64 (b : Int)] W fun e w' => e = .returned (v32 (lotW c b)) ∧ Below W.heap.size W w') := fun W => rlot_any c b W hc hb
  have H1 : Hid (Calls Tryd.prog 37 #[.int .i64 (c : Int), .int .i64 (a : Int)] w fun e w' => e = .returned (v32 (lotW c a)) ∧ Below w.heap.size w w') := rlot_any c a w hc ha
  obtain ⟨R, hR⟩ : ∃ R, R = befW c a b := ⟨_, rfl⟩
  rw [← hR]
  have HR : Hid (R = true ↔ (n32 (lotW c a) < n32 (lotW c b) ∨ n32 (lotW c a) = n32 (lotW c b) ∧ (a : Int) < (b : Int))) := by
    show _ ↔ _
    rw [hR, befW_iff]; unfold lotN n32; omega
  clear hR hc ha hb
  unfold v32 at *
  obtain ⟨A, hA⟩ : ∃ A : Int, A = n32 (lotW c a) := ⟨_, rfl⟩
  obtain ⟨B, hB⟩ : ∃ B : Int, B = n32 (lotW c b) := ⟨_, rfl⟩
  rw [← hA] at H1 HR
  rw [← hB] at H2 HR
  clear hA hB
  go_enter Tryd.func24, Tryd.ntmps24
  go_wp2_with fail
  refine H1.out.mono ?_
  rintro e w1 ⟨rfl, hb1⟩
  go_wp2_with fail
  refine (H2.out w1).mono ?_
  rintro e w2 ⟨rfl, hb2⟩
  have hb3 := hb1.trans (hb2.mono hb1.size)
  by_cases h1 : A < B
  · have D1 : decide (A < B) = true := decide_eq_true h1
    have HE : Hid (R = true) := HR.out.2 (.inl h1)
    clear HR h1
    go_wp2
    go_ret
    rw [HE.out]
    exact ⟨rfl, hb3⟩
  · have D1 : decide (A < B) = false := decide_eq_false h1
    by_cases h2 : A = B
    · by_cases h3 : (a : Int) < (b : Int)
      · have HE : Hid (R = true) := HR.out.2 (.inr ⟨h2, h3⟩)
        subst h2
        have D3 : decide (a < b) = true := decide_eq_true (by omega)
        clear HR h1 h3
        go_wp2
        go_ret
        rw [HE.out]
        exact ⟨rfl, hb3⟩
      · have HE : Hid (R = false) := by
          show _ = _
          rw [← Bool.not_eq_true, HR.out]; omega
        subst h2
        have D3 : decide (a < b) = false := decide_eq_false (by omega)
        clear HR h1 h3
        go_wp2
        go_ret
        rw [HE.out]
        exact ⟨rfl, hb3⟩
    · have HE : Hid (R = false) := by
        show _ = _
        rw [← Bool.not_eq_true, HR.out]; omega
      have D2 : (A == B) = false := by simpa using h2
      clear HR h1 h2
      go_wp2
      go_ret
      rw [HE.out]
      exact ⟨rfl, hb3⟩
theorem rise_last : ∀ (l : List Int) (a : Int), riseW a l = true → ∀ h : l ≠ [], l.getLast h = 100
  | [], _, _, h => absurd rfl h
  | [p], a, hr, _ => by
    have := (riseW_cons hr).2
    simpa [riseW] using this
  | p :: q :: l, a, hr, _ => by
    have := rise_last (q :: l) p (riseW_cons hr).2 (by simp)
    simpa using this
set_option maxRecDepth 100000 in
set_option maxHeartbeats 2000000 in
theorem rright15_any (x : Value) (zs : List Int) (w : World) (hI : IntsI w x zs) :
    Calls Tryd.prog 14 #[x] w fun e w' => e = .returned (.bool (partsW zs)) ∧ Below w.heap.size w w' := by
  have HR : Hid (0 < zs.length → ∃ b off c, x = .slice (some ⟨b, off, none⟩) zs.length c ∧ zs.length ≤ c ∧ b < w.heap.size ∧ ∀ (j : Nat) z, zs[j]? = some z → w.cell? ⟨b, off + j, none⟩ = some (vI z)) := fun h => hI.form h
  obtain ⟨ao, c, rfl⟩ := hI.shape
  have HM : Hid (zs.length ≤ maxLen) := hI.short
  clear hI
  by_cases h0 : zs.length = 0
  · have e : partsW zs = false := by
      rw [List.eq_nil_of_length_eq_zero h0]; rfl
    rw [e]
    have D : decide ((zs.length : Int) < 1) = true := decide_eq_true (by omega)
    clear h0 e
    go_enter Tryd.func14, Tryd.ntmps14
    go_wp2
    go_ret
    exact ⟨rfl, Below.refl _ _⟩
  have D : decide ((zs.length : Int) < 1) = false := decide_eq_false (by omega)
  by_cases hbig : 8 < zs.length
  · have e : partsW zs = false := by unfold partsW; rw [decide_eq_false (by omega)]; rfl
    rw [e]
    have D1 : decide ((8 : Int) < (zs.length : Int)) = true := decide_eq_true (by omega)
    clear h0 hbig e
    go_enter Tryd.func14, Tryd.ntmps14
    go_wp2
    go_ret
    exact ⟨rfl, Below.refl _ _⟩
  have D1 : decide ((8 : Int) < (zs.length : Int)) = false := decide_eq_false (by omega)
  have e : partsW zs = riseW 0 zs := by unfold partsW; rw [decide_eq_true (by omega)]; rfl
  rw [e]
  obtain ⟨R, hRR⟩ : ∃ R, R = riseW 0 zs := ⟨_, rfl⟩
  rw [← hRR]
  obtain ⟨b, off, c', hx, _, hb, hr⟩ := HR.out (by omega)
  cases hx
  obtain ⟨L, hL⟩ : ∃ L, zs.length = L + 1 := ⟨zs.length - 1, by omega⟩
  have hLl : L < zs.length := by omega
  have hlast := hr L _ (List.getElem?_eq_getElem hLl)
  have ixL := fun w => index_intsI b off zs.length c L w hLl
  have hwL : IntKind.i64.wrap ((zs.length : Int) - 1) = (L : Int) := by
    simp [IntKind.wrap, IntKind.bits, IntKind.signed]; omega
  have HLA : Hid (R = true → zs[L] = 100) := fun h => by
    rw [hRR] at h
    have := rise_last zs 0 h (by intro e; rw [e] at hLl; simp at hLl)
    rw [List.getLast_eq_getElem] at this
    rw [← this]; congr 1; omega
  have HRR : Hid (R = riseW 0 zs) := hRR
  have hn8 : zs.length ≤ 8 := by omega
  obtain ⟨y, hy⟩ : ∃ y, y = zs[L] := ⟨_, rfl⟩
  rw [← hy] at hlast HLA
  have HRR2 : Hid (∀ (j : Nat) z, zs[j]? = some z → w.cell? ⟨b, off + j, none⟩ = some (vI z)) := hr
  have HL0 : Hid (zs.length = L + 1 ∧ zs[L]? = some y) := ⟨hL, by rw [hy]; exact List.getElem?_eq_getElem hLl⟩
  clear hL h0 hbig e hRR hy HM hr
  by_cases hy1 : y = 100
  · have D2 : (y != 100) = false := by simpa using hy1
    have HLL : Hid (zs.length = L + 1 ∧ zs[L]? = some 100) := ⟨HL0.out.1, by rw [HL0.out.2, hy1]⟩
    clear HLA hy1
    go_enter Tryd.func14, Tryd.ntmps14
    go_wp2
    clear D D1 D2 hlast ixL hwL hLl
    go_loopw [3] (fun i wr => ∃ k : Nat, k ≤ zs.length ∧ i = .int .i64 (k : Int) ∧ Hid (0 ≤ aheadW zs k ∧ R = riseW (aheadW zs k) (zs.drop k)) ∧ Below w.heap.size w wr) (fun i _ => zs.length - (Go.RowKit.intOf i).toNat)
    case atStart => exact ⟨0, Nat.zero_le _, rfl, ⟨Int.le_refl _, HRR.out⟩, Below.refl _ _⟩
    case round =>
      obtain ⟨k, hk, rfl, HS, hB⟩ := hrel
      by_cases hlt : k < zs.length
      · have i1 : (k : Int) < (zs.length : Int) := by omega
        have hc1 : wr.cell? ⟨b, off + k, none⟩ = some (vI zs[k]) := (hB.cell (p := ⟨b, off + k, none⟩) hb).trans (HRR2.out k _ (List.getElem?_eq_getElem hlt))
        have ix := fun w => index_intsI b off zs.length c k w hlt
        have hS2 : R = (decide (aheadW zs k < zs[k]) && riseW (aheadW zs (k + 1)) (zs.drop (k + 1))) := by rw [← rise_drop zs k hlt]; exact HS.out.2
        have hA : aheadW zs (k + 1) = zs[k] := by
          unfold aheadW
          rw [if_neg (by omega), Nat.add_sub_cancel, List.getD_eq_getElem?_getD, List.getElem?_eq_getElem hlt]; rfl
        have hA0 := HS.out.1
        obtain ⟨y, hy⟩ : ∃ y, y = zs[k] := ⟨_, rfl⟩
        rw [← hy] at hc1 hS2 hA
        clear hy
        by_cases hy1 : y < 1
        · have E : Hid (R = false) := by
            show _ = _
            rw [hS2, decide_eq_false (by omega)]; rfl
          have D3 : decide (y < 1) = true := decide_eq_true hy1
          clear hS2 hA hA0 hy1 HS
          go_wp2_with fail
          go_quiet (fail)
          go_wp2
          go_ret
          rw [E.out]
          exact ⟨rfl, Below.drewN hB _⟩
        · have D3 : decide (y < 1) = false := decide_eq_false hy1
          by_cases hk0 : k = 0
          · subst hk0
            have HE : Hid (0 ≤ aheadW zs (0 + 1) ∧ R = riseW (aheadW zs (0 + 1)) (zs.drop (0 + 1))) := by
              refine ⟨by rw [hA]; omega, ?_⟩
              rw [hS2, decide_eq_true (by show (0 : Int) < y; omega), Bool.true_and]
            have hc0 : wr.cell? ⟨b, off, none⟩ = some (vI y) := hc1
            clear hS2 hA hA0 hy1 HS hc1
            go_wp2_with fail
            go_quiet (fail)
            go_wp2
            go_roundw
            case rel => exact ⟨0 + 1, hlt, by go_num, HE.out, Below.drewN hB _⟩
            case measure => simp [Go.RowKit.intOf] <;> omega
          · obtain ⟨m, rfl⟩ : ∃ m, k = m + 1 := ⟨k - 1, by omega⟩
            have hml : m < zs.length := by omega
            have hc2 : wr.cell? ⟨b, off + m, none⟩ = some (vI zs[m]) := (hB.cell (p := ⟨b, off + m, none⟩) hb).trans (HRR2.out m _ (List.getElem?_eq_getElem hml))
            have ix2 := fun w => index_intsI b off zs.length c m w hml
            have hwm : IntKind.i64.wrap (((m + 1 : Nat) : Int) - 1) = (m : Int) := by
              simp [IntKind.wrap, IntKind.bits, IntKind.signed]; omega
            have hA1 : aheadW zs (m + 1) = zs[m] := by
              unfold aheadW
              rw [if_neg (by omega), Nat.add_sub_cancel, List.getD_eq_getElem?_getD, List.getElem?_eq_getElem hml]; rfl
            rw [hA1] at hS2 hA0
            obtain ⟨v, hv⟩ : ∃ v, v = zs[m] := ⟨_, rfl⟩
            rw [← hv] at hc2 hS2 hA0
            obtain ⟨KI, hKI⟩ : ∃ KI : Int, KI = ((m + 1 : Nat) : Int) := ⟨_, rfl⟩
            have D4 : decide (0 < KI) = true := decide_eq_true (by omega)
            rw [← hKI] at hwm i1 ix ⊢
            have HKI : Hid (KI = ((m + 1 : Nat) : Int)) := hKI
            have hwk : IntKind.i64.wrap (KI + 1) = KI + 1 := by
              simp [IntKind.wrap, IntKind.bits, IntKind.signed]; omega
            clear hv hA1 HS hKI
            by_cases hyv : y ≤ v
            · have E : Hid (R = false) := by
                show _ = _
                rw [hS2, decide_eq_false (by omega)]; rfl
              have D5 : decide (y ≤ v) = true := decide_eq_true hyv
              clear hS2 hA hA0 hy1 hyv hk0 hml
              go_wp2_with fail
              go_quiet (fail)
              go_wp2
              go_ret
              rw [E.out]
              exact ⟨rfl, Below.drewN hB _⟩
            · have HE : Hid (0 ≤ aheadW zs (m + 1 + 1) ∧ R = riseW (aheadW zs (m + 1 + 1)) (zs.drop (m + 1 + 1))) := by
                refine ⟨by rw [hA]; omega, ?_⟩
                rw [hS2, decide_eq_true (by omega), Bool.true_and]
              have D5 : decide (y ≤ v) = false := decide_eq_false hyv
              clear hS2 hA hA0 hy1 hyv hk0 hml
              go_wp2_with fail
              go_quiet (fail)
              go_wp2
              go_roundw
              case rel => exact ⟨m + 1 + 1, hlt, by rw [HKI.out]; rfl, HE.out, Below.drewN hB _⟩
              case measure => have := HKI.out; simp [Go.RowKit.intOf]; omega
      · have i1 : ¬ (k : Int) < (zs.length : Int) := by omega
        have hkl : k = zs.length := by omega
        have HE : Hid (R = true) := by
          show _ = _
          have h := HS.out.2
          rw [hkl, List.drop_eq_nil_of_le (Nat.le_refl _)] at h
          rw [h]
          have hA : aheadW zs zs.length = 100 := by
            unfold aheadW
            rw [if_neg (by have := HLL.out.1; omega), List.getD_eq_getElem?_getD, show zs.length - 1 = L by have := HLL.out.1; omega, HLL.out.2]; rfl
          rw [hA]; rfl
        clear HS hkl
        go_wp2
        go_ret
        rw [HE.out]
        exact ⟨rfl, hB⟩
  · have D2 : (y != 100) = true := by simpa using hy1
    have HE : Hid (R = false) := by
      show _ = _
      rw [← Bool.not_eq_true]; exact fun h => hy1 (HLA.out h)
    clear HLA hy1
    go_enter Tryd.func14, Tryd.ntmps14
    go_wp2
    go_ret
    rw [HE.out]
    exact ⟨rfl, Below.refl _ _⟩
end Go.Proofs.YtnagdgkkkkpekaaDoor
