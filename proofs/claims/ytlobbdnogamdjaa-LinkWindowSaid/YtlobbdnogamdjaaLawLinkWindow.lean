/-
  What is proved here: the statement LinkWindow is true of any bodies and any number of moments.
  Conditions: they lie in memory.
-/
import Derived.Test.YtlobbdnogamdjaaLinkTicks
import Derived.BigQuiet
import Derived.Deep.QuietTactic
namespace Go.Proofs.Ytlobbdnogamdjaa
open Go.RowKit

set_option maxRecDepth 100000 in
set_option maxHeartbeats 8000000 in
theorem linkWindow_any (al : Option Addr) (cl : Nat) (L : List (List UInt8)) (tk : Int) (w : World) (hL : RowsV w (.slice al L.length cl) L) : Calls Try.prog 7 #[.slice al L.length cl, .int .i64 tk] w fun e w' => e = .returned (.bool true) ∧ Below w.heap.size w w' := by
  go_enter Try.func7, Try.ntmps7
  go_wp2_with fail
  refine (awake13_any w).mono ?_
  rintro e W1 ⟨rfl, hb1⟩
  go_wp2_with fail
  refine (newK_any 5 W1 (by decide) (by decide)).mono ?_
  rintro e W2 ⟨G, rfl, hG, hk2, hb2⟩
  have hB2 := hb1.trans (hb2.mono hb1.size)
  have hL2 : LP W2 (TG G) W1.heap.size G (.slice none 0 0) (newK 5) := new_lp (by decide) (by decide) hG hk2
  have HBL : Hid (w.heap.size ≤ W1.heap.size ∧ W1.heap.size ≤ W2.heap.size) := ⟨hb1.size, hb2.size⟩
  clear hb1 hb2 hk2
  by_cases hn : 16 < L.length
  · have dN : decide ((16 : Int) < (L.length : Int)) = true := decide_eq_true (by omega)
    clear hn hL hL2
    go_wp2
    go_ret
    exact ⟨rfl, hB2⟩
  have dN : decide ((16 : Int) < (L.length : Int)) = false := decide_eq_false (by omega)
  by_cases hp : tk < 0
  · have dB : decide (tk < 0) = true := decide_eq_true hp
    clear hn hp hL hL2
    go_wp2
    go_ret
    exact ⟨rfl, hB2⟩
  have dB : decide (tk < 0) = false := decide_eq_false hp
  by_cases hq : 40 < tk
  · have dC : decide (40 < tk) = true := decide_eq_true hq
    clear hn hp hq hL hL2
    go_wp2
    go_ret
    exact ⟨rfl, hB2⟩
  have dC : decide (40 < tk) = false := decide_eq_false hq
  have HN : Hid (L.length ≤ 16) := (by omega : L.length ≤ 16)
  obtain ⟨K, rfl⟩ : ∃ K : Nat, tk = (K : Int) := ⟨tk.toNat, by omega⟩
  have HK : Hid (K ≤ 40) := (by omega : K ≤ 40)
  clear hn hp hq
  go_wp2_with fail
  go_loopw [8, 9] (fun i _ wr => ∃ (k : Nat) (T : Nat → Prop) (v : Value), i = .int .i64 (k : Int) ∧ k ≤ L.length ∧ (∀ r ∈ L.take k, r.length ≤ 1500) ∧ LP wr T W1.heap.size G v (k0 (L.take k)) ∧ W1.heap.size ≤ wr.heap.size ∧ Below w.heap.size w wr) (fun i _ _ => L.length - (intOf i).toNat)
  case atStart => exact ⟨0, TG G, .slice none 0 0, rfl, Nat.zero_le _, (fun r hr => by simp at hr), hL2, HBL.out.2, hB2⟩
  case round =>
    obtain ⟨k, T, v, rfl, hk, ha, hLP, hz, hBr⟩ := hrel
    by_cases hlt : k < L.length
    · obtain ⟨b, off, c, a, cc, e1, hbl, hat⟩ := hL.at hlt
      cases e1
      obtain ⟨hc, hs⟩ := hat wr hBr
      have ix := fun V => index_rowsK b off L.length cl k hlt V
      have i1 : (k : Int) < (L.length : Int) := by omega
      have hwk : IntKind.i64.wrap ((k : Int) + 1) = (k : Int) + 1 := by have := HN.out; rw [IntKind.wrap_i64]; omega
      by_cases hr : 1500 < (L.getD k []).length
      · have d5 : decide ((1500 : Int) < ((L.getD k []).length : Int)) = true := decide_eq_true (by omega)
        clear hr hat hs ha hLP
        generalize (L.getD k []).length = nk at *
        go_wp2
        go_ret
        exact ⟨rfl, hBr⟩
      · have d5 : decide ((1500 : Int) < ((L.getD k []).length : Int)) = false := decide_eq_false (by omega)
        have HSD := sendK_any wr T W1.heap.size G v (k0 (L.take k)) _ (L.getD k []) hLP hz hs (by omega)
        rw [k0_send _ _ (by omega) (by have := HN.out; rw [List.length_take]; omega), ← take_nextK hlt] at HSD
        have HSD : Hid (Calls Try.prog 18 #[.pointer (some ⟨G, 0, none⟩), .slice a (L.getD k []).length cc] wr fun e w' => ∃ v', e = .returned (.int .i64 0) ∧ LP w' (fun q => T q ∨ v'.ownBlock = some q) W1.heap.size G v' (k0 (L.take (k + 1))) ∧ (v'.ownBlock = v.ownBlock ∨ ∀ q, v'.ownBlock = some q → wr.heap.size ≤ q) ∧ Chg (LM G v) wr w') := HSD
        have HA2 : Hid (∀ r ∈ L.take (k + 1), r.length ≤ 1500) := fun r hr2 => by
          rw [take_nextK hlt] at hr2
          rcases List.mem_append.1 hr2 with h | h
          · exact ha r h
          · rw [List.mem_singleton.1 h]; omega
        have HSUB : Hid (∀ q, LM G v q → T q) := hLP.sub
        have HGE : Hid (∀ q, T q → W1.heap.size ≤ q) := hLP.ge
        clear hr hat hs ha hLP
        generalize (L.getD k []).length = nk at *
        go_wp2_with fail
        refine HSD.out.mono ?_
        rintro e W3 ⟨v3, rfl, hL3, hv3, hC3⟩
        have hB3 : Below w.heap.size w W3 := hBr.trans (hC3.below (fun q hq => Nat.le_trans HBL.out.1 (HGE.out q (HSUB.out q hq))) hBr.size)
        have hz3 : W1.heap.size ≤ W3.heap.size := Nat.le_trans hz hC3.size
        clear HSD hC3 hBr HSUB HGE hv3
        go_wp2
        go_roundw
        case rel => exact ⟨k + 1, _, v3, by go_num, hlt, HA2.out, hL3, hz3, hB3⟩
        case measure => simp [intOf]; omega
    · have i1 : ¬ (k : Int) < (L.length : Int) := by omega
      rw [List.take_of_length_le (by omega)] at hLP
      have HGE : Hid (∀ q, T q → W1.heap.size ≤ q) := hLP.ge
      have HSUB : Hid (∀ q, LM G v q → T q) := hLP.sub
      have HTK := tickK_any wr T W1.heap.size G v (k0 L) hLP
      rw [k0_tick] at HTK
      have HTK : Hid (Calls Try.prog 16 #[.pointer (some ⟨G, 0, none⟩)] wr fun e w' => ∃ pv, e = .returned pv ∧ LP w' T W1.heap.size G v (k0 L) ∧ PksO w' T wr.heap.size pv [⟨1, 5, 0, 0, 0, []⟩] ∧ Chg (fun q => q = G) wr w') := HTK
      clear ha hLP
      go_wp2_with fail
      refine HTK.out.mono ?_
      rintro e W4 ⟨pv4, rfl, hL4, hP4, hC4⟩
      have hB4 : Below w.heap.size w W4 := hBr.trans (hC4.below (fun q hq => Nat.le_trans HBL.out.1 (HGE.out q (HSUB.out q (.inl hq)))) hBr.size)
      have hz4 : W1.heap.size ≤ W4.heap.size := Nat.le_trans hz hC4.size
      obtain ⟨b, off, c, a, cc, e1, hbl, hcell, -⟩ := hP4.at (k := 0) rfl
      subst e1
      have j0 : W4.cell? ⟨b, off, none⟩ = some (.int .i64 1) := hcell 0 _ rfl
      have j1 : W4.cell? ⟨b, off + 1, none⟩ = some (.int .i64 5) := hcell 1 _ rfl
      have j2 : W4.cell? ⟨b, off + 2, none⟩ = some (.int .i64 0) := hcell 2 _ rfl
      have ix : ∀ w, (Instr.indexAt 40 (.slice (some ⟨b, off, none⟩) 1 c) (.int .i64 0)).run Try.prog w = .ok (.pointer (some ⟨b, off, none⟩)) w := fun w => index_pks b off 1 c 0 (by decide) w
      have HWT := takeK_any W4 T W1.heap.size G v (k0 L) welP none 0 hL4 hz4 (segA_nil _ _)
      rw [wel_take] at HWT
      have HWT : Hid (Calls Try.prog 20 #[.pointer (some ⟨G, 0, none⟩), .agg #[.int .i64 2, .int .i64 9, .int .i64 5, .int .i64 0, .int .i64 0, .slice none 0 0]] W4 fun e w' => ∃ v' rv pv, e = .returned (.tuple #[rv, pv]) ∧ LP w' T W1.heap.size G v' (kS L 0 0) ∧ v'.ownBlock = v.ownBlock ∧ RowsO w' T W4.heap.size rv [] ∧ PksO w' T W4.heap.size pv [] ∧ Chg (LM G v) W4 w') := HWT
      clear HTK hC4 hBr hcell hP4 hL4 hz hbl
      go_wp2_with fail
      refine HWT.out.mono ?_
      rintro e W5 ⟨v5, rv5, pv5, rfl, hL5, hv5, -, -, hC5⟩
      have hB5 : Below w.heap.size w W5 := hB4.trans (hC5.below (fun q hq => Nat.le_trans HBL.out.1 (HGE.out q (HSUB.out q hq))) hB4.size)
      have HSUB5 : Hid (∀ q, LM G v5 q → T q) := hL5.sub
      clear HWT hC5 hB4 j0 j1 j2 ix hz4 HSUB
      go_wp2_with fail
      have HT0 : Hid (topK (kS L 0 0) = min 4 L.length) := topK_kS L
      go_loopw [11, 12, 13] (fun i _ _ wr => ∃ (k se ti : Nat), i = .int .i64 (k : Int) ∧ k ≤ K ∧ (k = 0 → se = 0 ∧ ti = 0) ∧ (se = 0 ∧ ti = 0 ∨ se = topK (kS L 0 0)) ∧ ti ≤ 2 ∧ LP wr T W1.heap.size G v5 (kS L se ti) ∧ Below w.heap.size w wr) (fun i _ _ _ => K - (intOf i).toNat)
      case atStart => exact ⟨0, 0, 0, rfl, Nat.zero_le _, fun _ => ⟨rfl, rfl⟩, .inl ⟨rfl, rfl⟩, Nat.zero_le _, hL5, hB5⟩
      case round =>
        clear hL5 hB5
        obtain ⟨k, se, ti, rfl, hkK, hz0, hst, hti, hLP, hBr⟩ := hrel
        by_cases hlt : k < K
        · have i2 : (k : Int) < (K : Int) := by omega
          have hwk : IntKind.i64.wrap ((k : Int) + 1) = (k : Int) + 1 := by have := HK.out; rw [IntKind.wrap_i64]; omega
          obtain ⟨n, ti', hTK, hti', hn4, hnl, hzn⟩ := kS_tick L se ti hst hti
          have HTK := tickK_any wr T W1.heap.size G v5 (kS L se ti) hLP
          rw [hTK] at HTK
          have HTK : Hid (Calls Try.prog 16 #[.pointer (some ⟨G, 0, none⟩)] wr fun e w' => ∃ pv, e = .returned pv ∧ LP w' T W1.heap.size G v5 (kS L (topK (kS L 0 0)) ti') ∧ PksO w' T wr.heap.size pv (datasK (kS L 0 0) 0 n) ∧ Chg (fun q => q = G) wr w') := HTK
          have HZN : Hid (k = 0 → n = min 4 L.length) := fun h => (hzn (hz0 h)).trans HT0.out
          have HI : Hid (k + 1 ≤ K ∧ n ≤ 4 ∧ n ≤ L.length ∧ ti' ≤ 2) := ⟨hlt, hn4, hnl, hti'⟩
          clear hLP hTK hz0 hst hti hzn hkK hlt hn4 hnl hti'
          go_wp2_with fail
          refine HTK.out.mono ?_
          rintro e W6 ⟨pv6, rfl, hL6, hP6, hC6⟩
          have hB6 : Below w.heap.size w W6 := hBr.trans (hC6.below (fun q hq => Nat.le_trans HBL.out.1 (HGE.out q (HSUB5.out q (.inl hq)))) hBr.size)
          clear HTK hC6 hBr
          obtain ⟨ap, cp, e6⟩ := hP6.shape
          rw [datasK_len] at e6
          subst e6
          have d6 : decide ((4 : Int) < (n : Int)) = false := decide_eq_false (by have := HI.out; omega)
          have HR : Hid (∀ W, W = W6 → True) := fun _ _ => trivial
          by_cases hk0 : k = 0
          · have d7 : ((k : Int) == 0) = true := by rw [hk0]; rfl
            have d8 : ((n : Int) != min 4 (L.length : Int)) = false := by
              rw [HZN.out hk0]
              simp
              omega
            clear hk0 HZN HR
            go_wp2_with fail
            obtain ⟨wo, rfl⟩ : ∃ wo : World, wo = wr := ⟨_, rfl⟩
            go_loopw [13] (fun i wr => ∃ (m jj : Nat), i = .int .i64 (jj : Int) ∧ jj ≤ n ∧ wr = W6.drewN m) (fun i _ => n - (intOf i).toNat)
            case atStart => exact ⟨0, 0, rfl, Nat.zero_le _, rfl⟩
            case round =>
              obtain ⟨m, jj, rfl, hj, rfl⟩ := hrel
              by_cases hjl : jj < n
              · have i3 : (jj : Int) < (n : Int) := by omega
                have hwj : IntKind.i64.wrap ((jj : Int) + 1) = (jj : Int) + 1 := by have := HI.out; rw [IntKind.wrap_i64]; omega
                have hdk := datasK_at (kS L 0 0) 0 n jj hjl
                rw [Nat.zero_add, dataK_kS] at hdk
                obtain ⟨pb, po, pc, pa, pcc, e7, hpl, hcell, hseg⟩ := hP6.at hdk
                rw [datasK_len] at e7
                cases e7
                obtain ⟨b, off, c, a, cc, e8, hbl, hat⟩ := hL.at (I := jj) (by have := HI.out; omega)
                cases e8
                obtain ⟨hc, hs⟩ := hat W6 hB6
                have ix := fun V => index_rowsK b off L.length cl jj (by have := HI.out; omega) V
                have ix2 := fun V => index_pks pb po n cp jj hjl V
                have j0 : W6.cell? ⟨pb, po + jj * 6, none⟩ = some (.int .i64 3) := hcell 0 _ rfl
                have j3 : W6.cell? ⟨pb, po + jj * 6 + 3, none⟩ = some (.int .i64 ((jj : Int) + 1)) := by rw [Nat.add_assoc]; exact hcell 3 _ rfl
                have j2 : W6.cell? ⟨pb, po + jj * 6 + 2, none⟩ = some (.int .i64 9) := by rw [Nat.add_assoc]; exact hcell 2 _ rfl
                have j4 : W6.cell? ⟨pb, po + jj * 6 + 4, none⟩ = some (.int .i64 0) := by rw [Nat.add_assoc]; exact hcell 4 _ rfl
                have j5 : W6.cell? ⟨pb, po + jj * 6 + 5, none⟩ = some (.slice pa (L.getD jj []).length pcc) := by rw [Nat.add_assoc]; exact hcell 5 _ rfl
                have k5 := fun q => seg_stringD (show Seg (W6.drewN q) _ _ from hseg.1) 9 Try.underlying9
                have k6 := fun q => seg_stringD (show Seg (W6.drewN q) _ _ from hs) 9 Try.underlying9
                have HJ : Hid (jj < n) := hjl
                clear hcell hseg hat hs hdk hj hjl
                dsimp only at k5
                generalize (L.getD jj []).length = LN at *
                generalize (⟨(L.getD jj []).toArray⟩ : ByteArray) = BX at k5 k6
                go_wp2_with fail
                go_quiet (fail)
                go_wp2
                go_roundw
                case rel => exact ⟨_, jj + 1, by go_num, HJ.out, rfl⟩
                case measure => have := HJ.out; simp [intOf]; omega
              · have i3 : ¬ (jj : Int) < (n : Int) := by omega
                clear hj hjl
                go_wp2
                go_roundw
                case rel => exact ⟨k + 1, _, ti', by go_num, HI.out.1, fun h => absurd h (Nat.succ_ne_zero k), .inr rfl, HI.out.2.2.2, hL6.after (Below.drewN (Below.refl _ _) _), Below.drewN hB6 _⟩
                case measure => have := HI.out; simp [intOf]; omega
          · have d7 : ((k : Int) == 0) = false := beq_eq_false_iff_ne.2 (by omega)
            clear hk0 HZN HR
            go_wp2_with fail
            obtain ⟨wo, rfl⟩ : ∃ wo : World, wo = wr := ⟨_, rfl⟩
            go_loopw [13] (fun i wr => ∃ (m jj : Nat), i = .int .i64 (jj : Int) ∧ jj ≤ n ∧ wr = W6.drewN m) (fun i _ => n - (intOf i).toNat)
            case atStart => exact ⟨0, 0, rfl, Nat.zero_le _, rfl⟩
            case round =>
              obtain ⟨m, jj, rfl, hj, rfl⟩ := hrel
              by_cases hjl : jj < n
              · have i3 : (jj : Int) < (n : Int) := by omega
                have hwj : IntKind.i64.wrap ((jj : Int) + 1) = (jj : Int) + 1 := by have := HI.out; rw [IntKind.wrap_i64]; omega
                have hdk := datasK_at (kS L 0 0) 0 n jj hjl
                rw [Nat.zero_add, dataK_kS] at hdk
                obtain ⟨pb, po, pc, pa, pcc, e7, hpl, hcell, hseg⟩ := hP6.at hdk
                rw [datasK_len] at e7
                cases e7
                obtain ⟨b, off, c, a, cc, e8, hbl, hat⟩ := hL.at (I := jj) (by have := HI.out; omega)
                cases e8
                obtain ⟨hc, hs⟩ := hat W6 hB6
                have ix := fun V => index_rowsK b off L.length cl jj (by have := HI.out; omega) V
                have ix2 := fun V => index_pks pb po n cp jj hjl V
                have j0 : W6.cell? ⟨pb, po + jj * 6, none⟩ = some (.int .i64 3) := hcell 0 _ rfl
                have j3 : W6.cell? ⟨pb, po + jj * 6 + 3, none⟩ = some (.int .i64 ((jj : Int) + 1)) := by rw [Nat.add_assoc]; exact hcell 3 _ rfl
                have j2 : W6.cell? ⟨pb, po + jj * 6 + 2, none⟩ = some (.int .i64 9) := by rw [Nat.add_assoc]; exact hcell 2 _ rfl
                have j4 : W6.cell? ⟨pb, po + jj * 6 + 4, none⟩ = some (.int .i64 0) := by rw [Nat.add_assoc]; exact hcell 4 _ rfl
                have j5 : W6.cell? ⟨pb, po + jj * 6 + 5, none⟩ = some (.slice pa (L.getD jj []).length pcc) := by rw [Nat.add_assoc]; exact hcell 5 _ rfl
                have k5 := fun q => seg_stringD (show Seg (W6.drewN q) _ _ from hseg.1) 9 Try.underlying9
                have k6 := fun q => seg_stringD (show Seg (W6.drewN q) _ _ from hs) 9 Try.underlying9
                have HJ : Hid (jj < n) := hjl
                clear hcell hseg hat hs hdk hj hjl
                dsimp only at k5
                generalize (L.getD jj []).length = LN at *
                generalize (⟨(L.getD jj []).toArray⟩ : ByteArray) = BX at k5 k6
                go_wp2_with fail
                go_quiet (fail)
                go_wp2
                go_roundw
                case rel => exact ⟨_, jj + 1, by go_num, HJ.out, rfl⟩
                case measure => have := HJ.out; simp [intOf]; omega
              · have i3 : ¬ (jj : Int) < (n : Int) := by omega
                clear hj hjl
                go_wp2
                go_roundw
                case rel => exact ⟨k + 1, _, ti', by go_num, HI.out.1, fun h => absurd h (Nat.succ_ne_zero k), .inr rfl, HI.out.2.2.2, hL6.after (Below.drewN (Below.refl _ _) _), Below.drewN hB6 _⟩
                case measure => have := HI.out; simp [intOf]; omega
        · have i2 : ¬ (k : Int) < (K : Int) := by omega
          obtain ⟨a7, c7, rfl⟩ := hLP.row.shape
          have HWA : Hid (Calls Try.prog 23 #[.pointer (some ⟨G, 0, none⟩)] wr fun r w' => r = .returned (.int .i64 (L.length : Int)) ∧ w' = wr) := waitK_any G L.length c7 _ a7 wr hLP.head
          clear hLP hz0 hst hti hkK hlt
          go_wp2_with fail
          refine HWA.out.mono ?_
          rintro e W8 ⟨rfl, rfl⟩
          go_wp2
          go_ret
          exact ⟨rfl, hBr⟩
end Go.Proofs.Ytlobbdnogamdjaa
