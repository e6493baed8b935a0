/-
  What is proved here: the statement LinkStill is true of any bodies and any packet.
  Conditions: they lie in memory.
-/
import Derived.Test.YtbmclilpokmckaaLinkFirst
namespace Go.Proofs.Ytbmclilpokmckaa
open Go.RowKit

set_option maxRecDepth 100000 in
set_option maxHeartbeats 8000000 in
theorem linkStill_any (al : Option Addr) (cl : Nat) (L : List (List UInt8)) (p : KP) (ax : Option Addr) (cx : Nat) (w : World) (hL : RowsV w (.slice al L.length cl) L) (hS : Seg w (.slice ax p.b.length cx) p.b) : Calls Try.prog 8 #[.slice al L.length cl, kpV p (.slice ax p.b.length cx)] w fun e w' => e = .returned (.bool true) ∧ Below w.heap.size w w' := by
  have hbA := below_new w (.cells #[.int .i64 p.k, .int .i64 p.f, .int .i64 p.t, .int .i64 p.s, .int .i64 p.a, .slice ax p.b.length cx] 24)
  have kB := Blk.new w 24 #[.int .i64 p.k, .int .i64 p.f, .int .i64 p.t, .int .i64 p.s, .int .i64 p.a, .slice ax p.b.length cx]
  obtain ⟨B, hB⟩ : ∃ B, B = w.heap.size := ⟨_, rfl⟩
  rw [← hB] at kB
  have HRT : Hid (∀ V, Calls Try.prog 12 #[.agg #[.int .i64 p.k, .int .i64 p.f, .int .i64 p.t, .int .i64 p.s, .int .i64 p.a, .slice ax p.b.length cx]] V fun e w' => e = .returned (.bool (rightK p)) ∧ Below V.heap.size V w') := fun V => rightK_any p ax cx V
  have HBW : Hid (B = w.heap.size) := hB
  unfold kpV kpL
  go_enter Try.func8, Try.ntmps8
  go_wp2_with fail
  rw [← hB]
  generalize w.alloc (.cells #[.int .i64 p.k, .int .i64 p.f, .int .i64 p.t, .int .i64 p.s, .int .i64 p.a, .slice ax p.b.length cx] 24) = WA at *
  clear hB
  refine (awake13_any WA).mono ?_
  rintro e W1 ⟨rfl, hb1⟩
  have kB1 := kB.below hb1 kB.lt
  have hB1 := hbA.trans (hb1.mono hbA.size)
  clear kB hb1 hbA
  go_wp2_with fail
  refine (newK_any 5 W1 (by decide) (by decide)).mono ?_
  rintro e W2 ⟨G, rfl, hG, hk2, hb2⟩
  have hB2 := hB1.trans (hb2.mono hB1.size)
  have kB2 := kB1.below hb2 kB1.lt
  have hL2 : LP W2 (TG G) W1.heap.size G (.slice none 0 0) (newK 5) := new_lp (by decide) (by decide) hG hk2
  have HBL : Hid (B < W1.heap.size ∧ w.heap.size ≤ W1.heap.size ∧ W1.heap.size ≤ W2.heap.size) := ⟨kB1.lt, hB1.size, hb2.size⟩
  have b5 : W2.cell? ⟨B, 5, none⟩ = some (.slice ax p.b.length cx) := kB2.cell (j := 5) rfl
  clear kB1 hB1 hb2 hk2
  by_cases hn : 16 < L.length
  · have dN : decide ((16 : Int) < (L.length : Int)) = true := decide_eq_true (by omega)
    clear hn hL hS hL2 kB2
    go_wp2
    go_ret
    exact ⟨rfl, hB2⟩
  have dN : decide ((16 : Int) < (L.length : Int)) = false := decide_eq_false (by omega)
  by_cases hp : 3000 < p.b.length
  · have dB : decide ((3000 : Int) < (p.b.length : Int)) = true := decide_eq_true (by omega)
    clear hn hp hL hS hL2 kB2
    go_wp2
    go_ret
    exact ⟨rfl, hB2⟩
  have dB : decide ((3000 : Int) < (p.b.length : Int)) = false := decide_eq_false (by omega)
  have HN : Hid (L.length ≤ 16) := (by omega : L.length ≤ 16)
  have HBB : Hid (B < W2.heap.size) := kB2.lt
  clear hn hp
  go_wp2_with fail
  go_loopw [8] (fun i wr => ∃ (k : Nat) (T : Nat → Prop) (v : Value), i = .int .i64 (k : Int) ∧ k ≤ L.length ∧ (∀ r ∈ L.take k, r.length ≤ 1500) ∧ LP wr T W1.heap.size G v (k0 (L.take k)) ∧ W1.heap.size ≤ wr.heap.size ∧ Blk wr B 24 #[.int .i64 p.k, .int .i64 p.f, .int .i64 p.t, .int .i64 p.s, .int .i64 p.a, .slice ax p.b.length cx] ∧ Below w.heap.size w wr) (fun i _ => L.length - (intOf i).toNat)
  case atStart => exact ⟨0, TG G, .slice none 0 0, rfl, Nat.zero_le _, (fun r hr => by simp at hr), hL2, HBL.out.2.2, kB2, hB2⟩
  case round =>
    obtain ⟨k, T, v, rfl, hk, ha, hLP, hz, kBr, hBr⟩ := hrel
    by_cases hlt : k < L.length
    · obtain ⟨b, off, c, a, cc, e1, hbl, hat⟩ := hL.at hlt
      cases e1
      obtain ⟨hc, hs⟩ := hat wr hBr
      have ix := fun V => index_rowsK b off L.length cl k hlt V
      have i1 : (k : Int) < (L.length : Int) := by omega
      have hwk : IntKind.i64.wrap ((k : Int) + 1) = (k : Int) + 1 := by have := HN.out; rw [IntKind.wrap_i64]; omega
      by_cases hr : 1500 < (L.getD k []).length
      · have d5 : decide ((1500 : Int) < ((L.getD k []).length : Int)) = true := decide_eq_true (by omega)
        clear hr hat hs ha hLP kBr
        generalize (L.getD k []).length = nk at *
        go_wp2
        go_ret
        exact ⟨rfl, hBr⟩
      · have d5 : decide ((1500 : Int) < ((L.getD k []).length : Int)) = false := decide_eq_false (by omega)
        have HSD := sendK_any wr T W1.heap.size G v (k0 (L.take k)) _ (L.getD k []) hLP hz hs (by omega)
        rw [k0_send _ _ (by omega) (by have := HN.out; rw [List.length_take]; omega), ← take_nextK hlt] at HSD
        have HSD : Hid (Calls Try.prog 18 #[.pointer (some ⟨G, 0, none⟩), .slice a (L.getD k []).length cc] wr fun e w' => ∃ v', e = .returned (.int .i64 0) ∧ LP w' (fun q => T q ∨ v'.ownBlock = some q) W1.heap.size G v' (k0 (L.take (k + 1))) ∧ (v'.ownBlock = v.ownBlock ∨ ∀ q, v'.ownBlock = some q → wr.heap.size ≤ q) ∧ Chg (LM G v) wr w') := HSD
        have HA2 : Hid (∀ r ∈ L.take (k + 1), r.length ≤ 1500) := fun r hr2 => by
          rw [take_nextK hlt] at hr2
          rcases List.mem_append.1 hr2 with h | h
          · exact ha r h
          · rw [List.mem_singleton.1 h]; omega
        have HSUB : Hid (∀ q, LM G v q → T q) := hLP.sub
        have HGE : Hid (∀ q, T q → W1.heap.size ≤ q) := hLP.ge
        clear hr hat hs ha hLP
        generalize (L.getD k []).length = nk at *
        go_wp2_with fail
        refine HSD.out.mono ?_
        rintro e W3 ⟨v3, rfl, hL3, hv3, hC3⟩
        have hB3 : Below w.heap.size w W3 := hBr.trans (hC3.below (fun q hq => Nat.le_trans HBL.out.2.1 (HGE.out q (HSUB.out q hq))) hBr.size)
        have kB3 := kBr.chg hC3 (fun e => by have := HGE.out B (HSUB.out B e); have := HBL.out.1; omega)
        have hz3 : W1.heap.size ≤ W3.heap.size := Nat.le_trans hz hC3.size
        clear HSD hC3 kBr hBr HSUB HGE hv3
        go_wp2
        go_roundw
        case rel => exact ⟨k + 1, _, v3, by go_num, hlt, HA2.out, hL3, hz3, kB3, hB3⟩
        case measure => simp [intOf]; omega
    · have i1 : ¬ (k : Int) < (L.length : Int) := by omega
      rw [List.take_of_length_le (by omega)] at hLP
      have HST : Hid (¬ (rightK p = true ∧ 9 ≤ p.f ∧ (p.k ≠ 3 ∨ p.t = 5 ∧ p.f = 9)) → (takeK (kS L (topK (kS L 0 0)) 0) p).1 = [] ∧ (takeK (kS L (topK (kS L 0 0)) 0) p).2.2 = kS L (topK (kS L 0 0)) 0 ∧ ((takeK (kS L (topK (kS L 0 0)) 0) p).2.1 = [] ∨ (takeK (kS L (topK (kS L 0 0)) 0) p).2.1 = [⟨1, 5, 9, 0, 0, []⟩])) := still_take L _ p
      have HGE : Hid (∀ q, T q → W1.heap.size ≤ q) := hLP.ge
      have HSUB : Hid (∀ q, LM G v q → T q) := hLP.sub
      have HWT := takeK_any wr T W1.heap.size G v (k0 L) welP none 0 hLP hz (segA_nil _ _)
      rw [wel_take] at HWT
      have HWT : Hid (Calls Try.prog 20 #[.pointer (some ⟨G, 0, none⟩), .agg #[.int .i64 2, .int .i64 9, .int .i64 5, .int .i64 0, .int .i64 0, .slice none 0 0]] wr fun e w' => ∃ v' rv pv, e = .returned (.tuple #[rv, pv]) ∧ LP w' T W1.heap.size G v' (kS L 0 0) ∧ v'.ownBlock = v.ownBlock ∧ RowsO w' T wr.heap.size rv [] ∧ PksO w' T wr.heap.size pv [] ∧ Chg (LM G v) wr w') := HWT
      clear ha hLP
      go_wp2_with fail
      refine HWT.out.mono ?_
      rintro e W4 ⟨v4, rv4, pv4, rfl, hL4, hv4, -, -, hC4⟩
      have hB4 : Below w.heap.size w W4 := hBr.trans (hC4.below (fun q hq => Nat.le_trans HBL.out.2.1 (HGE.out q (HSUB.out q hq))) hBr.size)
      have kB4 := kBr.chg hC4 (fun e => by have := HGE.out B (HSUB.out B e); have := HBL.out.1; omega)
      have hz4 : W1.heap.size ≤ W4.heap.size := Nat.le_trans hz hC4.size
      have HTK := tickK_any W4 T W1.heap.size G v4 (kS L 0 0) hL4
      rw [kS_tick0] at HTK
      have HSUB4 : Hid (∀ q, LM G v4 q → T q) := hL4.sub
      have HTK : Hid (Calls Try.prog 16 #[.pointer (some ⟨G, 0, none⟩)] W4 fun e w' => ∃ pv, e = .returned pv ∧ LP w' T W1.heap.size G v4 (kS L (topK (kS L 0 0)) 0) ∧ PksO w' T W4.heap.size pv (datasK (kS L 0 0) 0 (topK (kS L 0 0))) ∧ Chg (fun q => q = G) W4 w') := HTK
      clear HWT hC4 kBr hBr HSUB hL4 hz
      generalize HTP : topK (kS L 0 0) = tp at *
      go_wp2_with fail
      refine HTK.out.mono ?_
      rintro e W5 ⟨pv5, rfl, hL5, -, hC5⟩
      have hB5 : Below w.heap.size w W5 := hB4.trans (hC5.below (fun q hq => Nat.le_trans HBL.out.2.1 (HGE.out q (HSUB4.out q (.inl hq)))) hB4.size)
      have kB5 := kB4.chg hC5 (fun e => by have := HGE.out B (HSUB4.out B (.inl e)); have := HBL.out.1; omega)
      have hz5 : W1.heap.size ≤ W5.heap.size := Nat.le_trans hz4 hC5.size
      clear HTK hC5 kB4 hB4 HSUB4 hz4
      go_wp2_with (refine wpList_load_row rfl 24 _ rfl B rfl 24 _ (0, 0) _ kB5 Try.underlying24 rfl info_packet ?_)
      refine (HRT.out W5).mono ?_
      rintro e W6 ⟨rfl, hb6⟩
      have hB6 := hB5.trans (hb6.mono hB5.size)
      have kB6 := kB5.below hb6 kB5.lt
      have hL6 := hL5.after hb6
      have hz6 := Nat.le_trans hz5 hb6.size
      have k0 : W6.cell? ⟨B, 0, none⟩ = some (.int .i64 p.k) := kB6.cell (j := 0) rfl
      have k1 : W6.cell? ⟨B, 1, none⟩ = some (.int .i64 p.f) := kB6.cell (j := 1) rfl
      have k2 : W6.cell? ⟨B, 2, none⟩ = some (.int .i64 p.t) := kB6.cell (j := 2) rfl
      have k3 : W6.cell? ⟨B, 3, none⟩ = some (.int .i64 p.s) := kB6.cell (j := 3) rfl
      have k4 : W6.cell? ⟨B, 4, none⟩ = some (.int .i64 p.a) := kB6.cell (j := 4) rfl
      have k5 : W6.cell? ⟨B, 5, none⟩ = some (.slice ax p.b.length cx) := kB6.cell (j := 5) rfl
      clear kB6
      have HSA : Hid (∀ V, Below w.heap.size w V → SegA V T (.slice ax p.b.length cx) p.b) := fun V hV => ⟨hS.below hV (Nat.le_refl _), fun h0 q hq e => by have h1 := hS.in_heap h0 q hq; have h2 := HGE.out q e; have h3 := HBL.out.2.1; omega⟩
      clear hb6 hL5 kB5 hB5 hz5 HRT
      by_cases hcond : rightK p = true ∧ 9 ≤ p.f ∧ (p.k ≠ 3 ∨ p.t = 5 ∧ p.f = 9)
      · have c1 : rightK p = true := hcond.1
        have c2 : decide (9 ≤ p.f) = true := decide_eq_true hcond.2.1
        rw [c1]
        by_cases hk3 : p.k = 3
        · have c3 : (p.k != 3) = false := by rw [hk3]; rfl
          have c4 : (p.t == 5) = true := by
            rcases hcond.2.2 with e | e
            · exact absurd hk3 e
            · exact beq_iff_eq.2 e.1
          have c5 : (p.f == 9) = true := by
            rcases hcond.2.2 with e | e
            · exact absurd hk3 e
            · exact beq_iff_eq.2 e.2
          clear hcond hk3 c1 HST
          go_wp2
          go_ret
          exact ⟨rfl, hB6⟩
        · have c3 : (p.k != 3) = true := bne_iff_ne.2 hk3
          clear hcond hk3 c1 HST
          go_wp2
          go_ret
          exact ⟨rfl, hB6⟩
      · obtain ⟨s1, s2, s3⟩ := HST.out hcond
        have HTA := takeK_any W6 T W1.heap.size G v4 (kS L tp 0) p ax cx hL6 hz6 (HSA.out W6 hB6)
        rw [s1, s2] at HTA
        generalize (takeK (kS L tp 0) p).2.1 = PK at *
        have HTA : Hid (Calls Try.prog 20 #[.pointer (some ⟨G, 0, none⟩), .agg #[.int .i64 p.k, .int .i64 p.f, .int .i64 p.t, .int .i64 p.s, .int .i64 p.a, .slice ax p.b.length cx]] W6 fun e w' => ∃ v' rv pv, e = .returned (.tuple #[rv, pv]) ∧ LP w' T W1.heap.size G v' (kS L tp 0) ∧ v'.ownBlock = v4.ownBlock ∧ RowsO w' T W6.heap.size rv [] ∧ PksO w' T W6.heap.size pv PK ∧ Chg (LM G v4) W6 w') := HTA
        have HSUB6 : Hid (∀ q, LM G v4 q → T q) := hL6.sub
        clear HST HSA hL6 s1 s2
        generalize rightK p = RB at *
        cases RB with
        | false =>
          clear hcond
          go_wp2_with fail
          refine HTA.out.mono ?_
          rintro e W7 ⟨v7, rv7, pv7, rfl, hL7, -, hr7, hp7, hC7⟩
          have hB7 : Below w.heap.size w W7 := hB6.trans (hC7.below (fun q hq => Nat.le_trans HBL.out.2.1 (HGE.out q (HSUB6.out q hq))) hB6.size)
          obtain ⟨ar, cr, rfl⟩ := hr7.shape
          obtain ⟨a7, c7, rfl⟩ := hL7.row.shape
          have HWA : Hid (Calls Try.prog 23 #[.pointer (some ⟨G, 0, none⟩)] W7 fun r w' => r = .returned (.int .i64 (L.length : Int)) ∧ w' = W7) := waitK_any G L.length c7 _ a7 W7 hL7.head
          have HPE : Hid (Calls Try.prog 24 #[.pointer (some ⟨G, 0, none⟩)] W7 fun r w' => r = .returned (.int .i64 9) ∧ w' = W7) := peerK_any G _ _ W7 hL7.head
          clear HTA hC7 hB6 hL7 hr7 HSUB6
          rcases s3 with e3 | e3
          · rw [e3] at hp7
            obtain ⟨ap, cp, rfl⟩ := hp7.shape
            clear hp7
            go_wp2_with fail
            refine HWA.out.mono ?_
            rintro e W8 ⟨rfl, rfl⟩
            go_wp2_with fail
            refine HPE.out.mono ?_
            rintro e W9 ⟨rfl, rfl⟩
            go_wp2
            go_ret
            exact ⟨rfl, hB7⟩
          · rw [e3] at hp7
            obtain ⟨b, off, c, a, cc, e1, hbl, hcell, -⟩ := hp7.at (k := 0) rfl
            subst e1
            have j0 : W7.cell? ⟨b, off, none⟩ = some (.int .i64 1) := hcell 0 _ rfl
            have j2 : W7.cell? ⟨b, off + 2, none⟩ = some (.int .i64 9) := hcell 2 _ rfl
            have ix : ∀ w, (Instr.indexAt 40 (.slice (some ⟨b, off, none⟩) 1 c) (.int .i64 0)).run Try.prog w = .ok (.pointer (some ⟨b, off, none⟩)) w := fun w => index_pks b off 1 c 0 (by decide) w
            clear hp7 hcell
            go_wp2_with fail
            refine HWA.out.mono ?_
            rintro e W8 ⟨rfl, rfl⟩
            go_wp2_with fail
            refine HPE.out.mono ?_
            rintro e W9 ⟨rfl, rfl⟩
            go_wp2
            go_ret
            exact ⟨rfl, hB7⟩
        | true =>
          by_cases hf : 9 ≤ p.f
          rotate_left
          · have c2 : decide (9 ≤ p.f) = false := decide_eq_false hf
            clear hcond hf
            go_wp2_with fail
            refine HTA.out.mono ?_
            rintro e W7 ⟨v7, rv7, pv7, rfl, hL7, -, hr7, hp7, hC7⟩
            have hB7 : Below w.heap.size w W7 := hB6.trans (hC7.below (fun q hq => Nat.le_trans HBL.out.2.1 (HGE.out q (HSUB6.out q hq))) hB6.size)
            obtain ⟨ar, cr, rfl⟩ := hr7.shape
            obtain ⟨a7, c7, rfl⟩ := hL7.row.shape
            have HWA : Hid (Calls Try.prog 23 #[.pointer (some ⟨G, 0, none⟩)] W7 fun r w' => r = .returned (.int .i64 (L.length : Int)) ∧ w' = W7) := waitK_any G L.length c7 _ a7 W7 hL7.head
            have HPE : Hid (Calls Try.prog 24 #[.pointer (some ⟨G, 0, none⟩)] W7 fun r w' => r = .returned (.int .i64 9) ∧ w' = W7) := peerK_any G _ _ W7 hL7.head
            clear HTA hC7 hB6 hL7 hr7 HSUB6
            rcases s3 with e3 | e3
            · rw [e3] at hp7
              obtain ⟨ap, cp, rfl⟩ := hp7.shape
              clear hp7
              go_wp2_with fail
              refine HWA.out.mono ?_
              rintro e W8 ⟨rfl, rfl⟩
              go_wp2_with fail
              refine HPE.out.mono ?_
              rintro e W9 ⟨rfl, rfl⟩
              go_wp2
              go_ret
              exact ⟨rfl, hB7⟩
            · rw [e3] at hp7
              obtain ⟨b, off, c, a, cc, e1, hbl, hcell, -⟩ := hp7.at (k := 0) rfl
              subst e1
              have j0 : W7.cell? ⟨b, off, none⟩ = some (.int .i64 1) := hcell 0 _ rfl
              have j2 : W7.cell? ⟨b, off + 2, none⟩ = some (.int .i64 9) := hcell 2 _ rfl
              have ix : ∀ w, (Instr.indexAt 40 (.slice (some ⟨b, off, none⟩) 1 c) (.int .i64 0)).run Try.prog w = .ok (.pointer (some ⟨b, off, none⟩)) w := fun w => index_pks b off 1 c 0 (by decide) w
              clear hp7 hcell
              go_wp2_with fail
              refine HWA.out.mono ?_
              rintro e W8 ⟨rfl, rfl⟩
              go_wp2_with fail
              refine HPE.out.mono ?_
              rintro e W9 ⟨rfl, rfl⟩
              go_wp2
              go_ret
              exact ⟨rfl, hB7⟩
          have c2 : decide (9 ≤ p.f) = true := decide_eq_true hf
          have hk3 : p.k = 3 := Classical.byContradiction fun e => hcond ⟨rfl, hf, .inl e⟩
          have c3 : (p.k != 3) = false := by rw [hk3]; rfl
          by_cases ht : p.t = 5
          · have c4 : (p.t == 5) = true := beq_iff_eq.2 ht
            have c5 : (p.f == 9) = false := beq_eq_false_iff_ne.2 fun e => hcond ⟨rfl, hf, .inr ⟨ht, e⟩⟩
            clear hcond hf hk3 ht
            go_wp2_with fail
            refine HTA.out.mono ?_
            rintro e W7 ⟨v7, rv7, pv7, rfl, hL7, -, hr7, hp7, hC7⟩
            have hB7 : Below w.heap.size w W7 := hB6.trans (hC7.below (fun q hq => Nat.le_trans HBL.out.2.1 (HGE.out q (HSUB6.out q hq))) hB6.size)
            obtain ⟨ar, cr, rfl⟩ := hr7.shape
            obtain ⟨a7, c7, rfl⟩ := hL7.row.shape
            have HWA : Hid (Calls Try.prog 23 #[.pointer (some ⟨G, 0, none⟩)] W7 fun r w' => r = .returned (.int .i64 (L.length : Int)) ∧ w' = W7) := waitK_any G L.length c7 _ a7 W7 hL7.head
            have HPE : Hid (Calls Try.prog 24 #[.pointer (some ⟨G, 0, none⟩)] W7 fun r w' => r = .returned (.int .i64 9) ∧ w' = W7) := peerK_any G _ _ W7 hL7.head
            clear HTA hC7 hB6 hL7 hr7 HSUB6
            rcases s3 with e3 | e3
            · rw [e3] at hp7
              obtain ⟨ap, cp, rfl⟩ := hp7.shape
              clear hp7
              go_wp2_with fail
              refine HWA.out.mono ?_
              rintro e W8 ⟨rfl, rfl⟩
              go_wp2_with fail
              refine HPE.out.mono ?_
              rintro e W9 ⟨rfl, rfl⟩
              go_wp2
              go_ret
              exact ⟨rfl, hB7⟩
            · rw [e3] at hp7
              obtain ⟨b, off, c, a, cc, e1, hbl, hcell, -⟩ := hp7.at (k := 0) rfl
              subst e1
              have j0 : W7.cell? ⟨b, off, none⟩ = some (.int .i64 1) := hcell 0 _ rfl
              have j2 : W7.cell? ⟨b, off + 2, none⟩ = some (.int .i64 9) := hcell 2 _ rfl
              have ix : ∀ w, (Instr.indexAt 40 (.slice (some ⟨b, off, none⟩) 1 c) (.int .i64 0)).run Try.prog w = .ok (.pointer (some ⟨b, off, none⟩)) w := fun w => index_pks b off 1 c 0 (by decide) w
              clear hp7 hcell
              go_wp2_with fail
              refine HWA.out.mono ?_
              rintro e W8 ⟨rfl, rfl⟩
              go_wp2_with fail
              refine HPE.out.mono ?_
              rintro e W9 ⟨rfl, rfl⟩
              go_wp2
              go_ret
              exact ⟨rfl, hB7⟩
          · have c4 : (p.t == 5) = false := beq_eq_false_iff_ne.2 ht
            clear hcond hf hk3 ht
            go_wp2_with fail
            refine HTA.out.mono ?_
            rintro e W7 ⟨v7, rv7, pv7, rfl, hL7, -, hr7, hp7, hC7⟩
            have hB7 : Below w.heap.size w W7 := hB6.trans (hC7.below (fun q hq => Nat.le_trans HBL.out.2.1 (HGE.out q (HSUB6.out q hq))) hB6.size)
            obtain ⟨ar, cr, rfl⟩ := hr7.shape
            obtain ⟨a7, c7, rfl⟩ := hL7.row.shape
            have HWA : Hid (Calls Try.prog 23 #[.pointer (some ⟨G, 0, none⟩)] W7 fun r w' => r = .returned (.int .i64 (L.length : Int)) ∧ w' = W7) := waitK_any G L.length c7 _ a7 W7 hL7.head
            have HPE : Hid (Calls Try.prog 24 #[.pointer (some ⟨G, 0, none⟩)] W7 fun r w' => r = .returned (.int .i64 9) ∧ w' = W7) := peerK_any G _ _ W7 hL7.head
            clear HTA hC7 hB6 hL7 hr7 HSUB6
            rcases s3 with e3 | e3
            · rw [e3] at hp7
              obtain ⟨ap, cp, rfl⟩ := hp7.shape
              clear hp7
              go_wp2_with fail
              refine HWA.out.mono ?_
              rintro e W8 ⟨rfl, rfl⟩
              go_wp2_with fail
              refine HPE.out.mono ?_
              rintro e W9 ⟨rfl, rfl⟩
              go_wp2
              go_ret
              exact ⟨rfl, hB7⟩
            · rw [e3] at hp7
              obtain ⟨b, off, c, a, cc, e1, hbl, hcell, -⟩ := hp7.at (k := 0) rfl
              subst e1
              have j0 : W7.cell? ⟨b, off, none⟩ = some (.int .i64 1) := hcell 0 _ rfl
              have j2 : W7.cell? ⟨b, off + 2, none⟩ = some (.int .i64 9) := hcell 2 _ rfl
              have ix : ∀ w, (Instr.indexAt 40 (.slice (some ⟨b, off, none⟩) 1 c) (.int .i64 0)).run Try.prog w = .ok (.pointer (some ⟨b, off, none⟩)) w := fun w => index_pks b off 1 c 0 (by decide) w
              clear hp7 hcell
              go_wp2_with fail
              refine HWA.out.mono ?_
              rintro e W8 ⟨rfl, rfl⟩
              go_wp2_with fail
              refine HPE.out.mono ?_
              rintro e W9 ⟨rfl, rfl⟩
              go_wp2
              go_ret
              exact ⟨rfl, hB7⟩
end Go.Proofs.Ytbmclilpokmckaa
